import PyProof.Rows.All
import Wide.All
import OpenK.AllK
import Wide.FinOn
import HandS.ForMost
import HandS.IsInst
import HandS.Conv
import HandS.TupAny
import HandS.Evl
import HandS.SetKeys
import HandS.Rev
import HandS.ForDict
import HandS.New
import HandS.Dict
import HandS.DictComp
import HandS.Lambda
import HandS.Nested
import HandS.EndTab
import HandS.Zip
import HandS.More
import PyProof.EqAt
import PyProof.EqKinds
import HandS.Style
import HandS.Words
import KE.KDictPairs
import KE.GoesMore
import HandS.Star
import KE.SortData
import KE.DataCmp
import PySem.Challenge.RW_exactkinds_k12_order_of_values
set_option Elab.async false
set_option linter.all false
set_option maxRecDepth 100000
namespace Kx
open PySem PySem.Spec PyProof.Rows L2
def top (i : Nat) : Stmt := PySem.Challenge.pw_exactkinds_k12_order_of_values.main.body.getD i (.Pass ⟨0, 0, 0, 0⟩)
abbrev s_Kept_init : Stmt := inClass (top 2) 0
abbrev s_Kept_pair_of : Stmt := inClass (top 2) 1
abbrev s_Kept_keep : Stmt := inClass (top 2) 2
abbrev s_folded : Stmt := top 3
abbrev s_folded_ : Stmt := top 4
abbrev s_size : Stmt := top 6
abbrev s_order : Stmt := top 7
abbrev s_part_rows : Stmt := top 8
abbrev s_put : Stmt := top 9
abbrev s_fitted : Stmt := top 10
abbrev s_fits : Stmt := top 11
abbrev s_counts : Stmt := top 13
abbrev s_index_of : Stmt := top 14
abbrev s_made_kind : Stmt := top 15
abbrev s_trees_for : Stmt := top 16
abbrev s_before : Stmt := top 17
abbrev s_values_of : Stmt := top 18
abbrev s_values_of_size : Stmt := top 19
abbrev s_law_state : Stmt := top 21
abbrev s_law_draw : Stmt := top 22
abbrev s_law_pick : Stmt := top 23
abbrev s_law_shape : Stmt := top 24
abbrev s_law_table : Stmt := top 25
abbrev s_law_constructors : Stmt := top 26
abbrev s_law_fit : Stmt := top 27
abbrev s_law_put : Stmt := top 28
abbrev s_law_index : Stmt := top 29
abbrev s_law_size : Stmt := top 30
abbrev s_law_before : Stmt := top 31
abbrev s_law_raw : Stmt := top 32
abbrev s_law : Stmt := top 33
theorem sc_Kept_init : FnScope ["self"] ["self"] (defScope s_Kept_init) := ⟨rfl, rfl, rfl, by decide +kernel, rfl, by decide +kernel, by decide +kernel⟩
theorem sc_Kept_pair_of : FnScope ["self", "tree", "pair"] ["self", "tree"] (defScope s_Kept_pair_of) := ⟨rfl, rfl, rfl, by decide +kernel, rfl, by decide +kernel, by decide +kernel⟩
theorem sc_Kept_keep : FnScope ["self", "tree", "result", "row"] ["self", "tree", "result"] (defScope s_Kept_keep) := ⟨rfl, rfl, rfl, by decide +kernel, rfl, by decide +kernel, by decide +kernel⟩
theorem sc_folded : FnScope ["tree", "reckon"] ["tree", "reckon"] (defScope s_folded) := ⟨rfl, rfl, rfl, by decide +kernel, rfl, by decide +kernel, by decide +kernel⟩
theorem sc_folded_ : FnScope ["tree", "reckon", "kept", "pair", "results", "part", "result"] ["tree", "reckon", "kept"] (defScope s_folded_) := ⟨rfl, rfl, rfl, by decide +kernel, rfl, by decide +kernel, by decide +kernel⟩
theorem sc_size : FnScope ["term", "many", "part"] ["term"] (defScope s_size) := ⟨rfl, rfl, rfl, by decide +kernel, rfl, by decide +kernel, by decide +kernel⟩
theorem sc_order : FnScope ["makers", "one", "other", "words", "part", "beside", "word", "_"] ["makers", "one", "other"] (defScope s_order) := ⟨rfl, rfl, rfl, by decide +kernel, rfl, by decide +kernel, by decide +kernel⟩
theorem sc_part_rows : FnScope ["rows", "parts", "total", "found", "taken", "behind", "first", "row"] ["rows", "parts", "total"] (defScope s_part_rows) := ⟨rfl, rfl, rfl, by decide +kernel, rfl, by decide +kernel, by decide +kernel⟩
theorem sc_put : FnScope ["term", "assignment", "items", "part"] ["term", "assignment"] (defScope s_put) := ⟨rfl, rfl, rfl, by decide +kernel, rfl, by decide +kernel, by decide +kernel⟩
theorem sc_fitted : FnScope ["patterns", "terms", "found", "pattern", "term"] ["patterns", "terms"] (defScope s_fitted) := ⟨rfl, rfl, rfl, by decide +kernel, rfl, by decide +kernel, by decide +kernel⟩
theorem sc_fits : FnScope ["pattern", "term", "found", "inner", "part"] ["pattern", "term", "found"] (defScope s_fits) := ⟨rfl, rfl, rfl, by decide +kernel, rfl, by decide +kernel, by decide +kernel⟩
theorem sc_counts : FnScope ["table", "word", "parts", "_"] ["table"] (defScope s_counts) := ⟨rfl, rfl, rfl, by decide +kernel, rfl, by decide +kernel, by decide +kernel⟩
theorem sc_index_of : FnScope ["table", "value", "constructors", "constructor", "word", "kinds"] ["table", "value"] (defScope s_index_of) := ⟨rfl, rfl, rfl, by decide +kernel, rfl, by decide +kernel, by decide +kernel⟩
theorem sc_made_kind : FnScope ["constructor", "kinds", "_", "parts", "family", "index", "trees"] ["constructor", "kinds"] (defScope s_made_kind) := ⟨rfl, rfl, rfl, by decide +kernel, rfl, by decide +kernel, by decide +kernel⟩
theorem sc_trees_for : FnScope ["asked", "kinds", "family", "_", "kind", "term", "tree"] ["asked", "kinds"] (defScope s_trees_for) := ⟨rfl, rfl, rfl, by decide +kernel, rfl, by decide +kernel, by decide +kernel⟩
theorem sc_before : FnScope ["table", "one", "other"] ["table", "one", "other"] (defScope s_before) := ⟨rfl, rfl, rfl, by decide +kernel, rfl, by decide +kernel, by decide +kernel⟩
theorem sc_values_of : FnScope ["table", "total", "rows", "many"] ["table", "total"] (defScope s_values_of) := ⟨rfl, rfl, rfl, by decide +kernel, rfl, by decide +kernel, by decide +kernel⟩
theorem sc_values_of_size : FnScope ["table", "rows", "total", "found", "word", "parts", "_", "row", "value"] ["table", "rows", "total"] (defScope s_values_of_size) := ⟨rfl, rfl, rfl, by decide +kernel, rfl, by decide +kernel, by decide +kernel⟩
theorem sc_law_state : FnScope ["script", "seed", "cell"] ["script"] (defScope s_law_state) := ⟨rfl, rfl, rfl, by decide +kernel, rfl, by decide +kernel, by decide +kernel⟩
theorem sc_law_draw : FnScope ["state", "many", "cells", "value", "mixed"] ["state", "many"] (defScope s_law_draw) := ⟨rfl, rfl, rfl, by decide +kernel, rfl, by decide +kernel, by decide +kernel⟩
theorem sc_law_pick : FnScope ["state", "row"] ["state", "row"] (defScope s_law_pick) := ⟨rfl, rfl, rfl, by decide +kernel, rfl, by decide +kernel, by decide +kernel⟩
theorem sc_law_shape : FnScope ["kind", "own", "other", "third", "zero", "next_n", "grown", "pair"] ["kind", "own", "other", "third"] (defScope s_law_shape) := ⟨rfl, rfl, rfl, by decide +kernel, rfl, by decide +kernel, by decide +kernel⟩
theorem sc_law_table : FnScope ["state", "makers", "families", "constructors", "own", "kind", "parts", "index"] ["state"] (defScope s_law_table) := ⟨rfl, rfl, rfl, by decide +kernel, rfl, by decide +kernel, by decide +kernel⟩
theorem sc_law_constructors : FnScope ["table", "family", "row"] ["table", "family"] (defScope s_law_constructors) := ⟨rfl, rfl, rfl, by decide +kernel, rfl, by decide +kernel, by decide +kernel⟩
theorem sc_law_fit : FnScope ["patterns", "trees", "found", "pairs", "pattern", "tree", "k"] ["patterns", "trees"] (defScope s_law_fit) := ⟨rfl, rfl, rfl, by decide +kernel, rfl, by decide +kernel, by decide +kernel⟩
theorem sc_law_put : FnScope ["term", "trees", "part"] ["term", "trees"] (defScope s_law_put) := ⟨rfl, rfl, rfl, by decide +kernel, rfl, by decide +kernel, by decide +kernel⟩
theorem sc_law_index : FnScope ["table", "value", "row", "found", "trees", "one", "part", "pair"] ["table", "value"] (defScope s_law_index) := ⟨rfl, rfl, rfl, by decide +kernel, rfl, by decide +kernel, by decide +kernel⟩
theorem sc_law_size : FnScope ["value", "part"] ["value"] (defScope s_law_size) := ⟨rfl, rfl, rfl, by decide +kernel, rfl, by decide +kernel, by decide +kernel⟩
theorem sc_law_before : FnScope ["table", "one", "other", "words", "k", "row"] ["table", "one", "other"] (defScope s_law_before) := ⟨rfl, rfl, rfl, by decide +kernel, rfl, by decide +kernel, by decide +kernel⟩
theorem sc_law_raw : FnScope ["table", "family", "many", "rows", "row", "rests", "part", "longer", "value", "left", "size_v", "one"] ["table", "family", "many"] (defScope s_law_raw) := ⟨rfl, rfl, rfl, by decide +kernel, rfl, by decide +kernel, by decide +kernel⟩
theorem sc_law : FnScope ["script", "state", "table", "words", "rows", "many", "due", "family", "value", "one", "place", "known", "turn", "row", "other", "flag", "k", "part"] ["script"] (defScope s_law) := ⟨rfl, rfl, rfl, by decide +kernel, rfl, by decide +kernel, by decide +kernel⟩
structure Txt (K : PySem.W.Frag) (mg : Str → Option Value) where
  c_Kept : Addr
  cl_Kept : Cls K c_Kept
  mg_Kept : mg "Kept" = some (.ref c_Kept)
  no_Kept_rows : NoAttr K c_Kept "rows"
  t_MOST_KEPT : Tok
  g_MOST_KEPT : mg "MOST_KEPT" = some (.int 32 t_MOST_KEPT)
  a_Kept_init : Addr
  d_Kept_init : FuncData
  F_Kept_init : Fun K "__init__" "Kept.__init__" s_Kept_init a_Kept_init d_Kept_init
  b_Kept_init : Binds K d_Kept_init ["self"] []
  me_Kept_init : Meth K c_Kept "__init__" a_Kept_init
  a_Kept_pair_of : Addr
  d_Kept_pair_of : FuncData
  F_Kept_pair_of : Fun K "pair_of" "Kept.pair_of" s_Kept_pair_of a_Kept_pair_of d_Kept_pair_of
  b_Kept_pair_of : Binds K d_Kept_pair_of ["self", "tree"] []
  me_Kept_pair_of : Meth K c_Kept "pair_of" a_Kept_pair_of
  a_Kept_keep : Addr
  d_Kept_keep : FuncData
  F_Kept_keep : Fun K "keep" "Kept.keep" s_Kept_keep a_Kept_keep d_Kept_keep
  b_Kept_keep : Binds K d_Kept_keep ["self", "tree", "result"] []
  me_Kept_keep : Meth K c_Kept "keep" a_Kept_keep
  a_folded : Addr
  d_folded : FuncData
  F_folded : Fun K "folded" "folded" s_folded a_folded d_folded
  b_folded : Binds K d_folded ["tree", "reckon"] []
  m_folded : mg "folded" = some (.ref a_folded)
  a_folded_ : Addr
  d_folded_ : FuncData
  F_folded_ : Fun K "_folded" "_folded" s_folded_ a_folded_ d_folded_
  b_folded_ : Binds K d_folded_ ["tree", "reckon", "kept"] []
  m_folded_ : mg "_folded" = some (.ref a_folded_)
  a_size : Addr
  d_size : FuncData
  F_size : Fun K "size" "size" s_size a_size d_size
  b_size : Binds K d_size ["term"] []
  m_size : mg "size" = some (.ref a_size)
  a_order : Addr
  d_order : FuncData
  F_order : Fun K "order" "order" s_order a_order d_order
  b_order : Binds K d_order ["makers", "one", "other"] []
  m_order : mg "order" = some (.ref a_order)
  a_part_rows : Addr
  d_part_rows : FuncData
  F_part_rows : Fun K "part_rows" "part_rows" s_part_rows a_part_rows d_part_rows
  b_part_rows : Binds K d_part_rows ["rows", "parts", "total"] []
  m_part_rows : mg "part_rows" = some (.ref a_part_rows)
  a_put : Addr
  d_put : FuncData
  F_put : Fun K "put" "put" s_put a_put d_put
  b_put : Binds K d_put ["term", "assignment"] []
  m_put : mg "put" = some (.ref a_put)
  a_fitted : Addr
  d_fitted : FuncData
  F_fitted : Fun K "fitted" "fitted" s_fitted a_fitted d_fitted
  b_fitted : Binds K d_fitted ["patterns", "terms"] []
  m_fitted : mg "fitted" = some (.ref a_fitted)
  a_fits : Addr
  d_fits : FuncData
  F_fits : Fun K "_fits" "_fits" s_fits a_fits d_fits
  b_fits : Binds K d_fits ["pattern", "term", "found"] []
  m_fits : mg "_fits" = some (.ref a_fits)
  a_counts : Addr
  d_counts : FuncData
  F_counts : Fun K "_counts" "_counts" s_counts a_counts d_counts
  b_counts : Binds K d_counts ["table"] []
  m_counts : mg "_counts" = some (.ref a_counts)
  a_index_of : Addr
  d_index_of : FuncData
  F_index_of : Fun K "index_of" "index_of" s_index_of a_index_of d_index_of
  b_index_of : Binds K d_index_of ["table", "value"] []
  m_index_of : mg "index_of" = some (.ref a_index_of)
  a_made_kind : Addr
  d_made_kind : FuncData
  F_made_kind : Fun K "made_kind" "made_kind" s_made_kind a_made_kind d_made_kind
  b_made_kind : Binds K d_made_kind ["constructor", "kinds"] []
  m_made_kind : mg "made_kind" = some (.ref a_made_kind)
  a_trees_for : Addr
  d_trees_for : FuncData
  F_trees_for : Fun K "trees_for" "trees_for" s_trees_for a_trees_for d_trees_for
  b_trees_for : Binds K d_trees_for ["asked", "kinds"] []
  m_trees_for : mg "trees_for" = some (.ref a_trees_for)
  a_before : Addr
  d_before : FuncData
  F_before : Fun K "before" "before" s_before a_before d_before
  b_before : Binds K d_before ["table", "one", "other"] []
  m_before : mg "before" = some (.ref a_before)
  a_values_of : Addr
  d_values_of : FuncData
  F_values_of : Fun K "values_of" "values_of" s_values_of a_values_of d_values_of
  b_values_of : Binds K d_values_of ["table", "total"] []
  m_values_of : mg "values_of" = some (.ref a_values_of)
  a_values_of_size : Addr
  d_values_of_size : FuncData
  F_values_of_size : Fun K "_values_of_size" "_values_of_size" s_values_of_size a_values_of_size d_values_of_size
  b_values_of_size : Binds K d_values_of_size ["table", "rows", "total"] []
  m_values_of_size : mg "_values_of_size" = some (.ref a_values_of_size)
  a_law_state : Addr
  d_law_state : FuncData
  F_law_state : Fun K "_law_state" "_law_state" s_law_state a_law_state d_law_state
  b_law_state : Binds K d_law_state ["script"] []
  m_law_state : mg "_law_state" = some (.ref a_law_state)
  a_law_draw : Addr
  d_law_draw : FuncData
  F_law_draw : Fun K "_law_draw" "_law_draw" s_law_draw a_law_draw d_law_draw
  b_law_draw : Binds K d_law_draw ["state", "many"] []
  m_law_draw : mg "_law_draw" = some (.ref a_law_draw)
  a_law_pick : Addr
  d_law_pick : FuncData
  F_law_pick : Fun K "_law_pick" "_law_pick" s_law_pick a_law_pick d_law_pick
  b_law_pick : Binds K d_law_pick ["state", "row"] []
  m_law_pick : mg "_law_pick" = some (.ref a_law_pick)
  a_law_shape : Addr
  d_law_shape : FuncData
  F_law_shape : Fun K "_law_shape" "_law_shape" s_law_shape a_law_shape d_law_shape
  b_law_shape : Binds K d_law_shape ["kind", "own", "other", "third"] []
  m_law_shape : mg "_law_shape" = some (.ref a_law_shape)
  a_law_table : Addr
  d_law_table : FuncData
  F_law_table : Fun K "_law_table" "_law_table" s_law_table a_law_table d_law_table
  b_law_table : Binds K d_law_table ["state"] []
  m_law_table : mg "_law_table" = some (.ref a_law_table)
  a_law_constructors : Addr
  d_law_constructors : FuncData
  F_law_constructors : Fun K "_law_constructors" "_law_constructors" s_law_constructors a_law_constructors d_law_constructors
  b_law_constructors : Binds K d_law_constructors ["table", "family"] []
  m_law_constructors : mg "_law_constructors" = some (.ref a_law_constructors)
  a_law_fit : Addr
  d_law_fit : FuncData
  F_law_fit : Fun K "_law_fit" "_law_fit" s_law_fit a_law_fit d_law_fit
  b_law_fit : Binds K d_law_fit ["patterns", "trees"] []
  m_law_fit : mg "_law_fit" = some (.ref a_law_fit)
  a_law_put : Addr
  d_law_put : FuncData
  F_law_put : Fun K "_law_put" "_law_put" s_law_put a_law_put d_law_put
  b_law_put : Binds K d_law_put ["term", "trees"] []
  m_law_put : mg "_law_put" = some (.ref a_law_put)
  a_law_index : Addr
  d_law_index : FuncData
  F_law_index : Fun K "_law_index" "_law_index" s_law_index a_law_index d_law_index
  b_law_index : Binds K d_law_index ["table", "value"] []
  m_law_index : mg "_law_index" = some (.ref a_law_index)
  a_law_size : Addr
  d_law_size : FuncData
  F_law_size : Fun K "_law_size" "_law_size" s_law_size a_law_size d_law_size
  b_law_size : Binds K d_law_size ["value"] []
  m_law_size : mg "_law_size" = some (.ref a_law_size)
  a_law_before : Addr
  d_law_before : FuncData
  F_law_before : Fun K "_law_before" "_law_before" s_law_before a_law_before d_law_before
  b_law_before : Binds K d_law_before ["table", "one", "other"] []
  m_law_before : mg "_law_before" = some (.ref a_law_before)
  a_law_raw : Addr
  d_law_raw : FuncData
  F_law_raw : Fun K "_law_raw" "_law_raw" s_law_raw a_law_raw d_law_raw
  b_law_raw : Binds K d_law_raw ["table", "family", "many"] []
  m_law_raw : mg "_law_raw" = some (.ref a_law_raw)
  a_law : Addr
  d_law : FuncData
  F_law : Fun K "law" "law" s_law a_law d_law
  b_law : Binds K d_law ["script"] []
  m_law : mg "law" = some (.ref a_law)
  mk_Kept : Mk K c_Kept a_Kept_init
  z_reversed : mg "reversed" = none
  z_isinstance : mg "isinstance" = none
  z_str : mg "str" = none
  z_zip : mg "zip" = none
  z_range : mg "range" = none
  z_tuple : mg "tuple" = none
  z_len : mg "len" = none
  z_int : mg "int" = none
  z_abs : mg "abs" = none
  z_sum : mg "sum" = none
  z_bool : mg "bool" = none
end Kx
set_option maxHeartbeats 2000000
/-! A lambda with parameters and captured names that is handed to a def. -/
namespace KLm
open PySem PySem.Spec PyProof.Rows L2 LamX NdefX
/-! ### objects that stand exactly as they are; a heap in which some are hidden, or shown again -/
def PinO (b : Addr) (o : Obj) : HO := .ext fun h => h.get? b = some o
theorem pin_own {b x : Addr} {o : Obj} : PinO b o ≠ .own x := fun z => by unfold PinO at z; cases z
theorem pin_tup {b : Addr} {o : Obj} {xs : List V} : PinO b o ≠ .tup xs := fun z => by unfold PinO at z; cases z
theorem pin_frz {b : Addr} {o o' : Obj} {u : HO} : PinO b o ≠ .frz o' u := fun z => by unfold PinO at z; cases z
theorem pin_tbl {b : Addr} {o : Obj} {ps : Array Value} : PinO b o ≠ .tbl ps := fun z => by unfold PinO at z; cases z
theorem pin_lst {b : Addr} {o : Obj} {xs : List V} : PinO b o ≠ .lst xs := fun z => by unfold PinO at z; cases z
theorem pin_dK {b : Addr} {o : Obj} {xs : List (Key × V)} : PinO b o ≠ .dK xs := fun z => by unfold PinO at z; cases z
/-- what is pinned -/
def Pinned (S : List (Addr × Obj)) (H : Hp) : Prop := ∀ p ∈ S, H p.1 = some (PinO p.1 p.2)
def hid (S : List (Addr × Obj)) (H : Hp) : Hp := fun b => if b ∈ S.map (·.1) then none else H b
def unh (S : List (Addr × Obj)) (H H1 : Hp) : Hp := fun b => if b ∈ S.map (·.1) then H b else H1 b
/-- the pinned ones shown -/
def shw (S : List (Addr × Obj)) (H : Hp) : Hp := fun b => match S.find? (fun p => p.1 == b) with
  | some p => some (PinO p.1 p.2)
  | none => H b
section
variable {P : Program} {w : World} {S : List (Addr × Obj)} {H H1 : Hp} {h h' : Heap} {b : Addr} {fs : List Addr}
theorem hid_in (hb : b ∈ S.map (·.1)) : hid S H b = none := by unfold hid; rw [if_pos hb]
theorem hid_out (hb : b ∉ S.map (·.1)) : hid S H b = H b := by unfold hid; rw [if_neg hb]
theorem unh_in (hb : b ∈ S.map (·.1)) : unh S H H1 b = H b := by unfold unh; rw [if_pos hb]
theorem unh_out (hb : b ∉ S.map (·.1)) : unh S H H1 b = H1 b := by unfold unh; rw [if_neg hb]
theorem Pinned.get (p : Pinned S H) (hb : b ∈ S.map (·.1)) : ∃ o, (b, o) ∈ S ∧ H b = some (PinO b o) := by
  obtain ⟨q, hq, rfl⟩ := List.mem_map.mp hb
  exact ⟨q.2, hq, p q hq⟩
theorem pin_at {o : Obj} (x : HOk P w H h) (e : H b = some (PinO b o)) : h.get? b = some o := (x b _ e).1
theorem hid_some {o : HO} (e : hid S H b = some o) : b ∉ S.map (·.1) ∧ H b = some o := by
  by_cases hb : b ∈ S.map (·.1)
  · rw [hid_in hb] at e; cases e
  · rw [hid_out hb] at e; exact ⟨hb, e⟩
theorem not_pinned {o : HO} (p : Pinned S H) (e : H b = some o) (n : ∀ x, o ≠ PinO b x) : b ∉ S.map (·.1) := fun hb => by
  obtain ⟨x, _, e2⟩ := p.get hb
  rw [e] at e2
  exact n x (Option.some.inj e2)
theorem hok_hid (p : Pinned S H) (x : HOk P w H h) : HOk P w (hid S H) h := fun a o e => by
  obtain ⟨ha, e⟩ := hid_some e
  refine (x a o e).stay (fun b u _ q => q) (fun b hb => ?_) (fun b xs hb => ?_)
  · rw [hid_out (not_pinned p hb fun x z => pin_own z.symm)]; exact hb
  · rw [hid_out (not_pinned p hb fun x z => pin_tup z.symm)]; exact hb
theorem env0_hid {K : PySem.W.Frag} {mg : Str → Option Value} {base : Heap} {A : Around} {outer : List Env} {s : Shared} (p : Pinned S H) (e : Env0 P w K mg base A outer s H) : Env0 P w K mg base A outer s (hid S H) :=
  ⟨e.frames, e.mod, fun b o q => ⟨(e.bs b o q).1, by by_cases hb : b ∈ S.map (·.1); exact hid_in hb; rw [hid_out hb]; exact (e.bs b o q).2⟩, e.bsz, e.funs,
    fun b q => by by_cases hb : b ∈ S.map (·.1); exact hid_in hb; rw [hid_out hb]; exact e.frf b q, hok_hid p e.hok, e.bare⟩
theorem un_unh (p : Pinned S H) (x : HOk P w H h) (u : Un fs [] (hid S H) H1 h h') : Un fs [] H (unh S H H1) h h' where
  keep := fun b o q n hf hx => u.keep b o q (by by_cases hb : b ∈ S.map (·.1); exact hid_in hb; rw [hid_out hb]; exact n) hf hx
  slot := fun b o q n hf hx => u.slot b o q (by by_cases hb : b ∈ S.map (·.1); exact hid_in hb; rw [hid_out hb]; exact n) hf hx
  free := fun b o q n hx => by
    have hb : b ∉ S.map (·.1) := fun hb => by obtain ⟨_, _, e⟩ := p.get hb; rw [n] at e; cases e
    rw [unh_out hb]
    exact u.free b o q (by rw [hid_out hb]; exact n) hx
  there := u.there
  tups := fun b xs e => by
    have hb := not_pinned p e fun x z => pin_tup z.symm
    rw [unh_out hb]; exact u.tups b xs (by rw [hid_out hb]; exact e)
  frzs := fun b o v e => by
    have hb := not_pinned p e fun x z => pin_frz z.symm
    rw [unh_out hb]; exact u.frzs b o v (by rw [hid_out hb]; exact e)
  tbls := fun b ps e => by
    have hb := not_pinned p e fun x z => pin_tbl z.symm
    rw [unh_out hb]; exact u.tbls b ps (by rw [hid_out hb]; exact e)
theorem hok_unh (p : Pinned S H) (x : HOk P w H h) (hfs : ∀ b ∈ fs, H b = none) (u : Un fs [] (hid S H) H1 h h') (y : HOk P w H1 h') : HOk P w (unh S H H1) h' := fun a o e => by
  have out : ∀ b, b ∈ S.map (·.1) → H1 b = none := fun b hb => by
    obtain ⟨o, _, e⟩ := p.get hb
    exact u.free b o (pin_at x e) (hid_in hb) (by simp)
  by_cases ha : a ∈ S.map (·.1)
  · rw [unh_in ha] at e
    obtain ⟨o2, _, e2⟩ := p.get ha
    rw [e] at e2
    cases e2
    have q := u.keep a o2 (pin_at x e) (hid_in ha) (fun z => by rw [hfs a z] at e; cases e) (by simp)
    exact ⟨q, ⟨_, q⟩, fun h1 h2 z st => st _ z⟩
  · rw [unh_out ha] at e
    refine (y a o e).stay (fun b u _ q => q) (fun b hb => ?_) (fun b xs hb => ?_)
    · rw [unh_out fun z => by rw [out b z] at hb; cases hb]; exact hb
    · rw [unh_out fun z => by rw [out b z] at hb; cases hb]; exact hb
end
/-! ### the promise of a function that is handed on: pre, what the heap holds of it -/
structure LamOk (P : Program) (w : World) (K : PySem.W.Frag) (mg : Str → Option Value) (base : Heap) (k : Nat) (f : Addr) (n : Nat) (pre : Hp → Prop) (sp : Sp) : Prop where
  fn : ∀ H, pre H → ∃ q params body scope cl pm c' ctv, H f = some (PinO f (PySem.W.kla_obj "<lambda>" q params body scope cl pm c' ctv))
  len : ∀ vs H Q E, sp vs H Q E → vs.length = n
  run : ∀ (A : Around) (outer : List Env) (s : Shared) (H : Hp) (us : List Value) (vs : List V) (Q : VK) (E : XK), Room k A → Env0 P w K mg base A outer s H → pre H → Vals vs us → sp vs H Q E →
    codeAny (model P w) A (.call (.ref f) ⟨us, []⟩) (CR CX0 outer P w H s Q E) s
theorem LamOk.mono {P : Program} {w : World} {K : PySem.W.Frag} {mg : Str → Option Value} {base : Heap} {j k : Nat} {f : Addr} {n : Nat} {pre : Hp → Prop} {sp : Sp} (L : LamOk P w K mg base j f n pre sp) (h : j ≤ k) : LamOk P w K mg base k f n pre sp :=
  ⟨L.fn, L.len, fun A outer s H us vs Q E hr => L.run A outer s H us vs Q E (hr.mono h)⟩
/-- what the heap holds of a lambda: itself and its cells pinned, its code object -/
structure LamAt (f c' : Addr) (q : Str) (params : Arguments) (body : Expr) (scope : Scope) (cl : List (Str × Addr)) (pm ctv : Value) (caps : List (Addr × Obj)) (H : Hp) : Prop where
  fn : H f = some (PinO f (PySem.W.kla_obj "<lambda>" q params body scope cl pm c' ctv))
  co : H c' = some (CodeO c' q)
  cel : Pinned caps H
/-- the captured names: fr, held by caps, whose values are ws -/
structure CapOk (cl : List (Str × Addr)) (fr : List Str) (caps : List (Addr × Obj)) (ws : List V) : Prop where
  len : ws.length = fr.length
  all : ∀ y c, cl.lookup y = some c → c ∈ caps.map (·.1)
  cell : ∀ p ∈ caps, ∃ v, p.2.data = .cell v
  inj : ∀ x y c, cl.lookup x = some c → cl.lookup y = some c → x = y
  has : ∀ (i : Nat) (y : Str), fr[i]? = some y → ∃ c o u v, cl.lookup y = some c ∧ (c, o) ∈ caps ∧ o.data = .cell (some u) ∧ ws[i]? = some v ∧ L2.RelV v u
theorem CapOk.at_ {cl : List (Str × Addr)} {fr : List Str} {caps : List (Addr × Obj)} {ws : List V} {P : Program} {w : World} {H : Hp} {h : Heap} (C : CapOk cl fr caps ws) (p : Pinned caps H) (x : HOk P w H h) : CellsAt cl fr (ws.map some) h (hid caps H) := by
  refine ⟨by rw [List.length_map]; exact C.len, fun y c e => ?_, C.inj, fun i y e => ?_⟩
  · have hc := C.all y c e
    obtain ⟨o, hm, e2⟩ := p.get hc
    obtain ⟨v, hv⟩ := C.cell _ hm
    exact ⟨hid_in hc, v, o, pin_at x e2, hv⟩
  · obtain ⟨c, o, u, v, e1, hm, e2, e3, e4⟩ := C.has i y e
    refine ⟨c, e1, fun v' hv => ?_⟩
    rw [List.getElem?_map, e3] at hv
    cases hv
    exact ⟨u, e4, o, pin_at x (p _ hm), e2⟩
theorem unh_hid {S : List (Addr × Obj)} {H : Hp} : unh S H (hid S H) = H := funext fun b => by
  by_cases hb : b ∈ S.map (·.1)
  · rw [unh_in hb]
  · rw [unh_out hb, hid_out hb]
/-- what is no pin is not hidden -/
theorem hid_see {S : List (Addr × Obj)} {H : Hp} {b : Addr} {o : HO} (p : Pinned S H) (e : H b = some o) (n : ∀ x, o ≠ PinO b x) : hid S H b = some o := by rw [hid_out (not_pinned p e n)]; exact e
/-- it is held on while all but lists and dicts stands -/
theorem LamAt.on {f c' : Addr} {q : Str} {params : Arguments} {body : Expr} {scope : Scope} {cl : List (Str × Addr)} {pm ctv : Value} {caps : List (Addr × Obj)} {H H' : Hp} (h : LamAt f c' q params body scope cl pm ctv caps H)
    (t : ∀ b o, H b = some o → (∀ xs, o ≠ .lst xs) → (∀ kvs, o ≠ .dK kvs) → H' b = some o) : LamAt f c' q params body scope cl pm ctv caps H' :=
  ⟨t _ _ h.fn (fun _ => pin_lst) fun _ => pin_dK, t _ _ h.co (fun _ z => (by unfold CodeO at z; cases z)) (fun _ z => (by unfold CodeO at z; cases z)), fun p hp => t _ _ (h.cel p hp) (fun _ => pin_lst) fun _ => pin_dK⟩
/-- the heap behind: all but the pins as the call left it -/
theorem ext_back {f : Addr} {caps : List (Addr × Obj)} {H1 H2 H3 H4 H5 : Hp} (x : ExtN H1 H2) (s : Same H2 H3) (s4 : Same H3 H4) (h5 : ∀ b, H5 b = H4 b ∨ (H5 b = none ∧ H2 b = none ∧ (b = f ∨ b ∈ caps.map (·.1)))) : ExtN H1 H5 ∧ Same H2 H5 := by
  have k : Same H2 H5 := fun b o e => by
    rcases h5 b with z | ⟨_, z, _⟩
    · rw [z]; exact s4 _ _ (s _ _ e)
    · rw [e] at z; cases z
  exact ⟨fun b o e n => k _ _ (x b o e n), k⟩
/-- THE RULE: a lambda by its body, told in the heap without its cells -/
theorem lam_ok {P : Program} {w : World} {K : PySem.W.Frag} {mg : Str → Option Value} {base : Heap} {k : Nat} {f c' : Addr} {q : Str} {params : Arguments} {body : Expr} {scope : Scope} {cl : List (Str × Addr)} {pm ctv : Value} {caps : List (Addr × Obj)} {N ps fr : List Str} {ws : List V} {sp : Sp}
    (S : NScope N ps fr scope) (hb : ∀ (us : List Value), us.length = ps.length → bindArgs (PySem.W.kla_fn "<lambda>" q params body scope cl pm (.ref c') ctv) ⟨us, []⟩ = pure (ps.zip us)) (C : CapOk cl fr caps ws) (len : ∀ vs H Q E, sp vs H Q E → vs.length = ps.length)
    (hbody : ∀ (A : Around) (outer : List Env) (s : Shared) (H : Hp) (vs : List V) (Q : VK) (E : XK), Room k (A.deeper (envF ⟨"<lambda>", q, params, [], scope, cl, c'⟩ f s.heap.objs.size)) → LamAt f c' q params body scope cl pm ctv caps H → sp vs H Q E →
      ∃ t, PE (ncx CX0 P w K mg base N ⟨"<lambda>", q, params, [], scope, cl, c'⟩ f A outer s (hid caps H) E) body t ∧ t (startF N vs (ws.map some)) (hid caps H) (fun v H1 => (∀ b ∈ caps.map (·.1), H1 b = none) → Q v (unh caps H H1))) :
    LamOk P w K mg base (k + 1) f ps.length (LamAt f c' q params body scope cl pm ctv caps) sp := by
  refine ⟨fun H p => ⟨_, _, _, _, _, _, _, _, p.fn⟩, len, fun A outer s H us vs Q E hr e0 p r hsp => ?_⟩
  have hl := len _ _ _ _ hsp
  have noLim : s.heap.NoLimit := e0.mod.nolimit.keeps fun x y q => (e0.bs x y q).1
  have of1 := pin_at e0.hok p.fn
  obtain ⟨⟨oc, vs', t', hoc, hdc, hvc⟩, _, _⟩ := e0.hok c' _ p.co
  refine PySem.W.kla_callFunE hr.depth of1 rfl S.co S.gen rfl ⟨c', oc, vs', t', rfl, hoc, hdc, hvc⟩ ?_
  rw [hb us (by rw [← r.length]; exact hl)]
  refine wpAny_pure (wpAny_newFunctionEnv S.nocell (fun p hp => S.par p.1 (List.of_mem_zip (b := p.2) hp).1) (fun g ns sb => ⟨noLim.fresh _ sb, ?_⟩) S.kind)
  show codeAny _ _ (.expr body (envF ⟨"<lambda>", q, params, [], scope, cl, c'⟩ f s.heap.objs.size)) _ _
  have kp : ∀ x y, s.heap.get? x = some y → g.get? x = some y := fun x y q => sb.extBut x y (Nat.ne_of_lt (Heap.lt_size q)) (Heap.get?_push_of_some _ q)
  obtain ⟨t, ht, hq⟩ := hbody A outer s H vs Q E (hr.deeper _) p hsp
  have I : Inv (ncx CX0 P w K mg base N ⟨"<lambda>", q, params, [], scope, cl, c'⟩ f A outer s (hid caps H) E) [] (startF N vs (ws.map some)) (hid caps H) { s with heap := g, toks := s.toks + (ps.zip us).length } :=
    inv_startN S hr.hd (env0_hid p.cel e0) hl r (C.at_ p.cel e0.hok) ns kp
  refine PySem.W.kla_codeExpr (wpAny_mono (ht.run [] _ _ _ _ I hq) (fun u s' hs => ?_) fun e s' hs => hs)
  obtain ⟨v, H1, J, rv, q'⟩ := hs
  exact ⟨v, unh caps H H1, J.os, J.bare, un_unh p.cel e0.hok J.base, hok_unh p.cel e0.hok e0.frf J.base J.hok, rv, q' fun b hb => by
    obtain ⟨o, _, e⟩ := p.cel.get hb
    exact J.base.free b o (pin_at e0.hok e) (hid_in hb) (show b ∉ ([] : List Addr) by simp)⟩
/-! ### making one; the new object lies beyond the heap -/
section
variable {X : Cx} {pins : List (Addr × Obj)} {σ : L2.St} {H : Hp} {s : Shared}
/-- what is told of a lambda just made -/
structure Fresh (T : List (Addr × Str)) (X : Cx) (params : Arguments) (body : Expr) (scope : Scope) (H H1 : Hp) (s s1 : Shared) (f c' : Addr) (pm ctv : Value) : Prop where
  ext : ExtN H H1
  tab : Tabs T H1
  new : s.heap.objs.size ≤ f
  obj : s1.heap.get? f = some (PySem.W.kla_obj "<lambda>" (X.env.qual ++ "<lambda>") params body scope (cloFrom X.env.cells scope.names []) pm c' ctv)
  free : H1 f = none
  cod : H1 c' = some (CodeO c' (X.env.qual ++ "<lambda>"))
theorem lam_new {T : List (Addr × Str)} {c0 P0 : Addr} {params : Arguments} {body : Expr} {scope : Scope} {pos : Pos} {E Q : Value → Shared → Prop} (I : Inv X pins σ H s) (B : TabB X.base X.mg c0 P0) (hcd : X.env.code = .ref c0)
    (hin : (P0, X.env.qual ++ "<lambda>") ∈ T) (hun : ∀ p ∈ T, p.1 = P0 → p.2 = X.env.qual ++ "<lambda>") (tabs : Tabs T H) (nodef : defaultsOf params X.env = ([], [])) (caught : ∀ y ∈ scope.names, y.2 = .free → ∃ c, X.env.cells.lookup y.1 = some c)
    (next : ∀ (f c' : Addr) (pm ctv : Value) (H1 : Hp) (s1 : Shared), Inv X pins σ H1 s1 → Fresh T X params body scope H H1 s s1 f c' pm ctv → Q (.ref f) s1) :
    wpAny (model X.prog X.w) X.A (eval (.Lambda params body scope pos) X.env) Q E s := by
  obtain ⟨cods, atP, three, told⟩ := tabs _ hin
  have inHeap : s.heap.get? P0 = some { cls := .none, data := .fields cods } := I.hok P0 _ atP
  have blt : s.heap.BuiltinsAt X.mg P0 := B.bm.keeps I.bk
  refine PySem.W.kla_eval nodef ?_
  rcases hit : codeAmong pos cods.toList with _ | cv
  · refine PySem.W.kla_makeFunction (mg := X.mg) (c := c0) (P := P0) (ps := cods) (closure_ok caught) I.ok.glob (I.mod.glob.keeps I.bk) hcd (B.code.keeps I.bk) inHeap three hit B.gP blt ?_
    intro c' ctv g tk same above below named table
    obtain ⟨c2, oc, vals, t, same2, isc, dat, nam⟩ := named
    cases same2
    have big : s.heap.objs.size ≤ g.objs.size := Nat.le_trans above (Nat.le_of_lt below)
    have cFree : H c' = none := I.hok.fresh above
    have J := inv_table (t' := tk) (q := X.env.qual ++ "<lambda>") (c := c') (more := #[rawInt pos.line, rawInt pos.col, .ref c'])
      (h' := g.push (PySem.W.kla_obj "<lambda>" (X.env.qual ++ "<lambda>") params body scope (cloFrom X.env.cells scope.names []) ((X.mg "__name__").getD .none) c' ctv))
      I atP (fun b o nb e => Heap.get?_push_of_some _ (same b o nb e)) (Heap.get?_push_of_some _ table) above ⟨oc, vals, t, Heap.get?_push_of_some _ isc, dat, nam⟩
    have grow : ExtN H (upd (upd H P0 (.tbl (cods ++ #[rawInt pos.line, rawInt pos.col, .ref c']))) c' (CodeO c' (X.env.qual ++ "<lambda>"))) := by
      intro b o e n
      have n1 : b ≠ c' := ne_of_none e cFree
      have n2 : b ≠ P0 := fun z => by subst z; rw [atP] at e; exact n cods (Option.some.inj e).symm
      rw [upd_ne n1, upd_ne n2]; exact e
    have row : (cods ++ #[rawInt pos.line, rawInt pos.col, .ref c']).toList = cods.toList ++ [rawInt pos.line, rawInt pos.col, .ref c'] := by simp
    refine next g.objs.size c' _ ctv _ _ J ⟨grow, fun p hp => ?_, big, Heap.get?_push_size _ rfl, ?_, upd_same⟩
    · by_cases q : p.1 = P0
      · rw [q, hun p hp q]
        refine ⟨_, by rw [upd_ne (ne_of_none atP cFree), upd_same], by rw [row]; exact PySem.TriplesOk_snoc _ _ _ _ three, fun p2 cv2 z => ?_⟩
        rw [row] at z
        rcases among_app _ three z with z | z
        · obtain ⟨x, a, b⟩ := told p2 cv2 z
          exact ⟨x, a, grow _ _ b codeO_ne⟩
        · exact ⟨c', z, upd_same⟩
      · obtain ⟨ps2, a, b, d⟩ := tabs p hp
        refine ⟨ps2, ?_, b, fun p2 cv2 z => ?_⟩
        · rw [upd_ne (ne_of_none a cFree), upd_ne q]; exact a
        · obtain ⟨x, u, v⟩ := d p2 cv2 z
          exact ⟨x, u, grow _ _ v codeO_ne⟩
    · have n1 : g.objs.size ≠ c' := Nat.ne_of_gt below
      have n2 : g.objs.size ≠ P0 := Nat.ne_of_gt (Nat.lt_of_lt_of_le (Heap.lt_size inHeap) big)
      rw [upd_ne n1, upd_ne n2]; exact I.hok.fresh big
  · obtain ⟨c', isr, cod⟩ := told pos cv hit
    subst isr
    refine PySem.W.kla_makeFunctionHit (mg := X.mg) (c := c0) (P := P0) (ps := cods) (closure_ok caught) I.ok.glob (I.mod.glob.keeps I.bk) hcd (B.code.keeps I.bk) inHeap three hit blt ?_
    intro ctv g tk same big
    have J : Inv X pins σ H { s with heap := g.push (PySem.W.kla_obj "<lambda>" (X.env.qual ++ "<lambda>") params body scope (cloFrom X.env.cells scope.names []) ((X.mg "__name__").getD .none) c' ctv), toks := tk } := I.kept fun b o e => Heap.get?_push_of_some _ (same b o e)
    exact next g.objs.size c' _ ctv H _ J ⟨ExtN.refl H, tabs, big, Heap.get?_push_size _ rfl, I.hok.fresh big, cod⟩
end
/-! ### the cells that it has caught -/
theorem caps_of {cl : List (Str × Addr)} {fr : List Str} {ws : List V} {h : Heap} {H : Hp} (C : CellsAt cl fr (ws.map some) h H) (cov : ∀ y c, cl.lookup y = some c → y ∈ fr) : ∃ caps : List (Addr × Obj), CapOk cl fr caps ws ∧ ∀ p ∈ caps, h.get? p.1 = some p.2 ∧ H p.1 = none ∧ ∃ y, cl.lookup y = some p.1 := by
  have lw : ws.length = fr.length := by have := C.len; rwa [List.length_map] at this
  have key : ∀ i : Fin fr.length, ∃ p : Addr × Obj, cl.lookup fr[i] = some p.1 ∧ h.get? p.1 = some p.2 ∧ ∃ u, p.2.data = .cell (some u) ∧ L2.RelV (ws[i.1]'(by omega)) u := fun i => by
    obtain ⟨c, e, hv⟩ := C.has i.1 fr[i] (List.getElem?_eq_getElem i.2)
    obtain ⟨u, r, o, ho, hd⟩ := hv (ws[i.1]'(by omega)) (by rw [List.getElem?_map, List.getElem?_eq_getElem (by omega)]; rfl)
    exact ⟨(c, o), e, ho, u, hd, r⟩
  refine ⟨(List.finRange fr.length).map fun i => Classical.choose (key i), ⟨lw, fun y c e => ?_, fun p hp => ?_, C.inj, fun i y e => ?_⟩, fun p hp => ?_⟩
  · obtain ⟨i, hi, ei⟩ := List.getElem_of_mem (cov y c e)
    have k := Classical.choose_spec (key ⟨i, hi⟩)
    refine List.mem_map.mpr ⟨_, List.mem_map.mpr ⟨⟨i, hi⟩, List.mem_finRange _, rfl⟩, ?_⟩
    have k2 : cl.lookup fr[i] = some c := by rw [ei]; exact e
    exact Option.some.inj (k.1.symm.trans k2)
  · obtain ⟨i, _, rfl⟩ := List.mem_map.mp hp
    obtain ⟨_, _, u, d, _⟩ := Classical.choose_spec (key i)
    exact ⟨_, d⟩
  · obtain ⟨hi, ei⟩ := List.getElem?_eq_some_iff.mp e
    obtain ⟨a, _, u, d, r⟩ := Classical.choose_spec (key ⟨i, hi⟩)
    refine ⟨_, _, u, ws[i]'(by omega), ?_, List.mem_map.mpr ⟨⟨i, hi⟩, List.mem_finRange _, rfl⟩, d, List.getElem?_eq_getElem (by omega), r⟩
    rw [← ei]; exact a
  · obtain ⟨i, _, rfl⟩ := List.mem_map.mp hp
    obtain ⟨a, b, _⟩ := Classical.choose_spec (key i)
    exact ⟨b, (C.all _ _ a).1, _, a⟩
/-! ### the pinned ones shown, for the time of a call -/
section
variable {P : Program} {w : World} {S : List (Addr × Obj)} {H H4 : Hp} {h h' : Heap} {fs : List Addr}
theorem shw_out {b : Addr} (hb : b ∉ S.map (·.1)) : shw S H b = H b := by
  unfold shw
  have : S.find? (fun p => p.1 == b) = none := List.find?_eq_none.mpr fun p hp z => hb (List.mem_map.mpr ⟨p, hp, by simpa using z⟩)
  rw [this]
theorem shw_pin (hs : ∀ p ∈ S, h.get? p.1 = some p.2) : Pinned S (shw S H) := fun p hp => by
  unfold shw
  cases e : S.find? (fun q => q.1 == p.1) with
  | none => exact absurd (List.find?_eq_none.mp e p hp) (by simp)
  | some q =>
    have e1 : q.1 = p.1 := by simpa using List.find?_some e
    have e2 := hs q (List.mem_of_find?_eq_some e)
    have e3 := hs p hp
    rw [e1, e3] at e2
    show some (PinO q.1 q.2) = some (PinO p.1 p.2)
    rw [e1, ← Option.some.inj e2]
theorem same_shw (hn : ∀ p ∈ S, H p.1 = none) : Same H (shw S H) := fun b o e => by
  rw [shw_out fun z => by obtain ⟨p, hp, rfl⟩ := List.mem_map.mp z; rw [hn p hp] at e; cases e]; exact e
theorem hok_shw (hs : ∀ p ∈ S, h.get? p.1 = some p.2) (hn : ∀ p ∈ S, H p.1 = none) (x : HOk P w H h) : HOk P w (shw S H) h := fun a o e => by
  have sm := same_shw hn
  by_cases ha : a ∈ S.map (·.1)
  · obtain ⟨p, hp, rfl⟩ := List.mem_map.mp ha
    have e2 := shw_pin (H := H) hs p hp
    rw [e] at e2
    cases e2
    exact ⟨hs p hp, ⟨_, hs p hp⟩, fun h1 h2 z st => st _ z⟩
  · rw [shw_out ha] at e
    exact (x a o e).stay (fun b u _ q => q) (fun b hb => sm _ _ hb) fun b xs hb => sm _ _ hb
theorem un_shw (hs : ∀ p ∈ S, h.get? p.1 = some p.2) (hn : ∀ p ∈ S, H p.1 = none) (p4 : Pinned S H4) (y : HOk P w H4 h') (u : Un fs [] (shw S H) H4 h h') : Un fs [] H (hid S H4) h h' := by
  have stay : ∀ b o, b ∈ S.map (·.1) → h.get? b = some o → h'.get? b = some o := fun b o hb e => by
    obtain ⟨p, hp, rfl⟩ := List.mem_map.mp hb
    have e2 := hs p hp
    rw [e] at e2
    cases e2
    exact pin_at y (p4 p hp)
  have sm := same_shw hn
  have out : ∀ b o, H b = some o → b ∉ S.map (·.1) := fun b o e z => by obtain ⟨p, hp, rfl⟩ := List.mem_map.mp z; rw [hn p hp] at e; cases e
  refine ⟨fun b o e n hf hx => ?_, fun b o e n hf hx => ?_, fun b o e n hx => ?_, u.there, fun b xs e => ?_, fun b o v e => ?_, fun b ps e => ?_⟩
  · by_cases hb : b ∈ S.map (·.1)
    · exact stay b o hb e
    · exact u.keep b o e (by rw [shw_out hb]; exact n) hf hx
  · by_cases hb : b ∈ S.map (·.1)
    · exact ⟨o.slots, stay b o hb e⟩
    · exact u.slot b o e (by rw [shw_out hb]; exact n) hf hx
  · by_cases hb : b ∈ S.map (·.1)
    · exact hid_in hb
    · rw [hid_out hb]; exact u.free b o e (by rw [shw_out hb]; exact n) hx
  · rw [hid_out (out b _ e)]; exact u.tups b xs (sm _ _ e)
  · rw [hid_out (out b _ e)]; exact u.frzs b o v (sm _ _ e)
  · rw [hid_out (out b _ e)]; exact u.tbls b ps (sm _ _ e)
end
/-! ### the two rules -/
/-- x(e, ..), x a name that holds a function handed on -/
def tAct (X : Cx) (k i : Nat) (t : TA) : TE := fun σ H Q => ∃ (f : Addr) (n : Nat) (pre : Hp → Prop) (sp : Sp), σ[i]? = some (some (.ref f)) ∧ LamOk X.prog X.w X.K X.mg X.base k f n pre sp ∧ pre H ∧ t σ H fun vs H1 => pre H1 ∧ sp vs H1 Q E0
theorem pe_act {X : Cx} {i j k : Nat} {x : Str} {e : Expr} {es : List Expr} {t : TA} {p pos : Pos} (hr : Room j X.A) (hk : k ≤ j) (hN : X.N[i]? = some x) (hv : Vis X.env.scope x) (ha : PA X (e :: es) t)
    (hd : (x == ("__debug__" : Str)) = false := by decide) (hcd : (x == ("__classdict__" : Str)) = false := by decide)
    (he : starEach (e :: es) X.env = (false, eval e X.env) :: starEach es X.env := by rfl) (hpl : (backTo pos (starEach es X.env)).any (·.1) = false := by rfl) :
    PE X (.Call (.Name x p) (e :: es) [] pos) (tAct X k i t) := by
  refine ⟨fun pins s σ H Q I h => ?_⟩
  obtain ⟨f, n, pre, sp, at_, L, now, args⟩ := h
  have isF : ∀ {H1 : Hp} {s1 : Shared}, Inv X pins σ H1 s1 → pre H1 → PySem.W.FnAt f s1.heap := fun {H1 s1} J p1 => by
    obtain ⟨_, _, _, _, _, _, _, _, e1⟩ := L.fn _ p1
    exact ⟨_, _, _, _, pin_at J.hok e1⟩
  refine wpAny_Call_Name_kw (thn ((pe_var (pos := p) hN hv hd hcd).run pins s σ H (fun v H1 => v = .ref f ∧ H1 = H) I ⟨.ref f, at_, rfl, rfl⟩) fun u s1 ⟨v, H1, J, r1, isv, isH⟩ => ?_)
  subst isv isH
  cases (show u = Value.ref f from r1)
  refine PySem.W.callWith_F (first := []) (isF J now) (thn (ha.run pos pins s1 σ H1 _ J args) fun us s2 ⟨vs, H2, J2, r2, now2, told⟩ => ⟨isF J2 now2, ?_⟩) he hpl
  show wpAny _ _ (call (.ref f) us) _ _ _
  refine wpAny_call (codeAny_mono ((L.mono hk).run X.A X.stack s2 H2 us vs Q E0 hr J2.env0 now2 r2 told) fun r s3 done => ?_)
  rcases r with e3 | fl
  · exact done.elim
  · cases fl <;> first
      | exact J2.after done
      | exact done.elim
/-- what a lambda catches: its free names are fr, each a cell's or a free one of the def -/
def capB (sc scope : Scope) (fr : List Str) : Bool :=
  (scope.names.all fun y => !decide (y.2 = .free) || (decide (y.1 ∈ fr) && (decide (sc.names.lookup y.1 = some .cell) || decide (sc.names.lookup y.1 = some .free)))) && fr.all fun y => decide ((y, NameKind.free) ∈ scope.names)
theorem capB_of {sc scope : Scope} {fr : List Str} (h : capB sc scope fr = true) : (∀ y ∈ scope.names, y.2 = .free → sc.names.lookup y.1 = some .cell ∨ sc.names.lookup y.1 = some .free) ∧ (∀ y ∈ fr, (y, NameKind.free) ∈ scope.names) ∧ ∀ y ∈ scope.names, y.2 = .free → y.1 ∈ fr := by
  unfold capB at h
  simp only [Bool.and_eq_true, Bool.or_eq_true, Bool.not_eq_true', List.all_eq_true, decide_eq_true_eq, decide_eq_false_iff_not] at h
  exact ⟨fun y hy e => ((h.1 y hy).resolve_left fun n => n e).2, h.2, fun y hy e => ((h.1 y hy).resolve_left fun n => n e).1⟩
/-- x(e, lambda ..: ..), x a def: sp is told in a heap in which the lambda and its cells are pinned -/
def tHand (T : List (Addr × Str)) (X : Cx) (params : Arguments) (body : Expr) (scope : Scope) (fr : List Str) (js : List Nat) (sp : Sp) (t : TE) : TE := fun σ H Q => t σ H fun v H1 => Tabs T H1 ∧ ∃ ws : List V, js.map (slotAt σ) = ws.map some ∧
  ∀ (f c' : Addr) (pm ctv : Value) (caps : List (Addr × Obj)) (H2 H3 : Hp), ExtN H1 H2 → Tabs T H2 → Same H2 H3 → H2 f = none → CapOk (cloFrom X.env.cells scope.names []) fr caps ws → (∀ p ∈ caps, H2 p.1 = none) →
    LamAt f c' (X.env.qual ++ "<lambda>") params body scope (cloFrom X.env.cells scope.names []) pm ctv caps H3 →
    sp [v, .ref f] H3 (fun u H4 => LamAt f c' (X.env.qual ++ "<lambda>") params body scope (cloFrom X.env.cells scope.names []) pm ctv caps H4 ∧ ∀ H5, (∀ b, H5 b = H4 b ∨ (H5 b = none ∧ H2 b = none ∧ (b = f ∨ b ∈ caps.map (·.1)))) → Q u H5) E0
theorem pe_hand {X : Cx} {T : List (Addr × Str)} {c0 P0 g : Addr} {k : Nat} {x : Str} {fd : FuncData} {ps : List Str} {sp : Sp} {e1 : Expr} {t : TE} {params : Arguments} {body : Expr} {scope : Scope} {fr : List Str} {js : List Nat} {p lpos pos : Pos}
    (G : FnOk X.prog X.w X.K X.mg X.base CX0 k g fd ps sp) (hr : Room k X.A) (hg : Gl X x) (hm : X.mg x = some (.ref g)) (kp : PySem.W.keepIn X.K (.ref g) = true) (hb : Binds X.K fd ps [])
    (B : TabB X.base X.mg c0 P0) (hcd : X.env.code = .ref c0) (hin : (P0, X.env.qual ++ "<lambda>") ∈ T) (hun : ∀ p ∈ T, p.1 = P0 → p.2 = X.env.qual ++ "<lambda>") (nodef : defaultsOf params X.env = ([], []))
    (hcap : capB X.env.scope scope fr = true)
    (hjs : js.map (fun j => X.N[j]?) = fr.map some) (own : ∀ y, X.fn y = true) (h1 : PE X e1 t)
    (hdb : (x == ("__debug__" : Str)) = false := by decide) (he : starEach [e1, .Lambda params body scope lpos] X.env = (false, eval e1 X.env) :: starEach [.Lambda params body scope lpos] X.env := by rfl)
    (hpl : (backTo pos (starEach [.Lambda params body scope lpos] X.env)).any (·.1) = false := by rfl) :
    PE X (.Call (.Name x p) [e1, .Lambda params body scope lpos] [] pos) (tHand T X params body scope fr js sp t) := by
  refine ⟨fun pins s σ H Q I h => ?_⟩
  obtain ⟨hfree, hfr, hcov⟩ := capB_of hcap
  have caught : ∀ y ∈ scope.names, y.2 = .free → ∃ c, X.env.cells.lookup y.1 = some c := fun y hy e => (hfree y hy e).elim (fun z => I.ok.has _ (.inl z)) fun z => I.ok.has _ (.inr z)
  refine wpAny_Call_Name_kw (ld_glob I hg hm ?_ hdb)
  refine PySem.W.callWith_K (h₀ := X.base) I.ok.mod.kin kp ?_ he hpl
  rw [he]
  show wpAny _ _ (spliced ((false, eval e1 X.env) :: (false, eval (.Lambda params body scope lpos) X.env) :: backTo pos (starEach [] X.env))) _ _ s
  refine Calls.spliced_cons (thn (h1.run pins s σ H _ I h) fun u1 s1 ⟨v, H1, J1, r1, tabs, ws, hws, told⟩ => ?_)
  refine Calls.spliced_cons (lam_new J1 B hcd hin hun tabs nodef caught fun f c' pm ctv H2 s2 J2 F => ?_)
  refine Calls.spliced_nil ⟨J2.kIn, ?_⟩
  have cp : Caps X (cloFrom X.env.cells scope.names []) fr js := Caps.made I.ok hfree hfr hjs
  have CA := cells_of J2 cp
  rw [hws] at CA
  obtain ⟨caps, C, hc⟩ := caps_of CA fun y c e => by
    rcases cloFrom_mem (PySem.mem_of_lookup e) with z | ⟨z, _⟩
    · cases z
    · exact hcov _ z rfl
  have lo : ∀ b ∈ caps.map (·.1), X.s_0.heap.objs.size ≤ b ∧ b ≠ X.env.locals := fun b hb => by
    obtain ⟨p, hp, rfl⟩ := List.mem_map.mp hb
    obtain ⟨_, _, y, ey⟩ := hc p hp
    have ey2 := cp.sub _ _ ey
    exact ⟨J2.ok.cab y _ (own y) ey2, J2.cne y _ ey2⟩
  have lof : X.s_0.heap.objs.size ≤ f := Nat.le_trans J1.sz F.new
  have fl : f ≠ X.env.locals := fun z => Nat.lt_irrefl _ (Nat.lt_of_lt_of_le J1.lt (z ▸ F.new))
  have S0 : ∀ p ∈ (f, PySem.W.kla_obj "<lambda>" (X.env.qual ++ "<lambda>") params body scope (cloFrom X.env.cells scope.names []) pm c' ctv) :: caps, s2.heap.get? p.1 = some p.2 ∧ H2 p.1 = none ∧ X.s_0.heap.objs.size ≤ p.1 ∧ p.1 ≠ X.env.locals := fun p hp => by
    rcases List.mem_cons.mp hp with rfl | hp
    · exact ⟨F.obj, F.free, lof, fl⟩
    · exact ⟨(hc p hp).1, (hc p hp).2.1, lo _ (List.mem_map.mpr ⟨p, hp, rfl⟩)⟩
  generalize hS : (f, PySem.W.kla_obj "<lambda>" (X.env.qual ++ "<lambda>") params body scope (cloFrom X.env.cells scope.names []) pm c' ctv) :: caps = S at S0
  have a1 : ∀ p ∈ S, s2.heap.get? p.1 = some p.2 := fun p hp => (S0 p hp).1
  have a2 : ∀ p ∈ S, H2 p.1 = none := fun p hp => (S0 p hp).2.1
  have sm := same_shw a2
  have pin := shw_pin (H := H2) a1
  have basic : ∀ p ∈ S, X.base.get? p.1 = none := fun p hp => by
    cases q : X.base.get? p.1 with
    | none => rfl
    | some o => exact absurd (Nat.lt_of_lt_of_le (Heap.lt_size q) (Nat.le_trans I.ok.bsz (S0 p hp).2.2.1)) (Nat.lt_irrefl _)
  have nofr : ∀ p ∈ S, p.1 ∉ frs X.stack := fun p hp z => by
    rcases List.mem_cons.mp (J2.stkSub _ z) with q | q
    · exact (S0 p hp).2.2.2 q
    · obtain ⟨_, o, ho, _⟩ := I.ok.funs.mem q
      exact absurd (Nat.lt_of_lt_of_le (Heap.lt_size ho) (S0 p hp).2.2.1) (Nat.lt_irrefl _)
  have e0 := J2.env0
  have e3 : Env0 X.prog X.w X.K X.mg X.base X.A X.stack s2 (shw S H2) := ⟨e0.frames, e0.mod, fun b o q => ⟨(e0.bs b o q).1, by
      rw [shw_out fun z => by obtain ⟨p, hp, rfl⟩ := List.mem_map.mp z; rw [basic p hp] at q; cases q]; exact (e0.bs b o q).2⟩, e0.bsz, e0.funs, fun b q => by
      rw [shw_out fun z => by obtain ⟨p, hp, rfl⟩ := List.mem_map.mp z; exact nofr p hp q]; exact e0.frf b q, hok_shw a1 a2 e0.hok, e0.bare⟩
  have at3 : LamAt f c' (X.env.qual ++ "<lambda>") params body scope (cloFrom X.env.cells scope.names []) pm ctv caps (shw S H2) := ⟨pin (f, _) (by rw [← hS]; exact List.mem_cons_self ..), sm _ _ F.cod, fun p hp => pin p (by rw [← hS]; exact List.mem_cons_of_mem _ hp)⟩
  have free2 : ∀ p ∈ caps, H2 p.1 = none := fun p hp => (hc p hp).2.1
  have q3 := told f c' pm ctv caps H2 (shw S H2) F.ext F.tab sm F.free C free2 at3
  refine wpAny_call (codeAny_mono (G.run X.A X.stack s2 (shw S H2) ⟨[u1, .ref f], []⟩ [u1, .ref f] [v, .ref f] _ E0 hr e3 ?_ (.cons r1 (.cons rfl .nil)) q3) fun r s4 done => ?_)
  · have := hb s2 [u1, .ref f] J2.kIn (by rw [List.append_nil, ← G.len _ _ _ _ q3]; rfl)
    rwa [List.append_nil] at this
  rcases r with e5 | fl
  · exact done.elim
  cases fl
  all_goals first
    | exact done.elim
    | skip
  obtain ⟨v2, H4, os, bare, un, hok, r4, at4, q4⟩ := done
  have p4 : Pinned S H4 := fun p hp => by
    rw [← hS] at hp
    rcases List.mem_cons.mp hp with rfl | hp
    · exact at4.fn
    · exact at4.cel p hp
  refine J2.after ⟨v2, hid S H4, os, bare, un_shw a1 a2 p4 hok un, hok_hid p4 hok, r4, q4 _ fun b => ?_⟩
  by_cases hb' : b ∈ S.map (·.1)
  · refine .inr ⟨hid_in hb', ?_⟩
    rw [← hS, List.map_cons] at hb'
    rcases List.mem_cons.mp hb' with z | z
    · exact ⟨z ▸ F.free, .inl z⟩
    · refine ⟨?_, .inr z⟩
      obtain ⟨p, hp, rfl⟩ := List.mem_map.mp z
      exact free2 p hp
  · exact .inl (hid_out hb')
end KLm
set_option maxHeartbeats 2000000
/-! Rules of our own over the layer: see the remarks. -/
namespace Kx
open PySem PySem.Spec PyProof.Rows L2
/-! ### rules with the written part named (for the blocks of comprehensions) -/
section
variable {X : Cx} {K : PySem.W.Frag}
theorem inSeqK (h : X.K = K := by rfl) : OpR X (compareOp .In) (rIn K false) := by subst h; exact op_in_seq
theorem notInSeqK (h : X.K = K := by rfl) : OpR X (compareOp .NotIn) (rIn K true) := by subst h; exact op_notIn_seq
theorem ixLK (h : X.K = K := by rfl) : IxR X (rIxL K) := by subst h; exact ix_list
theorem ixTK (h : X.K = K := by rfl) : IxR X (rIxT K) := by subst h; exact ix_tup
end
/-! ### l.extend(t), t a tuple -/
def rExtT (K : PySem.W.Frag) : V → List V → Hp → VK → Prop := fun x vs H Q => ∃ l b xs zs, x = .ref l ∧ vs = [.ref b] ∧ H l = some (.lst xs) ∧ (∃ o : Obj, H b = some (.frz o (.tup zs)) ∧ o.dict = none ∧ o.slots = #[]) ∧ xs.length + zs.length ≤ sizeLine ∧ Q .non (upd H l (.lst (xs ++ zs)))
section
variable {X : Cx}
theorem mt_extT : MtR X "list.extend" (rExtT X.K) := by
  intro pins s σ H x vs v us Q I rx rv hyp
  obtain ⟨l, b, xs, zs, rfl, rfl, hH, ⟨o, hB, hd, hsl⟩, hz, fin⟩ := hyp
  cases rx
  obtain ⟨u, rfl, ru⟩ := rv.one
  cases ru
  obtain ⟨z, its, n, r, hl, e⟩ := I.lstM hH
  obtain ⟨e2, z2, its2, r2, hT⟩ := (show ObjOk X.prog X.w H s.heap b (.frz o (.tup zs)) from I.hok b _ hB)
  obtain ⟨o2, e3, hc2, n2, hd2⟩ := hT
  rw [e2] at e3
  cases e3
  obtain ⟨oc, od, dt, sl⟩ := o
  simp only at hc2 hd2 hd hsl
  subst hc2 hd2 hd hsl
  have w1 : its.length = xs.length := r.length.symm
  have w2 : its2.length = zs.length := r2.length.symm
  have size2 : its.toArray.size + its2.toArray.size ≤ sizeLine := by
    simp only [List.size_toArray, w1, w2]; exact hz
  have few : ¬ (!its.toArray.isEmpty && Builtin.List.listTooLong (its.toArray.size + its2.toArray.size)) = true := by
    rw [notLongL size2, Bool.and_false]; simp
  refine call_meets F.slot_list_extend ⟨_, e, rfl⟩ F.entry_list_extend (F.args_list_extend_2 _ _)
    (AutoSeq1.list_extend_list_tuple_0 l its.toArray n b its2.toArray n2 few (Nat.le_trans (Nat.le_add_right _ _) size2) (Nat.le_succ_of_le size2)) ⟨e, e2, ?_⟩
  refine ⟨.non, _, I.lset (its' := its ++ its2) hH e (by simp) (r.append r2) ?_, rfl, fin⟩
  simp only [List.length_append]; exact hz
end
/-! ### t[:0:-1]: a tuple backwards without its first item -/
section
variable {prog : Program} {w : World} {A : Around} {E : Value → Shared → Prop} {s : Shared}
theorem back_pick {α : Type} : ∀ l : List α, (List.range l.length).filterMap (fun m => l[l.length - 1 - m]?) = l.reverse := by
  intro l
  have h : ∀ k, k ≤ l.length → (List.range k).filterMap (fun m => l[l.length - 1 - m]?) = (l.drop (l.length - k)).reverse := by
    intro k
    induction k with
    | zero => intro _; simp
    | succ k ih =>
      intro hk
      rw [List.range_succ, List.filterMap_append, ih (by omega)]
      have e : l.drop (l.length - (k + 1)) = l[l.length - (k + 1)]'(by omega) :: l.drop (l.length - k) := by
        rw [List.drop_eq_getElem_cons (by omega)]
        congr 2
        omega
      rw [e, List.reverse_cons]
      congr 1
      have e2 : l[l.length - 1 - k]? = some (l[l.length - (k + 1)]'(by omega)) := by
        rw [← List.getElem?_eq_getElem]
        congr 1
        omega
      simp [e2]
  have := h l.length (Nat.le_refl _)
  simpa using this
theorem back_pick1 (xs : List Value) (h1 : 1 ≤ xs.length) : (List.range (xs.length - 1)).filterMap (fun (m : Nat) => xs[(((xs.length - 1 : Nat) : Int) + (m : Int) * (-1)).toNat]?) = (xs.drop 1).reverse := by
  have h := back_pick (xs.drop 1)
  rw [List.length_drop] at h
  rw [← h]
  have key : ∀ k, k ≤ xs.length - 1 → (List.range k).filterMap (fun (m : Nat) => xs[(((xs.length - 1 : Nat) : Int) + (m : Int) * (-1)).toNat]?) = (List.range k).filterMap (fun m => (xs.drop 1)[xs.length - 1 - 1 - m]?) := by
    intro k
    induction k with
    | zero => intro _; rfl
    | succ k ih =>
      intro hk
      rw [List.range_succ, List.filterMap_append, List.filterMap_append, ih (by omega)]
      congr 1
      have e : (((xs.length - 1 : Nat) : Int) + (k : Int) * (-1)).toNat = 1 + (xs.length - 1 - 1 - k) := by omega
      simp only [List.filterMap_cons, List.filterMap_nil, e, List.getElem?_drop]
  exact key _ (Nat.le_refl _)
theorem back_adjust (n : Nat) (h : 1 ≤ n) : Builtin.Slice.sliceAdjust none (some 0) (-1) (n : Int) = (((n - 1 : Nat) : Int), 0) := by
  unfold Builtin.Slice.sliceAdjust
  simp only [show ((-1 : Int) < 0) from by omega, if_true]
  refine Prod.ext ?_ ?_
  · show (n : Int) - 1 = _; omega
  · show (if (0 : Int) < 0 then max ((0 : Int) + (n : Int)) (-1) else min (0 : Int) ((n : Int) - 1)) = 0
    rw [if_neg (by omega)]; omega
theorem back_places (n : Nat) : Builtin.Slice.slicePlaces ((n : Nat) : Int) 0 (-1) = n := by
  unfold Builtin.Slice.slicePlaces
  simp only [show ¬ ((-1 : Int) > 0) from by omega, if_false, Int.neg_neg, Int.ediv_one]
  split <;> omega
theorem back_applied {sl : Addr} {vl vu vs : Value} {n : Nat} {Q : Int × Int × Nat → Shared → Prop} (h1 : 1 ≤ n) (hs : s.heap.IsSliceOf sl vl vu vs) (pl : IsPart vl none) (pu : IsPart vu (some 0)) (ps : IsPart vs (some (-1)))
    (h : Q (((n - 1 : Nat) : Int), -1, n - 1) s) : wpAny (model prog w) A (Builtin.Slice.sliceApplied (.ref sl) (pure (n : Int))) Q E s := by
  obtain ⟨os, ho, hc, hd⟩ := id hs
  unfold Builtin.Slice.sliceApplied Builtin.Slice.sliceFields
  refine wpAny_bind (wpAny_bind (wpAny_field ho hd (x := vl) rfl (wpAny_bind (wpAny_field ho hd (x := vu) rfl (wpAny_bind (wpAny_field ho hd (x := vs) rfl (wpAny_pure ?_)))))))
  refine wpAny_bind (HT.slicePart_ ps ?_)
  show wpAny _ _ (if ((-1 : Int) == 0) = true then _ else _) _ _ s
  rw [if_neg (by decide)]
  refine wpAny_bind (HT.slicePart_ pl (wpAny_bind (HT.slicePart_ pu (wpAny_bind (wpAny_pure ?_)))))
  show wpAny _ _ (match Builtin.Slice.sliceAdjust none (some 0) (-1) (n : Int) with | (lo, hi) => pure (lo, (-1 : Int), Builtin.Slice.slicePlaces lo hi (-1))) _ _ s
  rw [back_adjust n h1]
  show wpAny _ _ (pure (((n - 1 : Nat) : Int), (-1 : Int), Builtin.Slice.slicePlaces ((n - 1 : Nat) : Int) 0 (-1))) _ _ s
  rw [back_places]
  exact wpAny_pure h
theorem getItem_back {t sl : Addr} {items : Array Value} {vl vu vs : Value} {Q : Value → Shared → Prop} (h1 : 1 ≤ items.size) (ht : IsTup s.heap t items) (hs : s.heap.IsSliceOf sl vl vu vs) (pl : IsPart vl none) (pu : IsPart vu (some 0)) (ps : IsPart vs (some (-1)))
    (h : Q (.ref s.heap.objs.size) { s with heap := s.heap.push { cls := .type "tuple", data := .seq ((items.toList.drop 1).reverse).toArray } })
    (hsz : items.size ≤ sizeLine) : wpAny (model prog w) A (getItem (.ref t) (.ref sl)) Q E s := by
  have fits : sizeOk (.seq ((items.toList.drop 1).reverse).toArray) := by
    show ((items.toList.drop 1).reverse).toArray.size ≤ sizeLine
    simp only [List.size_toArray, List.length_reverse, List.length_drop, Array.length_toList]
    omega
  obtain ⟨os, ho, hc, hd⟩ := id hs
  have ty : s.TypeIs (.ref sl) "slice" := ⟨os, ho, hc⟩
  unfold getItem
  try with_reducible refine wpAny_holding ?_
  first | refine wpAny_bind (wpAny_pure ?_) | skip
  refine wpAny_bind (wpAny_sequenceKey ht.typeIs (by decide) ?_)
  refine wpAny_bind (wpAny_callSpecial?_slot (name := Str.ofString "__getitem__") ht.typeIs PyProof.Rows.slot_tuple_getitem
    (wpAny_call_entry PyProof.Rows.slot_tuple_getitem ht.typeIs F.entry_tuple_getitem ?_ (F.args_tuple_getitem_2 _ _)))
  show wpAny _ _ (Builtin.Tuple.tupleItemsOf (.ref t) >>= _) _ _ s
  refine wpAny_bind (tupleItemsOf_ ht ?_)
  refine wpAny_bind (wpAny_typeOf ty ?_)
  rw [if_pos (by decide)]
  refine wpAny_bind (back_applied (n := items.size) h1 hs pl pu ps ?_)
  have no : ¬ ((((items.size - 1 : Nat) : Int) == 0 && (-1 : Int) == 1 && (items.size - 1) == items.size) = true) := by simp
  show wpAny _ _ (if (((items.size - 1 : Nat) : Int) == 0 && (-1 : Int) == 1 && (items.size - 1) == items.size) = true then _ else _) _ _ s
  have e := back_pick1 items.toList (by simpa using h1)
  simp only [Array.length_toList, Array.getElem?_toList] at e
  rw [if_neg no, e]
  first
    | exact wpAny_bind (m := Builtin.Tuple.tupleExact _) (wpAny_newObj_type (wpAny_pure ⟨_, rfl, wpAny_pure h⟩) fits)
    | exact wpAny_bind (m := Builtin.Tuple.tupleExact _) (wpAny_newObj_type (wpAny_bind (wpAny_pure (wpAny_pure ⟨_, rfl, wpAny_pure h⟩))) fits)
    | exact wpAny_bind (wpAny_bind (m := Builtin.Tuple.tupleExact _) (wpAny_newObj_type (wpAny_pure (wpAny_pure ⟨_, rfl, wpAny_pure h⟩)) fits))
    | exact wpAny_bind (wpAny_bind (m := Builtin.Tuple.tupleExact _) (wpAny_newObj_type (wpAny_pure ⟨_, rfl, wpAny_pure h⟩) fits))
end
/-- what t[:0:-1] asks: t is not empty; the new tuple is told as an object that stands as it is -/
def tBackT (K : PySem.W.Frag) (te : TE) : TE := fun σ H Q => te σ H fun x H1 => ∃ a xs, x = .ref a ∧ SqT K H1 a xs ∧ xs ≠ [] ∧ ∀ p (o : Obj), H1 p = none → o.dict = none → o.slots = #[] → Q (.ref p) (upd H1 p (.frz o (.tup (xs.drop 1).reverse)))
section
variable {X : Cx}
theorem pe_cutback {e : Expr} {te : TE} {j k : Nat} {p0 p1 p2 p3 pos : Pos} (he : PE X e te) : PE X (.Subscript e (.Slice none (some (.Constant (.int 0) j p0)) (some (.UnaryOp .USub (.Constant (.int 1) k p1) p2)) p3) pos) (tBackT X.K te) := by
  refine ⟨fun pins s σ H Q I h => ?_⟩
  refine Subscript_ (thn (he.run pins s σ H _ I h) fun v s1 ⟨x, H1, I1, r1, q1⟩ => ?_)
  obtain ⟨a, xs, ex, hx, hne, fin⟩ := q1
  subst ex
  cases r1
  have hst : PO X (some (.UnaryOp .USub (.Constant (.int 1) k p1) p2)) (tPart (tUn (rU fun i => .int (-i)) (tC (.int 1)))) := po_some (pe_un un_neg pe_int)
  have hup : PO X (some (.Constant (.int 0) j p0)) (tPart (tC (.int 0))) := po_some pe_int
  refine wpAny_Slice (thn (po_none.run pins s1 σ H1 (fun o H2 => o = none ∧ H2 = H1) I1 ⟨rfl, rfl⟩) fun vl s2 ⟨l, H2, I2, pl, el, e2⟩ => ?_)
  subst el e2
  refine thn (hup.run pins s2 σ H2 (fun o H3 => o = some 0 ∧ H3 = H2) I2 ⟨0, rfl, rfl, rfl⟩) fun vu s3 ⟨u, H3, I3, pu, eu, e3⟩ => ?_
  subst eu e3
  refine thn (hst.run pins s3 σ H3 (fun o H4 => o = some (-1) ∧ H4 = H3) I3 ⟨1, rfl, -1, rfl, rfl, rfl⟩) fun vs s4 ⟨o, H4, I4, ps, eo, e4⟩ => ?_
  subst eo e4
  have I5 : Inv X pins σ H4 { s4 with heap := s4.heap.push { cls := .type "slice", data := .fields #[vl, vu, vs] } } := I4.kept (t' := s4.toks) fun b ob q => Heap.get?_push_of_some _ q
  obtain ⟨its, r, ht, hz⟩ := I5.tuple hx
  have hlen : its.length = xs.length := r.length.symm
  have h1 : 1 ≤ xs.length := by cases xs with | nil => exact absurd rfl hne | cons _ _ => simp
  show wpAny (model X.prog X.w) X.A (subscriptTail e (.Slice none (some (.Constant (.int 0) j p0)) (some (.UnaryOp .USub (.Constant (.int 1) k p1) p2)) p3) (.ref a) (.ref s4.heap.objs.size)) (EP X pins σ Q) X.xe { s4 with heap := s4.heap.push { cls := .type "slice", data := .fields #[vl, vu, vs] } }
  refine tail_any (ops := [.ref a, .ref s4.heap.objs.size]) ht.typeIs (PyProof.Rows.slot_tuple_getitem.lookup) ?_ (by with_unfolding_all rfl)
  refine getItem_back (by rw [List.size_toArray, hlen]; exact h1) ht (Heap.IsSliceOf.new _ vl vu vs) pl pu ps ?_ (by rw [List.size_toArray, hlen]; exact hz)
  refine ⟨.ref _, _, I5.laid (t' := s4.toks) (o := .frz { cls := .type "tuple", data := .seq ((its.drop 1).reverse).toArray } (.tup (xs.drop 1).reverse)) (fun b ob q => Heap.get?_push_of_some _ q) (Nat.le_refl _) ?_, rfl, fin _ _ (I5.hok.fresh (Nat.le_refl _)) rfl rfl⟩
  refine ⟨Heap.get?_push_size _ rfl, ?_, _, (r.drop 1).reverse, IsTup.new _ _⟩
  rw [List.length_reverse, List.length_drop]
  exact Nat.le_trans (Nat.sub_le _ _) hz
/-! ### tuple(l) of a list, told as an object that stands as it is -/
theorem call_tupleF : CallR X (.type "tuple") (fun xs H Q => ∃ p ys, xs = [.ref p] ∧ SqL X.K H p ys ∧ ∀ l (o : Obj), H l = none → o.dict = none → o.slots = #[] → Q (.ref l) (upd H l (.frz o (.tup ys)))) := by
  intro pins s σ H xs us Q I r hyp
  obtain ⟨p, ys, rfl, hq, fin⟩ := hyp
  obtain ⟨u, rfl, rx⟩ := vals1 r
  cases rx
  obtain ⟨its, r', pl, hz⟩ := I.list hq
  have w1 : its.length = ys.length := r'.length.symm
  refine call_tuple_list pl.isList (fun h' kp => ?_) (by rw [List.size_toArray, w1]; exact hz)
  have J : Inv X pins σ H { s with heap := h' } := I.kept (t' := s.toks) kp
  have J2 : Inv X pins σ (upd H h'.objs.size (.frz { cls := .type "tuple", data := .seq its.toArray } (.tup ys))) { s with heap := h'.push { cls := .type "tuple", data := .seq its.toArray } } :=
    J.laid (t' := s.toks) (fun b o e => Heap.get?_push_of_some _ e) (Nat.le_refl _) ⟨Heap.get?_push_size _ rfl, hz, its, r', IsTup.new _ _⟩
  exact ⟨.ref h'.objs.size, _, J2, rfl, fin _ _ (J.hok.fresh (Nat.le_refl _)) rfl rfl⟩
/-! ### dict(t) of a tuple of pairs -/
theorem pairs_list {pins : List (Addr × Obj)} {σ : L2.St} {H : Hp} {s : Shared} (I : Inv X pins σ H s) : ∀ {ps : List Addr} {kvs : List (Key × V)}, Paired (fun p kv => SqT X.K H p [kV kv.1, kv.2]) ps kvs →
    ∃ (prs : List (Key × Value)) (psv : List (Value × Value)), KV kvs prs ∧ prs.length = ps.length ∧ psv.length = ps.length ∧ ∀ (j : Nat) (u v : Value), psv[j]? = some (u, v) → ∃ b k, ps[j]? = some b ∧ prs[j]? = some (k, v) ∧ IsTup s.heap b #[u, v] ∧ keyIs k u = true
  | _, _, .nil => ⟨[], [], .nil, rfl, rfl, fun j u v e => by simp at e⟩
  | _, _, .cons (a := p) (b := kv) h t => by
    obtain ⟨prs, psv, r, l1, l2, hp⟩ := pairs_list I t
    obtain ⟨its, rv, ht, _⟩ := I.tuple h
    obtain ⟨u, y, ei, ru, ry⟩ := vals2 rv
    subst ei
    refine ⟨(kv.1, y) :: prs, (u, y) :: psv, .cons ⟨rfl, ry⟩ r, by simp [l1], by simp [l2], fun j u' v' e => ?_⟩
    cases j with
    | zero =>
      cases (Option.some.inj e)
      exact ⟨p, kv.1, rfl, rfl, ht, kV_is (P := X.prog) (w := X.w) ru⟩
    | succ j => exact hp j u' v' (by simpa using e)
theorem call_dictT (hcalm : X.calm = true) : CallR X (.type "dict") (fun xs H Q => ∃ (a : Addr) (o : Obj) (ps : List Addr) (kvs : List (Key × V)), xs = [.ref a] ∧ H a = some (.frz o (.tup (ps.map V.ref))) ∧ o.dict = none ∧ Paired (fun p kv => SqT X.K H p [kV kv.1, kv.2]) ps kvs ∧
    ∀ p, H p = none → Q (.ref p) (upd H p (.dK (mergeK [] kvs)))) := by
  intro pins s σ H xs us Q I r hyp
  obtain ⟨a, o, ps, kvs, ex, hq, hd, hp, fin⟩ := hyp
  subst ex
  obtain ⟨u, eu, rx⟩ := vals1 r
  subst eu
  cases rx
  obtain ⟨e2, hz, its, rv, hT⟩ := (show ObjOk X.prog X.w H s.heap a (.frz o (.tup (ps.map V.ref))) from I.hok a _ hq)
  obtain ⟨o2, e3, hc2, n2, hd2⟩ := hT
  rw [e2] at e3
  cases e3
  have ei := refs_at rv
  subst ei
  rw [List.length_map] at hz
  obtain ⟨prs, psv, rel, l1, l2, hpr⟩ := pairs_list I hp
  have items : PairItems s.heap (ps.map Value.ref).toArray (fun j => ps.getD j 0) psv := by
    refine ⟨by simp [l2], fun j k v e => ?_⟩
    obtain ⟨b, k', e1, _, e4, _⟩ := hpr j k v e
    refine ⟨by simp [e1], ?_⟩
    have eb : ps.getD j 0 = b := by simp [List.getD, e1]
    show PairAt s.heap (ps.getD j 0) k v
    rw [eb]
    exact .inl e4
  refine PySem.call_dict_pairs (knd := mixKind X.prog X.w) (kvs := prs) (PairArg.tuple a (ps.map Value.ref).toArray (fun j => ps.getD j 0) psv) (I.ok.hd hcalm) ⟨⟨o, n2, e2, hc2, hd, hd2⟩, items⟩ ⟨by rw [l1, l2], fun i key v e => ?_⟩ (by rw [l2]; exact hz) fun h' tk hd' k => ?_
  · obtain ⟨b, k', _, e5, _, e6⟩ := hpr i key v e
    exact ⟨k', e5, e6⟩
  · have hm : (s.heap.objs.size == sysModules) = false := beq_eq_false_iff_ne.mpr (Nat.ne_of_gt I.big)
    have few : (mergeK [] kvs).length ≤ sizeLine := by
      have z := length_mergeK kvs []
      rw [List.length_nil, Nat.zero_add, rel.length, l1] at z
      exact Nat.le_trans z hz
    exact ⟨.ref s.heap.objs.size, _, I.laid (t' := tk) (fun b o q => k b o (by simp) q) (Nat.le_refl _) (show ObjOk X.prog X.w _ _ _ (.dK (mergeK [] kvs)) from ⟨few, hm, merged [] prs, KV.merge rel .nil, hd'⟩), rfl, fin _ (I.hok.fresh (Nat.le_refl _))⟩
end
end Kx
namespace Kx
open PySem PySem.Spec PyProof.Rows L2
/-- a block cut behind its first statement: what holds there is named -/
theorem pss_cutK {X : Cx} {st : Stmt} {rest : List Stmt} {t u : TS} (h1 : PS X st t) (h2 : PSs X rest u) :
    PSs X (st :: rest) (fun D σ H => ∃ Mid : L2.St → Hp → Prop, t { D with nx := Mid } σ H ∧ ∀ σ' H', Mid σ' H' → u D σ' H') := Evl.pss_cut h1 h2
end Kx
namespace Kx
open PySem PySem.Spec PyProof.Rows L2
section
variable {X : Cx}
/-- a test, an expression, with a word behind it: what follows is shown once -/
theorem pt_cut {e : Expr} {t : TT} (h : PT X e t) : PT X e (fun σ H Q => ∃ M : Bool → Hp → Prop, t σ H M ∧ ∀ b H1, M b H1 → Q b H1) :=
  ⟨fun pins s σ H Q I ⟨M, hm, k⟩ => thn (h.run pins s σ H M I hm) fun b s1 ⟨H1, I1, q⟩ => ⟨H1, I1, k b H1 q⟩⟩
theorem pe_cut {e : Expr} {t : TE} (h : PE X e t) : PE X e (fun σ H Q => ∃ M : VK, t σ H M ∧ ∀ v H1, M v H1 → Q v H1) :=
  ⟨fun pins s σ H Q I ⟨M, hm, k⟩ => thn (h.run pins s σ H M I hm) fun b s1 ⟨v, H1, I1, r, q⟩ => ⟨v, H1, I1, r, k v H1 q⟩⟩
end
end Kx
namespace Kx
open PySem PySem.Spec PyProof.Rows L2
/-- a comprehension without a test: its element is asked -/
theorem yes_if {σ : L2.St} {H : Hp} {A B : Hp → Prop} (h : A H) : tYes σ H (fun b H3 => if b = true then A H3 else B H3) := by
  have e : (if true = true then A H else B H) := iteT h
  exact e
end Kx
/-! The mathematics: values as trees, what the two sides compute. -/
namespace Kx
open PySem PySem.Spec PyProof.Rows L2
inductive PV where
  | str (z : Str)
  | oth
  | tup (xs : List PV)
mutual
/-- how deep it is -/
def dep : PV → Nat
  | .str _ => 1
  | .oth => 1
  | .tup ts => 1 + depL ts
def depL : List PV → Nat
  | [] => 0
  | t :: r => max (dep t) (depL r)
end
theorem dep_pos : ∀ t : PV, 1 ≤ dep t
  | .str _ => by simp [dep]
  | .oth => by simp [dep]
  | .tup ts => by simp [dep]
theorem depL_mem : ∀ {l : List PV} {t : PV}, t ∈ l → dep t ≤ depL l
  | a :: r, t, h => by
    rcases List.mem_cons.mp h with rfl | h
    · simp only [depL]; omega
    · have := depL_mem h
      simp only [depL]; omega
theorem depL_le {l : List PV} {c : Nat} (h : ∀ t ∈ l, dep t ≤ c) : depL l ≤ c := by
  induction l with
  | nil => simp [depL]
  | cons a r ih =>
    have h1 := h a (List.mem_cons_self ..)
    have h2 := ih fun t ht => h t (List.mem_cons_of_mem _ ht)
    simp only [depL]; omega
/-- the number of parts of the maker with a word -/
def look (mk : List (Str × Int)) (w : Str) : Option Int := (mk.find? fun kv => kv.1 == w).map (·.2)
mutual
/-- is it a term (nm) or a tree? -/
def form (mk : List (Str × Int)) (nm : Bool) : PV → Bool
  | .str z => nm && (look mk z).isNone
  | .oth => false
  | .tup [] => false
  | .tup (.oth :: _) => false
  | .tup (.tup _ :: _) => false
  | .tup (.str w :: r) => (look mk w == some (r.length : Int)) && formL mk nm r
def formL (mk : List (Str × Int)) (nm : Bool) : List PV → Bool
  | [] => true
  | t :: r => form mk nm t && formL mk nm r
end
theorem formL_all (mk : List (Str × Int)) (nm : Bool) : ∀ l : List PV, formL mk nm l = l.all (form mk nm)
  | [] => rfl
  | t :: r => by simp only [formL, List.all_cons, formL_all mk nm r]
mutual
/-- the shape of a term: a text, or a tuple of a text and terms -/
def Tm : PV → Prop
  | .str _ => True
  | .oth => False
  | .tup [] => False
  | .tup (.oth :: _) => False
  | .tup (.tup _ :: _) => False
  | .tup (.str _ :: r) => TmL r
def TmL : List PV → Prop
  | [] => True
  | t :: r => Tm t ∧ TmL r
end
theorem TmL_mem : ∀ {l : List PV}, (∀ t ∈ l, Tm t) → TmL l
  | [], _ => trivial
  | t :: r, h => ⟨h t (List.mem_cons_self ..), TmL_mem fun x hx => h x (List.mem_cons_of_mem _ hx)⟩
theorem mem_TmL : ∀ {l : List PV}, TmL l → ∀ t ∈ l, Tm t
  | a :: r, h, t, ht => by
    rcases List.mem_cons.mp ht with rfl | ht
    · exact h.1
    · exact mem_TmL h.2 t ht
mutual
theorem form_tm {mk : List (Str × Int)} {nm : Bool} : ∀ t : PV, form mk nm t = true → Tm t
  | .str z, _ => trivial
  | .tup (.str w :: r), h => by
    simp only [form, Bool.and_eq_true] at h
    exact formL_tm r h.2
  | .oth, h => by simp [form] at h
  | .tup [], h => by simp [form] at h
  | .tup (.oth :: _), h => by simp [form] at h
  | .tup (.tup _ :: _), h => by simp [form] at h
theorem formL_tm {mk : List (Str × Int)} {nm : Bool} : ∀ l : List PV, formL mk nm l = true → TmL l
  | [], _ => trivial
  | t :: r, h => by
    simp only [formL, Bool.and_eq_true] at h
    exact ⟨form_tm t h.1, formL_tm r h.2⟩
end
end Kx
/-! The heap: what stands for a tree; the promises of the defs. -/
namespace Kx
open PySem PySem.Spec PyProof.Rows L2
/-- all its signs are signs -/
abbrev sok (z : Str) : Bool := PyData.strOk z
mutual
/-- the value v stands for the tree -/
inductive Is (H : Hp) : V → PV → Prop
  | str (z : Str) (ok : sok z = true) : Is H (.str z) (.str z)
  | non : Is H .non .oth
  | bl (b : Bool) : Is H (.bl b) .oth
  | int (i : Int) : Is H (.int i) .oth
  | lst {a : Addr} (e : ∃ xs, H a = some (.lst xs)) : Is H (.ref a) .oth
  | dict {a : Addr} {kvs : List (Key × V)} (e : H a = some (.dK kvs)) : Is H (.ref a) .oth
  | tup {a : Addr} {vs : List V} {ts : List PV} (e : H a = some (.tup vs)) (h : IsL H vs ts) : Is H (.ref a) (.tup ts)
inductive IsL (H : Hp) : List V → List PV → Prop
  | nil : IsL H [] []
  | cons {v : V} {vs : List V} {t : PV} {ts : List PV} (h : Is H v t) (r : IsL H vs ts) : IsL H (v :: vs) (t :: ts)
end
mutual
theorem Is.same {H H' : Hp} (x : Same H H') : ∀ {v : V} {t : PV}, Is H v t → Is H' v t
  | _, _, .str z k => .str z k
  | _, _, .non => .non
  | _, _, .bl b => .bl b
  | _, _, .int i => .int i
  | _, _, .lst e => .lst (e.elim fun xs e => ⟨xs, x _ _ e⟩)
  | _, _, .dict e => .dict (x _ _ e)
  | _, _, .tup e h => .tup (x _ _ e) (IsL.same x h)
theorem IsL.same {H H' : Hp} (x : Same H H') : ∀ {v : List V} {t : List PV}, IsL H v t → IsL H' v t
  | _, _, .nil => .nil
  | _, _, .cons h r => .cons (Is.same x h) (IsL.same x r)
end
theorem same_upd {H : Hp} {p : Addr} (h : H p = none) (o : HO) : Same H (upd H p o) := fun b u e => by rw [upd_ne (ne_of_none e h)]; exact e
theorem IsL.len {H : Hp} : ∀ {v : List V} {t : List PV}, IsL H v t → v.length = t.length
  | _, _, .nil => rfl
  | _, _, .cons _ r => by simp [IsL.len r]
theorem IsL.get {H : Hp} : ∀ {v : List V} {t : List PV}, IsL H v t → ∀ {i : Nat} {x : V}, v[i]? = some x → ∃ y, t[i]? = some y ∧ Is H x y
  | _, _, .nil, i, x, h => by simp at h
  | _, _, .cons h r, 0, x, e => by cases (Option.some.inj e); exact ⟨_, rfl, h⟩
  | _, _, .cons h r, i + 1, x, e => IsL.get r (by simpa using e)
theorem IsL.append {H : Hp} : ∀ {v : List V} {t : List PV} {v' : List V} {t' : List PV}, IsL H v t → IsL H v' t' → IsL H (v ++ v') (t ++ t')
  | _, _, _, _, .nil, h => h
  | _, _, _, _, .cons a r, h => .cons a (r.append h)
theorem IsL.take {H : Hp} : ∀ (n : Nat) {v : List V} {t : List PV}, IsL H v t → IsL H (v.take n) (t.take n)
  | 0, _, _, _ => .nil
  | n + 1, _, _, .nil => .nil
  | n + 1, _, _, .cons a r => .cons a (r.take n)
theorem IsL.drop {H : Hp} : ∀ (n : Nat) {v : List V} {t : List PV}, IsL H v t → IsL H (v.drop n) (t.drop n)
  | 0, _, _, h => h
  | n + 1, _, _, .nil => .nil
  | n + 1, _, _, .cons a r => r.drop n
theorem IsL.reverse {H : Hp} : ∀ {v : List V} {t : List PV}, IsL H v t → IsL H v.reverse t.reverse
  | _, _, .nil => .nil
  | _, _, .cons a r => by simp only [List.reverse_cons]; exact r.reverse.append (.cons a .nil)
theorem IsL.snoc_inv {H : Hp} {v : List V} {t : List PV} {x : V} (h : IsL H v t) (e : v[v.length - 1]? = some x) (hn : v ≠ []) : ∃ ts y, t = ts ++ [y] ∧ Is H x y ∧ IsL H v.dropLast ts := by
  have hl := h.len
  have hv : 0 < v.length := by cases v with | nil => exact absurd rfl hn | cons _ _ => simp
  obtain ⟨y, e2, hy⟩ := h.get e
  refine ⟨t.take (t.length - 1), y, ?_, hy, ?_⟩
  · have : t.length - 1 < t.length := by omega
    have e3 : t[t.length - 1]'this = y := by
      rw [hl, List.getElem?_eq_getElem this] at e2
      exact Option.some.inj e2
    have h2 := List.take_append_drop (t.length - 1) t
    have h3 : t.drop (t.length - 1) = [y] := by
      rw [List.drop_eq_getElem_cons this, e3, List.drop_eq_nil_of_le (by omega)]
    rw [h3] at h2
    exact h2.symm
  · rw [List.dropLast_eq_take, hl]
    exact h.take _
theorem Is.str_inv {H : Hp} {v : V} {z : Str} (h : Is H v (.str z)) : v = .str z := by cases h; rfl
theorem Is.tup_inv {H : Hp} {v : V} {ts : List PV} (h : Is H v (.tup ts)) : ∃ a vs, v = .ref a ∧ H a = some (.tup vs) ∧ IsL H vs ts := by
  cases h with
  | tup e h => exact ⟨_, _, rfl, e, h⟩
/-! ### isinstance -/
def tyOf : PV → Value → Prop := fun t u => match t with
  | .str _ => u = .type "str"
  | .tup _ => u = .type "tuple"
  | .oth => u = .type "NoneType" ∨ u = .type "bool" ∨ u = .type "int" ∨ u = .type "list" ∨ u = .type "dict"
theorem Is.ty {K : PySem.W.Frag} {H : Hp} {v : V} {t : PV} (h : Is H v t) : ∃ u, TyX K H v u ∧ tyOf t u := by
  cases h with
  | str z _ => exact ⟨_, .base (.str z), rfl⟩
  | non => exact ⟨_, .base .non, .inl rfl⟩
  | bl b => exact ⟨_, .base (.bl b), .inr (.inl rfl)⟩
  | int i => exact ⟨_, .base (.int i), .inr (.inr (.inl rfl))⟩
  | lst e => obtain ⟨xs, e⟩ := e; exact ⟨_, .base (.lst e), .inr (.inr (.inr (.inl rfl)))⟩
  | dict e => exact ⟨_, .base (.dK e), .inr (.inr (.inr (.inr rfl)))⟩
  | tup e h => exact ⟨_, .base (.tup e), rfl⟩
def isStr : PV → Bool
  | .str _ => true
  | _ => false
def isTup : PV → Bool
  | .tup _ => true
  | _ => false
theorem kit_str {K : PySem.W.Frag} {t : PV} {u : Value} (h : tyOf t u) : PySem.W.kitOne K u (.type "str") = some (isStr t) := by
  cases t with
  | str z => cases h; exact kit_ty (show kitB "str" "str" = some true by decide +kernel)
  | tup ts => cases h; exact kit_ty (show kitB "tuple" "str" = some false by decide +kernel)
  | oth => rcases h with rfl | rfl | rfl | rfl | rfl <;> exact kit_ty (by decide +kernel)
theorem kit_tup {K : PySem.W.Frag} {t : PV} {u : Value} (h : tyOf t u) : PySem.W.kitOne K u (.type "tuple") = some (isTup t) := by
  cases t with
  | str z => cases h; exact kit_ty (show kitB "str" "tuple" = some false by decide +kernel)
  | tup ts => cases h; exact kit_ty (show kitB "tuple" "tuple" = some true by decide +kernel)
  | oth => rcases h with rfl | rfl | rfl | rfl | rfl <;> exact kit_ty (by decide +kernel)
/-- what isinstance asks of such a value -/
theorem isi_str {K : PySem.W.Frag} {H : Hp} {v : V} {t : PV} {Q : VK} (h : Is H v t) (q : Q (.bl (isStr t)) H) : rIsi K [v, .ty "str"] H Q := by
  obtain ⟨u, a, b⟩ := h.ty (K := K)
  exact ⟨_, _, u, _, _, rfl, .ty _, a, kit_str b, q⟩
theorem isi_tup {K : PySem.W.Frag} {H : Hp} {v : V} {t : PV} {Q : VK} (h : Is H v t) (q : Q (.bl (isTup t)) H) : rIsi K [v, .ty "tuple"] H Q := by
  obtain ⟨u, a, b⟩ := h.ty (K := K)
  exact ⟨_, _, u, _, _, rfl, .ty _, a, kit_tup b, q⟩
theorem Paired.imp {α β : Type} {F G : α → β → Prop} : ∀ {l : List α} {m : List β}, Paired F l m → (∀ a b, F a b → G a b) → Paired G l m
  | _, _, .nil, _ => .nil
  | _, _, .cons h t, f => .cons (f _ _ h) (Paired.imp t f)
theorem Same.own {l : Addr} {H H1 : Hp} (x : Same H H1) (hl : H l = none) (o : HO) : Same H (upd H1 l o) := fun b u h => by rw [upd_ne (ne_of_none h hl)]; exact x b u h
end Kx
set_option maxHeartbeats 2000000
/-! == of a term and any value; del of the first items of a list. -/
namespace Kx
open PySem PySem.Spec PyProof.Rows L2
open MeetsSeq
open AutoSeq1 (wpAny_loadPart')
theorem str_declines_dict (b : Str) (u : Tok) (l : Addr) (c : Value) (es : Array DictEntry) (n : Nat) (dd : Option Addr) (sl : Array (Option Value)) :
    Meets (Builtin.«str.__eq__» ⟨[.str b u, .ref l], []⟩) (fun _ R s => s.heap.get? l = some { cls := c, dict := dd, data := .dict es n, slots := sl } ∧ R (.ok (.ret .notImplemented)) s) :=
  .of_wp fun prog w A R s h => by obtain ⟨hp, g, d, tk, os⟩ := s; obtain ⟨hl, h⟩ := h; wp_walk using wpAny_loadPart' hl, wpAny_load hl; exact ⟨_, rfl, h⟩
theorem tuple_declines_dict (l b : Addr) (items : Array Value) (n n2 : Nat) (dd dd2 : Option Addr) (sl sl2 : Array (Option Value)) (es : Array DictEntry) :
    Meets (Builtin.«tuple.__eq__» ⟨[.ref l, .ref b], []⟩) (fun _ R s => s.heap.get? l = some { cls := .type "tuple", dict := dd, data := .seq items n, slots := sl } ∧ s.heap.get? b = some { cls := .type "dict", dict := dd2, data := .dict es n2, slots := sl2 } ∧ R (.ok (.ret .notImplemented)) s) :=
  .of_wp fun prog w A R s h => by obtain ⟨hp, g, d, tk, os⟩ := s; obtain ⟨hl, hb, h⟩ := h; have f1 := F.sub_dict_tuple; wp_walk using wpAny_loadPart' hl, wpAny_loadPart' hb; exact ⟨_, rfl, h⟩
section
variable {prog : Program} {w : World} {A : Around} {E : Value → Shared → Prop} {s : Shared}
theorem dict_declines {b : Addr} {v : Value} {T : String} {Q : Value → Shared → Prop} (hb : s.TypeIs (.ref b) "dict") (hv : s.TypeIs v T) (hs : isSubtype (.type T) (.type "dict") = pure false) (h : Q .notImplemented s) :
    wpAny (model prog w) A (call (.builtin "dict.__eq__") [.ref b, v]) Q E s := by
  refine wpAny_call_entry PySem.F.slot_dict_eq hb PySem.F.entry_dict_eq ?_ (PySem.F.args_dict_eq_2 _ _)
  show wpAny _ _ (Builtin.Dict.dictSlotArgs "__eq__" ⟨[.ref b, v], []⟩ >>= _) _ _ s
  refine wpAny_bind ?_
  unfold Builtin.Dict.dictSlotArgs
  refine wpAny_bind (wpAny_notOrdered_dict hb ?_)
  show wpAny _ _ (pure (Value.ref b, v)) _ _ s
  refine wpAny_pure ?_
  refine wpAny_bind (wpAny_isInstance (T := T) hv hs ?_)
  simp only [Bool.not_false, if_true]
  refine wpAny_bind (wpAny_rule (wpAny_bind (wpAny_pure (wpAny_pure ⟨_, rfl, h⟩))))
end
section
variable {A : Around} {s : Shared}
/-- an exact dict stands at an address -/
def DictAt (s : Shared) (a : Addr) : Prop := ∃ es n dd sl, s.heap.get? a = some { cls := .type "dict", dict := dd, data := .dict es n, slots := sl }
theorem DictAt.typeIs {a : Addr} (h : DictAt s a) : s.TypeIs (.ref a) "dict" := by
  obtain ⟨es, n, dd, sl, h⟩ := h
  exact ⟨_, h, rfl⟩
theorem dictAt {X : Cx} {pins : List (Addr × Obj)} {σ : L2.St} {H : Hp} (I : Inv X pins σ H s) {a : Addr} {kvs : List (Key × V)} (e : H a = some (.dK kvs)) : DictAt s a := by
  obtain ⟨_, ya, va, ra, da⟩ := (show ObjOk X.prog X.w H s.heap a (.dK kvs) from I.hok a _ e)
  obtain ⟨⟨cls, dd, data, sl⟩, es, ep, h1, h2, h3, _⟩ := da
  simp only at h3
  subst h3
  have hc : cls = .type "dict" := h2.1
  subst hc
  exact ⟨es, ep, dd, sl, h1⟩
theorem eq_str_dict {a : Addr} (e : DictAt s a) (b : Str) (u : Tok) (hu : A.units < cLine) : SeqAt.EqAt A s (.str b u) (.ref a) false := fun prog w E Q h => by
  unfold eqBool
  refine wpAny_holding ?_
  refine wpAny_ite_split (fun hab => absurd (eq_of_beq hab) nofun) (fun _ => ?_)
  obtain ⟨es, n, dd, sl, ha⟩ := id e
  refine wpAny_bind (SeqAt.rc_eq_decline_or (k := false) (typeIs_str s b u) e.typeIs (by decide) PySem.F.sub_dict_str PySem.F.slot_str_eq PySem.F.slot_dict_eq_refl
    (fun _ hq => call_meets PySem.F.slot_str_eq (typeIs_str s b u) PySem.F.entry_str_eq (PySem.F.args_str_eq_2 _ _) (str_declines_dict b u a (.type "dict") es n dd sl) ⟨ha, hq⟩)
    (fun _ hq => dict_declines e.typeIs (typeIs_str s b u) PySem.F.sub_str_dict hq)
    (fun _ hq => wpAny_of_eq (rfl : isSame (.str b u) (.ref a) = pure false) hq) (.inr hu) (wpAny_truthy_bool h))
theorem eq_tuple_dict {l a : Addr} {items : Array Value} (hl : s.heap.IsTuple l items) (e : DictAt s a) (hu : A.units < cLine) : SeqAt.EqAt A s (.ref l) (.ref a) false := by
  obtain ⟨⟨cls, dd, data, sl⟩, ho, hc, n, hd⟩ := id hl
  obtain ⟨es, n2, dd2, sl2, ha⟩ := id e
  simp only at hc hd
  subst hc hd
  have hne : l ≠ a := fun q => by
    subst q
    rw [ho] at ha
    have := congrArg Obj.cls (Option.some.inj ha)
    simp at this
  refine .of_refs hne fun prog w E Q h => ?_
  exact SeqAt.rc_eq_decline_or (k := false) ⟨_, ho, rfl⟩ e.typeIs (by decide) PySem.F.sub_dict_tuple PySem.F.slot_tuple_eq PySem.F.slot_dict_eq_refl
    (fun _ hq => call_meets PySem.F.slot_tuple_eq ⟨_, ho, rfl⟩ PySem.F.entry_tuple_eq (PySem.F.args_tuple_eq_2 _ _) (tuple_declines_dict l a items n n2 dd dd2 sl sl2 es) ⟨ho, ha, hq⟩)
    (fun _ hq => dict_declines e.typeIs ⟨_, ho, rfl⟩ PySem.F.sub_tuple_dict hq)
    (fun _ hq => SeqAt.wpAny_isSame_ref_other' hne ho ha (by simp) hq) (.inr hu) h
end
/-! ### a term and any value -/
theorem isL_det_of {H : Hp} : True := trivial
mutual
theorem Is.det {H : Hp} : ∀ {v : V} {t t' : PV}, Is H v t → Is H v t' → t = t'
  | _, _, _, .str z _, .str _ _ => rfl
  | _, _, _, .non, .non => rfl
  | _, _, _, .bl b, .bl _ => rfl
  | _, _, _, .int i, .int _ => rfl
  | _, _, _, .lst e, h => by
    cases h with
    | lst _ => rfl
    | dict _ => rfl
    | tup e2 _ => obtain ⟨xs, e⟩ := e; rw [e] at e2; cases e2
  | _, _, _, .dict e, h => by
    cases h with
    | lst _ => rfl
    | dict _ => rfl
    | tup e2 _ => rw [e] at e2; cases e2
  | _, _, _, .tup e a, h => by
    cases h with
    | lst e2 => obtain ⟨xs, e2⟩ := e2; rw [e] at e2; cases e2
    | dict e2 => rw [e] at e2; cases e2
    | tup e2 b =>
      rw [e] at e2
      cases e2
      rw [IsL.det a b]
theorem IsL.det {H : Hp} : ∀ {v : List V} {t t' : List PV}, IsL H v t → IsL H v t' → t = t'
  | _, _, _, .nil, .nil => rfl
  | _, _, _, .cons a r, .cons b q => by rw [Is.det a b, IsL.det r q]
end
open Classical in
/-- are they one tree -/
noncomputable def one (a b : PV) : Bool := decide (a = b)
theorem one_self (a : PV) : one a a = true := by simp [one]
theorem one_ne {a b : PV} (h : a ≠ b) : one a b = false := by simp [one, h]
theorem one_iff {a b : PV} : one a b = true ↔ a = b := by simp [one]
theorem eq_term {X : Cx} {pins : List (Addr × Obj)} {σ : L2.St} {H : Hp} {s : Shared} (I : Inv X pins σ H s) : ∀ (n : Nat) (A : Around), A.units + n < cLine → ∀ (x y : V) (v u : Value) (a b : PV), dep a ≤ n → Is H x a → Tm a → Is H y b → RelV x v → RelV y u → SeqAt.EqAt A s v u (one a b)
  | 0, _, _, _, _, _, _, a, _, h, _, _, _, _, _ => absurd (dep_pos a) (by omega)
  | n + 1, A, hu, x, y, v, u, a, b, hc, ha, ta, hb, rx, ry => by
    have hu0 : A.units < cLine := by omega
    cases ha with
    | non => exact absurd ta id
    | bl _ => exact absurd ta id
    | int _ => exact absurd ta id
    | lst _ => exact absurd ta id
    | dict _ => exact absurd ta id
    | str z ok =>
      obtain ⟨t, rfl⟩ := (show ∃ t, v = Value.str z t from rx)
      cases hb with
      | str z2 ok2 =>
        obtain ⟨t2, rfl⟩ := (show ∃ t, u = Value.str z2 t from ry)
        have e : one (.str z) (.str z2) = (z == z2) := by
          by_cases q : z = z2
          · subst q; simp [one]
          · rw [one_ne (fun e => q (PV.str.inj e))]; simp [q]
        rw [e]
        exact .str_str z t z2 t2
      | non =>
        cases (show u = Value.none from ry)
        rw [one_ne (by simp)]
        exact .str_none _ _
      | bl b =>
        cases (show u = Value.bool b from ry)
        rw [one_ne (by simp)]
        exact .str_bool _ _ _
      | int i =>
        obtain ⟨t2, rfl⟩ := (show ∃ t, u = Value.int i t from ry)
        rw [one_ne (by simp)]
        exact .str_int _ _ _ _
      | lst e =>
        obtain ⟨xs, e⟩ := e
        cases (show u = Value.ref _ from ry)
        obtain ⟨us, r1, p1, _⟩ := I.list (SqL.of e)
        rw [one_ne (by simp)]
        exact .str_list _ _ p1.isList hu0
      | dict e =>
        cases (show u = Value.ref _ from ry)
        rw [one_ne (by simp)]
        exact eq_str_dict (dictAt I e) _ _ hu0
      | tup e h =>
        cases (show u = Value.ref _ from ry)
        obtain ⟨its, r, ht, _⟩ := I.tuple (.inl (.inl e))
        rw [one_ne (by simp)]
        exact .str_tuple _ _ ht hu0
    | @tup p vs ts e hL =>
      cases (show v = Value.ref _ from rx)
      obtain ⟨its, r, ht, _⟩ := I.tuple (.inl (.inl e))
      cases hb with
      | str z2 ok2 =>
        obtain ⟨t2, rfl⟩ := (show ∃ t, u = Value.str z2 t from ry)
        rw [one_ne (by simp)]
        exact .tuple_str _ _ ht hu0
      | non =>
        cases (show u = Value.none from ry)
        rw [one_ne (by simp)]
        exact .tuple_none ht hu0
      | bl b =>
        cases (show u = Value.bool b from ry)
        rw [one_ne (by simp)]
        exact .tuple_bool _ ht hu0
      | int i =>
        obtain ⟨t2, rfl⟩ := (show ∃ t, u = Value.int i t from ry)
        rw [one_ne (by simp)]
        exact .tuple_int _ _ ht hu0
      | lst e2 =>
        obtain ⟨xs, e2⟩ := e2
        cases (show u = Value.ref _ from ry)
        obtain ⟨us, r1, p1, _⟩ := I.list (SqL.of e2)
        rw [one_ne (by simp)]
        exact .tuple_list ht p1.isList hu0
      | dict e2 =>
        cases (show u = Value.ref _ from ry)
        rw [one_ne (by simp)]
        exact eq_tuple_dict ht (dictAt I e2) hu0
      | @tup p2 vs2 ts2 e2 hL2 =>
        cases (show u = Value.ref _ from ry)
        obtain ⟨its2, r2, ht2, _⟩ := I.tuple (.inl (.inl e2))
        by_cases hp : p = p2
        · subst hp
          rw [e] at e2
          cases e2
          rw [IsL.det hL hL2, one_self]
          exact .same _
        have l1 := r.length
        have l2 := r2.length
        have m1 := hL.len
        have m2 := hL2.len
        have key : one (.tup ts) (.tup ts2) = ((List.range (min its.toArray.size its2.toArray.size)).all (fun j => one (ts.getD j .oth) (ts2.getD j .oth)) && its.toArray.size == its2.toArray.size) := by
          rw [Bool.eq_iff_iff, one_iff, Bool.and_eq_true, List.all_eq_true, beq_iff_eq]
          simp only [List.size_toArray]
          constructor
          · intro q
            cases q
            exact ⟨fun j _ => one_self _, by omega⟩
          · rintro ⟨h1, h2⟩
            refine congrArg PV.tup (List.ext_getElem (by omega) fun j g1 g2 => ?_)
            have := one_iff.mp (h1 j (List.mem_range.mpr (by omega)))
            simpa [List.getD, g1, g2] using this
        rw [key]
        refine .of_refs hp (.tuples ht ht2 hu0 fun j h1 h2 => ?_)
        have j1 : j < vs.length := by rw [l1]; simpa using h1
        have j2 : j < vs2.length := by rw [l2]; simpa using h2
        obtain ⟨a1, ea, ia⟩ := hL.get (List.getElem?_eq_getElem j1)
        obtain ⟨b1, eb, ib⟩ := hL2.get (List.getElem?_eq_getElem j2)
        have ga : ts.getD j .oth = a1 := by simp [List.getD, ea]
        have gb : ts2.getD j .oth = b1 := by simp [List.getD, eb]
        rw [ga, gb]
        have mA := List.mem_of_getElem? ea
        have tA : Tm a1 := by
          cases ts with
          | nil => simp at ea
          | cons t0 tr =>
            cases t0 with
            | oth => exact absurd ta id
            | tup _ => exact absurd ta id
            | str z =>
              rcases List.mem_cons.mp mA with rfl | q
              · trivial
              · exact mem_TmL ta _ q
        have cA := depL_mem mA
        have cT : dep (.tup ts) = 1 + depL ts := rfl
        refine eq_term I n A.in1 (by show A.units + 1 + n < cLine; omega) vs[j] vs2[j] _ _ a1 b1 (by omega) ia tA ib ?_ ?_
        · obtain ⟨q, e1, e2⟩ := Vals.get r (List.getElem?_eq_getElem j1)
          have : its.toArray[j] = q := by
            have h1' : j < its.length := by simpa using h1
            rw [List.getElem?_eq_getElem h1'] at e1
            simpa using Option.some.inj e1
          rw [this]; exact e2
        · obtain ⟨q, e1, e2⟩ := Vals.get r2 (List.getElem?_eq_getElem j2)
          have : its2.toArray[j] = q := by
            have h2' : j < its2.length := by simpa using h2
            rw [List.getElem?_eq_getElem h2'] at e1
            simpa using Option.some.inj e1
          rw [this]; exact e2
/-- x == y, a tuple that is a term and a tuple -/
def rTm : R2 := fun x y H Q => ∃ ts us, Is H x (.tup ts) ∧ Tm (.tup ts) ∧ dep (.tup ts) ≤ 100 ∧ Is H y (.tup us) ∧ ∀ k : Bool, (k = true → ts = us) → Q (.bl k) H
theorem rc_term {X : Cx} {pins : List (Addr × Obj)} {σ : L2.St} {H : Hp} {s : Shared} (I : Inv X pins σ H s) {A : Around} {p p2 : Addr} {ts ts2 : List PV} (hu : A.units + 101 < cLine) (hc : dep (.tup ts) ≤ 100) (ha : Is H (.ref p) (.tup ts)) (ta : Tm (.tup ts)) (hb : Is H (.ref p2) (.tup ts2)) :
    SeqAt.RcAt A s (.ref p) (.ref p2) (one (.tup ts) (.tup ts2)) := by
  cases ha with
  | @tup _ vs _ e hL =>
  cases hb with
  | @tup _ vs2 _ e2 hL2 =>
  obtain ⟨its, r, ht, _⟩ := I.tuple (.inl (.inl e))
  obtain ⟨its2, r2, ht2, _⟩ := I.tuple (.inl (.inl e2))
  have l1 := r.length
  have l2 := r2.length
  have m1 := hL.len
  have m2 := hL2.len
  have key : one (.tup ts) (.tup ts2) = ((List.range (min its.toArray.size its2.toArray.size)).all (fun j => one (ts.getD j .oth) (ts2.getD j .oth)) && its.toArray.size == its2.toArray.size) := by
    rw [Bool.eq_iff_iff, one_iff, Bool.and_eq_true, List.all_eq_true, beq_iff_eq]
    simp only [List.size_toArray]
    constructor
    · intro q
      cases q
      exact ⟨fun j _ => one_self _, by omega⟩
    · rintro ⟨h1, h2⟩
      refine congrArg PV.tup (List.ext_getElem (by omega) fun j g1 g2 => ?_)
      have := one_iff.mp (h1 j (List.mem_range.mpr (by omega)))
      simpa [List.getD, g1, g2] using this
  rw [key]
  refine .tuples ht ht2 (by omega) fun j h1 h2 => ?_
  have j1 : j < vs.length := by rw [l1]; simpa using h1
  have j2 : j < vs2.length := by rw [l2]; simpa using h2
  obtain ⟨a1, ea, ia⟩ := hL.get (List.getElem?_eq_getElem j1)
  obtain ⟨b1, eb, ib⟩ := hL2.get (List.getElem?_eq_getElem j2)
  have ga : ts.getD j .oth = a1 := by simp [List.getD, ea]
  have gb : ts2.getD j .oth = b1 := by simp [List.getD, eb]
  rw [ga, gb]
  have mA := List.mem_of_getElem? ea
  have tA : Tm a1 := by
    cases ts with
    | nil => simp at ea
    | cons t0 tr =>
      cases t0 with
      | oth => exact absurd ta id
      | tup _ => exact absurd ta id
      | str z =>
        rcases List.mem_cons.mp mA with rfl | q
        · trivial
        · exact mem_TmL ta _ q
  have cA := depL_mem mA
  have cT : dep (.tup ts) = 1 + depL ts := rfl
  refine eq_term I 100 A.in1 (by show A.units + 1 + 100 < cLine; omega) vs[j] vs2[j] _ _ a1 b1 (by omega) ia tA ib ?_ ?_
  · obtain ⟨q, e1, e2⟩ := Vals.get r (List.getElem?_eq_getElem j1)
    have : its.toArray[j] = q := by
      have h1' : j < its.length := by simpa using h1
      rw [List.getElem?_eq_getElem h1'] at e1
      simpa using Option.some.inj e1
    rw [this]; exact e2
  · obtain ⟨q, e1, e2⟩ := Vals.get r2 (List.getElem?_eq_getElem j2)
    have : its2.toArray[j] = q := by
      have h2' : j < its2.length := by simpa using h2
      rw [List.getElem?_eq_getElem h2'] at e1
      simpa using Option.some.inj e1
    rw [this]; exact e2
section
variable {X : Cx}
theorem u101 {A : Around} {k : Nat} (r : Room k A) : A.units + 101 < cLine := by have := r.un; omega
theorem op_tm (hu : X.A.units + 101 < cLine) : OpR X (compareOp .Eq) rTm := by
  intro pins s σ H x y v u Q I rx ry h
  obtain ⟨ts, us, ha, ta, hc, hb, q⟩ := h
  obtain ⟨p, _, rfl, _⟩ := ha.tup_inv
  obtain ⟨p2, _, rfl, _⟩ := hb.tup_inv
  cases (show v = Value.ref p from rx)
  cases (show u = Value.ref p2 from ry)
  exact rc_term I hu hc ha ta hb _ _ _ _ ⟨.bl _, H, I, rfl, q _ fun k => PV.tup.inj (one_iff.mp k)⟩
end
/-! ### del xs[:-n] -/
def sel (m : Int) (i : Nat) : Bool := if (1 : Int) > 0 then decide ((0 : Int) ≤ (i : Int)) && decide ((i : Int) < m) && ((i : Int) - 0) % 1 == 0 else decide (m < (i : Int)) && decide ((i : Int) ≤ 0) && ((0 : Int) - i) % (-1) == 0
def keepTo (m : Int) : Array Value → Array Value := fun xs => (xs.toList.zipIdx.filterMap fun (x, k) => if sel m k then none else some x).toArray
theorem sel_eq (m : Nat) (i : Nat) : sel (m : Int) i = decide (i < m) := by
  unfold sel
  rw [if_pos (by decide)]
  have h0 : ((i : Int) - 0) % 1 = 0 := by omega
  rw [h0]
  have h1 : decide ((0 : Int) ≤ (i : Int)) = true := decide_eq_true (by omega)
  have h2 : decide ((i : Int) < (m : Int)) = decide (i < m) := decide_eq_decide.mpr (by omega)
  rw [h1, h2]
  simp
theorem keep_drop {α : Type} (m : Nat) : ∀ (l : List α) (k : Nat), (l.zipIdx k).filterMap (fun (x, i) => if decide (i < m) = true then none else some x) = l.drop (m - k)
  | [], k => by simp
  | x :: r, k => by
    rw [List.zipIdx_cons, List.filterMap_cons]
    have ih := keep_drop m r (k + 1)
    by_cases h : k < m
    · simp only [decide_eq_true h, if_true]
      rw [ih, show m - k = (m - (k + 1)) + 1 from by omega, List.drop_succ_cons]
    · have h' : decide (k < m) = false := decide_eq_false h
      simp only [h', Bool.false_eq_true, if_false]
      rw [ih, show m - k = 0 from by omega, show m - (k + 1) = 0 from by omega]
      rfl
theorem keepTo_eq (m : Nat) (its : List Value) : keepTo (m : Int) its.toArray = (its.drop m).toArray := by
  unfold keepTo
  congr 1
  have := keep_drop m its 0
  simp only [Nat.sub_zero] at this
  rw [← this]
  simp only [sel_eq]
theorem bounds_to {n len : Nat} : sliceBounds none (some (-(n + 1 : Nat) : Int)) none len = ((0 : Int), ((len - (n + 1) : Nat) : Int), 1) := by
  simp only [sliceBounds, Option.getD_none]
  simp only [show (1 : Int) > 0 by decide, if_true]
  have h1 : (-((n + 1 : Nat) : Int)) < 0 := by omega
  simp only [h1, if_true]
  congr 2
  omega
section
variable {prog : Program} {w : World} {A : Around} {E : Value → Shared → Prop} {s : Shared}
theorem delItem_to {l sl : Addr} {items : Array Value} {n k : Nat} {vu : Value} {Q : Unit → Shared → Prop}
    (e : s.heap.get? l = some { cls := .type "list", data := .seq items n }) (hs : s.heap.IsSliceOf sl .none vu .none) (pu : IsPart vu (some (-(k + 1 : Nat) : Int)))
    (hsz : items.size ≤ sizeLine) (h : Q () { s with heap := s.heap.update l (Obj.mapSeq (keepTo ((items.size - (k + 1) : Nat) : Int))) }) :
    wpAny (model prog w) A (delItem (.ref l) (.ref sl)) Q E s := by
  have hl : s.heap.IsList l items := PySem.IsL.isList e
  obtain ⟨os, hos, hcs, hds⟩ := id hs
  have hTs : s.TypeIs (.ref sl) "slice" := ⟨os, hos, hcs⟩
  have hstep : ¬ ((rawPart none == rawInt 0) = true) := Bool.false_ne_true
  have hz' : (keepTo ((items.size - (k + 1) : Nat) : Int) items).size ≤ sizeLine + 1 := by
    have := keepTo_eq (items.size - (k + 1)) items.toList
    rw [Array.toArray_toList] at this
    rw [this, List.size_toArray, List.length_drop, Array.length_toList]
    omega
  refine wpAny_delItem_slot hl.typeIs (by decide) PySem.F.slot_list_delitem (wpAny_call_entry PySem.F.slot_list_delitem hl.typeIs PySem.F.entry_list_delitem ?_ (PySem.F.args_list_delitem_2 _ _))
  show wpAny _ _ (Builtin.List.listSubscript? (.ref sl) >>= _) _ _ s
  refine wpAny_bind ?_
  unfold Builtin.List.listSubscript?
  refine wpAny_bind (wpAny_specialOf hTs slice_no_index ?_)
  simp only [Option.isNone_none, if_true]
  refine wpAny_pure ?_
  show wpAny _ _ (typeOf (.ref sl) >>= _) _ _ s
  refine wpAny_bind (wpAny_typeOf hTs ?_)
  first
    | rw [if_neg (by decide)]
    | refine PySem.W.KFB.if_not (by decide) ?_
  rw [listSliceParts_eq]
  refine wpAny_bind (wpAny_bind (wpAny_field hos hds (x := .none) rfl (wpAny_bind (wpAny_listPart .none ?_))))
  rw [if_neg hstep]
  refine wpAny_bind (wpAny_field hos hds (x := .none) rfl (wpAny_bind (wpAny_listPart .none ?_)))
  refine wpAny_bind (wpAny_field hos hds (x := vu) rfl (wpAny_bind (wpAny_listPart pu (wpAny_pure ?_))))
  show wpAny _ _ (Builtin.List.listItems (.ref l) >>= _) _ _ s
  unfold Builtin.List.listItems
  refine wpAny_bind (wpAny_bind (wpAny_seqItems e rfl (wpAny_pure ?_)))
  refine wpAny_bind (wpAny_of_eq ((sliceIndices_raw none (some (-(k + 1 : Nat) : Int)) none items.size (by simp)).trans (congrArg (pure : Int × Int × Int → Sem (Int × Int × Int)) bounds_to)) ?_)
  refine wpAny_bind (wpAny_rule ?_)
  show wpAny _ _ (updateSeq l (keepTo ((items.size - (k + 1) : Nat) : Int)) >>= _) _ _ s
  refine wpAny_bind (wpAny_updateSeq (hz := hsz) (_hz' := hz') e rfl ?_)
  refine wpAny_bind (wpAny_letGo ?_)
  first
    | exact wpAny_pure ⟨.none, rfl, h⟩
    | exact wpAny_bind (wpAny_pure (wpAny_pure ⟨.none, rfl, h⟩))
    | exact wpAny_pure ⟨.none, rfl, wpAny_pure h⟩
end
section
variable {X : Cx}
theorem del_to {pins : List (Addr × Obj)} {s : Shared} {σ : L2.St} {H : Hp} {l sl : Addr} {xs : List V} {k : Nat} {vu : Value} {Q : Unit → Shared → Prop} (I : Inv X pins σ H s) (hH : H l = some (.lst xs))
    (hs : s.heap.IsSliceOf sl .none vu .none) (pu : IsPart vu (some (-(k + 1 : Nat) : Int))) (h : ∀ s', Inv X pins σ (upd H l (.lst (xs.drop (xs.length - (k + 1))))) s' → Q () s') :
    wpAny (model X.prog X.w) X.A (delItem (.ref l) (.ref sl)) Q X.xe s := by
  obtain ⟨z, its, n, r, hl, e⟩ := I.lstM hH
  refine delItem_to (k := k) e hs pu (by rw [List.size_toArray]; omega) (h _ ?_)
  refine I.lset (its' := its.drop (its.length - (k + 1))) (t' := s.toks) hH e ?_ ?_ ?_
  · rw [List.size_toArray]; exact keepTo_eq _ its
  · rw [← hl]; exact r.drop _
  · rw [List.length_drop]; omega
/-- del o[:i] of a list, i below zero -/
def tDelTo (to ti : TE) : TS := fun D σ H => to σ H fun x H1 => tPart ti σ H1 fun o H2 => ∃ (l : Addr) (xs : List V) (k : Nat), x = .ref l ∧ o = some (-(k + 1 : Nat) : Int) ∧ H2 l = some (.lst xs) ∧ D.nx σ (upd H2 l (.lst (xs.drop (xs.length - (k + 1)))))
theorem ps_delTo {o i : Expr} {to ti : TE} {p3 tpos pos : Pos} (ho : PE X o to) (hi : PE X i ti) : PS X (.Delete [.Subscript o (.Slice none (some i) none p3) tpos] pos) (tDelTo to ti) := by
  refine ⟨fun pins s σ H D I h => ?_⟩
  refine wpAny_Delete (wpAny_deleteEach_cons (wpAny_delete_Subscript (thn (ho.run pins s σ H _ I h) fun u s1 ⟨x, H1, I1, rx, q1⟩ => ?_)))
  refine wpAny_Slice (thn (po_none.run pins s1 σ H1 (fun o H2 => o = none ∧ H2 = H1) I1 ⟨rfl, rfl⟩) fun vl s2 ⟨a, H2, I2, pl, el, e2⟩ => ?_)
  subst el e2
  refine thn ((po_some hi).run pins s2 σ H2 (fun o H3 => ∃ (l : Addr) (xs : List V) (k : Nat), x = .ref l ∧ o = some (-(k + 1 : Nat) : Int) ∧ H3 l = some (.lst xs) ∧ D.nx σ (upd H3 l (.lst (xs.drop (xs.length - (k + 1)))))) I2 q1) fun vu s3 ⟨b, H3, I3, pu, l, xs, k, ex, eb, hH, q⟩ => ?_
  refine thn (po_none.run pins s3 σ H3 (fun o H4 => o = none ∧ H4 = H3) I3 ⟨rfl, rfl⟩) fun vs s4 ⟨c, H4, I4, ps, ec, e4⟩ => ?_
  subst ec e4 ex eb
  cases (show u = Value.ref l from rx)
  have I5 : Inv X pins σ H4 { s4 with heap := s4.heap.push { cls := .type "slice", data := .fields #[vl, vu, vs] } } := I4.kept (t' := s4.toks) fun b ob q => Heap.get?_push_of_some _ q
  have hs := Heap.IsSliceOf.new s4.heap vl vu vs
  cases pl
  cases ps
  exact del_to I5 hH hs pu fun s' I' => wpAny_deleteEach_nil ⟨σ, _, I', q⟩
end
end Kx
namespace Kx
open PySem PySem.Spec PyProof.Rows L2
section
variable {P : Program} {w : World} {K : PySem.W.Frag} {mg : Str → Option Value} {base : Heap}
/-! ### what is kept -/
/-- all but lists and dicts stands -/
def Tu (H H' : Hp) : Prop := ∀ b o, H b = some o → (∀ xs, o ≠ .lst xs) → (∀ kvs, o ≠ .dK kvs) → H' b = some o
theorem Tu.refl (H : Hp) : Tu H H := fun _ _ h _ _ => h
theorem Tu.trans {H H1 H2 : Hp} (a : Tu H H1) (b : Tu H1 H2) : Tu H H2 := fun c o e h1 h2 => b c o (a c o e h1 h2) h1 h2
theorem Tu.of {H H1 : Hp} (s : Same H H1) : Tu H H1 := fun c o e _ _ => s c o e
theorem Tu.lst {H : Hp} {l : Addr} {xs : List V} (h : H l = some (.lst xs)) (ys : List V) : Tu H (upd H l (.lst ys)) := fun b o e h1 _ => by
  by_cases q : b = l
  · subst q; rw [h] at e; exact absurd (Option.some.inj e).symm (h1 xs)
  · rw [upd_ne q]; exact e
theorem Tu.dict {H : Hp} {l : Addr} {xs : List (Key × V)} (h : H l = some (.dK xs)) (ys : List (Key × V)) : Tu H (upd H l (.dK ys)) := fun b o e _ h1 => by
  by_cases q : b = l
  · subst q; rw [h] at e; exact absurd (Option.some.inj e).symm (h1 xs)
  · rw [upd_ne q]; exact e
theorem valV_mem {kvs : List (Key × V)} {k : Key} {v : V} (h : valV kvs k = some v) : (k, v) ∈ kvs := by
  unfold valV at h
  cases e : kvs.find? (fun kv => decide (kv.1 = k)) with
  | none => rw [e] at h; cases h
  | some kv =>
    rw [e] at h
    have h1 := List.find?_some e
    have h2 := List.mem_of_find?_eq_some e
    have h3 : kv.1 = k := of_decide_eq_true h1
    have h4 : kv.2 = v := Option.some.inj h
    rw [← h3, ← h4]; exact h2
/-- what stands for a result, for a tree's items -/
abbrev ResT := Hp → V → List PV → Prop
def Stable (R : ResT) : Prop := ∀ H H' v ts, Tu H H' → R H v ts → R H' v ts
def PairOk (R : ResT) (H0 H : Hp) (x : V) : Prop := ∃ p v r ts, x = .ref p ∧ H p = some (.tup [v, r]) ∧ Is H0 v (.tup ts) ∧ Tm (.tup ts) ∧ dep (.tup ts) ≤ 100 ∧ R H r ts
structure RowOk (W : List Str) (R : ResT) (H0 H : Hp) (kv : Key × V) : Prop where
  key : ∃ w, kv.1 = Sum.inr w ∧ w ∈ W
  row : ∃ r xs, kv.2 = .ref r ∧ H0 r = none ∧ H r = some (.lst xs) ∧ xs.length ≤ 32 ∧ ∀ x ∈ xs, PairOk R H0 H x
structure KeptAt (C : Addr) (W : List Str) (R : ResT) (H0 H : Hp) (ko : Addr) : Prop where
  at_ : ∃ dx d kvs, H ko = some (.ins C dx [("rows", .ref d)]) ∧ H d = some (.dK kvs) ∧ H0 d = none ∧ (kvs.map (·.1)).Nodup ∧ ∀ kv ∈ kvs, RowOk W R H0 H kv
/-- its own dict and lists -/
def Own (H : Hp) (ko b : Addr) : Prop := ∃ C dx d, H ko = some (.ins C dx [("rows", .ref d)]) ∧ (b = d ∨ ∃ kvs, H d = some (.dK kvs) ∧ ∃ kv ∈ kvs, kv.2 = .ref b)
/-- all but its own stands -/
structure Fr (ko : Addr) (H H' : Hp) : Prop where
  tu : Tu H H'
  keep : ∀ b o, H b = some o → ¬ Own H ko b → H' b = some o
  own : ∀ b, Own H' ko b → Own H ko b ∨ H b = none
theorem Fr.refl (ko : Addr) (H : Hp) : Fr ko H H := ⟨.refl H, fun _ _ h _ => h, fun _ h => .inl h⟩
theorem Fr.trans {ko : Addr} {H H1 H2 : Hp} (a : Fr ko H H1) (b : Fr ko H1 H2) : Fr ko H H2 := by
  refine ⟨a.tu.trans b.tu, fun c o e n => b.keep c o (a.keep c o e n) fun q => ?_, fun c q => ?_⟩
  · rcases a.own c q with z | z
    · exact n z
    · rw [e] at z; cases z
  · rcases b.own c q with z | z
    · exact a.own c z
    · cases e : H c with
      | none => exact .inr rfl
      | some o =>
        refine .inl (Classical.byContradiction fun n => ?_)
        have := a.keep c o e n
        rw [z] at this; cases this
theorem Own.same {H H' : Hp} {ko b : Addr} (s : Same H H') (h : Own H ko b) : Own H' ko b := by
  obtain ⟨C, dx, d, e, q⟩ := h
  refine ⟨C, dx, d, s _ _ e, ?_⟩
  rcases q with q | ⟨kvs, e2, q⟩
  · exact .inl q
  · exact .inr ⟨kvs, s _ _ e2, q⟩
theorem Own.back {C : Addr} {W : List Str} {R : ResT} {H0 H H' : Hp} {ko b : Addr} (s : Same H H') (k : KeptAt C W R H0 H ko) (h : Own H' ko b) : Own H ko b := by
  obtain ⟨dx, d, kvs, e1, e2, _⟩ := k
  obtain ⟨C', dx', d', f1, q⟩ := h
  rw [s _ _ e1] at f1
  cases f1
  refine ⟨_, _, d, e1, ?_⟩
  rcases q with q | ⟨kvs', f2, q⟩
  · exact .inl q
  · rw [s _ _ e2] at f2
    cases f2
    exact .inr ⟨kvs, e2, q⟩
theorem Own.there {C : Addr} {W : List Str} {R : ResT} {H0 H : Hp} {ko b : Addr} (k : KeptAt C W R H0 H ko) (h : Own H ko b) : H b ≠ none := by
  obtain ⟨dx, d, kvs, e1, e2, _, _, h5⟩ := k
  obtain ⟨C', dx', d', f1, q⟩ := h
  rw [e1] at f1
  cases f1
  rcases q with q | ⟨kvs', f2, kv, m, q⟩
  · rw [q, e2]; simp
  · rw [e2] at f2
    cases f2
    obtain ⟨_, r, xs, g, _, g2, _⟩ := h5 kv m
    rw [g] at q
    cases q
    rw [g2]; simp
theorem Own.of {C : Addr} {W : List Str} {R : ResT} {H0 H : Hp} {ko b : Addr} {o : HO} (k : KeptAt C W R H0 H ko) (h : H b = some o) (n1 : ∀ xs, o ≠ .lst xs) (n2 : ∀ kvs, o ≠ .dK kvs) : ¬ Own H ko b := fun q => by
  obtain ⟨dx, d, kvs, e1, e2, _, _, h5⟩ := k
  obtain ⟨C', dx', d', f1, q⟩ := q
  rw [e1] at f1
  cases f1
  rcases q with q | ⟨kvs', f2, kv, m, q⟩
  · rw [q, e2] at h; exact n2 _ (Option.some.inj h).symm
  · rw [e2] at f2
    cases f2
    obtain ⟨_, r, xs, g, _, g2, _⟩ := h5 kv m
    rw [g] at q
    cases q
    rw [g2] at h; exact n1 _ (Option.some.inj h).symm
theorem Fr.of {C : Addr} {W : List Str} {R : ResT} {H0 H H' : Hp} {ko : Addr} (s : Same H H') (k : KeptAt C W R H0 H ko) : Fr ko H H' := ⟨.of s, fun b o e _ => s b o e, fun b q => .inl (q.back s k)⟩
theorem PairOk.tu {R : ResT} {H0 H H' : Hp} {x : V} (st : Stable R) (t : Tu H H') (h : PairOk R H0 H x) : PairOk R H0 H' x := by
  obtain ⟨p, v, r, ts, e, hp, a, b, c, d⟩ := h
  exact ⟨p, v, r, ts, e, t _ _ hp (fun _ q => by cases q) (fun _ q => by cases q), a, b, c, st _ _ _ _ t d⟩
theorem RowOk.step {W : List Str} {R : ResT} {H0 H H' : Hp} {kv : Key × V} (h : RowOk W R H0 H kv) (hl : ∀ r xs, H0 r = none → H r = some (.lst xs) → xs.length ≤ 32 → (∀ x ∈ xs, PairOk R H0 H x) → ∃ ys, H' r = some (.lst ys) ∧ ys.length ≤ 32 ∧ ∀ x ∈ ys, PairOk R H0 H' x) : RowOk W R H0 H' kv := by
  obtain ⟨k, r, xs, e, h0, h1, h2, h3⟩ := h
  obtain ⟨ys, g1, g2, g3⟩ := hl r xs h0 h1 h2 h3
  exact ⟨k, r, ys, e, h0, g1, g2, g3⟩
theorem RowOk.same {W : List Str} {R : ResT} {H0 H H' : Hp} {kv : Key × V} (st : Stable R) (s : Same H H') (h : RowOk W R H0 H kv) : RowOk W R H0 H' kv :=
  h.step fun r xs _ h1 h2 h3 => ⟨xs, s _ _ h1, h2, fun x hx => (h3 x hx).tu st (.of s)⟩
theorem KeptAt.same {C : Addr} {W : List Str} {R : ResT} {H0 H H' : Hp} {ko : Addr} (st : Stable R) (s : Same H H') (h : KeptAt C W R H0 H ko) : KeptAt C W R H0 H' ko := by
  obtain ⟨dx, d, kvs, h1, h2, h3, h4, h5⟩ := h
  exact ⟨dx, d, kvs, s _ _ h1, s _ _ h2, h3, h4, fun kv m => (h5 kv m).same st s⟩
/-- a list that is not its own is written -/
theorem KeptAt.own {C : Addr} {W : List Str} {R : ResT} {H0 H : Hp} {ko l : Addr} {xs : List V} (st : Stable R) (h : KeptAt C W R H0 H ko) (e : H l = some (.lst xs)) (n : ¬ Own H ko l) (ys : List V) : KeptAt C W R H0 (upd H l (.lst ys)) ko := by
  have t := Tu.lst e ys
  obtain ⟨dx, d, kvs, h1, h2, h3, h4, h5⟩ := id h
  have nd : d ≠ l := fun z => n ⟨_, _, d, h1, .inl z.symm⟩
  refine ⟨dx, d, kvs, t _ _ h1 (fun _ z => by cases z) (fun _ z => by cases z), by rw [upd_ne nd]; exact h2, h3, h4, fun kv m => ?_⟩
  obtain ⟨k, r, xs', e1, e0, e2, e3, e4⟩ := h5 kv m
  have nr : r ≠ l := fun z => n ⟨_, _, d, h1, .inr ⟨kvs, h2, kv, m, by rw [e1, z]⟩⟩
  exact ⟨k, r, xs', e1, e0, by rw [upd_ne nr]; exact e2, e3, fun x hx => (e4 x hx).tu st t⟩
theorem few_rows {W : List Str} {R : ResT} {H0 H : Hp} {kvs : List (Key × V)} (nd : (kvs.map (·.1)).Nodup) (h : ∀ kv ∈ kvs, RowOk W R H0 H kv) : kvs.length ≤ W.length := by
  have s : kvs.map (·.1) ⊆ W.map (fun w => (Sum.inr w : Key)) := by
    intro k hk
    obtain ⟨kv, m, rfl⟩ := List.mem_map.mp hk
    obtain ⟨w, e, hw⟩ := (h kv m).key
    rw [e]
    exact List.mem_map.mpr ⟨w, hw, rfl⟩
  have := nd.length_le_of_subset s
  simpa using this
/-! ### the methods -/
def spKInit (C : Addr) : Sp := fun vs H Q _ => ∃ (x dx : Addr), vs = [.ref x] ∧ H x = some (.ins C dx []) ∧ ∀ d, H d = none → Q .non (upd (upd H d (.dK [])) x (.ins C dx [("rows", .ref d)]))
def spKPair (C : Addr) : Sp := fun vs H Q _ => ∃ (ko a : Addr) (w : Str) (us : List V) (ts : List PV) (W : List Str) (R : ResT) (H0 : Hp), vs = [.ref ko, .ref a] ∧ Stable R ∧ Same H0 H ∧ KeptAt C W R H0 H ko ∧ H0 a = some (.tup (.str w :: us)) ∧ Is H0 (.ref a) (.tup (.str w :: ts)) ∧
  ∀ e, H e = none → Q .non (upd H e (.lst [])) ∧ ∀ p v r, upd H e (.lst []) p = some (.tup [v, r]) → R (upd H e (.lst [])) r (.str w :: ts) → Q (.ref p) (upd H e (.lst []))
def spKKeep (C : Addr) : Sp := fun vs H Q _ => ∃ (ko a : Addr) (rv : V) (w : Str) (us : List V) (ts : List PV) (W : List Str) (R : ResT) (H0 : Hp), vs = [.ref ko, .ref a, rv] ∧ Stable R ∧ Same H0 H ∧ KeptAt C W R H0 H ko ∧ W.length ≤ 20 ∧ H0 a = some (.tup (.str w :: us)) ∧ Is H0 (.ref a) (.tup (.str w :: ts)) ∧ w ∈ W ∧ Tm (.tup (.str w :: ts)) ∧ dep (.tup (.str w :: ts)) ≤ 100 ∧ R H rv (.str w :: ts) ∧
  ∀ H', Same H0 H' → Fr ko H H' → KeptAt C W R H0 H' ko → Q .non H'
theorem ok_Kept_init (T : Txt K mg)  : FnOk P w K mg base CX0 1 T.a_Kept_init T.d_Kept_init ["self"] (spKInit T.c_Kept) := by
  refine T.F_Kept_init.ok sc_Kept_init (fun vs H Q E h => ?_) (fun cdv A outer s H vs Q E hr h => ?_)
  · obtain ⟨x, dx, rfl, _⟩ := h; rfl
  · obtain ⟨x, dx, rfl, ex, q⟩ := h
    refine ⟨_, (pss_one (ps_fld (pv 0) pe_dnewK rfl)), ?_⟩
    intro d hd
    exact ⟨_, rfl, x, _, dx, [], rfl, (by rw [upd_ne (ne_of_none ex hd)]; exact ex), T.cl_Kept, T.no_Kept_rows, (by decide), q d hd⟩
theorem ok_Kept_pair_of (T : Txt K mg)  : FnOk P w K mg base CX0 1 T.a_Kept_pair_of T.d_Kept_pair_of ["self", "tree"] (spKPair T.c_Kept) := by
  refine T.F_Kept_pair_of.ok sc_Kept_pair_of (fun vs H Q E h => ?_) (fun cdv A outer s H vs Q E hr h => ?_)
  · obtain ⟨ko, a, w, us, ts, W, R, H0, rfl, _⟩ := h; rfl
  · obtain ⟨ko, a, w, us, ts, W, R, H0, rfl, st, s0, hK, ea, hI, q⟩ := h
    have hu := hu_of hr
    refine ⟨_, (pss_cons (ps_for PassesOwn.never rfl (RT.pi_revA (by rfl) T.z_reversed (pe_dget2 hu (pe_fld (pv 0) rfl) (pe_ix ix_tup (pv 1) pe_int (fun _ _ => rfl)) (pe_lst pa_nil) ⟨rfl, rfl, rfl, rfl⟩)) (pg_name (i := 2) sc_Kept_pair_of.nd rfl (Or.inl rfl))
    (pss_one (ps_if (pt_cmpR (op_tm (u101 hr)) (pe_ix ix_tup (pv 2) pe_int (fun _ _ => rfl)) (pv 1) (nomark _)) (pss_one (ps_ret (pv 2))) pss_nil)))
    (pss_one (ps_ret pe_non))), ?_⟩
    obtain ⟨dx, d, kvs, h1, h2, h3, h4, h5⟩ := id hK
    refine ⟨_, rfl, ko, _, dx, _, _, rfl, h1, T.cl_Kept, T.no_Kept_rows, rfl, d, rfl, .inl ⟨_, .of h2⟩, _, rfl, a, _, _, _, rfl, rfl, .inl (.inl (s0 _ _ ea)), atI_nat (j := 0) rfl, ?_⟩
    refine ⟨by decide, fun e he => ?_⟩
    obtain ⟨q1, q2⟩ := q e he
    have se := same_upd he (.lst [])
    refine ⟨valV kvs (Sum.inr w), DGet.k (k := Sum.inr w) (se _ _ h2), ?_⟩
    have key : ∃ r xs, (valV kvs (Sum.inr w)).getD (.ref e) = .ref r ∧ upd H e (.lst []) r = some (.lst xs) ∧ ∀ x ∈ xs, PairOk R H0 (upd H e (.lst [])) x := by
      cases hv : valV kvs (Sum.inr w) with
      | none => exact ⟨e, [], rfl, upd_same, fun x hx => absurd hx (by simp)⟩
      | some v =>
        obtain ⟨_, r, xs, e1, _, e2, _, e3⟩ := (h5 _ (valV_mem hv)).same st se
        exact ⟨r, xs, e1, e2, e3⟩
    obtain ⟨r, xs, er, exs, hxs⟩ := key
    refine ⟨r, xs, er, .inl ⟨SqL.of exs, ?_⟩⟩
    refine RT.for_Itv (K := K) (a := r) (xs := xs) (fun i σ H2 => ∃ y, σ = [some (.ref ko), some (.ref a), y] ∧ H2 = upd H e (.lst [])) ⟨_, rfl, rfl⟩ (fun i σ H2 ⟨_, _, h⟩ => by rw [h]; exact SqL.of exs) ?_ ?_
    · rintro i x σ H2 hi hx ⟨y, rfl, rfl⟩
      obtain ⟨p, v, rv, us', ex, hp, hv, hf, hc, hR⟩ := hxs x (List.mem_of_getElem? hx)
      subst ex
      refine ⟨_, rfl, p, _, _, _, rfl, rfl, .inl (.inl hp), atI_nat (j := 0) rfl, _, rfl, us', _, hv.same (s0.trans se), hf, hc, hI.same (s0.trans se), fun k hk => ⟨_, rfl, ?_⟩⟩
      cases k with
      | true =>
        refine iteT ?_
        have e1 := hk rfl
        rw [e1] at hR
        exact ⟨_, rfl, q2 p v rv hp hR⟩
      | false => exact iteF ⟨_, rfl, rfl⟩
    · rintro σ H2 ⟨y, rfl, rfl⟩
      exact q1
theorem ok_Kept_keep (T : Txt K mg)  : FnOk P w K mg base CX0 1 T.a_Kept_keep T.d_Kept_keep ["self", "tree", "result"] (spKKeep T.c_Kept) := by
  refine T.F_Kept_keep.ok sc_Kept_keep (fun vs H Q E h => ?_) (fun cdv A outer s H vs Q E hr h => ?_)
  · obtain ⟨ko, a, rv, w, us, ts, W, R, H0, rfl, _⟩ := h; rfl
  · obtain ⟨ko, a, rv, w, us, ts, W, R, H0, rfl, st, s0, hK, m5, ea, hI, hw, hf, hc, hR, q⟩ := h
    have hu := hu_of hr
    refine ⟨_, (pss_cons (ps_set (i := 3) sc_Kept_keep.nd rfl (Or.inl rfl) (pe_dsetd (pe_fld (pv 0) rfl) (pe_ix ix_tup (pv 1) pe_int (fun _ _ => rfl)) (pe_lst pa_nil) ⟨rfl, rfl, rfl, rfl⟩))
    (pss_cons (ps_expr (pe_bm PySem.F.plainAttrs_list PySem.F.slot_list_append PySem.F.type_list_append mt_append (pv 3) (pa_cons (pe_tup (pa_cons (pv 1) (pa_cons (pv 2) pa_nil))) pa_nil)))
    (pss_one (ps_delTo (pv 3) (pe_un un_neg (pe_glob (by rfl) T.g_MOST_KEPT (show RelV (V.int 32) (.int 32 T.t_MOST_KEPT) from ⟨_, rfl⟩))))))), ?_⟩
    obtain ⟨dx, d, kvs, h1, h2, h3, h4, h5⟩ := id hK
    have few := few_rows h4 h5
    refine ⟨_, rfl, ko, _, dx, _, _, rfl, h1, T.cl_Kept, T.no_Kept_rows, rfl, d, rfl, .inl ⟨_, .of h2⟩, _, rfl, a, _, _, _, rfl, rfl, .inl (.inl (s0 _ _ ea)), atI_nat (j := 0) rfl, ?_⟩
    refine ⟨by decide, fun e he => ?_⟩
    have se := same_upd he (.lst [])
    have h0e : H0 e = none := s0.free he
    have s1 : Same H0 (upd H e (.lst [])) := s0.trans se
    -- what comes behind: the row r with the pairs xs, in a heap with all that is kept
    have rest : ∀ (r : Addr) (xs : List V) (H1 : Hp), Same H0 H1 → Fr ko H H1 → KeptAt T.c_Kept W R H0 H1 ko → Own H1 ko r → H0 r = none → H1 r = some (.lst xs) → xs.length ≤ 32 → (∀ x ∈ xs, PairOk R H0 H1 x) →
        ∀ p, H1 p = none → ∃ ys, ys = xs ++ [V.ref p] ∧ Q .non (upd (upd (upd H1 p (.tup [V.ref a, rv])) r (.lst ys)) r (.lst (ys.drop (ys.length - 32)))) := by
      intro r xs H1 sH tH kH or h0r er hl hx p hp
      refine ⟨_, rfl, ?_⟩
      have npr : p ≠ r := (ne_of_none er hp).symm
      have sp := same_upd hp (.tup [V.ref a, rv])
      have er1 : upd H1 p (.tup [V.ref a, rv]) r = some (.lst xs) := sp _ _ er
      have t1 : Tu H1 (upd (upd (upd H1 p (.tup [V.ref a, rv])) r (.lst (xs ++ [V.ref p]))) r (.lst ((xs ++ [V.ref p]).drop ((xs ++ [V.ref p]).length - 32)))) := (Tu.of sp).trans ((Tu.lst er1 _).trans (Tu.lst upd_same _))
      have pNew : PairOk R H0 (upd (upd (upd H1 p (.tup [V.ref a, rv])) r (.lst (xs ++ [V.ref p]))) r (.lst ((xs ++ [V.ref p]).drop ((xs ++ [V.ref p]).length - 32)))) (.ref p) :=
        ⟨p, _, _, _, rfl, by rw [upd_ne npr, upd_ne npr, upd_same], hI, hf, hc, st _ _ _ _ (tH.tu.trans t1) hR⟩
      have s2 : Same H0 (upd (upd (upd H1 p (.tup [V.ref a, rv])) r (.lst (xs ++ [V.ref p]))) r (.lst ((xs ++ [V.ref p]).drop ((xs ++ [V.ref p]).length - 32)))) := Kx.Same.own (Kx.Same.own (sH.trans sp) h0r _) h0r _
      obtain ⟨dx', d', kvs', g1, g2, g3, g4, g5⟩ := id kH
      have nd : d' ≠ r := fun z => by subst z; rw [er] at g2; cases g2
      have f1 : Fr ko H1 (upd (upd (upd H1 p (.tup [V.ref a, rv])) r (.lst (xs ++ [V.ref p]))) r (.lst ((xs ++ [V.ref p]).drop ((xs ++ [V.ref p]).length - 32)))) := by
        refine ⟨t1, fun b o e n => ?_, fun b ob => ?_⟩
        · have nb : b ≠ r := fun z => n (z ▸ or)
          rw [upd_ne nb, upd_ne nb]; exact sp _ _ e
        · obtain ⟨C', dx2, d2, z1, z2⟩ := ob
          have y1 := t1 _ _ g1 (fun _ z => by cases z) (fun _ z => by cases z)
          rw [y1] at z1
          cases z1
          refine .inl ⟨_, _, d', g1, ?_⟩
          rcases z2 with z2 | ⟨k2, z2, z3⟩
          · exact .inl z2
          · rw [upd_ne nd, upd_ne nd, sp _ _ g2] at z2
            cases z2
            exact .inr ⟨kvs', g2, z3⟩
      refine q _ s2 (tH.trans f1) ?_
      refine ⟨dx', d', kvs', t1 _ _ g1 (fun _ z => by cases z) (fun _ z => by cases z), ?_, g3, g4, fun kv m => (g5 kv m).step fun r' xs' z0 z1 z2 z3 => ?_⟩
      · rw [upd_ne nd, upd_ne nd]; exact sp _ _ g2
      · by_cases c : r' = r
        · subst c
          refine ⟨_, upd_same, ?_, fun x hx' => ?_⟩
          · rw [List.length_drop]; omega
          · rcases List.mem_append.mp (List.mem_of_mem_drop hx') with z | z
            · exact (hx x z).tu st t1
            · rw [List.mem_singleton.mp z]; exact pNew
        · exact ⟨xs', by rw [upd_ne c, upd_ne c]; exact sp _ _ z1, z2, fun x hx' => (z3 x hx').tu st t1⟩
    refine ⟨kvs, Sum.inr w, se _ _ h2, rfl, small1000 (by omega), fun v hv => ?_, fun hn => ?_⟩
    · have kH := hK.same st se
      obtain ⟨_, r, xs, e1, e0, e2, e3, e4⟩ := (h5 _ (valV_mem hv)).same st se
      subst e1
      refine ⟨_, rfl, .inl ⟨rfl, _, SqL.of e2⟩, _, rfl, _, rfl, (by show 2 ≤ sizeLine; decide), fun p hp => ?_⟩
      obtain ⟨ys, rfl, qq⟩ := rest r xs _ s1 (Fr.of se hK) kH ⟨_, _, d, se _ _ h1, .inr ⟨kvs, se _ _ h2, _, valV_mem hv, rfl⟩⟩ e0 e2 e3 e4 p hp
      exact ⟨r, xs, _, rfl, rfl, same_upd hp _ _ _ e2, small1000 (by omega), _, rfl, _, rfl, _, rfl, r, _, 31, rfl, rfl, upd_same, qq⟩
    · have hd : H0 d = none := h3
      have h2e : upd H e (.lst []) d = some (.dK kvs) := se _ _ h2
      have nde : d ≠ e := fun z => by subst z; rw [h2] at he; cases he
      have t1 : Tu H (upd (upd H e (.lst [])) d (.dK (putK kvs (Sum.inr w) (.ref e)))) := (Tu.of se).trans (Tu.dict h2e _)
      have hn2 : upd (upd H e (.lst [])) d (.dK (putK kvs (Sum.inr w) (.ref e))) e = some (.lst []) := by rw [upd_ne nde.symm, upd_same]
      have kH : KeptAt T.c_Kept W R H0 (upd (upd H e (.lst [])) d (.dK (putK kvs (Sum.inr w) (.ref e)))) ko := by
        refine ⟨dx, d, putK kvs (Sum.inr w) (.ref e), t1 _ _ h1 (fun _ z => by cases z) (fun _ z => by cases z), upd_same, h3, nd_putK _ h4 hn, fun kv m => ?_⟩
        rw [putK_new _ hn] at m
        rcases List.mem_append.mp m with m | m
        · refine (h5 kv m).step fun r xs z0 z1 z2 z3 => ⟨xs, ?_, z2, fun x hx => (z3 x hx).tu st t1⟩
          have nr : r ≠ d := fun z => by subst z; rw [h2] at z1; cases z1
          rw [upd_ne nr]; exact se _ _ z1
        · rw [List.mem_singleton.mp m]
          exact ⟨⟨w, rfl, hw⟩, e, [], rfl, h0e, hn2, by simp, fun x hx => absurd hx (by simp)⟩
      have oE : Own (upd (upd H e (.lst [])) d (.dK (putK kvs (Sum.inr w) (.ref e)))) ko e := ⟨_, dx, d, t1 _ _ h1 (fun _ z => by cases z) (fun _ z => by cases z), .inr ⟨_, upd_same, (Sum.inr w, .ref e), by rw [putK_new _ hn]; exact List.mem_append_right _ (List.mem_singleton.mpr rfl), rfl⟩⟩
      have f1 : Fr ko H (upd (upd H e (.lst [])) d (.dK (putK kvs (Sum.inr w) (.ref e)))) := by
        refine ⟨t1, fun b o eb n => ?_, fun b ob => ?_⟩
        · rw [upd_ne fun z => n ⟨_, _, d, h1, .inl z⟩]; exact se _ _ eb
        · obtain ⟨C', dx2, d2, z1, z2⟩ := ob
          have y1 := t1 _ _ h1 (fun _ z => by cases z) (fun _ z => by cases z)
          rw [y1] at z1
          cases z1
          rcases z2 with z2 | ⟨k2, z2, kv, z3, z4⟩
          · exact .inl ⟨_, _, d, h1, .inl z2⟩
          · rw [upd_same] at z2
            cases z2
            rw [putK_new _ hn] at z3
            rcases List.mem_append.mp z3 with z3 | z3
            · exact .inl ⟨_, _, d, h1, .inr ⟨kvs, h2, kv, z3, z4⟩⟩
            · rw [List.mem_singleton.mp z3] at z4
              cases z4
              exact .inr he
      refine ⟨_, rfl, .inl ⟨rfl, _, SqL.of hn2⟩, _, rfl, _, rfl, (by show 2 ≤ sizeLine; decide), fun p hp => ?_⟩
      obtain ⟨ys, rfl, qq⟩ := rest e [] _ (Kx.Same.own s1 hd _) f1 kH oE h0e hn2 (by simp) (fun x hx => absurd hx (by simp)) p hp
      exact ⟨e, [], _, rfl, rfl, same_upd hp _ _ _ hn2, by decide, _, rfl, _, rfl, _, rfl, e, _, 31, rfl, rfl, upd_same, qq⟩
end
end Kx
namespace Kx
open PySem PySem.Spec PyProof.Rows L2
section
variable {P : Program} {w : World} {K : PySem.W.Frag} {mg : Str → Option Value} {base : Heap}
mutual
/-- a raw value over the words W: no leaf, at most three parts -/
def Rv (W : List Str) : PV → Prop
  | .str _ => False
  | .oth => False
  | .tup [] => False
  | .tup (.oth :: _) => False
  | .tup (.tup _ :: _) => False
  | .tup (.str w :: r) => w ∈ W ∧ r.length ≤ 3 ∧ RvL W r
def RvL (W : List Str) : List PV → Prop
  | [] => True
  | t :: r => Rv W t ∧ RvL W r
end
theorem mem_RvL {W : List Str} : ∀ {l : List PV}, RvL W l → ∀ t ∈ l, Rv W t
  | a :: r, h, t, ht => by
    rcases List.mem_cons.mp ht with rfl | ht
    · exact h.1
    · exact mem_RvL h.2 t ht
mutual
theorem rv_tm {W : List Str} : ∀ {t : PV}, Rv W t → Tm t
  | .str _, h => absurd h id
  | .oth, h => absurd h id
  | .tup [], h => absurd h id
  | .tup (.oth :: _), h => absurd h id
  | .tup (.tup _ :: _), h => absurd h id
  | .tup (.str w :: r), h => rvL_tm h.2.2
theorem rvL_tm {W : List Str} : ∀ {l : List PV}, RvL W l → TmL l
  | [], _ => trivial
  | t :: r, h => ⟨rv_tm h.1, rvL_tm h.2⟩
end
theorem rv_inv {W : List Str} {t : PV} (h : Rv W t) : ∃ w ts, t = .tup (.str w :: ts) ∧ w ∈ W ∧ ts.length ≤ 3 ∧ RvL W ts := by
  cases t with
  | str _ => exact absurd h id
  | oth => exact absurd h id
  | tup l =>
    cases l with
    | nil => exact absurd h id
    | cons x r =>
      cases x with
      | oth => exact absurd h id
      | tup _ => exact absurd h id
      | str w => exact ⟨w, r, rfl, h.1, h.2.1, h.2.2⟩
theorem rvt_inv {W : List Str} {H : Hp} {v : V} {t : PV} (h : Rv W t) (i : Is H v t) : ∃ a w us ts, v = .ref a ∧ t = .tup (.str w :: ts) ∧ H a = some (.tup (.str w :: us)) ∧ IsL H us ts ∧ w ∈ W ∧ ts.length ≤ 3 ∧ RvL W ts := by
  obtain ⟨w, ts, rfl, h1, h2, h3⟩ := rv_inv h
  obtain ⟨a, vs, rfl, ea, hL⟩ := i.tup_inv
  cases hL with
  | cons h0 hL =>
    cases h0.str_inv
    exact ⟨a, w, _, ts, rfl, rfl, ea, hL, h1, h2, h3⟩
theorem cut_from (xs : List V) {k : Nat} (h : k ≤ xs.length) : cutV xs (some (k : Int)) none = xs.drop k := by
  unfold cutV
  rw [HT.sIx_nat, HT.sIx_none, Nat.min_eq_left h, List.take_of_length_le (by rw [List.length_drop]; exact Nat.le_refl _)]
theorem cut_to (xs : List V) {k : Nat} (h : k ≤ xs.length) : cutV xs none (some (k : Int)) = xs.take k := by
  unfold cutV
  rw [HT.sIx_nat, HT.sIx_none, Nat.min_eq_left h]
  rfl
/-- a list of one's own is written -/
theorem Own.wr {C : Addr} {W : List Str} {R : ResT} {H0 H : Hp} {ko l b : Addr} {xs ys : List V} (k : KeptAt C W R H0 H ko) (e : H l = some (.lst xs)) (n : ¬ Own H ko l) (h : Own (upd H l (.lst ys)) ko b) : Own H ko b := by
  obtain ⟨dx, d, kvs, e1, e2, _⟩ := k
  obtain ⟨C', dx', d', f1, q⟩ := h
  have nd : d ≠ l := fun z => n ⟨_, _, d, e1, .inl z.symm⟩
  rw [Tu.lst e ys _ _ e1 (fun _ z => by cases z) (fun _ z => by cases z)] at f1
  cases f1
  refine ⟨_, _, d, e1, ?_⟩
  rcases q with q | ⟨kvs', f2, q⟩
  · exact .inl q
  · rw [upd_ne nd, e2] at f2
    cases f2
    exact .inr ⟨kvs, e2, q⟩
theorem Fr.mine {C : Addr} {W : List Str} {R : ResT} {H0 H H3 : Hp} {ko l : Addr} {xs : List V} (x : Fr ko H H3) (k : KeptAt C W R H0 H3 ko) (hl : H l = none) (e : H3 l = some (.lst xs)) (n : ¬ Own H3 ko l) (ys : List V) : Fr ko H (upd H3 l (.lst ys)) := by
  refine ⟨fun b o eb n1 n2 => ?_, fun b o eb nb => ?_, fun b q => x.own b (q.wr k e n)⟩
  · rw [upd_ne (ne_of_none eb hl)]; exact x.tu b o eb n1 n2
  · rw [upd_ne (ne_of_none eb hl)]; exact x.keep b o eb nb
theorem slice1 {x : V} {vs : List V} : ¬ (HT.sIx (x :: vs).length 0 (some (1 : Int)) = 0 ∧ HT.sIx (x :: vs).length (x :: vs).length none = (x :: vs).length) := by
  intro e
  have h := e.1
  rw [show (1 : Int) = ((1 : Nat) : Int) from rfl, HT.sIx_nat, List.length_cons] at h
  omega
theorem cut1 {x : V} {vs : List V} : cutV (x :: vs) (some (1 : Int)) none = vs := cut_from (k := 1) (x :: vs) (by rw [List.length_cons]; omega)
/-! ### what reckoning over a value asks of the function that is handed on -/
/-- the results of the parts: one for each -/
inductive ResL (R : ResT) (H : Hp) : List V → List PV → Prop
  | nil : ResL R H [] []
  | cons {r : V} {rs : List V} {ts : List PV} {us : List PV} (h : R H r us) (t : ResL R H rs ts) : ResL R H (r :: rs) (.tup us :: ts)
theorem ResL.tu {R : ResT} {H H' : Hp} (st : Stable R) (s : Tu H H') : ∀ {rs : List V} {ts : List PV}, ResL R H rs ts → ResL R H' rs ts
  | _, _, .nil => .nil
  | _, _, .cons h t => .cons (st _ _ _ _ s h) (t.tu st s)
theorem ResL.snoc {R : ResT} {H : Hp} {r : V} {us : List PV} (h : R H r us) : ∀ {rs : List V} {ts : List PV}, ResL R H rs ts → ResL R H (rs ++ [r]) (ts ++ [.tup us])
  | _, _, .nil => .cons h .nil
  | _, _, .cons a t => .cons a (t.snoc h)
theorem ResL.len {R : ResT} {H : Hp} : ∀ {rs : List V} {ts : List PV}, ResL R H rs ts → rs.length = ts.length
  | _, _, .nil => rfl
  | _, _, .cons _ t => by simp [t.len]
/-- what the function does with a word and the parts' results -/
structure Reck (W : List Str) (n : Nat) (g : PV → Prop) (R : ResT) (H0 : Hp) (pre : Hp → Prop) (lsp : Sp) : Prop where
  st : Stable R
  mono : ∀ H H', Tu H H' → pre H → pre H'
  few : W.length ≤ 20
  down : ∀ w ts, g (.tup (.str w :: ts)) → ∀ t ∈ ts, g t
  run : ∀ (w : Str) (ts : List PV) (l : Addr) (rs : List V) (H : Hp) (Q : VK) (E : XK), g (.tup (.str w :: ts)) → Rv W (.tup (.str w :: ts)) → dep (.tup (.str w :: ts)) ≤ n → Same H0 H → pre H → H l = some (.lst rs) → ResL R H rs ts →
    (∀ r H', Same H H' → R H' r (.str w :: ts) → Q r H') → lsp [.str w, .ref l] H Q E
def spFold_ (P : Program) (w : World) (K : PySem.W.Frag) (mg : Str → Option Value) (base : Heap) (C : Addr) (k n : Nat) : Sp := fun vs H Q _ => ∃ (v : V) (t : List PV) (f ko : Addr) (W : List Str) (m : Nat) (g : PV → Prop) (R : ResT) (H0 : Hp) (pre : Hp → Prop) (lsp : Sp), vs = [v, .ref f, .ref ko] ∧
  KLm.LamOk P w K mg base k f 2 pre lsp ∧ Reck W m g R H0 pre lsp ∧ g (.tup t) ∧ pre H ∧ Same H0 H ∧ KeptAt C W R H0 H ko ∧ Is H0 v (.tup t) ∧ Rv W (.tup t) ∧ dep (.tup t) ≤ n ∧ dep (.tup t) ≤ 100 ∧ dep (.tup t) ≤ m ∧
  ∀ r H', Same H0 H' → Fr ko H H' → KeptAt C W R H0 H' ko → R H' r t → Q r H'
theorem ok_folded_ {n k : Nat} (T : Txt K mg) (G_folded_ : FnOk P w K mg base CX0 (n+k+2) T.a_folded_ T.d_folded_ ["tree", "reckon", "kept"] (spFold_ P w K mg base T.c_Kept k n)) (G_Kept_pair_of : FnOk P w K mg base CX0 1 T.a_Kept_pair_of T.d_Kept_pair_of ["self", "tree"] (spKPair T.c_Kept)) (G_Kept_keep : FnOk P w K mg base CX0 1 T.a_Kept_keep T.d_Kept_keep ["self", "tree", "result"] (spKKeep T.c_Kept)) : FnOk P w K mg base CX0 (n+k+3) T.a_folded_ T.d_folded_ ["tree", "reckon", "kept"] (spFold_ P w K mg base T.c_Kept k (n+1)) := by
  refine T.F_folded_.ok sc_folded_ (fun vs H Q E h => ?_) (fun cdv A outer s H vs Q E hr h => ?_)
  · obtain ⟨v, t, f, ko, W, m, g, R, H0, pre, lsp, rfl, _⟩ := h; rfl
  · obtain ⟨v, t, f, ko, W, m, g, R, H0, pre, lsp, rfl, L, Re, hg, now, s0, hK, hI0, hv, hn, h100, hm, q⟩ := h
    have hu := hu_of hr
    have hr_folded_ := hr
    have hk_reckon : k ≤ n + k + 2 := by omega
    have hr_Kept_pair_of : Room 1 _ := hr.mono (by omega)
    have hr_Kept_keep : Room 1 _ := hr.mono (by omega)
    refine ⟨_, (pss_cons (ps_set (i := 3) sc_folded_.nd rfl (Or.inl rfl) (pe_meth (pv 2) T.cl_Kept T.me_Kept_pair_of G_Kept_pair_of hr_Kept_pair_of T.b_Kept_pair_of .nil pass0 (pa_cons (pv 0) pa_nil)))
    (pss_cons (ps_if (pt_cmpR op_notN (pv 3) pe_non (nomark _)) (pss_one (ps_ret (pe_ix ix_tup (pv 3) pe_int (fun _ _ => rfl)))) pss_nil)
    (pss_cons (ps_set (i := 4) sc_folded_.nd rfl (Or.inl rfl) (pe_lst pa_nil))
    (pss_cons (ps_for PassesOwn.never rfl (pi_tup (pe_slice sl_tup (pv 0) (po_some pe_int) po_none)) (pg_name (i := 5) sc_folded_.nd rfl (Or.inl rfl))
    (pss_one (ps_expr (pe_bm PySem.F.plainAttrs_list PySem.F.slot_list_append PySem.F.type_list_append mt_append (pv 4) (pa_cons (pe_call G_folded_ hr_folded_ rfl T.m_folded_ T.F_folded_.kp T.b_folded_ .nil pass0 (pa_cons (pv 5) (pa_cons (pv 1) (pa_cons (pv 2) pa_nil)))) pa_nil)))))
    (pss_cons (ps_set (i := 6) sc_folded_.nd rfl (Or.inl rfl) (KLm.pe_act (i := 1) hr hk_reckon rfl (.inl rfl) (pa_cons (pe_ix ix_tup (pv 0) pe_int (fun _ _ => rfl)) (pa_cons (pv 4) pa_nil))))
    (pss_cons (ps_expr (pe_meth (pv 2) T.cl_Kept T.me_Kept_keep G_Kept_keep hr_Kept_keep T.b_Kept_keep .nil pass0 (pa_cons (pv 0) (pa_cons (pv 6) pa_nil))))
    (pss_one (ps_ret (pv 6))))))))), ?_⟩
    have st := Re.st
    obtain ⟨a, w0, us, ts, rfl, et, ea0, hL, hw, h3, hvL⟩ := rvt_inv hv hI0
    cases et
    obtain ⟨dx, d, kvs, h1, _⟩ := id hK
    refine ⟨_, rfl, ko, dx, _, rfl, h1, rfl, _, rfl, ko, a, w0, us, ts, W, R, H0, rfl, st, s0, hK, ea0, hI0, fun e he => ?_⟩
    have se := same_upd he (.lst [])
    have sK := hK.same st se
    have s0e := s0.trans se
    have f0 := Fr.of se hK
    have hlen := hL.len
    have hd : dep (.tup (.str w0 :: ts)) = 1 + depL (.str w0 :: ts) := rfl
    have hd2 : depL ts ≤ depL (.str w0 :: ts) := by simp only [depL]; omega
    refine ⟨⟨_, rfl, rfl, _, rfl, iteF ?_⟩, fun p v2 r hp hR => ⟨_, rfl, rfl, _, rfl, iteT ?_⟩⟩
    · refine ⟨by decide, fun l hl => ?_⟩
      have sl := same_upd hl (.lst [])
      have ea1 := sl _ _ (s0e _ _ ea0)
      refine ⟨_, rfl, _, rfl, a, _, rfl, .inl (.inl ea1), slice1, fun p1 hp1 => ?_⟩
      rw [cut1]
      have s1 := same_upd hp1 (.tup us)
      have s01 := (s0e.trans sl).trans s1
      have k1 := (sK.same st sl).same st s1
      have fr1 := (f0.trans (Fr.of sl sK)).trans (Fr.of s1 (sK.same st sl))
      have pr1 := Re.mono _ _ fr1.tu now
      have el1 : upd (upd (upd H e (.lst [])) l (.lst [])) p1 (.tup us) l = some (.lst []) := s1 _ _ upd_same
      have nl : ¬ Own (upd (upd (upd H e (.lst [])) l (.lst [])) p1 (.tup us)) ko l := fun o => Own.there sK ((o.back s1 (sK.same st sl)).back sl sK) hl
      have l0 : H0 l = none := s0e.free hl
      have lH : H l = none := se.free hl
      refine ⟨p1, rfl, ⟨_, .inl (.inl upd_same)⟩, ?_⟩
      refine for_tup (K := K) (a := p1) (xs := us) (fun i σ H2 => ∃ y3 y5 y6 rs, σ = [some (.ref a), some (.ref f), some (.ref ko), y3, some (.ref l), y5, y6] ∧ Same H0 H2 ∧ (Tu (upd (upd (upd H e (.lst [])) l (.lst [])) p1 (.tup us)) H2 ∧ Fr ko H H2) ∧ KeptAt T.c_Kept W R H0 H2 ko ∧ ¬ Own H2 ko l ∧ H2 l = some (.lst rs) ∧ ResL R H2 rs (ts.take i)) ?_ ?_ ?_ ?_
      · exact ⟨_, _, _, [], rfl, s01, ⟨.refl _, fr1⟩, k1, nl, el1, .nil⟩
      · exact fun i σ H2 _ ⟨_, _, _, _, _, _, tu, _⟩ => .inl (.inl (tu.1 _ _ upd_same (fun _ z => by cases z) (fun _ z => by cases z)))
      · intro i x σ H2 hx ⟨y3, y5, y6, rs, es, sm, tu, k2, no, el, hrs⟩
        subst es
        obtain ⟨y, ey, hy⟩ := hL.get hx
        have hmem := List.mem_of_getElem? ey
        have dy := depL_mem hmem
        have yv := mem_RvL hvL y hmem
        obtain ⟨wy, tsy, eyt, _⟩ := rv_inv yv
        subst eyt
        refine ⟨_, rfl, .inl ⟨rfl, _, SqL.of el⟩, _, rfl, _, rfl, _, rfl, x, _, f, ko, W, m, g, R, H0, pre, lsp, rfl, L, Re, Re.down _ _ hg _ hmem, Re.mono _ _ tu.2.tu now, sm, k2, hy, yv, by omega, by omega, by omega, fun r H3 s3 fr3 k3 hR => ?_⟩
        have el3 := fr3.keep _ _ el no
        have no3 : ¬ Own H3 ko l := fun o => (fr3.own l o).elim no fun z => by rw [el] at z; cases z
        have t4 := Tu.lst el3 (rs ++ [r])
        have hl3 := hrs.len
        obtain ⟨hi, ey2⟩ := List.getElem?_eq_some_iff.mp ey
        refine ⟨l, rs, r, rfl, rfl, el3, small1000 (by rw [hl3, List.length_take]; omega), _, _, _, rs ++ [r], rfl, Kx.Same.own s3 l0 _, ⟨(tu.1.trans fr3.tu).trans t4, (tu.2.trans fr3).mine k3 lH el3 no3 _⟩, k3.own st el3 no3 _, ?_, upd_same, ?_⟩
        · exact fun o => no3 (o.wr k3 el3 no3)
        · rw [List.take_succ_eq_append_getElem hi, ey2]
          exact (hrs.tu st (fr3.tu.trans t4)).snoc (st _ _ _ _ t4 hR)
      · intro σ H2 ⟨y3, y5, y6, rs, es, sm, tu, k2, no, el, hrs⟩
        subst es
        rw [hlen, List.take_length] at hrs
        have pr2 := Re.mono _ _ tu.2.tu now
        refine ⟨f, 2, pre, lsp, rfl, L, pr2, _, rfl, a, _, _, _, rfl, rfl, .inl (.inl (sm _ _ ea0)), atI_nat (j := 0) rfl, _, rfl, pr2, ?_⟩
        refine Re.run w0 ts l rs H2 _ _ hg hv hm sm pr2 el hrs fun r H3 s3 hR => ?_
        have k3 := k2.same st s3
        have sm3 := sm.trans s3
        obtain ⟨dx2, d2, kvs2, g1, _⟩ := id k3
        refine ⟨_, rfl, ko, dx2, _, rfl, g1, rfl, _, rfl, _, rfl, ko, a, r, w0, us, ts, W, R, H0, rfl, st, sm3, k3, Re.few, ea0, hI0, hw, rv_tm hv, h100, hR, fun H4 s4 fr4 k4 => ?_⟩
        exact ⟨_, rfl, q r H4 s4 ((tu.2.trans (Fr.of s3 k2)).trans fr4) k4 (st _ _ _ _ fr4.tu hR)⟩
    · refine ⟨_, rfl, p, _, _, _, rfl, rfl, .inl (.inl hp), atI_nat (j := 1) rfl, ?_⟩
      exact q r _ s0e f0 sK hR
end
end Kx
namespace Kx
open PySem PySem.Spec PyProof.Rows L2
section
variable {P : Program} {w : World} {K : PySem.W.Frag} {mg : Str → Option Value} {base : Heap}
def lamq (q : Str) : Str := q ++ ".<locals>." ++ "<lambda>"
def spFolded (P : Program) (w : World) (K : PySem.W.Frag) (mg : Str → Option Value) (base : Heap) (k n : Nat) : Sp := fun vs H Q _ => ∃ (v : V) (t : List PV) (f : Addr) (W : List Str) (m : Nat) (g : PV → Prop) (R : ResT) (pre : Hp → Prop) (lsp : Sp), vs = [v, .ref f] ∧
  KLm.LamOk P w K mg base k f 2 pre lsp ∧ Reck W m g R H pre lsp ∧ g (.tup t) ∧ pre H ∧ Is H v (.tup t) ∧ Rv W (.tup t) ∧ dep (.tup t) ≤ n ∧ dep (.tup t) ≤ 100 ∧ dep (.tup t) ≤ m ∧
  ∀ r H', Same H H' → R H' r t → Q r H'
theorem ok_folded {n k k0 : Nat} (T : Txt K mg) (G_folded_ : FnOk P w K mg base CX0 (k+2) T.a_folded_ T.d_folded_ ["tree", "reckon", "kept"] (spFold_ P w K mg base T.c_Kept k0 n)) (G_Kept_init : FnOk P w K mg base CX0 1 T.a_Kept_init T.d_Kept_init ["self"] (spKInit T.c_Kept)) : FnOk P w K mg base CX0 (k+3) T.a_folded T.d_folded ["tree", "reckon"] (spFolded P w K mg base k0 n) := by
  refine T.F_folded.ok sc_folded (fun vs H Q E h => ?_) (fun cdv A outer s H vs Q E hr h => ?_)
  · obtain ⟨v, t, f, W, m, g, R, pre, lsp, rfl, _⟩ := h; rfl
  · obtain ⟨v, t, f, W, m, g, R, pre, lsp, rfl, L, Re, hg, now, hI, hv, hn, h100, hm, q⟩ := h
    have hr_folded_ := hr
    have hr_Kept_init : Room 2 _ := hr.mono (by omega)
    refine ⟨_, (pss_one (ps_ret (pe_call G_folded_ hr_folded_ rfl T.m_folded_ T.F_folded_.kp T.b_folded_ .nil pass0 (pa_cons (pv 0) (pa_cons (pv 1) (pa_cons (pe_make0 T.mk_Kept G_Kept_init hr_Kept_init rfl T.mg_Kept T.b_Kept_init .nil pass0) pa_nil)))))), ?_⟩
    refine ⟨_, rfl, _, rfl, fun x dx hx hdx ndx => ?_⟩
    refine ⟨x, dx, rfl, upd_same, fun d hd => ⟨rfl, ?_⟩⟩
    have z1 : Same H (upd H dx (.own x)) := same_upd hdx _
    have z2 : Same H (upd (upd H dx (.own x)) x (.ins T.c_Kept dx [])) := Kx.Same.own z1 hx _
    have hd0 : H d = none := z2.free hd
    have z3 : Same H (upd (upd (upd H dx (.own x)) x (.ins T.c_Kept dx [])) d (.dK [])) := z2.trans (same_upd hd _)
    have z4 : Same H (upd (upd (upd (upd H dx (.own x)) x (.ins T.c_Kept dx [])) d (.dK [])) x (.ins T.c_Kept dx [("rows", .ref d)])) := Kx.Same.own z3 hx _
    have ndx2 : d ≠ x := fun e => by subst e; rw [upd_same] at hd; cases hd
    have kH : KeptAt T.c_Kept W R H (upd (upd (upd (upd H dx (.own x)) x (.ins T.c_Kept dx [])) d (.dK [])) x (.ins T.c_Kept dx [("rows", .ref d)])) x :=
      ⟨dx, d, [], upd_same, by rw [upd_ne ndx2, upd_same], hd0, List.nodup_nil, fun kv m => absurd m (by simp)⟩
    exact ⟨v, t, f, x, W, m, g, R, H, pre, lsp, rfl, L, Re, hg, Re.mono _ _ (.of z4) now, z4, kH, hI, hv, hn, h100, hm, fun r H' s' _ _ hR => q r H' s' hR⟩
/-! ### a def that makes a lambda: its code object is known -/
structure FunC (K : PySem.W.Frag) (x qual : Str) (st : Stmt) (f : Addr) (fd : FuncData) (c : Addr) : Prop where
  ex : ∃ (oc : Value) (od : Option Addr) (kV doc pm : Value) (an : Option Addr) (ct : Value) (osl : Array (Option Value)),
    fd = PySem.W.fnOf x qual (defArgs st) (defBody st) (defScope st) .none kV doc pm an (.ref c) ct ∧ K.lookup f = some ⟨oc, od, .func fd, osl⟩ ∧ PySem.W.codeIn K (.ref c) qual = true
theorem FunC.ok {x qual : Str} {st : Stmt} {f c : Addr} {fd : FuncData} {N ps : List Str} {k : Nat} {sp : Sp} (F : FunC K x qual st f fd c) (S : FnScope N ps (defScope st)) (len : ∀ vs H Q E, sp vs H Q E → vs.length = ps.length)
    (hbody : ∀ (A : Around) (outer : List Env) (s : Shared) (H : Hp) (vs : List V) (Q : VK) (E : XK), Room k (A.deeper (envOfC qual (defScope st) s.heap.objs.size f (.ref c))) → sp vs H Q E →
      ∃ t, PSs (cxOf CX0 P w K mg base N qual (defScope st) f (.ref c) A outer s H E).nox (defBody st) t ∧ t { nx := fun _ H' => Q .non H', rt := Q } (start N vs) H) : FnOk P w K mg base CX0 (k + 1) f fd ps sp := by
  obtain ⟨oc, od, kV, doc, pm, an, ct, osl, e, lk, hcd⟩ := F.ex
  subst e
  refine fn_of lk hcd S len fun A outer s H vs Q E hr hsp => ?_
  obtain ⟨t, h, q⟩ := hbody A outer s H vs Q E hr hsp
  exact ⟨t, h.nox, q⟩
/-! ### size -/
mutual
def vsz : PV → Nat
  | .str _ => 1
  | .oth => 1
  | .tup [] => 1
  | .tup (_ :: r) => 1 + vszL r
def vszL : List PV → Nat
  | [] => 0
  | t :: r => vsz t + vszL r
end
def RSize : ResT := fun _ v ts => v = .int (vsz (.tup ts) : Int)
theorem RSize.st : Stable RSize := fun _ _ _ _ _ h => h
theorem size_sum {H : Hp} : ∀ {rs : List V} {ts : List PV}, ResL RSize H rs ts → ∃ ns : List Int, rs = ns.map V.int ∧ ns.sum = (vszL ts : Int)
  | _, _, .nil => ⟨[], rfl, rfl⟩
  | _, _, .cons (us := us) h t => by
    obtain ⟨ns, e, q⟩ := size_sum t
    refine ⟨(vsz (.tup us) : Int) :: ns, by rw [List.map_cons, ← e]; rw [show _ = _ from h], ?_⟩
    rw [List.sum_cons, q]
    simp only [vszL]
    omega
def spSize (TT : List (Addr × Str)) (n : Nat) : Sp := fun vs H Q _ => ∃ (v : V) (t : List PV) (W : List Str), vs = [v] ∧ W.length ≤ 20 ∧ LamX.Tabs TT H ∧ Is H v (.tup t) ∧ Rv W (.tup t) ∧ dep (.tup t) ≤ n ∧ dep (.tup t) ≤ 100 ∧
  ∀ H', LamX.ExtN H H' → LamX.Tabs TT H' → Q (.int (vsz (.tup t) : Int)) H'
def spLamSize : Sp := fun vs H Q _ => ∃ (w : Str) (l : Addr) (ns : List Int), vs = [.str w, .ref l] ∧ H l = some (.lst (ns.map V.int)) ∧ Q (.int (1 + ns.sum)) H
mutual
theorem Is.extN {H H' : Hp} (x : LamX.ExtN H H') : ∀ {v : V} {t : PV}, Is H v t → Is H' v t
  | _, _, .str z k => .str z k
  | _, _, .non => .non
  | _, _, .bl b => .bl b
  | _, _, .int i => .int i
  | _, _, .lst e => .lst (e.elim fun xs e => ⟨xs, x _ _ e fun _ z => by cases z⟩)
  | _, _, .dict e => .dict (x _ _ e fun _ z => by cases z)
  | _, _, .tup e h => .tup (x _ _ e fun _ z => by cases z) (IsL.extN x h)
theorem IsL.extN {H H' : Hp} (x : LamX.ExtN H H') : ∀ {v : List V} {t : List PV}, IsL H v t → IsL H' v t
  | _, _, .nil => .nil
  | _, _, .cons h r => .cons (Is.extN x h) (IsL.extN x r)
end
end
end Kx
namespace Kx
open PySem PySem.Spec PyProof.Rows L2
section
variable {P : Program} {w : World} {K : PySem.W.Frag} {mg : Str → Option Value} {base : Heap}
/-- all but the lists at d and c stands; those are lists still -/
structure Ex (d c : Addr) (H H' : Hp) : Prop where
  but : ∀ b o, b ≠ d → b ≠ c → H b = some o → H' b = some o
  l1 : (∃ xs, H d = some (.lst xs)) → ∃ xs, H' d = some (.lst xs)
  l2 : (∃ xs, H c = some (.lst xs)) → ∃ xs, H' c = some (.lst xs)
theorem Ex.refl (d c : Addr) (H : Hp) : Ex d c H H := ⟨fun _ _ _ _ h => h, id, id⟩
theorem Ex.trans {d c : Addr} {H H1 H2 : Hp} (a : Ex d c H H1) (b : Ex d c H1 H2) : Ex d c H H2 := ⟨fun x o n1 n2 h => b.but x o n1 n2 (a.but x o n1 n2 h), fun h => b.l1 (a.l1 h), fun h => b.l2 (a.l2 h)⟩
theorem Ex.of {d c : Addr} {H H' : Hp} (s : Same H H') : Ex d c H H' := ⟨fun b o _ _ h => s b o h, fun ⟨xs, h⟩ => ⟨xs, s _ _ h⟩, fun ⟨xs, h⟩ => ⟨xs, s _ _ h⟩⟩
theorem Ex.set1 {d c : Addr} {H : Hp} (xs : List V) : Ex d c H (upd H d (.lst xs)) := ⟨fun b o n _ h => by rw [upd_ne n]; exact h, fun _ => ⟨xs, upd_same⟩, fun ⟨ys, h⟩ => by
  by_cases q : c = d
  · subst q; exact ⟨xs, upd_same⟩
  · exact ⟨ys, by rw [upd_ne q]; exact h⟩⟩
theorem Ex.set2 {d c : Addr} {H : Hp} (xs : List V) : Ex d c H (upd H c (.lst xs)) := ⟨fun b o _ n h => by rw [upd_ne n]; exact h, fun ⟨ys, h⟩ => (by
  by_cases q : d = c
  · subst q; exact ⟨xs, upd_same⟩
  · exact ⟨ys, by rw [upd_ne q]; exact h⟩), fun _ => ⟨xs, upd_same⟩⟩
/-- the state of the draws: a list of the cells and the seed -/
def Dr (H : Hp) (d c : Addr) : Prop := ∃ (ns : List Int) (m : Int), H d = some (.lst [.ref c, .int m]) ∧ H c = some (.lst (ns.map V.int)) ∧ c ≠ d ∧ (∀ n ∈ ns, 0 ≤ n) ∧ 0 ≤ m ∧ m < 2147483648 ∧ ns.length ≤ 63
theorem Dr.lst {H : Hp} {d c : Addr} (h : Dr H d c) : (∃ xs, H d = some (.lst xs)) ∧ ∃ xs, H c = some (.lst xs) := by
  obtain ⟨ns, m, e, e2, _⟩ := h
  exact ⟨⟨_, e⟩, _, e2⟩
theorem Dr.same {H H' : Hp} {d c : Addr} (s : Same H H') (h : Dr H d c) : Dr H' d c := by
  obtain ⟨ns, m, e, e2, r⟩ := h
  exact ⟨ns, m, s _ _ e, s _ _ e2, r⟩
theorem Dr.own {H : Hp} {d c l : Addr} {o : HO} (h : Dr H d c) (n1 : l ≠ d) (n2 : l ≠ c) : Dr (upd H l o) d c := by
  obtain ⟨ns, m, e, e2, r⟩ := h
  exact ⟨ns, m, by rw [upd_ne n1.symm]; exact e, by rw [upd_ne n2.symm]; exact e2, r⟩
theorem Dr.free {H : Hp} {d c l : Addr} (h : Dr H d c) (n : H l = none) : l ≠ d ∧ l ≠ c := by
  obtain ⟨ns, m, e, e2, r⟩ := h
  exact ⟨(ne_of_none e n).symm, (ne_of_none e2 n).symm⟩
/-- what is no list stands -/
theorem Ex.keep {d c b : Addr} {H H' : Hp} {o : HO} (x : Ex d c H H') (h : Dr H d c) (e : H b = some o) (n : ∀ xs, o ≠ .lst xs) : H' b = some o := by
  obtain ⟨⟨xs, h1⟩, ys, h2⟩ := h.lst
  refine x.but b o (fun q => ?_) (fun q => ?_) e
  · subst q; rw [h1] at e; exact n xs (Option.some.inj e).symm
  · subst q; rw [h2] at e; exact n ys (Option.some.inj e).symm
mutual
theorem Is.ex {d c : Addr} {H H' : Hp} (x : Ex d c H H') (h : Dr H d c) : ∀ {v : V} {t : PV}, Is H v t → Is H' v t
  | _, _, .str z k => .str z k
  | _, _, .non => .non
  | _, _, .bl b => .bl b
  | _, _, .int i => .int i
  | _, _, .lst (a := a) e => by
    by_cases q : a = d
    · subst q; exact .lst (x.l1 e)
    · by_cases q2 : a = c
      · subst q2; exact .lst (x.l2 e)
      · obtain ⟨xs, e⟩ := e; exact .lst ⟨xs, x.but _ _ q q2 e⟩
  | _, _, .dict e => .dict (x.keep h e fun xs q => by cases q)
  | _, _, .tup e r => .tup (x.keep h e fun xs q => by cases q) (IsL.ex x h r)
theorem IsL.ex {d c : Addr} {H H' : Hp} (x : Ex d c H H') (h : Dr H d c) : ∀ {v : List V} {t : List PV}, IsL H v t → IsL H' v t
  | _, _, .nil => .nil
  | _, _, .cons a r => .cons (Is.ex x h a) (IsL.ex x h r)
end
def spState (K : PySem.W.Frag) : Sp := fun vs H Q _ => ∃ (a : Addr) (ns : List Int), vs = [.ref a] ∧ SqL K H a (ns.map V.int) ∧ ns.length ≤ 63 ∧ ∀ d c H', Same H H' → Dr H' d c → Q (.ref d) H'
def spDraw : Sp := fun vs H Q _ => ∃ (d c : Addr) (n : Int), vs = [.ref d, .int n] ∧ Dr H d c ∧ 1 ≤ n ∧ n ≤ 1000 ∧ ∀ (r : Int) H', 0 ≤ r → r < n → Ex d c H H' → Dr H' d c → Q (.int r) H'
def spPick (K : PySem.W.Frag) : Sp := fun vs H Q _ => ∃ (d c p : Addr) (xs : List V), vs = [.ref d, .ref p] ∧ Dr H d c ∧ (H p = some (.lst xs) ∨ SqT K H p xs) ∧ p ≠ d ∧ p ≠ c ∧ 1 ≤ xs.length ∧ xs.length ≤ 1000 ∧ ∀ (x : V) H', x ∈ xs → Ex d c H H' → Dr H' d c → Q x H'
theorem fmb (a : Int) {b : Int} (hb : 0 < b) : 0 ≤ a.fmod b ∧ a.fmod b < b := ⟨Int.fmod_nonneg_of_pos a hb, Int.fmod_lt_of_pos a hb⟩
theorem at_int {ns : List Int} {i : Int} (h0 : 0 ≤ i) (h : i < ns.length) : ∃ x : Int, atI (ns.map V.int) i = some (.int x) := by
  have hk : i.toNat < ns.length := by omega
  have q : atI (ns.map V.int) ((i.toNat : Nat) : Int) = some (.int ns[i.toNat]) := atI_nat (by rw [List.getElem?_map, List.getElem?_eq_getElem hk] <;> rfl)
  rw [show ((i.toNat : Nat) : Int) = i by omega] at q
  exact ⟨_, q⟩
theorem ok_law_state (T : Txt K mg)  : FnOk P w K mg base CX0 1 T.a_law_state T.d_law_state ["script"] (spState K) := by
  refine T.F_law_state.ok sc_law_state (fun vs H Q E h => ?_) (fun cdv A outer s H vs Q E hr h => ?_)
  · obtain ⟨a, ns, rfl, _⟩ := h; rfl
  · obtain ⟨a, ns, rfl, hS, hl, q⟩ := h
    refine ⟨_, (pss_cons (ps_set (i := 1) sc_law_state.nd rfl (Or.inl rfl) pe_int)
    (pss_cons (ps_for PassesOwn.never rfl (pi_list (pv 0)) (pg_name (i := 2) sc_law_state.nd rfl (Or.inl rfl))
    (pss_one (ps_set (i := 1) sc_law_state.nd rfl (Or.inl rfl) (pe_op op_modN (pe_callTy call_int1 (by rfl) T.z_int (by decide +kernel) (pa_cons (pe_op op_add (pe_op op_mul (pv 1) pe_int) (pv 2)) pa_nil)) pe_int))))
    (pss_one (ps_ret (pe_lst (pa_cons (pe_lc (own := [("cell", 2)]) (g := (gName 2)) (tt := tYes) rfl sc_law_state.nd (pi_list (pv 0)) (blkOk_by (own := [("cell", 2)]) (N := ["script", "seed", "cell"]) (sc := defScope s_law_state) (by decide +kernel)) (fun _ _ _ _ _ => (pg_name (i := 2) sc_law_state.nd rfl (Or.inl rfl))) (fun _ _ _ _ _ => pts_nil) (fun _ _ _ _ _ => (pe_callB call_abs (by rfl) T.z_abs (by decide +kernel) (pa_cons (pe_callTy call_int1 (by rfl) T.z_int (by decide +kernel) (pa_cons (pv 2) pa_nil)) pa_nil)))) (pa_cons (pe_op op_add (pv 1) pe_int) pa_nil))))))), ?_⟩
    refine ⟨_, rfl, a, rfl, ⟨_, hS⟩, for_list (K := K) (a := a) (xs := ns.map V.int) (fun i σ H2 => ∃ m y, σ = [some (.ref a), some (.int m), y] ∧ H2 = H ∧ 0 ≤ m ∧ m < 1000003) ⟨7, none, rfl, rfl, by omega, by omega⟩ (fun i σ H2 _ ⟨_, _, _, e, _⟩ => by rw [e]; exact hS) ?_ ?_⟩
    · rintro i x σ H2 hx ⟨m, y, rfl, rfl, m0, m1⟩
      obtain ⟨n, _, rfl⟩ := List.mem_map.mp (List.mem_of_getElem? hx)
      obtain ⟨b0, b1⟩ := fmb (m * 31 + n) (b := 1000003) (by decide)
      exact ⟨_, rfl, _, _, rfl, rfl, .inl ⟨by omega, by omega⟩, _, rfl, _, _, rfl, rfl, .inl ⟨_, rfl, _, _, rfl, rfl, (by show (1000003 : Int) ≠ 0; decide), _, _, rfl, rfl, b0, b1⟩⟩
    · rintro σ H2 ⟨m, y, rfl, rfl, m0, m1⟩
      refine ⟨_, rfl, a, rfl, ⟨_, hS⟩, fun D hD => ?_⟩
      refine lc_list (K := K) (a := a) (xs := ns.map V.int) (fun i H3 => ∃ ms : List Int, H3 = upd H2 D (.lst (ms.map V.int)) ∧ ms.length = i ∧ ∀ n ∈ ms, 0 ≤ n) ⟨[], rfl, rfl, fun _ h => by cases h⟩ (fun i H3 _ ⟨ms, e, _⟩ => ?_) ?_ ?_
      · rw [e]; exact (same_upd hD _).seq hS
      · rintro i x H3 hx ⟨ms, rfl, hlen, hpos⟩
        have hi := (List.getElem?_eq_some_iff.mp hx).1
        rw [List.length_map] at hi
        obtain ⟨n, _, rfl⟩ := List.mem_map.mp (List.mem_of_getElem? hx)
        refine ⟨rfl, yes_if ⟨_, rfl, .inl ⟨_, rfl, _, rfl, ms.map V.int, upd_same, ?_, ms ++ [if n < 0 then -n else n], ?_, ?_, ?_⟩⟩⟩
        · rw [List.length_map]; exact small1000 (by omega)
        · rw [upd_upd, List.map_append]; rfl
        · rw [List.length_append, hlen]; rfl
        · intro z hz
          rcases List.mem_append.mp hz with hz | hz
          · exact hpos z hz
          · rw [List.mem_singleton.mp hz]; split <;> omega
      · rintro H3 ⟨ms, rfl, hlen, hpos⟩
        rw [List.length_map] at hlen
        refine ⟨_, rfl, _, _, rfl, rfl, (by show 2 ≤ sizeLine; decide), fun d hd => ?_⟩
        have n1 : D ≠ d := ne_of_none upd_same hd
        exact q d D _ ((same_upd hD _).trans (same_upd hd _)) ⟨ms, m + 1, upd_same, by rw [upd_ne n1, upd_same], n1, hpos, by omega, by omega, by omega⟩
theorem ok_law_draw (T : Txt K mg)  : FnOk P w K mg base CX0 1 T.a_law_draw T.d_law_draw ["state", "many"] spDraw := by
  refine T.F_law_draw.ok sc_law_draw (fun vs H Q E h => ?_) (fun cdv A outer s H vs Q E hr h => ?_)
  · obtain ⟨d, c, n, rfl, _⟩ := h; rfl
  · obtain ⟨d, c, n, rfl, hD, h1, h2, q⟩ := h
    have nz : n ≠ 0 := by omega
    refine ⟨_, (pss_cons (ps_set (i := 2) sc_law_draw.nd rfl (Or.inl rfl) (pe_ix ix_list (pv 0) pe_int (fun _ _ => rfl)))
    (Evl.pss_cut (ps_while PassesOwn.never (PW.pt (pw_and (pt_cmpR op_gt (pe_callB call_len_seq (by rfl) T.z_len (by decide +kernel) (pa_cons (pv 2) pa_nil)) pe_int (nomark _)) (pw_and1 (pt_cmpR op_eq (pe_ix ix_list (pv 2) pe_int (fun _ _ => rfl)) pe_int (nomark _)))))
    (pss_one (ps_expr (pe_bm PySem.F.plainAttrs_list PySem.F.slot_list_pop PySem.F.type_list_pop mt_popAt (pv 2) (pa_cons pe_int pa_nil)))))
    (pss_cons (ps_if (pt_cmpR op_gt (pe_callB call_len_seq (by rfl) T.z_len (by decide +kernel) (pa_cons (pv 2) pa_nil)) pe_int (nomark _)) (pss_cons (ps_set (i := 3) sc_law_draw.nd rfl (Or.inl rfl) (pe_ix ix_list (pv 2) pe_int (fun _ _ => rfl)))
    (pss_cons (ps_asg (pe_op op_fdivN (pv 3) (pv 1)) (pg_sub (pv 2) pe_int set_list))
    (pss_one (ps_ret (pe_op op_modN (pe_callTy call_int1 (by rfl) T.z_int (by decide +kernel) (pa_cons (pv 3) pa_nil)) (pv 1)))))) pss_nil)
    (pss_cons (ps_set (i := 4) sc_law_draw.nd rfl (Or.inl rfl) (pe_op op_modN (pe_callTy call_int1 (by rfl) T.z_int (by decide +kernel) (pa_cons (pe_op op_add (pe_op op_mul (pe_ix ix_list (pv 0) pe_int (fun _ _ => rfl)) pe_int) pe_int) pa_nil)) pe_int))
    (pss_cons (ps_asg (pv 4) (pg_sub (pv 0) pe_int set_list))
    (pss_one (ps_ret (pe_op op_modN (pe_callTy call_int1 (by rfl) T.z_int (by decide +kernel) (pa_cons (pe_op op_fdivN (pv 4) pe_int) pa_nil)) (pv 1))))))))), ?_⟩
    obtain ⟨ns, m, e, e2, hn, hpos, m0, m1, hl⟩ := id hD
    refine ⟨_, rfl, d, _, _, _, rfl, rfl, SqL.of e, rfl, ?_⟩
    refine ⟨fun σ H2 => ∃ ms : List Int, σ = [some (.ref d), some (.int n), some (.ref c), none, none] ∧ H2 d = some (.lst [.ref c, .int m]) ∧ H2 c = some (.lst (ms.map V.int)) ∧ ms.length ≤ 63 ∧ (∀ z ∈ ms, 0 ≤ z) ∧ Ex d c H H2, ?_, ?_⟩
    · refine ⟨fun k σ H2 => ∃ ms : List Int, σ = [some (.ref d), some (.int n), some (.ref c), none, none] ∧ H2 d = some (.lst [.ref c, .int m]) ∧ H2 c = some (.lst (ms.map V.int)) ∧ ms.length = k ∧ k ≤ 63 ∧ (∀ z ∈ ms, 0 ≤ z) ∧ Ex d c H H2, ⟨ns.length, ns, rfl, e, e2, rfl, hl, hpos, .refl _ _ _⟩, ?_⟩
      rintro k σ H2 ⟨ms, rfl, f1, f2, hk, k63, hp, hx⟩
      refine ⟨_, rfl, c, _, rfl, .inl (SqL.of f2), _, _, rfl, rfl, _, rfl, ite2 (fun cz => ?_) (fun _ => iteF ⟨ms, rfl, f1, f2, by omega, hp, hx⟩)⟩
      cases ms with
      | nil => cases cz
      | cons x ms =>
      refine ⟨_, rfl, c, _, _, V.int x, rfl, rfl, SqL.of f2, atI_nat (j := 0) rfl, rfl, _, rfl, ite2 (fun c0 => ?_) (fun _ => ⟨_, rfl, f1, f2, by omega, hp, hx⟩)⟩
      refine ⟨fun σ' H' => ∃ ms' : List Int, σ' = [some (.ref d), some (.int n), some (.ref c), none, none] ∧ H' d = some (.lst [.ref c, .int m]) ∧ H' c = some (.lst (ms'.map V.int)) ∧ ms'.length < k ∧ k ≤ 63 ∧ (∀ z ∈ ms', 0 ≤ z) ∧ Ex d c H H', fun σ' H' ⟨ms', r1, r2, r3, r4, r5, r6, r7⟩ => ⟨ms'.length, r4, ms', r1, r2, r3, rfl, by omega, r6, r7⟩, ?_⟩
      have z0 : ixN ((x :: ms).map V.int).length 0 = some 0 := Evl.ixN_nat (j := 0) (by rw [List.length_map, List.length_cons]; omega)
      refine ⟨_, rfl, .inl ⟨rfl, _, SqL.of f2⟩, c, _, 0, 0, _, rfl, rfl, f2, by decide, by decide, (ixN_seq z0).1, rfl, ms, rfl, by rw [upd_ne hn.symm]; exact f1, by rw [upd_same]; rfl, by rw [List.length_cons] at hk; omega, k63, fun z hz => hp z (List.mem_cons_of_mem _ hz), hx.trans (.set2 _)⟩
    · rintro σ H2 ⟨ms, rfl, f1, f2, k63, hp, hx⟩
      refine ⟨_, rfl, c, _, rfl, .inl (SqL.of f2), _, _, rfl, rfl, _, rfl, ite2 (fun cz => ?_) (fun _ => ?_)⟩
      · cases ms with
        | nil => cases cz
        | cons x ms =>
        have x0 := hp x (List.mem_cons_self ..)
        have z0 : ixN ((x :: ms).map V.int).length 0 = some 0 := Evl.ixN_nat (j := 0) (by rw [List.length_map, List.length_cons]; omega)
        refine ⟨_, rfl, c, _, _, V.int x, rfl, rfl, SqL.of f2, atI_nat (j := 0) rfl, _, rfl, _, rfl, _, _, rfl, rfl, ⟨nz, by omega⟩, _, rfl, c, _, _, 0, rfl, rfl, f2, z0, _, rfl, .inl ⟨_, rfl, _, rfl, _, _, rfl, rfl, nz, ?_⟩⟩
        obtain ⟨b0, b1⟩ := fmb x (b := n) (by omega)
        refine q _ _ b0 b1 (hx.trans (.set2 _)) ⟨x.fdiv n :: ms, m, by rw [upd_ne hn.symm]; exact f1, upd_same, hn, fun z hz => ?_, m0, m1, k63⟩
        rcases List.mem_cons.mp hz with rfl | hz
        · exact Int.fdiv_nonneg x0 (by omega)
        · exact hp z (List.mem_cons_of_mem _ hz)
      · obtain ⟨b0, b1⟩ := fmb (m * 48271 + 12345) (b := 2147483647) (by decide)
        refine ⟨_, rfl, d, _, _, _, rfl, rfl, SqL.of f1, rfl, _, _, rfl, rfl, .inl ⟨by omega, by omega⟩, _, _, rfl, rfl, .inl ⟨_, rfl, _, _, rfl, rfl, (by show (2147483647 : Int) ≠ 0; decide), _, rfl, _, rfl, d, _, _, 1, rfl, rfl, f1, rfl, ?_⟩⟩
        refine ⟨_, rfl, _, _, rfl, rfl, ⟨by decide, by decide⟩, .inl ⟨_, rfl, _, rfl, _, _, rfl, rfl, nz, ?_⟩⟩
        obtain ⟨c0, c1⟩ := fmb (((m * 48271 + 12345).fmod 2147483647).fdiv 64) (b := n) (by omega)
        exact q _ _ c0 c1 (hx.trans (.set1 _)) ⟨ms, _, upd_same, by rw [upd_ne hn]; exact f2, hn, hp, b0, by omega, k63⟩
theorem ok_law_pick (T : Txt K mg) (G_law_draw : FnOk P w K mg base CX0 1 T.a_law_draw T.d_law_draw ["state", "many"] spDraw) : FnOk P w K mg base CX0 2 T.a_law_pick T.d_law_pick ["state", "row"] (spPick K) := by
  refine T.F_law_pick.ok sc_law_pick (fun vs H Q E h => ?_) (fun cdv A outer s H vs Q E hr h => ?_)
  · obtain ⟨d, c, p, xs, rfl, _⟩ := h; rfl
  · obtain ⟨d, c, p, xs, rfl, hD, hP, hn, hn2, h1, h2, q⟩ := h
    have hr_law_draw := hr
    refine ⟨_, (pss_one (ps_ret (pe_ix ix_seq (pv 1) (pe_call G_law_draw hr_law_draw rfl T.m_law_draw T.F_law_draw.kp T.b_law_draw .nil pass0 (pa_cons (pv 0) (pa_cons (pe_callB call_len_seq (by rfl) T.z_len (by decide +kernel) (pa_cons (pv 1) pa_nil)) pa_nil))) (fun _ _ => rfl)))), ?_⟩
    have seqs : ∀ H', Ex d c H H' → H' p = some (.lst xs) ∨ SqT K H' p xs := fun H' x => by
      rcases hP with e | (e | ⟨o, e⟩) | e
      · exact .inl (x.but _ _ hn hn2 e)
      · exact .inr (.inl (.inl (x.but _ _ hn hn2 e)))
      · exact .inr (.inl (.inr ⟨o, x.but _ _ hn hn2 e⟩))
      · exact .inr (.inr e)
    refine ⟨_, rfl, _, rfl, _, rfl, p, xs, rfl, hP.imp SqL.of id, d, c, _, rfl, hD, by omega, by omega, fun r H' r0 r1 hx hD' => ?_⟩
    have hk : r.toNat < xs.length := by omega
    have hat : atI xs r = some (xs[r.toNat]) := by
      have z : atI xs ((r.toNat : Nat) : Int) = some (xs[r.toNat]) := atI_nat (List.getElem?_eq_getElem hk)
      rwa [show ((r.toNat : Nat) : Int) = r by omega] at z
    have fin := q (xs[r.toNat]) H' (List.getElem_mem hk) hx hD'
    rcases seqs H' hx with e | e
    · exact .inl ⟨p, _, _, _, rfl, rfl, SqL.of e, hat, fin⟩
    · exact .inr (.inl ⟨p, _, _, _, rfl, rfl, e, hat, fin⟩)
end
end Kx
namespace Kx
open PySem PySem.Spec PyProof.Rows L2
section
variable {P : Program} {w : World} {K : PySem.W.Frag} {mg : Str → Option Value} {base : Heap}
/-! ### data that is written down -/
def MkE (σ : L2.St) (H0 : Hp) (te : TE) (t : PV) : Prop := ∀ (H : Hp) (Q : VK), Same H0 H → (∀ v H', Same H H' → Is H' v t → Q v H') → te σ H Q
def MkA (σ : L2.St) (H0 : Hp) (ta : TA) (ts : List PV) : Prop := ∀ (H : Hp) (Q : List V → Hp → Prop), Same H0 H → (∀ vs H', Same H H' → IsL H' vs ts → Q vs H') → ta σ H Q
theorem mk_var {σ : L2.St} {H0 : Hp} {i : Nat} {v : V} {t : PV} (e : σ[i]? = some (some v)) (h : Is H0 v t) : MkE σ H0 (tVar i) t := fun H Q s q => ⟨v, e, q v H (.refl _) (h.same s)⟩
theorem mk_str {σ : L2.St} {H0 : Hp} {z : Str} (h : sok z = true) : MkE σ H0 (tC (.str z)) (.str z) := fun H Q s q => q _ H (.refl _) (.str z h)
theorem mk_nil {σ : L2.St} {H0 : Hp} : MkA σ H0 tNil [] := fun H Q s q => q [] H (.refl _) .nil
theorem mk_cons {σ : L2.St} {H0 : Hp} {te : TE} {ta : TA} {t : PV} {ts : List PV} (a : MkE σ H0 te t) (b : MkA σ H0 ta ts) : MkA σ H0 (tCons te ta) (t :: ts) := fun H Q s q =>
  a H _ s fun v H1 s1 i1 => b H1 _ (s.trans s1) fun vs H2 s2 i2 => q _ H2 (s1.trans s2) (.cons (i1.same s2) i2)
theorem mk_tup {σ : L2.St} {H0 : Hp} {ta : TA} {ts : List PV} (a : MkA σ H0 ta ts) (hl : ts.length ≤ 1000) : MkE σ H0 (tTup ta) (.tup ts) := fun H Q s q =>
  a H _ s fun vs H1 s1 i1 => ⟨Nat.le_of_lt (small1000 (by rw [i1.len]; exact hl)), fun p hp => q _ _ (s1.trans (same_upd hp _)) (.tup upd_same (i1.same (same_upd hp _)))⟩
theorem mk_go {σ : L2.St} {H : Hp} {te : TE} {t : PV} {Q : VK} (m : MkE σ H te t) (q : ∀ v H', Same H H' → Is H' v t → Q v H') : te σ H Q := m H Q (.refl _) q
theorem go_asg {σ : L2.St} {H : Hp} {te : TE} {t : PV} {g : TG} {rest : TS} {D : Ends} (m : MkE σ H te t) (q : ∀ v H1, Same H H1 → Is H1 v t → g v σ H1 fun σ2 H2 => rest D σ2 H2) : tSeq (tAsg te g) rest D σ H := m H _ (.refl _) q
theorem go_kind {σ : L2.St} {H : Hp} {te : TE} {rest : TS} {D : Ends} {k j : Int} (e : σ[0]? = some (some (.int k))) (y : k = j → te σ H D.rt) (n : k ≠ j → rest D σ H) : tSeq (tIfS (tTest (tOp rEq (tVar 0) (tC (.int j)))) (tRet te) tNext) rest D σ H := by
  refine ⟨_, e, rfl, _, rfl, ?_⟩
  rw [dec_int]
  by_cases h : k = j
  · have : (k == j) = true := by simpa using h
    rw [this]; exact iteT (y h)
  · have : (k == j) = false := by simpa using h
    rw [this]; exact iteF (n h)
theorem go_kindB {σ : L2.St} {H : Hp} {body rest : TS} {D : Ends} {k j : Int} (e : σ[0]? = some (some (.int k))) (y : k = j → body { D with nx := rest D } σ H) (n : k ≠ j → rest D σ H) : tSeq (tIfS (tTest (tOp rEq (tVar 0) (tC (.int j)))) body tNext) rest D σ H := by
  refine ⟨_, e, rfl, _, rfl, ?_⟩
  rw [dec_int]
  by_cases h : k = j
  · have : (k == j) = true := by simpa using h
    rw [this]; exact iteT (y h)
  · have : (k == j) = false := by simpa using h
    rw [this]; exact iteF (n h)
theorem mk_list {σ : L2.St} {H0 H : Hp} {ta : TA} {ts : List PV} {Q : VK} (a : MkA σ H0 ta ts) (s : Same H0 H) (hl : ts.length ≤ 1000) (q : ∀ l vs H', H l = none → Same H H' → H' l = some (.lst vs) → IsL H' vs ts → Q (.ref l) H') : tLst ta σ H Q :=
  a H _ s fun vs H1 s1 i1 => ⟨Nat.le_of_lt (small1000 (by rw [i1.len]; exact hl)), fun p hp => q p vs _ (s1.free hp) (s1.trans (same_upd hp _)) upd_same (i1.same (same_upd hp _))⟩
/-! ### the table -/
mutual
/-- the names as they stand -/
def lv : PV → List Str
  | .str z => [z]
  | .oth => []
  | .tup [] => []
  | .tup (_ :: r) => lvL r
def lvL : List PV → List Str
  | [] => []
  | t :: r => lv t ++ lvL r
end
structure Row where
  ps : List (Str × PV)
  ix : PV
def prPV (p : Str × PV) : PV := .tup [.str p.1, p.2]
def rowPV (r : Row) : PV := .tup [.tup (r.ps.map prPV), r.ix]
/-- the four makers, and how many parts each has -/
def MK : List (Str × Int) := [("z", 0), ("s", 1), ("p", 2), ("o", 0)]
structure RowG (F : List Str) (r : Row) : Prop where
  ps : ∀ p ∈ r.ps, p.1 ∈ F ∧ form MK true p.2 = true ∧ dep p.2 ≤ 3
  len : r.ps.length ≤ 2
  ix : form MK true r.ix = true ∧ dep r.ix ≤ 3
  nms : ∀ z ∈ lv r.ix, ∃ p ∈ r.ps, z ∈ lv p.2
def tz : PV := .tup [.str "z"]
def ts_ : PV := .tup [.str "s", .str "n"]
def tp_ : PV := .tup [.str "p", .str "n", .str "m"]
def nn : PV := .str "n"
/-- the rows of each kind -/
def shape (k : Int) (own other third : Str) : List Row :=
  if k = 0 then [⟨[], tz⟩, ⟨[(own, nn)], ts_⟩] else
  if k = 1 then [⟨[], tz⟩] else
  if k = 2 then [⟨[(other, nn)], ts_⟩] else
  if k = 3 then [⟨[(other, nn)], ts_⟩, ⟨[(own, nn)], ts_⟩] else
  if k = 4 then [⟨[], tz⟩, ⟨[(other, tz), (own, nn)], ts_⟩] else
  if k = 5 then [⟨[], tz⟩, ⟨[(other, nn)], ts_⟩] else
  if k = 6 then [⟨[(other, ts_)], nn⟩] else
  if k = 7 then [⟨[(other, nn), (third, nn)], ts_⟩] else
  if k = 8 then [⟨[(other, nn), (third, nn)], tz⟩] else
  if k = 9 then [⟨[(own, nn)], ts_⟩] else
  if k = 10 then [⟨[], tz⟩, ⟨[(other, nn)], ts_⟩, ⟨[(third, nn)], ts_⟩] else
  if k = 11 then [⟨[], tz⟩, ⟨[(own, nn), (other, .str "m")], tp_⟩, ⟨[(own, tp_)], nn⟩] else
  if k = 12 then [⟨[], tz⟩, ⟨[(own, nn)], ts_⟩, ⟨[(own, ts_)], nn⟩] else
  if k = 13 then [⟨[], .tup [.str "o"]⟩, ⟨[(other, nn)], ts_⟩] else
  [⟨[], tz⟩, ⟨[(own, nn), (other, .str "m")], ts_⟩]
def ShG (F : List Str) (l : List Row) : Prop := (∀ r ∈ l, RowG F r) ∧ 1 ≤ l.length ∧ l.length ≤ 3
theorem shape_ok {F : List Str} {k : Int} {own other third : Str} (h1 : own ∈ F) (h2 : other ∈ F) (h3 : third ∈ F) : ShG F (shape k own other third) := by
  have base : ∀ r : Row, (∀ p ∈ r.ps, p.1 = own ∨ p.1 = other ∨ p.1 = third) → (∀ p ∈ r.ps, p.2 = tz ∨ p.2 = nn ∨ p.2 = ts_ ∨ p.2 = tp_ ∨ p.2 = .str "m") → r.ps.length ≤ 2 → form MK true r.ix = true → dep r.ix ≤ 3 → (∀ z ∈ lv r.ix, ∃ p ∈ r.ps, z ∈ lv p.2) → RowG F r := by
    intro r a b c d e f
    refine ⟨fun p hp => ⟨?_, ?_⟩, c, ⟨d, e⟩, f⟩
    · rcases a p hp with q | q | q <;> rw [q] <;> assumption
    · rcases b p hp with q | q | q | q | q <;> rw [q] <;> exact ⟨by decide +kernel, by decide⟩
  have all : ∀ l : List Row, 1 ≤ l.length → l.length ≤ 3 → (∀ r ∈ l, RowG F r) → ShG F l := fun l c a b => ⟨b, c, a⟩
  have one : ∀ r : Row, RowG F r → ∀ x ∈ [r], RowG F x := fun r h x hx => by rw [List.mem_singleton.mp hx]; exact h
  have more : ∀ (r : Row) (l : List Row), RowG F r → (∀ x ∈ l, RowG F x) → ∀ x ∈ r :: l, RowG F x := fun r l h g x hx => by
    rcases List.mem_cons.mp hx with q | q
    · rw [q]; exact h
    · exact g x q
  have key : ∀ (c : Prop) [Decidable c] (a b : List Row), ShG F a → ShG F b → ShG F (if c then a else b) := fun c _ a b x y => by split <;> assumption
  unfold shape
  repeat' refine key _ _ _ ?_ ?_
  all_goals refine all _ ?_ ?_ ?_
  all_goals try exact Nat.le_of_ble_eq_true rfl
  all_goals repeat' (first | refine one _ ?_ | refine more _ _ ?_ ?_)
  all_goals refine base _ ?_ ?_ ?_ ?_ ?_ ?_
  all_goals first
    | (show dep _ ≤ 3; decide)
    | exact (by decide +kernel : form MK true tz = true)
    | exact (by decide +kernel : form MK true nn = true)
    | exact (by decide +kernel : form MK true ts_ = true)
    | exact (by decide +kernel : form MK true tp_ = true)
    | exact (by decide +kernel : form MK true (.tup [.str "o"]) = true)
    | (simp [lv, lvL, tz, nn, ts_, tp_, Tm, TmL, dep, depL]; done)
def spShape : Sp := fun vs H Q _ => ∃ (k : Int) (own other third : Str), vs = [.int k, .str own, .str other, .str third] ∧ sok own = true ∧ sok other = true ∧ sok third = true ∧
  ∀ l us H', H l = none → Same H H' → H' l = some (.lst us) → IsL H' us ((shape k own other third).map rowPV) → Q (.ref l) H'
theorem scal_int (a b : Int) : scal (.int a) (.int b) = true := rfl
theorem ok_law_shape (T : Txt K mg)  : FnOk P w K mg base CX0 1 T.a_law_shape T.d_law_shape ["kind", "own", "other", "third"] spShape := by
  refine T.F_law_shape.ok sc_law_shape (fun vs H Q E h => ?_) (fun cdv A outer s H vs Q E hr h => ?_)
  · obtain ⟨k, own, other, third, rfl, _⟩ := h; rfl
  · obtain ⟨k, own, other, third, rfl, o1, o2, o3, q⟩ := h
    refine ⟨_, (pss_cons (ps_asg (pe_tup (pa_cons (pe_tup (pa_cons pe_str pa_nil)) (pa_cons (pe_tup (pa_cons pe_str (pa_cons pe_str pa_nil))) pa_nil))) (pg_tup rfl (pgs_cons (pg_name (i := 4) sc_law_shape.nd rfl (Or.inl rfl)) (pgs_cons (pg_name (i := 5) sc_law_shape.nd rfl (Or.inl rfl)) pgs_nil))))
    (pss_cons (ps_set (i := 6) sc_law_shape.nd rfl (Or.inl rfl) (pe_tup (pa_cons (pe_tup (pa_cons (pv 2) (pa_cons pe_str pa_nil))) pa_nil)))
    (pss_cons (ps_if (pt_cmpR op_eq (pv 0) pe_int (nomark _)) (pss_one (ps_ret (pe_lst (pa_cons (pe_tup (pa_cons (pe_tup pa_nil) (pa_cons (pv 4) pa_nil))) (pa_cons (pe_tup (pa_cons (pe_tup (pa_cons (pe_tup (pa_cons (pv 1) (pa_cons pe_str pa_nil))) pa_nil)) (pa_cons (pv 5) pa_nil))) pa_nil))))) pss_nil)
    (pss_cons (ps_if (pt_cmpR op_eq (pv 0) pe_int (nomark _)) (pss_one (ps_ret (pe_lst (pa_cons (pe_tup (pa_cons (pe_tup pa_nil) (pa_cons (pv 4) pa_nil))) pa_nil)))) pss_nil)
    (pss_cons (ps_if (pt_cmpR op_eq (pv 0) pe_int (nomark _)) (pss_one (ps_ret (pe_lst (pa_cons (pe_tup (pa_cons (pv 6) (pa_cons (pv 5) pa_nil))) pa_nil)))) pss_nil)
    (pss_cons (ps_if (pt_cmpR op_eq (pv 0) pe_int (nomark _)) (pss_one (ps_ret (pe_lst (pa_cons (pe_tup (pa_cons (pv 6) (pa_cons (pv 5) pa_nil))) (pa_cons (pe_tup (pa_cons (pe_tup (pa_cons (pe_tup (pa_cons (pv 1) (pa_cons pe_str pa_nil))) pa_nil)) (pa_cons (pv 5) pa_nil))) pa_nil))))) pss_nil)
    (pss_cons (ps_if (pt_cmpR op_eq (pv 0) pe_int (nomark _)) (pss_one (ps_ret (pe_lst (pa_cons (pe_tup (pa_cons (pe_tup pa_nil) (pa_cons (pv 4) pa_nil))) (pa_cons (pe_tup (pa_cons (pe_tup (pa_cons (pe_tup (pa_cons (pv 2) (pa_cons (pv 4) pa_nil))) (pa_cons (pe_tup (pa_cons (pv 1) (pa_cons pe_str pa_nil))) pa_nil))) (pa_cons (pv 5) pa_nil))) pa_nil))))) pss_nil)
    (pss_cons (ps_if (pt_cmpR op_eq (pv 0) pe_int (nomark _)) (pss_one (ps_ret (pe_lst (pa_cons (pe_tup (pa_cons (pe_tup pa_nil) (pa_cons (pv 4) pa_nil))) (pa_cons (pe_tup (pa_cons (pv 6) (pa_cons (pv 5) pa_nil))) pa_nil))))) pss_nil)
    (pss_cons (ps_if (pt_cmpR op_eq (pv 0) pe_int (nomark _)) (pss_one (ps_ret (pe_lst (pa_cons (pe_tup (pa_cons (pe_tup (pa_cons (pe_tup (pa_cons (pv 2) (pa_cons (pv 5) pa_nil))) pa_nil)) (pa_cons pe_str pa_nil))) pa_nil)))) pss_nil)
    (pss_cons (ps_if (pt_cmpR op_eq (pv 0) pe_int (nomark _)) (pss_one (ps_ret (pe_lst (pa_cons (pe_tup (pa_cons (pe_tup (pa_cons (pe_tup (pa_cons (pv 2) (pa_cons pe_str pa_nil))) (pa_cons (pe_tup (pa_cons (pv 3) (pa_cons pe_str pa_nil))) pa_nil))) (pa_cons (pv 5) pa_nil))) pa_nil)))) pss_nil)
    (pss_cons (ps_if (pt_cmpR op_eq (pv 0) pe_int (nomark _)) (pss_one (ps_ret (pe_lst (pa_cons (pe_tup (pa_cons (pe_tup (pa_cons (pe_tup (pa_cons (pv 2) (pa_cons pe_str pa_nil))) (pa_cons (pe_tup (pa_cons (pv 3) (pa_cons pe_str pa_nil))) pa_nil))) (pa_cons (pv 4) pa_nil))) pa_nil)))) pss_nil)
    (pss_cons (ps_if (pt_cmpR op_eq (pv 0) pe_int (nomark _)) (pss_one (ps_ret (pe_lst (pa_cons (pe_tup (pa_cons (pe_tup (pa_cons (pe_tup (pa_cons (pv 1) (pa_cons pe_str pa_nil))) pa_nil)) (pa_cons (pv 5) pa_nil))) pa_nil)))) pss_nil)
    (pss_cons (ps_if (pt_cmpR op_eq (pv 0) pe_int (nomark _)) (pss_one (ps_ret (pe_lst (pa_cons (pe_tup (pa_cons (pe_tup pa_nil) (pa_cons (pv 4) pa_nil))) (pa_cons (pe_tup (pa_cons (pv 6) (pa_cons (pv 5) pa_nil))) (pa_cons (pe_tup (pa_cons (pe_tup (pa_cons (pe_tup (pa_cons (pv 3) (pa_cons pe_str pa_nil))) pa_nil)) (pa_cons (pv 5) pa_nil))) pa_nil)))))) pss_nil)
    (pss_cons (ps_if (pt_cmpR op_eq (pv 0) pe_int (nomark _)) (pss_cons (ps_set (i := 7) sc_law_shape.nd rfl (Or.inl rfl) (pe_tup (pa_cons pe_str (pa_cons pe_str (pa_cons pe_str pa_nil)))))
    (pss_one (ps_ret (pe_lst (pa_cons (pe_tup (pa_cons (pe_tup pa_nil) (pa_cons (pv 4) pa_nil))) (pa_cons (pe_tup (pa_cons (pe_tup (pa_cons (pe_tup (pa_cons (pv 1) (pa_cons pe_str pa_nil))) (pa_cons (pe_tup (pa_cons (pv 2) (pa_cons pe_str pa_nil))) pa_nil))) (pa_cons (pv 7) pa_nil))) (pa_cons (pe_tup (pa_cons (pe_tup (pa_cons (pe_tup (pa_cons (pv 1) (pa_cons (pv 7) pa_nil))) pa_nil)) (pa_cons pe_str pa_nil))) pa_nil))))))) pss_nil)
    (pss_cons (ps_if (pt_cmpR op_eq (pv 0) pe_int (nomark _)) (pss_one (ps_ret (pe_lst (pa_cons (pe_tup (pa_cons (pe_tup pa_nil) (pa_cons (pv 4) pa_nil))) (pa_cons (pe_tup (pa_cons (pe_tup (pa_cons (pe_tup (pa_cons (pv 1) (pa_cons pe_str pa_nil))) pa_nil)) (pa_cons (pv 5) pa_nil))) (pa_cons (pe_tup (pa_cons (pe_tup (pa_cons (pe_tup (pa_cons (pv 1) (pa_cons (pv 5) pa_nil))) pa_nil)) (pa_cons pe_str pa_nil))) pa_nil)))))) pss_nil)
    (pss_cons (ps_if (pt_cmpR op_eq (pv 0) pe_int (nomark _)) (pss_one (ps_ret (pe_lst (pa_cons (pe_tup (pa_cons (pe_tup pa_nil) (pa_cons (pe_tup (pa_cons pe_str pa_nil)) pa_nil))) (pa_cons (pe_tup (pa_cons (pv 6) (pa_cons (pv 5) pa_nil))) pa_nil))))) pss_nil)
    (pss_one (ps_ret (pe_lst (pa_cons (pe_tup (pa_cons (pe_tup pa_nil) (pa_cons (pv 4) pa_nil))) (pa_cons (pe_tup (pa_cons (pe_tup (pa_cons (pe_tup (pa_cons (pv 1) (pa_cons pe_str pa_nil))) (pa_cons (pe_tup (pa_cons (pv 2) (pa_cons pe_str pa_nil))) pa_nil))) (pa_cons (pv 5) pa_nil))) pa_nil))))))))))))))))))))), ?_⟩
    have v1 : Is H (.str own) (.str own) := .str _ o1
    have v2 : Is H (.str other) (.str other) := .str _ o2
    have v3 : Is H (.str third) (.str third) := .str _ o3
    refine go_asg (t := .tup [tz, ts_]) ?_ fun v H1 s1 i1 => ?_
    · (repeat (first | exact mk_nil | refine mk_cons ?_ ?_ | refine mk_tup ?_ (by simp) | exact mk_str (by decide +kernel) | (refine mk_var rfl ?_; assumption)))
    obtain ⟨a, vs, rfl, ea, hL⟩ := i1.tup_inv
    cases hL with
    | @cons vz _ _ _ iz hL =>
    cases hL with
    | @cons vn _ _ _ inn hL =>
    cases hL
    refine ⟨a, _, rfl, .inl (.inl ea), rfl, vz, _, rfl, vn, _, rfl, rfl, ?_⟩
    have v1 := v1.same s1
    have v2 := v2.same s1
    have v3 := v3.same s1
    refine go_asg (t := .tup [prPV (other, nn)]) ?_ fun vg H2 s2 ig => ?_
    · (repeat (first | exact mk_nil | refine mk_cons ?_ ?_ | refine mk_tup ?_ (by simp) | exact mk_str (by decide +kernel) | (refine mk_var rfl ?_; assumption)))
    have v1 := v1.same s2
    have v2 := v2.same s2
    have v3 := v3.same s2
    have iz := iz.same s2
    have inn := inn.same s2
    have s12 := s1.trans s2
    have fin : ∀ {ta : TA} {rows : List Row} {σ : L2.St}, shape k own other third = rows → rows.length ≤ 3 → MkA σ H2 ta (rows.map rowPV) → tLst ta σ H2 Q := fun {ta rows σ} e hl m =>
      mk_list m (.refl _) (by rw [List.length_map]; omega) fun l us H' l0 s' el il => q l us H' (s12.free l0) (s12.trans s') el (by rw [e]; exact il)
    have nm := fun (j : Int) (l r : List Row) (h : k = j) => (if_pos h : (if k = j then l else r) = l)
    refine go_kind rfl (fun h0 => fin (rows := [⟨[], tz⟩, ⟨[(own, nn)], ts_⟩]) (by subst h0; rfl) (Nat.le_of_ble_eq_true rfl) ?_) fun h0 => ?_
    · (repeat (first | exact mk_nil | refine mk_cons ?_ ?_ | refine mk_tup ?_ (by simp) | exact mk_str (by decide +kernel) | (refine mk_var rfl ?_; assumption)))
    refine go_kind rfl (fun h1 => fin (rows := [⟨[], tz⟩]) (by subst h1; rfl) (Nat.le_of_ble_eq_true rfl) ?_) fun h1 => ?_
    · (repeat (first | exact mk_nil | refine mk_cons ?_ ?_ | refine mk_tup ?_ (by simp) | exact mk_str (by decide +kernel) | (refine mk_var rfl ?_; assumption)))
    refine go_kind rfl (fun h2 => fin (rows := [⟨[(other, nn)], ts_⟩]) (by subst h2; rfl) (Nat.le_of_ble_eq_true rfl) ?_) fun h2 => ?_
    · (repeat (first | exact mk_nil | refine mk_cons ?_ ?_ | refine mk_tup ?_ (by simp) | exact mk_str (by decide +kernel) | (refine mk_var rfl ?_; assumption)))
    refine go_kind rfl (fun h3 => fin (rows := [⟨[(other, nn)], ts_⟩, ⟨[(own, nn)], ts_⟩]) (by subst h3; rfl) (Nat.le_of_ble_eq_true rfl) ?_) fun h3 => ?_
    · (repeat (first | exact mk_nil | refine mk_cons ?_ ?_ | refine mk_tup ?_ (by simp) | exact mk_str (by decide +kernel) | (refine mk_var rfl ?_; assumption)))
    refine go_kind rfl (fun h4 => fin (rows := [⟨[], tz⟩, ⟨[(other, tz), (own, nn)], ts_⟩]) (by subst h4; rfl) (Nat.le_of_ble_eq_true rfl) ?_) fun h4 => ?_
    · (repeat (first | exact mk_nil | refine mk_cons ?_ ?_ | refine mk_tup ?_ (by simp) | exact mk_str (by decide +kernel) | (refine mk_var rfl ?_; assumption)))
    refine go_kind rfl (fun h5 => fin (rows := [⟨[], tz⟩, ⟨[(other, nn)], ts_⟩]) (by subst h5; rfl) (Nat.le_of_ble_eq_true rfl) ?_) fun h5 => ?_
    · (repeat (first | exact mk_nil | refine mk_cons ?_ ?_ | refine mk_tup ?_ (by simp) | exact mk_str (by decide +kernel) | (refine mk_var rfl ?_; assumption)))
    refine go_kind rfl (fun h6 => fin (rows := [⟨[(other, ts_)], nn⟩]) (by subst h6; rfl) (Nat.le_of_ble_eq_true rfl) ?_) fun h6 => ?_
    · (repeat (first | exact mk_nil | refine mk_cons ?_ ?_ | refine mk_tup ?_ (by simp) | exact mk_str (by decide +kernel) | (refine mk_var rfl ?_; assumption)))
    refine go_kind rfl (fun h7 => fin (rows := [⟨[(other, nn), (third, nn)], ts_⟩]) (by subst h7; rfl) (Nat.le_of_ble_eq_true rfl) ?_) fun h7 => ?_
    · (repeat (first | exact mk_nil | refine mk_cons ?_ ?_ | refine mk_tup ?_ (by simp) | exact mk_str (by decide +kernel) | (refine mk_var rfl ?_; assumption)))
    refine go_kind rfl (fun h8 => fin (rows := [⟨[(other, nn), (third, nn)], tz⟩]) (by subst h8; rfl) (Nat.le_of_ble_eq_true rfl) ?_) fun h8 => ?_
    · (repeat (first | exact mk_nil | refine mk_cons ?_ ?_ | refine mk_tup ?_ (by simp) | exact mk_str (by decide +kernel) | (refine mk_var rfl ?_; assumption)))
    refine go_kind rfl (fun h9 => fin (rows := [⟨[(own, nn)], ts_⟩]) (by subst h9; rfl) (Nat.le_of_ble_eq_true rfl) ?_) fun h9 => ?_
    · (repeat (first | exact mk_nil | refine mk_cons ?_ ?_ | refine mk_tup ?_ (by simp) | exact mk_str (by decide +kernel) | (refine mk_var rfl ?_; assumption)))
    refine go_kind rfl (fun h10 => fin (rows := [⟨[], tz⟩, ⟨[(other, nn)], ts_⟩, ⟨[(third, nn)], ts_⟩]) (by subst h10; rfl) (Nat.le_of_ble_eq_true rfl) ?_) fun h10 => ?_
    · (repeat (first | exact mk_nil | refine mk_cons ?_ ?_ | refine mk_tup ?_ (by simp) | exact mk_str (by decide +kernel) | (refine mk_var rfl ?_; assumption)))
    refine go_kindB rfl (fun h11 => ?_) fun h11 => ?_
    · refine go_asg (t := tp_) ?_ fun vp H3 s3 ip => ?_
      · (repeat (first | exact mk_nil | refine mk_cons ?_ ?_ | refine mk_tup ?_ (by simp) | exact mk_str (by decide +kernel) | (refine mk_var rfl ?_; assumption)))
      have v1 := v1.same s3
      have v2 := v2.same s3
      have iz := iz.same s3
      have inn := inn.same s3
      refine mk_list (ts := [⟨[], tz⟩, ⟨[(own, nn), (other, .str "m")], tp_⟩, ⟨[(own, tp_)], nn⟩].map rowPV) ?_ (.refl _) (by rw [List.length_map]; exact Nat.le_of_ble_eq_true rfl) fun l us H' l0 s' el il => q l us H' ((s12.trans s3).free l0) ((s12.trans s3).trans s') el (by rw [show shape k own other third = _ from by subst h11; rfl]; exact il)
      (repeat (first | exact mk_nil | refine mk_cons ?_ ?_ | refine mk_tup ?_ (by simp) | exact mk_str (by decide +kernel) | (refine mk_var rfl ?_; assumption)))
    refine go_kind rfl (fun h12 => fin (rows := [⟨[], tz⟩, ⟨[(own, nn)], ts_⟩, ⟨[(own, ts_)], nn⟩]) (by subst h12; rfl) (Nat.le_of_ble_eq_true rfl) ?_) fun h12 => ?_
    · (repeat (first | exact mk_nil | refine mk_cons ?_ ?_ | refine mk_tup ?_ (by simp) | exact mk_str (by decide +kernel) | (refine mk_var rfl ?_; assumption)))
    refine go_kind rfl (fun h13 => fin (rows := [⟨[], .tup [.str "o"]⟩, ⟨[(other, nn)], ts_⟩]) (by subst h13; rfl) (Nat.le_of_ble_eq_true rfl) ?_) fun h13 => ?_
    · (repeat (first | exact mk_nil | refine mk_cons ?_ ?_ | refine mk_tup ?_ (by simp) | exact mk_str (by decide +kernel) | (refine mk_var rfl ?_; assumption)))
    refine fin (rows := [⟨[], tz⟩, ⟨[(own, nn), (other, .str "m")], ts_⟩]) ?_ (Nat.le_of_ble_eq_true rfl) ?_
    · unfold shape
      simp only [h0, h1, h2, h3, h4, h5, h6, h7, h8, h9, h10, h11, h12, h13, if_false]
    · (repeat (first | exact mk_nil | refine mk_cons ?_ ?_ | refine mk_tup ?_ (by simp) | exact mk_str (by decide +kernel) | (refine mk_var rfl ?_; assumption)))
end
end Kx
namespace Kx
open PySem PySem.Spec PyProof.Rows L2
section
variable {P : Program} {w : World} {K : PySem.W.Frag} {mg : Str → Option Value} {base : Heap}
structure Con where
  w : Str
  ps : List (Str × PV)
  fam : Str
  ix : PV
def conPV (c : Con) : PV := .tup [.str c.w, .tup (c.ps.map prPV), .str c.fam, c.ix]
def tabPV (mk : List PV) (F : List Str) (cs : List Con) : PV := .tup [.str "table", .tup mk, .tup (F.map PV.str), .tup (cs.map conPV)]
def kw (i : Nat) : Str := ("K" : Str) ++ (toString ((i : Nat) : Int))
def fams : List Str := ["Fa", "Fb", "Fc", "Fd"]
structure ConsG (F : List Str) (cs : List Con) : Prop where
  word : ∀ i c, cs[i]? = some c → c.w = kw i
  row : ∀ c ∈ cs, RowG F ⟨c.ps, c.ix⟩ ∧ c.fam ∈ F
/-- the table as it is drawn -/
structure TabK (F : List Str) (cs : List Con) : Prop where
  cons : ConsG F cs
  len : 1 ≤ cs.length ∧ cs.length ≤ 12
  fl : 2 ≤ F.length ∧ F.length ≤ 4
  ok : ∀ z ∈ F, sok z = true
  nd : F.Nodup
/-- a table with any words, each once -/
structure TabG (F : List Str) (cs : List Con) : Prop where
  nd : (cs.map Con.w).Nodup
  okw : ∀ c ∈ cs, sok c.w = true
  row : ∀ c ∈ cs, RowG F ⟨c.ps, c.ix⟩ ∧ c.fam ∈ F
  len : 1 ≤ cs.length ∧ cs.length ≤ 12
  fl : 2 ≤ F.length ∧ F.length ≤ 4
  ok : ∀ z ∈ F, sok z = true
theorem kw_ok : ∀ i, i < 12 → sok (kw i) = true := by decide +kernel
theorem kw_inj : ∀ i, i < 12 → ∀ j, j < 12 → kw i = kw j → i = j := by decide +kernel
theorem fams_nd : fams.Nodup := by decide +kernel
theorem fams_ok : ∀ z ∈ fams, sok z = true := by decide +kernel
theorem Ex.own {d c l : Addr} {H H1 : Hp} (x : Ex d c H H1) (hl : H l = none) (o : HO) : Ex d c H (upd H1 l o) :=
  ⟨fun b u n n2 h => by rw [upd_ne (ne_of_none h hl)]; exact x.but b u n n2 h, fun ⟨xs, e⟩ => by rw [upd_ne (ne_of_none e hl)]; exact x.l1 ⟨xs, e⟩, fun ⟨xs, e⟩ => by rw [upd_ne (ne_of_none e hl)]; exact x.l2 ⟨xs, e⟩⟩
mutual
/-- a list is written -/
theorem Is.wr {H : Hp} {l : Addr} {xs ys : List V} (e : H l = some (.lst xs)) : ∀ {v : V} {t : PV}, Is H v t → Is (upd H l (.lst ys)) v t
  | _, _, .str z k => .str z k
  | _, _, .non => .non
  | _, _, .bl b => .bl b
  | _, _, .int i => .int i
  | _, _, .lst (a := a) q => by
    by_cases h : a = l
    · subst h; exact .lst ⟨ys, upd_same⟩
    · obtain ⟨zs, q⟩ := q; exact .lst ⟨zs, by rw [upd_ne h]; exact q⟩
  | _, _, .dict (a := a) (kvs := kvs) q => .dict (kvs := kvs) (by rw [upd_ne fun z => by rw [z, e] at q; cases q]; exact q)
  | _, _, .tup q r => .tup (Tu.lst e ys _ _ q (fun _ z => by cases z) (fun _ z => by cases z)) (IsL.wr e r)
theorem IsL.wr {H : Hp} {l : Addr} {xs ys : List V} (e : H l = some (.lst xs)) : ∀ {v : List V} {t : List PV}, IsL H v t → IsL (upd H l (.lst ys)) v t
  | _, _, .nil => .nil
  | _, _, .cons a r => .cons (Is.wr e a) (IsL.wr e r)
end
theorem mk_int {σ : L2.St} {H0 : Hp} (i : Int) : MkE σ H0 (tC (.int i)) .oth := fun H Q s q => q _ H (.refl _) (.int i)
theorem go_sl {σ : L2.St} {H : Hp} {te : TE} {tl th : TO} {r : V → Option Int → Option Int → Hp → VK → Prop} {t : PV} {g : TG} {D : Ends} (m : MkE σ H te t) (q : ∀ v H1, Same H H1 → Is H1 v t → tl σ H1 fun lo H2 => th σ H2 fun hi H3 => r v lo hi H3 fun x H4 => g x σ H4 D.nx) : tAsg (tSl r te tl th) g D σ H := m H _ (.refl _) q
theorem Ex.free {d c l : Addr} {H H' : Hp} (x : Ex d c H H') (h : Dr H' d c) (e : H' l = none) : H l = none := by
  obtain ⟨n1, n2⟩ := h.free e
  cases q : H l with
  | none => rfl
  | some o => have := x.but l o n1 n2 q; rw [e] at this; cases this
theorem num_log : ∀ n : Nat, n < 12 → ((n : Nat) : Int).natAbs.log2 < 1920 := by decide +kernel
theorem num_len : ∀ n : Nat, n < 12 → ("K" : Str).length + (toString ((n : Nat) : Int) : Str).length ≤ sizeLine := by decide +kernel
def spTable : Sp := fun vs H Q _ => ∃ (d c : Addr), vs = [.ref d] ∧ Dr H d c ∧ ∀ v H' mk F cs, Is H' v (tabPV mk F cs) → TabK F cs → Ex d c H H' → Dr H' d c → Q v H'
theorem ok_law_table (T : Txt K mg) (G_law_draw : FnOk P w K mg base CX0 1 T.a_law_draw T.d_law_draw ["state", "many"] spDraw) (G_law_pick : FnOk P w K mg base CX0 2 T.a_law_pick T.d_law_pick ["state", "row"] (spPick K)) (G_law_shape : FnOk P w K mg base CX0 1 T.a_law_shape T.d_law_shape ["kind", "own", "other", "third"] spShape) : FnOk P w K mg base CX0 3 T.a_law_table T.d_law_table ["state"] spTable := by
  refine T.F_law_table.ok sc_law_table (fun vs H Q E h => ?_) (fun cdv A outer s H vs Q E hr h => ?_)
  · obtain ⟨d, c, rfl, _⟩ := h; rfl
  · obtain ⟨d, c, rfl, hD, q⟩ := h
    have hr_law_draw : Room 1 _ := hr.mono (by decide)
    have hr_law_pick := hr
    have hr_law_shape : Room 1 _ := hr.mono (by decide)
    refine ⟨_, (Evl.pss_cut (ps_set (i := 1) sc_law_table.nd rfl (Or.inl rfl) (pe_slice sl_tupA (pe_tup (pa_cons (pe_tup (pa_cons pe_str (pa_cons pe_int pa_nil))) (pa_cons (pe_tup (pa_cons pe_str (pa_cons pe_int pa_nil))) (pa_cons (pe_tup (pa_cons pe_str (pa_cons pe_int pa_nil))) (pa_cons (pe_tup (pa_cons pe_str (pa_cons pe_int pa_nil))) pa_nil))))) po_none (po_some (pe_ix ix_list (pe_lst (pa_cons pe_int (pa_cons pe_int (pa_cons pe_int pa_nil)))) (pe_call G_law_draw hr_law_draw rfl T.m_law_draw T.F_law_draw.kp T.b_law_draw .nil pass0 (pa_cons (pv 0) (pa_cons pe_int pa_nil))) (fun _ _ => rfl)))))
    (Evl.pss_cut (ps_set (i := 2) sc_law_table.nd rfl (Or.inl rfl) (pe_slice sl_list (pe_lst (pa_cons pe_str (pa_cons pe_str (pa_cons pe_str (pa_cons pe_str pa_nil))))) po_none (po_some (pe_op op_add pe_int (pe_call G_law_draw hr_law_draw rfl T.m_law_draw T.F_law_draw.kp T.b_law_draw .nil pass0 (pa_cons (pv 0) (pa_cons pe_int pa_nil)))))))
    (pss_cons (ps_set (i := 3) sc_law_table.nd rfl (Or.inl rfl) (pe_lst pa_nil))
    (Evl.pss_cut (ps_for PassesOwn.never rfl (pi_list (pv 2)) (pg_name (i := 4) sc_law_table.nd rfl (Or.inl rfl))
    (pss_cons (ps_set (i := 5) sc_law_table.nd rfl (Or.inl rfl) (pe_call G_law_draw hr_law_draw rfl T.m_law_draw T.F_law_draw.kp T.b_law_draw .nil pass0 (pa_cons (pv 0) (pa_cons pe_int pa_nil))))
    (Evl.pss_cut (ps_if (PW.pt (pw_and (pt_cmpR op_lt (pe_callB call_len_seq (by rfl) T.z_len (by decide +kernel) (pa_cons (pv 1) pa_nil)) pe_int (nomark _)) (pw_and1 (pt_cmpR op_in_seq (pv 5) (pe_tup (pa_cons pe_int (pa_cons pe_int pa_nil))) (by rfl))))) (pss_one (ps_set (i := 5) sc_law_table.nd rfl (Or.inl rfl) pe_int)) pss_nil)
    (pss_one (ps_for PassesOwn.never rfl (pi_list (pe_call G_law_shape hr_law_shape rfl T.m_law_shape T.F_law_shape.kp T.b_law_shape .nil pass0 (pa_cons (pv 5) (pa_cons (pv 4) (pa_cons (pe_call G_law_pick hr_law_pick rfl T.m_law_pick T.F_law_pick.kp T.b_law_pick .nil pass0 (pa_cons (pv 0) (pa_cons (pv 2) pa_nil))) (pa_cons (pe_call G_law_pick hr_law_pick rfl T.m_law_pick T.F_law_pick.kp T.b_law_pick .nil pass0 (pa_cons (pv 0) (pa_cons (pv 2) pa_nil))) pa_nil)))))) (pg_tup rfl (pgs_cons (pg_name (i := 6) sc_law_table.nd rfl (Or.inl rfl)) (pgs_cons (pg_name (i := 7) sc_law_table.nd rfl (Or.inl rfl)) pgs_nil)))
    (pss_one (ps_expr (pe_bm PySem.F.plainAttrs_list PySem.F.slot_list_append PySem.F.type_list_append mt_append (pv 3) (pa_cons (pe_tup (pa_cons (pe_op op_add_str pe_str (pe_callTy call_str_int (by rfl) T.z_str (by decide +kernel) (pa_cons (pe_callB call_len_seq (by rfl) T.z_len (by decide +kernel) (pa_cons (pv 3) pa_nil)) pa_nil))) (pa_cons (pv 6) (pa_cons (pv 4) (pa_cons (pv 7) pa_nil))))) pa_nil)))))))))
    (pss_one (ps_ret (pe_tup (pa_cons pe_str (pa_cons (pv 1) (pa_cons (pe_callTy call_tuple_of (by rfl) T.z_tuple (by decide +kernel) (pa_cons (pv 2) pa_nil)) (pa_cons (pe_callTy call_tuple_of (by rfl) T.z_tuple (by decide +kernel) (pa_cons (pv 3) pa_nil)) pa_nil))))))))))), ?_⟩
    refine ⟨fun σ H' => ∃ (mb : Addr) (mk : List PV), σ = [some (.ref d), some (.ref mb), none, none, none, none, none, none] ∧ Is H' (.ref mb) (.tup mk) ∧ Dr H' d c ∧ Ex d c H H', ?_, ?_⟩
    · refine go_sl (t := .tup [.tup [.str "z", .oth], .tup [.str "s", .oth], .tup [.str "p", .oth], .tup [.str "o", .oth]]) ?_ fun vm H1 s1 im => ?_
      · (repeat (first | exact mk_nil | refine mk_cons ?_ ?_ | refine mk_tup ?_ (by simp) | exact mk_str (by decide +kernel) | exact mk_int _))
      obtain ⟨ma, mvs, rfl, em, imL⟩ := im.tup_inv
      refine ⟨(by show 3 ≤ sizeLine; decide), fun nl hnl => ?_⟩
      have s2 := same_upd hnl (.lst [.int 2, .int 2, .int 4])
      have nlf : H nl = none := s1.free hnl
      obtain ⟨nd1, nc1⟩ := hD.free nlf
      have D2 := (hD.same s1).same s2
      refine ⟨_, rfl, d, c, 3, rfl, D2, by omega, by omega, fun r H3 r0 r1 x3 hD3 => ?_⟩
      have el3 : H3 nl = some (.lst [.int 2, .int 2, .int 4]) := x3.but _ _ nd1 nc1 upd_same
      have em3 : H3 ma = some (.tup mvs) := x3.keep D2 (s2 _ _ em) fun _ z => by cases z
      have imL3 := (imL.same s2).ex x3 D2
      have xx : Ex d c H H3 := (Ex.of (s1.trans s2)).trans x3
      have at3 : ∃ k : Nat, atI [V.int 2, V.int 2, V.int 4] r = some (.int (k : Int)) ∧ k ≤ 4 := by
        rcases (show r = 0 ∨ r = 1 ∨ r = 2 by omega) with rfl | rfl | rfl
        · exact ⟨2, rfl, by decide⟩
        · exact ⟨2, rfl, by decide⟩
        · exact ⟨4, rfl, by decide⟩
      obtain ⟨k, atk, hk⟩ := at3
      refine ⟨nl, _, _, _, rfl, rfl, SqL.of el3, atk, _, rfl, ma, mvs, rfl, .inl (.inl em3), fun _ => ⟨ma, _, rfl, .tup em3 imL3, hD3, xx⟩, fun _ p hp => ?_⟩
      have s4 := same_upd hp (.tup (cutV mvs none (some (k : Int))))
      have lm := imL3.len
      have ic := (imL3.same s4).take k
      rw [← cut_to mvs (by rw [lm]; exact hk)] at ic
      exact ⟨p, _, rfl, .tup upd_same ic, hD3.same s4, xx.trans (.of s4)⟩
    · rintro σ H1 ⟨mb, mk, rfl, imk, hD1, x1⟩
      refine ⟨fun σ H' => ∃ (fl : Addr) (F : List Str), σ = [some (.ref d), some (.ref mb), some (.ref fl), none, none, none, none, none] ∧ Is H' (.ref mb) (.tup mk) ∧ Dr H' d c ∧ Ex d c H H' ∧ H' fl = some (.lst (F.map V.str)) ∧ H fl = none ∧ 2 ≤ F.length ∧ F.length ≤ 4 ∧ (F.Nodup ∧ ∀ z ∈ F, sok z = true), ?_, ?_⟩
      · refine ⟨(by show 4 ≤ sizeLine; decide), fun l0 hl0 => ?_⟩
        have s2 := same_upd hl0 (.lst (fams.map V.str))
        have D2 := hD1.same s2
        obtain ⟨nd1, nc1⟩ := hD1.free hl0
        refine ⟨_, rfl, d, c, 3, rfl, D2, by omega, by omega, fun r H3 r0 r1 x3 hD3 => ⟨_, _, rfl, rfl, _, rfl, l0, fams.map V.str, rfl, SqL.of (x3.but _ _ nd1 nc1 upd_same), fun fl hfl => ?_⟩⟩
        have s4 := same_upd hfl (.lst (cutV (fams.map V.str) none (some (2 + r))))
        have ek : (2 + r : Int) = ((2 + r.toNat : Nat) : Int) := by omega
        have hk : 2 + r.toNat ≤ fams.length := by show _ ≤ 4; omega
        have xx : Ex d c H (upd H3 fl (.lst (cutV (fams.map V.str) none (some (2 + r))))) := ((x1.trans (.of s2)).trans x3).trans (.of s4)
        refine ⟨fl, fams.take (2 + r.toNat), rfl, ((imk.same s2).ex x3 D2).same s4, hD3.same s4, xx, ?_, ?_, ?_, ?_, fams_nd.sublist (List.take_sublist _ _), fun z hz => fams_ok z (List.mem_of_mem_take hz)⟩
        · rw [upd_same, ek, cut_to _ (by rw [List.length_map]; exact hk), List.map_take]
        · exact ((x1.trans (.of s2)).trans x3).free hD3 hfl
        · rw [List.length_take, Nat.min_eq_left hk]; omega
        · rw [List.length_take, Nat.min_eq_left hk]; omega
      · rintro σ H2 ⟨fl, F, rfl, imk2, hD2, x2, ef, ff, F2, F4, Fnd, Fok⟩
        obtain ⟨nfd, nfc⟩ : fl ≠ d ∧ fl ≠ c := by
          obtain ⟨h1, h2⟩ := hD.free ff
          exact ⟨h1, h2⟩
        refine ⟨by decide, fun cl hcl => ?_⟩
        have s3 := same_upd hcl (.lst [])
        obtain ⟨ncd, ncc⟩ := hD2.free hcl
        have nfl : cl ≠ fl := (ne_of_none ef hcl).symm
        have cfree : H cl = none := x2.free hD2 hcl
        refine ⟨fun σ H' => ∃ (y4 y5 y6 y7 : Option V) (vs : List V) (cs : List Con), σ = [some (.ref d), some (.ref mb), some (.ref fl), some (.ref cl), y4, y5, y6, y7] ∧ Is H' (.ref mb) (.tup mk) ∧ Dr H' d c ∧ Ex d c H H' ∧ H' fl = some (.lst (F.map V.str)) ∧ H' cl = some (.lst vs) ∧ IsL H' vs (cs.map conPV) ∧ ConsG F cs ∧ 1 ≤ cs.length ∧ cs.length ≤ 12, ?_, ?_⟩
        · refine ⟨_, rfl, fl, rfl, ⟨_, SqL.of (s3 _ _ ef)⟩, ?_⟩
          refine for_list (K := K) (a := fl) (xs := F.map V.str) (fun i σ H' => ∃ (y4 y5 y6 y7 : Option V) (vs : List V) (cs : List Con), σ = [some (.ref d), some (.ref mb), some (.ref fl), some (.ref cl), y4, y5, y6, y7] ∧ Is H' (.ref mb) (.tup mk) ∧ Dr H' d c ∧ Ex d c H H' ∧ H' fl = some (.lst (F.map V.str)) ∧ H' cl = some (.lst vs) ∧ IsL H' vs (cs.map conPV) ∧ ConsG F cs ∧ i ≤ cs.length ∧ cs.length ≤ 3 * i) ?_ ?_ ?_ ?_
          · exact ⟨_, _, _, _, [], [], rfl, imk2.same s3, hD2.same s3, x2.trans (.of s3), s3 _ _ ef, upd_same, .nil, ⟨fun i c e => by simp at e, fun c h => by cases h⟩, by simp, by simp⟩
          · exact fun i σ H' _ ⟨_, _, _, _, _, _, _, _, _, _, e, _⟩ => SqL.of e
          · rintro i x σ H3 hx ⟨y4, y5, y6, y7, vs, cs, rfl, imk3, hD3, x3, ef3, ec3, ic3, G, c1, c3⟩
            have hi := (List.getElem?_eq_some_iff.mp hx).1
            rw [List.length_map] at hi
            obtain ⟨own, hown, rfl⟩ := List.mem_map.mp (List.mem_of_getElem? hx)
            refine ⟨_, rfl, d, c, 15, rfl, hD3, by omega, by omega, fun r H4 r0 r1 x4 hD4 => ?_⟩
            have ef4 := x4.but _ _ nfd nfc ef3
            have ec4 := x4.but _ _ ncd ncc ec3
            refine ⟨fun σ H' => ∃ k : Int, σ = [some (.ref d), some (.ref mb), some (.ref fl), some (.ref cl), some (.str own), some (.int k), y6, y7] ∧ Same H4 H', ?_, ?_⟩
            · obtain ⟨mb', mvs, emb, em, iml⟩ := (imk3.ex x4 hD3).tup_inv
              cases emb
              refine ⟨_, rfl, mb, mvs, rfl, .inr (.inl (.inl em)), _, _, rfl, rfl, _, rfl, ite2 (fun _ => ?_) (fun _ => iteF ⟨_, rfl, .refl _⟩)⟩
              refine ⟨_, rfl, (by show 2 ≤ sizeLine; decide), fun p hp => ⟨p, _, rfl, .inr (.inl (.inl upd_same)), rfl, rfl, _, rfl, ite2 (fun _ => ⟨0, rfl, same_upd hp _⟩) (fun _ => ⟨_, rfl, same_upd hp _⟩)⟩⟩
            · rintro σ H5 ⟨k, rfl, s5⟩
              have hD5 := hD4.same s5
              have ok1 := Fok own hown
              refine ⟨_, rfl, _, rfl, _, rfl, _, rfl, d, c, fl, F.map V.str, rfl, hD5, .inl (s5 _ _ ef4), nfd, nfc, by rw [List.length_map]; omega, by rw [List.length_map]; omega, fun w1 H6 hw1 x6 hD6 => ?_⟩
              obtain ⟨other, ho, rfl⟩ := List.mem_map.mp hw1
              have ef6 := x6.but _ _ nfd nfc (s5 _ _ ef4)
              refine ⟨_, rfl, _, rfl, d, c, fl, F.map V.str, rfl, hD6, .inl ef6, nfd, nfc, by rw [List.length_map]; omega, by rw [List.length_map]; omega, fun w2 H7 hw2 x7 hD7 => ?_⟩
              obtain ⟨third, ht, rfl⟩ := List.mem_map.mp hw2
              refine ⟨k, own, other, third, rfl, ok1, Fok _ ho, Fok _ ht, fun l us H8 l0 s8 el il => ?_⟩
              have ef8 := s8 _ _ (x7.but _ _ nfd nfc ef6)
              have ec8 := s8 _ _ (x7.but _ _ ncd ncc (x6.but _ _ ncd ncc (s5 _ _ ec4)))
              have ic8 := ((((ic3.ex x4 hD3).same s5).ex x6 hD5).ex x7 hD6).same s8
              have im8 := ((((imk3.ex x4 hD3).same s5).ex x6 hD5).ex x7 hD6).same s8
              have x8 := ((((x3.trans x4).trans (.of s5)).trans x6).trans x7).trans (.of s8)
              have hD8 := hD7.same s8
              obtain ⟨sg, sl1, sl3⟩ := shape_ok (k := k) hown ho ht
              obtain ⟨nld, nlc⟩ := hD7.free l0
              have nlcl : l ≠ cl := (ne_of_none (x7.but _ _ ncd ncc (x6.but _ _ ncd ncc (s5 _ _ ec4))) l0).symm
              have nlfl : fl ≠ cl := nfl.symm
              generalize hrows : shape k own other third = rows at il sg sl1 sl3
              refine ⟨l, rfl, ⟨_, SqL.of el⟩, ?_⟩
              have cl3 : cs.length ≤ 9 := by omega
              have ulen := il.len
              rw [List.length_map] at ulen
              refine for_list (K := K) (a := l) (xs := us) (fun j σ H' => ∃ (y6 y7 : Option V) (vs' : List V) (cs' : List Con), σ = [some (.ref d), some (.ref mb), some (.ref fl), some (.ref cl), some (.str own), some (.int k), y6, y7] ∧ Is H' (.ref mb) (.tup mk) ∧ Dr H' d c ∧ Ex d c H H' ∧ H' fl = some (.lst (F.map V.str)) ∧ H' cl = some (.lst vs') ∧ H' l = some (.lst us) ∧ IsL H' us (rows.map rowPV) ∧ IsL H' vs' (cs'.map conPV) ∧ ConsG F cs' ∧ cs'.length = cs.length + j) ?_ ?_ ?_ ?_
              · exact ⟨_, _, vs, cs, rfl, im8, hD8, x8, ef8, ec8, el, il, ic8, G, rfl⟩
              · exact fun j σ H' _ ⟨_, _, _, _, _, _, _, _, _, _, e, _⟩ => SqL.of e
              · rintro j x σ H9 hxj ⟨y6, y7, vs', cs', rfl, im9, hD9, x9, ef9, ec9, el9, il9, ic9, G9, len9⟩
                obtain ⟨y, ey, iy⟩ := il9.get hxj
                have hj := (List.getElem?_eq_some_iff.mp hxj).1
                have hj3 : j < 3 := by omega
                obtain ⟨row, hrow, rfl⟩ := List.mem_map.mp (List.mem_of_getElem? ey)
                obtain ⟨a, rvs, rfl, ea, iL⟩ := iy.tup_inv
                cases iL with
                | @cons pv_ _ _ _ ip iL =>
                cases iL with
                | @cons iv _ _ _ ii iL =>
                cases iL
                have vlen := ic9.len
                rw [List.length_map] at vlen
                have l12 : vs'.length < 12 := by omega
                refine ⟨a, _, rfl, .inl (.inl ea), rfl, pv_, _, rfl, iv, _, rfl, rfl, ?_⟩
                refine ⟨_, rfl, .inl ⟨rfl, _, SqL.of ec9⟩, _, rfl, cl, vs', rfl, .inl (SqL.of ec9), _, rfl, num_log _ l12, _, _, rfl, rfl, num_len _ l12, _, rfl, _, rfl, _, rfl, (by show 4 ≤ sizeLine; decide), fun p hp => ?_⟩
                have sp := same_upd hp (.tup [.str (kw vs'.length), pv_, .str own, iv])
                have ecp := sp _ _ ec9
                refine ⟨cl, vs', _, rfl, rfl, ecp, small1000 (by omega), _, _, vs' ++ [.ref p], cs' ++ [⟨kw vs'.length, row.ps, own, row.ix⟩], rfl, (im9.same sp).wr ecp, (hD9.same sp).own ncd ncc, (x9.trans (.of sp)).own cfree _, by rw [upd_ne nlfl]; exact sp _ _ ef9, upd_same, by rw [upd_ne nlcl]; exact sp _ _ el9, (il9.same sp).wr ecp, ?_, ?_, by rw [List.length_append, len9]; rfl⟩
                · rw [List.map_append]
                  refine ((ic9.same sp).wr ecp).append (.cons ?_ .nil)
                  refine Is.wr ecp (.tup upd_same (.cons (.str _ (kw_ok _ l12)) (.cons (ip.same sp) (.cons (.str _ ok1) (.cons (ii.same sp) .nil)))))
                · refine ⟨fun i c hc => ?_, fun c hc => ?_⟩
                  · rcases Nat.lt_or_ge i cs'.length with h | h
                    · rw [List.getElem?_append_left h] at hc
                      exact G9.word i c hc
                    · rw [List.getElem?_append_right h] at hc
                      have : i - cs'.length = 0 := by
                        have := (List.getElem?_eq_some_iff.mp hc).1
                        simpa using this
                      rw [this] at hc
                      cases (Option.some.inj hc)
                      show kw vs'.length = kw i
                      rw [vlen]
                      congr 1
                      omega
                  · rcases List.mem_append.mp hc with h | h
                    · exact G9.row c h
                    · rw [List.mem_singleton.mp h]
                      exact ⟨sg row hrow, hown⟩
              · rintro σ H9 ⟨y6, y7, vs', cs', rfl, im9, hD9, x9, ef9, ec9, el9, il9, ic9, G9, len9⟩
                exact ⟨_, _, _, _, vs', cs', rfl, im9, hD9, x9, ef9, ec9, ic9, G9, by omega, by omega⟩
          · rintro σ H3 ⟨y4, y5, y6, y7, vs, cs, rfl, imk3, hD3, x3, ef3, ec3, ic3, G, c1, c3⟩
            rw [List.length_map] at c1 c3
            exact ⟨_, _, _, _, vs, cs, rfl, imk3, hD3, x3, ef3, ec3, ic3, G, by omega, by omega⟩
        · rintro σ H3 ⟨y4, y5, y6, y7, vs, cs, rfl, imk3, hD3, x3, ef3, ec3, ic3, G, c1, c12⟩
          refine ⟨_, rfl, _, rfl, fl, _, rfl, .inl ⟨SqL.of ef3, fun ft hft => ?_⟩⟩
          have s4 := same_upd hft (.tup (F.map V.str))
          refine ⟨_, rfl, cl, _, rfl, .inl ⟨SqL.of (s4 _ _ ec3), fun ct hct => ?_⟩⟩
          have s5 := same_upd hct (.tup vs)
          refine ⟨(by show 4 ≤ sizeLine; decide), fun tt htt => ?_⟩
          have s6 := same_upd htt (.tup [.str "table", .ref mb, .ref ft, .ref ct])
          have s456 := (s4.trans s5).trans s6
          have iF : ∀ G : List Str, (∀ z ∈ G, sok z = true) → IsL (upd (upd (upd H3 ft (.tup (F.map V.str))) ct (.tup vs)) tt (.tup [.str "table", .ref mb, .ref ft, .ref ct])) (G.map V.str) (G.map PV.str) := by
            intro G
            induction G with
            | nil => exact fun _ => .nil
            | cons z r ih => exact fun hz => .cons (.str z (hz z (List.mem_cons_self ..))) (ih fun y hy => hz y (List.mem_cons_of_mem _ hy))
          refine q _ _ mk F cs (.tup upd_same (.cons (.str _ (by decide +kernel)) (.cons (imk3.same s456) (.cons (.tup ((s5.trans s6) _ _ upd_same) (iF F Fok)) (.cons (.tup (s6 _ _ upd_same) (ic3.same s456)) .nil))))) ⟨G, ⟨c1, c12⟩, ⟨F2, F4⟩, Fok, Fnd⟩ (x3.trans (.of s456)) (hD3.same s456)
end
end Kx
/-! The mathematics of fitting: what the program finds is what any way finds. -/
namespace Kx
open PySem PySem.Spec PyProof.Rows L2
abbrev AL := List (Str × PV)
def get (al : AL) (z : Str) : Option PV := (al.find? fun kv => kv.1 == z).map (·.2)
mutual
/-- putting -/
def psub (al : AL) : PV → PV
  | .str z => (get al z).getD (.str z)
  | .oth => .oth
  | .tup [] => .tup []
  | .tup (w :: r) => .tup (w :: psubL al r)
def psubL (al : AL) : List PV → List PV
  | [] => []
  | t :: r => psub al t :: psubL al r
end
theorem psubL_map (al : AL) : ∀ l : List PV, psubL al l = l.map (psub al)
  | [] => rfl
  | t :: r => by simp only [psubL, List.map_cons, psubL_map al r]
mutual
/-- a ground tree: no leaf is a name -/
def Gr : PV → Prop
  | .str _ => False
  | .oth => False
  | .tup [] => False
  | .tup (.oth :: _) => False
  | .tup (.tup _ :: _) => False
  | .tup (.str _ :: r) => GrL r
def GrL : List PV → Prop
  | [] => True
  | t :: r => Gr t ∧ GrL r
end
theorem gr_inv {t : PV} (h : Gr t) : ∃ w r, t = .tup (.str w :: r) ∧ GrL r := by
  cases t with
  | str _ => exact absurd h id
  | oth => exact absurd h id
  | tup l =>
    cases l with
    | nil => exact absurd h id
    | cons x r =>
      cases x with
      | oth => exact absurd h id
      | tup _ => exact absurd h id
      | str w => exact ⟨w, r, rfl, h⟩
theorem mem_GrL : ∀ {l : List PV}, GrL l → ∀ t ∈ l, Gr t
  | a :: r, h, t, ht => by
    rcases List.mem_cons.mp ht with rfl | ht
    · exact h.1
    · exact mem_GrL h.2 t ht
mutual
/-- fitting: whether it goes on, and what is found -/
noncomputable def fit (f : AL) : PV → PV → Bool × AL
  | .str z, t => match get f z with
    | some u => (one u t, f)
    | none => (true, f ++ [(z, t)])
  | .tup (.str w :: ps), .tup (.str w' :: ts) => if w = w' then fitL f ps ts else (false, f)
  | .tup _, _ => (false, f)
  | .oth, _ => (false, f)
noncomputable def fitL (f : AL) : List PV → List PV → Bool × AL
  | p :: ps, t :: ts => if (fit f p t).1 = true then fitL (fit f p t).2 ps ts else (false, (fit f p t).2)
  | _, _ => (true, f)
end
theorem get_append {f : AL} {z : Str} {t : PV} (h : get f z = none) (y : Str) : get (f ++ [(z, t)]) y = if y = z then some t else get f y := by
  unfold get at *
  rw [List.find?_append]
  by_cases e : y = z
  · subst e
    rw [if_pos rfl]
    have h' : f.find? (fun kv => kv.1 == y) = none := by
      cases q : f.find? (fun kv => kv.1 == y) with
      | none => rfl
      | some _ => rw [q] at h; cases h
    rw [h']
    simp
  · rw [if_neg e]
    have ne : ¬ z = y := fun q => e q.symm
    cases q : f.find? (fun kv => kv.1 == y) with
    | none => simp [ne]
    | some _ => simp
/-- g knows all that f knows -/
def Le (f g : AL) : Prop := ∀ z u, get f z = some u → get g z = some u
theorem Le.refl (f : AL) : Le f f := fun _ _ h => h
theorem Le.trans {f g h : AL} (a : Le f g) (b : Le g h) : Le f h := fun z u e => b z u (a z u e)
mutual
theorem fit_le : ∀ (p t : PV) (f : AL), Le f (fit f p t).2
  | .str z, t, f => by
    simp only [fit]
    cases h : get f z with
    | some u => exact .refl f
    | none =>
      intro y u e
      rw [get_append h]
      by_cases q : y = z
      · rw [q] at e; rw [h] at e; cases e
      · rw [if_neg q]; exact e
  | .oth, t, f => by simp only [fit]; exact .refl f
  | .tup [], t, f => by simp only [fit]; exact .refl f
  | .tup (.oth :: _), t, f => by simp only [fit]; exact .refl f
  | .tup (.tup _ :: _), t, f => by simp only [fit]; exact .refl f
  | .tup (.str w :: ps), .str _, f => by simp only [fit]; exact .refl f
  | .tup (.str w :: ps), .oth, f => by simp only [fit]; exact .refl f
  | .tup (.str w :: ps), .tup [], f => by simp only [fit]; exact .refl f
  | .tup (.str w :: ps), .tup (.oth :: _), f => by simp only [fit]; exact .refl f
  | .tup (.str w :: ps), .tup (.tup _ :: _), f => by simp only [fit]; exact .refl f
  | .tup (.str w :: ps), .tup (.str w' :: ts), f => by
    simp only [fit]
    split
    · exact fitL_le ps ts f
    · exact .refl f
theorem fitL_le : ∀ (ps ts : List PV) (f : AL), Le f (fitL f ps ts).2
  | [], _, f => by simp only [fitL]; exact .refl f
  | _ :: _, [], f => by simp only [fitL]; exact .refl f
  | p :: ps, t :: ts, f => by
    simp only [fitL]
    split
    · exact (fit_le p t f).trans (fitL_le ps ts _)
    · exact fit_le p t f
end
mutual
/-- what is found puts the pattern right -/
theorem fit_sound {mk : List (Str × Int)} (g : AL) : ∀ (p t : PV) (f : AL), form mk true p = true → form mk true t = true → (fit f p t).1 = true → Le (fit f p t).2 g → psub g p = t
  | .str z, t, f, _, _, h, hg => by
    simp only [fit] at h hg
    cases e : get f z with
    | some u =>
      rw [e] at h hg
      have := one_iff.mp h
      simp only [psub, hg z u e, Option.getD_some, this]
    | none =>
      rw [e] at hg
      have := hg z t (by rw [get_append e, if_pos rfl])
      simp only [psub, this, Option.getD_some]
  | .oth, _, _, h, _, _, _ => by simp [form] at h
  | .tup [], _, _, h, _, _, _ => by simp [form] at h
  | .tup (.oth :: _), _, _, h, _, _, _ => by simp [form] at h
  | .tup (.tup _ :: _), _, _, h, _, _, _ => by simp [form] at h
  | .tup (.str w :: ps), .str _, f, _, _, h, _ => by simp [fit] at h
  | .tup (.str w :: ps), .oth, f, _, _, h, _ => by simp [fit] at h
  | .tup (.str w :: ps), .tup [], f, _, _, h, _ => by simp [fit] at h
  | .tup (.str w :: ps), .tup (.oth :: _), f, _, _, h, _ => by simp [fit] at h
  | .tup (.str w :: ps), .tup (.tup _ :: _), f, _, _, h, _ => by simp [fit] at h
  | .tup (.str w :: ps), .tup (.str w' :: ts), f, h1, h2, h, hg => by
    simp only [fit] at h hg
    by_cases e : w = w'
    · subst e
      rw [if_pos rfl] at h hg
      simp only [form, Bool.and_eq_true, beq_iff_eq] at h1 h2
      have hl : ps.length = ts.length := by
        have := h1.1.symm.trans h2.1
        have := Option.some.inj this
        omega
      simp only [psub, fitL_sound g ps ts f hl h1.2 h2.2 h hg]
    · rw [if_neg e] at h; cases h
theorem fitL_sound {mk : List (Str × Int)} (g : AL) : ∀ (ps ts : List PV) (f : AL), ps.length = ts.length → formL mk true ps = true → formL mk true ts = true → (fitL f ps ts).1 = true → Le (fitL f ps ts).2 g → psubL g ps = ts
  | [], [], _, _, _, _, _, _ => rfl
  | p :: ps, t :: ts, f, hl, h1, h2, h, hg => by
    simp only [fitL] at h hg
    simp only [formL, Bool.and_eq_true] at h1 h2
    by_cases e : (fit f p t).1 = true
    · rw [if_pos e] at h hg
      have a := fit_sound g p t f h1.1 h2.1 e ((fitL_le ps ts _).trans hg)
      have b := fitL_sound g ps ts _ (by simpa using hl) h1.2 h2.2 h hg
      simp only [psubL, a, b]
    · rw [if_neg e] at h; cases h
end
mutual
/-- if any assignment puts the pattern right, it is found, and nothing else -/
theorem fit_complete (g : AL) : ∀ (p t : PV) (f : AL), Tm p → Gr t → Le f g → psub g p = t → (fit f p t).1 = true ∧ Le (fit f p t).2 g
  | .str z, t, f, _, ht, hf, e => by
    simp only [psub] at e
    simp only [fit]
    have hz : get g z = some t := by
      cases q : get g z with
      | none =>
        rw [q] at e
        have e2 : PV.str z = t := e
        rw [← e2] at ht
        exact absurd ht id
      | some u => rw [q] at e; exact congrArg some e
    cases q : get f z with
    | some u =>
      have := hf z u q
      rw [hz] at this
      exact ⟨one_iff.mpr (Option.some.inj this).symm, hf⟩
    | none =>
      refine ⟨rfl, fun y u hy => ?_⟩
      rw [get_append q] at hy
      split at hy
      · rename_i h; rw [h, hz]; exact hy
      · exact hf y u hy
  | .oth, _, _, h, _, _, _ => absurd h id
  | .tup [], _, _, h, _, _, _ => absurd h id
  | .tup (.oth :: _), _, _, h, _, _, _ => absurd h id
  | .tup (.tup _ :: _), _, _, h, _, _, _ => absurd h id
  | .tup (.str w :: ps), t, f, hp, ht, hf, e => by
    simp only [psub] at e
    subst e
    simp only [fit, if_true]
    exact fitL_complete g ps _ f hp ht hf rfl
theorem fitL_complete (g : AL) : ∀ (ps ts : List PV) (f : AL), TmL ps → GrL ts → Le f g → psubL g ps = ts → (fitL f ps ts).1 = true ∧ Le (fitL f ps ts).2 g
  | [], ts, f, _, _, hf, e => by subst e; simp only [psubL, fitL]; exact ⟨trivial, hf⟩
  | p :: ps, ts, f, hp, ht, hf, e => by
    subst e
    simp only [psubL] at ht ⊢
    simp only [fitL]
    obtain ⟨a, b⟩ := fit_complete g p _ f hp.1 ht.1 hf rfl
    rw [if_pos a]
    exact fitL_complete g ps _ _ hp.2 ht.2 b rfl
end
end Kx
namespace Kx
open PySem PySem.Spec PyProof.Rows L2
section
variable {P : Program} {w : World} {K : PySem.W.Frag} {mg : Str → Option Value} {base : Heap}
def Ar (mk : List (Str × Int)) : Prop := ∀ w k, look mk w = some k → k ≤ 2
/-- the dict at p stands for the assignment -/
def AsD (H : Hp) (p : Addr) (al : AL) : Prop := ∃ kvs : List (Key × V), H p = some (.dK kvs) ∧ Paired (fun kv zt => kv.1 = Sum.inr zt.1 ∧ Is H kv.2 zt.2) kvs al
theorem pair_val {H : Hp} (z : Str) : ∀ {kvs : List (Key × V)} {al : AL}, Paired (fun kv zt => kv.1 = Sum.inr zt.1 ∧ Is H kv.2 zt.2) kvs al → (valV kvs (Sum.inr z) = none ∧ get al z = none) ∨ ∃ v t, valV kvs (Sum.inr z) = some v ∧ get al z = some t ∧ Is H v t
  | _, _, .nil => .inl ⟨rfl, rfl⟩
  | _, _, .cons (a := kv) (b := zt) ⟨e, h⟩ t => by
    by_cases q : zt.1 = z
    · exact .inr ⟨kv.2, zt.2, valV_pos (by rw [e, q]), by simp [Kx.get, q], h⟩
    · rw [valV_neg (by rw [e]; intro x; exact q (Sum.inr.inj x))]
      rcases pair_val z t with ⟨a, b⟩ | ⟨v, u, a, b, c⟩
      · exact .inl ⟨a, by simpa [Kx.get, q] using b⟩
      · exact .inr ⟨v, u, a, by simpa [Kx.get, q] using b, c⟩
theorem AsD.same {H H' : Hp} {p : Addr} {al : AL} (h : AsD H p al) (s : Same H H') : AsD H' p al := by
  obtain ⟨kvs, a, b⟩ := h
  exact ⟨kvs, s _ _ a, Paired.imp b fun _ _ ⟨x, y⟩ => ⟨x, y.same s⟩⟩
theorem pair_snoc {α β : Type} {F : α → β → Prop} : ∀ {l : List α} {m : List β} {x : α} {y : β}, Paired F l m → F x y → Paired F (l ++ [x]) (m ++ [y])
  | _, _, _, _, .nil, h => .cons h .nil
  | _, _, _, _, .cons a t, h => .cons a (pair_snoc t h)
theorem form_inv {mk : List (Str × Int)} (ar : Ar mk) {H : Hp} {v : V} {t : PV} (hI : Is H v t) (hT : form mk true t = true) (c : isStr t = false) : ∃ a w vs ts, v = .ref a ∧ t = .tup (.str w :: ts) ∧ H a = some (.tup (.str w :: vs)) ∧ IsL H vs ts ∧ sok w = true ∧ look mk w = some (ts.length : Int) ∧ ts.length ≤ 2 ∧ formL mk true ts = true := by
  cases t with
  | str z => cases c
  | oth => simp [form] at hT
  | tup l =>
    obtain ⟨a, vs, rfl, ea, hL⟩ := hI.tup_inv
    cases hL with
    | nil => simp [form] at hT
    | @cons x xs y ys h0 hL =>
      cases h0 with
      | str z k =>
        simp only [form, Bool.and_eq_true, beq_iff_eq] at hT
        have := ar _ _ hT.1
        exact ⟨a, z, _, ys, rfl, rfl, ea, hL, k, hT.1, by omega, hT.2⟩
      | non => simp [form] at hT
      | bl _ => simp [form] at hT
      | int _ => simp [form] at hT
      | lst _ => simp [form] at hT
      | dict _ => simp [form] at hT
      | tup _ _ => simp [form] at hT
theorem psubL_take {al : AL} {ts : List PV} {i : Nat} {y : PV} (h : ts[i]? = some y) : psubL al (ts.take (i + 1)) = psubL al (ts.take i) ++ [psub al y] := by
  obtain ⟨hi, e⟩ := List.getElem?_eq_some_iff.mp h
  rw [List.take_succ_eq_append_getElem hi, e, psubL_map, psubL_map, List.map_append]
  rfl
theorem dep_cons (w : Str) (ts : List PV) : dep (.tup (.str w :: ts)) = 1 + max 1 (depL ts) := by simp only [dep, depL]
theorem formL_mem {mk : List (Str × Int)} {nm : Bool} {l : List PV} (h : formL mk nm l = true) : ∀ t ∈ l, form mk nm t = true := by
  rw [formL_all] at h
  exact fun t ht => List.all_eq_true.mp h t ht
def spPut (n : Nat) : Sp := fun vs H Q _ => ∃ (p : Addr) (mk : List (Str × Int)) (v : V) (t : PV) (al : AL), vs = [v, .ref p] ∧ AsD H p al ∧ Is H v t ∧ Ar mk ∧ form mk true t = true ∧ dep t ≤ n ∧ ∀ v' H', Same H H' → Is H' v' (psub al t) → Q v' H'
theorem ok_put {n : Nat} (T : Txt K mg) (G_put : FnOk P w K mg base CX0 (n+1) T.a_put T.d_put ["term", "assignment"] (spPut n)) : FnOk P w K mg base CX0 (n+2) T.a_put T.d_put ["term", "assignment"] (spPut (n+1)) := by
  refine T.F_put.ok sc_put (fun vs H Q E h => ?_) (fun cdv A outer s H vs Q E hr h => ?_)
  · obtain ⟨p, mk, v, t, al, rfl, _⟩ := h; rfl
  · obtain ⟨p, mk, v, t, al, rfl, hA, hI, ar, hW, hn, q⟩ := h
    have hu := hu_of hr
    have hr_put := hr
    refine ⟨_, (pss_cons (ps_if (pt_val (pe_callB call_isi (by rfl) T.z_isinstance (by decide +kernel) (pa_cons (pv 0) (pa_cons (pe_bltn rfl T.z_str (by decide +kernel) (show RelV (V.ty "str") (Value.type "str") from rfl)) pa_nil)))) (pss_one (ps_ret (pe_dget2 hu (pv 1) (pv 0) (pv 0) ⟨rfl, rfl, rfl, rfl⟩))) pss_nil)
    (pss_cons (ps_set (i := 2) sc_put.nd rfl (Or.inl rfl) (pe_lst (pa_cons (pe_ix ix_tup (pv 0) pe_int (fun _ _ => rfl)) pa_nil)))
    (pss_cons (ps_for PassesOwn.never rfl (pi_tup (pe_slice sl_tup (pv 0) (po_some pe_int) po_none)) (pg_name (i := 3) sc_put.nd rfl (Or.inl rfl))
    (pss_one (ps_expr (pe_bm PySem.F.plainAttrs_list PySem.F.slot_list_append PySem.F.type_list_append mt_append (pv 2) (pa_cons (pe_call G_put hr_put rfl T.m_put T.F_put.kp T.b_put .nil pass0 (pa_cons (pv 3) (pa_cons (pv 1) pa_nil))) pa_nil)))))
    (pss_one (ps_ret (pe_callTy call_tuple_of (by rfl) T.z_tuple (by decide +kernel) (pa_cons (pv 2) pa_nil))))))), ?_⟩
    obtain ⟨u, ty, kt⟩ := hI.ty (K := K)
    refine ⟨_, rfl, _, _, u, _, _, rfl, .ty _, ty, kit_str kt, _, rfl, ite2 (fun c => ?_) (fun c => ?_)⟩
    · cases t with
      | oth => cases c
      | tup ts => cases c
      | str z =>
      have iz := hI
      cases hI with
      | str z k =>
      obtain ⟨kvs, e, b⟩ := hA
      refine ⟨_, rfl, p, rfl, .inl ⟨_, .of e⟩, _, rfl, _, rfl, _, DGet.k (k := Sum.inr z) e, ?_⟩
      rcases pair_val z b with ⟨a, b⟩ | ⟨v, t, a, b, hI⟩
      · rw [a]
        exact q _ H (.refl _) (by simp only [psub, b]; exact .str z k)
      · rw [a]
        exact q _ H (.refl _) (by simp only [psub, b]; exact hI)
    · obtain ⟨a, w, vs, ts, rfl, rfl, ea, hL, kw, lk, l2, hWl⟩ := form_inv ar hI hW (Bool.eq_false_iff.mpr c)
      have hlen := hL.len
      rw [dep_cons] at hn
      refine ⟨_, rfl, a, _, _, _, rfl, rfl, .inl (.inl ea), atI_nat (j := 0) rfl, (by show 1 ≤ sizeLine; decide), fun il hil => ?_⟩
      have s0 := same_upd hil (.lst [.str w])
      refine ⟨_, rfl, _, rfl, a, _, rfl, .inl (.inl (s0 _ _ ea)), slice1, fun p1 h1 => ?_⟩
      rw [cut1]
      have s1 := same_upd h1 (.tup vs)
      have s01 := s0.trans s1
      have n1 : il ≠ p1 := ne_of_none upd_same h1
      refine ⟨p1, rfl, ⟨_, .inl (.inl upd_same)⟩, ?_⟩
      refine for_tup (K := K) (a := p1) (xs := vs) (fun i σ H2 => ∃ y3 ws, σ = [some (.ref a), some (.ref p), some (.ref il), y3] ∧ Same H H2 ∧ H2 p1 = some (.tup vs) ∧ H2 il = some (.lst (.str w :: ws)) ∧ IsL H2 ws (psubL al (ts.take i)) ∧ ws.length = i) ?_ ?_ ?_ ?_
      · exact ⟨none, [], rfl, s01, upd_same, by rw [upd_ne n1, upd_same], .nil, rfl⟩
      · exact fun i σ H2 _ ⟨_, _, _, _, e, _⟩ => .inl (.inl e)
      · intro i x σ H2 hx ⟨y3, ws, es, sm, e1, el, hW2, wl⟩
        subst es
        obtain ⟨y, ey, hy⟩ := hL.get hx
        have hm := List.mem_of_getElem? ey
        have dy := depL_mem hm
        refine ⟨_, rfl, .inl ⟨rfl, _, SqL.of el⟩, _, rfl, _, rfl, p, mk, x, y, al, rfl, hA.same sm, hy.same sm, ar, formL_mem hWl y hm, by omega, fun v' H3 s3 hv' => ?_⟩
        have hi := (List.getElem?_eq_some_iff.mp hx).1
        refine ⟨il, _, _, rfl, rfl, s3 _ _ el, ?_, ?_⟩
        · rw [List.length_cons]; exact small1000 (by omega)
        · refine ⟨_, ws ++ [v'], rfl, Kx.Same.own (sm.trans s3) hil _, ?_, by rw [upd_same]; rfl, ?_, by rw [List.length_append, wl]; rfl⟩
          · rw [upd_ne n1.symm]; exact s3 _ _ e1
          · rw [psubL_take ey]
            exact ((hW2.same s3).append (.cons hv' .nil)).wr (s3 _ _ el)
      · intro σ H2 ⟨y3, ws, es, sm, e1, el, hW2, wl⟩
        subst es
        rw [hlen, List.take_length] at hW2
        refine ⟨_, rfl, il, _, rfl, .inl ⟨SqL.of el, fun l hl => ?_⟩⟩
        have s5 := same_upd hl (.tup (.str w :: ws))
        exact q _ _ (sm.trans s5) (by simp only [psub]; exact .tup upd_same (.cons (.str w kw) (hW2.same s5)))
end
end Kx
namespace Kx
open PySem PySem.Spec PyProof.Rows L2
section
variable {P : Program} {w : World} {K : PySem.W.Frag} {mg : Str → Option Value} {base : Heap}
/-- x == y, two trees: exactly -/
def rTmX : R2 := fun x y H Q => ∃ ts us, Is H x (.tup ts) ∧ Tm (.tup ts) ∧ dep (.tup ts) ≤ 100 ∧ Is H y (.tup us) ∧ Q (.bl (one (.tup ts) (.tup us))) H
theorem op_tmx {X : Cx} (hu : X.A.units + 101 < cLine) : OpR X (compareOp .Eq) rTmX := by
  intro pins s σ H x y v u Q I rx ry h
  obtain ⟨ts, us, ha, ta, hc, hb, q⟩ := h
  obtain ⟨p, _, rfl, _⟩ := ha.tup_inv
  obtain ⟨p2, _, rfl, _⟩ := hb.tup_inv
  cases (show v = Value.ref p from rx)
  cases (show u = Value.ref p2 from ry)
  exact rc_term I hu hc ha ta hb _ _ _ _ ⟨.bl _, H, I, rfl, q⟩
mutual
theorem gr_tm : ∀ {t : PV}, Gr t → Tm t
  | .str _, h => absurd h id
  | .oth, h => absurd h id
  | .tup [], h => absurd h id
  | .tup (.oth :: _), h => absurd h id
  | .tup (.tup _ :: _), h => absurd h id
  | .tup (.str w :: r), h => grL_tm h
theorem grL_tm : ∀ {l : List PV}, GrL l → TmL l
  | [], _ => trivial
  | t :: r, h => ⟨gr_tm h.1, grL_tm h.2⟩
end
/-- all but the dict at f stands -/
def ExD (f : Addr) (H H' : Hp) : Prop := ∀ b o, b ≠ f → H b = some o → H' b = some o
theorem ExD.refl (f : Addr) (H : Hp) : ExD f H H := fun _ _ _ h => h
theorem ExD.trans {f : Addr} {H H1 H2 : Hp} (a : ExD f H H1) (b : ExD f H1 H2) : ExD f H H2 := fun c o n h => b c o n (a c o n h)
theorem ExD.of {f : Addr} {H H' : Hp} (s : Same H H') : ExD f H H' := fun b o _ h => s b o h
theorem ExD.set {f : Addr} {H : Hp} (o : HO) : ExD f H (upd H f o) := fun b u n h => by rw [upd_ne n]; exact h
def isD (H : Hp) (f : Addr) : Prop := ∃ kvs : List (Key × V), H f = some (.dK kvs)
theorem ExD.tup {f : Addr} {H H' : Hp} (x : ExD f H H') (hf : isD H f) {a : Addr} {vs : List V} (e : H a = some (.tup vs)) : H' a = some (.tup vs) := x a _ (fun q => by
  subst q
  obtain ⟨kvs, h⟩ := hf
  rw [e] at h
  cases h) e
mutual
theorem Is.exD {f : Addr} {H H' : Hp} (x : ExD f H H') (hf : isD H f) : ∀ {v : V} {t : PV}, Tm t → Is H v t → Is H' v t
  | _, _, _, .str z k => .str z k
  | _, _, h, .non => absurd h id
  | _, _, h, .bl _ => absurd h id
  | _, _, h, .int _ => absurd h id
  | _, _, h, .lst _ => absurd h id
  | _, _, h, .dict _ => absurd h id
  | _, .tup [], h, .tup e i => absurd h id
  | _, .tup (.oth :: _), h, .tup e i => absurd h id
  | _, .tup (.tup _ :: _), h, .tup e i => absurd h id
  | _, .tup (.str w :: r), h, .tup e (.cons (.str _ k) i) => .tup (x.tup hf e) (.cons (.str w k) (IsL.exD x hf h i))
theorem IsL.exD {f : Addr} {H H' : Hp} (x : ExD f H H') (hf : isD H f) : ∀ {v : List V} {t : List PV}, TmL t → IsL H v t → IsL H' v t
  | _, _, _, .nil => .nil
  | _, _, h, .cons a r => .cons (Is.exD x hf h.1 a) (IsL.exD x hf h.2 r)
end
theorem AsD.isD {H : Hp} {p : Addr} {al : AL} (h : AsD H p al) : isD H p := let ⟨kvs, e, _⟩ := h; ⟨kvs, e⟩
/-- what is found is ground, and not deep -/
def AlOk (al : AL) : Prop := ∀ kv ∈ al, Gr kv.2 ∧ dep kv.2 ≤ 60
theorem Paired.both {α β : Type} {F G : α → β → Prop} : ∀ {l : List α} {m : List β}, Paired F l m → (∀ b ∈ m, ∀ a, F a b → G a b) → Paired G l m
  | _, _, .nil, _ => .nil
  | _, _, .cons h t, f => .cons (f _ (List.mem_cons_self ..) _ h) (Paired.both t fun b hb => f b (List.mem_cons_of_mem _ hb))
theorem AsD.put {H : Hp} {p : Addr} {al : AL} {kvs : List (Key × V)} {z : Str} {v : V} {t : PV} (ok : AlOk al) (ht : Gr t) (e : H p = some (.dK kvs)) (b : Paired (fun kv zt => kv.1 = Sum.inr zt.1 ∧ Is H kv.2 zt.2) kvs al) (n : valV kvs (Sum.inr z) = none) (h : Is H v t) :
    AsD (upd H p (.dK (putK kvs (Sum.inr z) v))) p (al ++ [(z, t)]) := by
  have x : ExD p H (upd H p (.dK (putK kvs (Sum.inr z) v))) := .set _
  refine ⟨_, upd_same, ?_⟩
  rw [putK_new _ n] at x ⊢
  exact pair_snoc (Paired.both b fun zt hz _ ⟨q, y⟩ => ⟨q, Is.exD x ⟨_, e⟩ (gr_tm (ok zt hz).1) y⟩) ⟨rfl, Is.exD x ⟨_, e⟩ (gr_tm ht) h⟩
mutual
/-- how many names stand in it -/
def lc : PV → Nat
  | .str _ => 1
  | .oth => 0
  | .tup [] => 0
  | .tup (_ :: r) => lcL r
def lcL : List PV → Nat
  | [] => 0
  | t :: r => lc t + lcL r
end
theorem fit_other {al : AL} {w : Str} {ps : List PV} {z : Str} : fit al (.tup (.str w :: ps)) (.str z) = (false, al) := by simp [fit]
theorem fit_tups {al : AL} {w w' : Str} {ps ts : List PV} : fit al (.tup (.str w :: ps)) (.tup (.str w' :: ts)) = if w = w' then fitL al ps ts else (false, al) := by rw [fit]
theorem fitL_nil {al : AL} {ts : List PV} : fitL al [] ts = (true, al) := by cases ts <;> simp [fitL]
theorem fitL_cons {al : AL} {p t : PV} {ps ts : List PV} : fitL al (p :: ps) (t :: ts) = if (fit al p t).1 = true then fitL (fit al p t).2 ps ts else (false, (fit al p t).2) := by rw [fitL]
mutual
/-- the values that are found are not deeper than the terms -/
theorem fit_dep : ∀ (p t : PV) (f : AL), (Gr t ∧ dep t ≤ 60) → AlOk f → AlOk (fit f p t).2
  | .str z, t, f, ht, hf => by
    unfold fit
    cases h : Kx.get f z with
    | some u => exact hf
    | none =>
      intro kv hk
      rcases List.mem_append.mp hk with hk | hk
      · exact hf kv hk
      · rw [List.mem_singleton.mp hk]; exact ht
  | .tup (.str w :: ps), .tup (.str w' :: ts), f, ht, hf => by
    rw [fit_tups]
    split
    · obtain ⟨h1, h2⟩ := ht
      simp only [dep, depL] at h2
      exact fitL_dep ps ts f ⟨h1, by omega⟩ hf
    · exact hf
  | .tup (.str w :: ps), .str _, f, _, hf => by simp only [fit]; exact hf
  | .tup (.str w :: ps), .oth, f, _, hf => by simp only [fit]; exact hf
  | .tup (.str w :: ps), .tup [], f, _, hf => by simp only [fit]; exact hf
  | .tup (.str w :: ps), .tup (.oth :: _), f, _, hf => by simp only [fit]; exact hf
  | .tup (.str w :: ps), .tup (.tup _ :: _), f, _, hf => by simp only [fit]; exact hf
  | .tup [], t, f, _, hf => by cases t <;> (simp only [fit]; exact hf)
  | .tup (.oth :: _), t, f, _, hf => by cases t <;> (simp only [fit]; exact hf)
  | .tup (.tup _ :: _), t, f, _, hf => by cases t <;> (simp only [fit]; exact hf)
  | .oth, t, f, _, hf => by cases t <;> (simp only [fit]; exact hf)
theorem fitL_dep : ∀ (ps ts : List PV) (f : AL), (GrL ts ∧ depL ts ≤ 60) → AlOk f → AlOk (fitL f ps ts).2
  | p :: ps, t :: ts, f, ht, hf => by
    obtain ⟨h1, h2⟩ := ht
    simp only [depL] at h2
    have a := fit_dep p t f ⟨h1.1, by omega⟩ hf
    rw [fitL_cons]
    split
    · exact fitL_dep ps ts _ ⟨h1.2, by omega⟩ a
    · exact a
  | [], t, f, _, hf => by rw [fitL_nil]; exact hf
  | _ :: _, [], f, _, hf => by simp only [fitL]; exact hf
end
mutual
theorem fit_len : ∀ (p t : PV) (f : AL), (fit f p t).2.length ≤ f.length + lc p
  | .str z, t, f => by
    unfold fit
    cases h : Kx.get f z with
    | some u => simp
    | none => simp [lc]
  | .tup (.str w :: ps), .tup (.str w' :: ts), f => by
    rw [fit_tups]
    split
    · have := fitL_len ps ts f
      simp only [lc]; exact this
    · simp
  | .tup (.str w :: ps), .str _, f => by simp [fit]
  | .tup (.str w :: ps), .oth, f => by simp [fit]
  | .tup (.str w :: ps), .tup [], f => by simp [fit]
  | .tup (.str w :: ps), .tup (.oth :: _), f => by simp [fit]
  | .tup (.str w :: ps), .tup (.tup _ :: _), f => by simp [fit]
  | .tup [], t, f => by cases t <;> simp [fit]
  | .tup (.oth :: _), t, f => by cases t <;> simp [fit]
  | .tup (.tup _ :: _), t, f => by cases t <;> simp [fit]
  | .oth, t, f => by cases t <;> simp [fit]
theorem fitL_len : ∀ (ps ts : List PV) (f : AL), (fitL f ps ts).2.length ≤ f.length + lcL ps
  | p :: ps, t :: ts, f => by
    have a := fit_len p t f
    rw [fitL_cons]
    split
    · have b := fitL_len ps ts (fit f p t).2
      simp only [lcL]; omega
    · simp only [lcL]; omega
  | [], t, f => by rw [fitL_nil]; simp [lcL]
  | _ :: _, [], f => by simp [fitL]
end
theorem lcL_get : ∀ {l : List PV} {t : PV} {i : Nat}, l[i]? = some t → lcL (l.drop i) = lc t + lcL (l.drop (i + 1)) := by
  intro l t i h
  obtain ⟨hi, e⟩ := List.getElem?_eq_some_iff.mp h
  rw [List.drop_eq_getElem_cons hi, e]
  simp only [lcL]
/-- where a walk over both lists stands -/
structure Mid (al0 : AL) (ps ts : List PV) (i : Nat) (al : AL) : Prop where
  eq : fitL al0 ps ts = fitL al (ps.drop i) (ts.drop i)
  dp : AlOk al
  few : al.length + lcL (ps.drop i) ≤ 100000
theorem Mid.turn {al0 al : AL} {ps ts : List PV} {i : Nat} {p t : PV} (h : Mid al0 ps ts i al) (hp : ps[i]? = some p) (ht : ts[i]? = some t) (d : Gr t ∧ dep t ≤ 60) :
    ((fit al p t).1 = true → Mid al0 ps ts (i + 1) (fit al p t).2) ∧ ((fit al p t).1 = false → fitL al0 ps ts = (false, (fit al p t).2)) := by
  obtain ⟨hi, e⟩ := List.getElem?_eq_some_iff.mp hp
  obtain ⟨hj, e2⟩ := List.getElem?_eq_some_iff.mp ht
  have hq := h.eq
  rw [List.drop_eq_getElem_cons hi, List.drop_eq_getElem_cons hj, e, e2, fitL_cons] at hq
  have hf := h.few
  rw [lcL_get hp] at hf
  have hl := fit_len p t al
  refine ⟨fun c => ⟨?_, fit_dep p t al d h.dp, by omega⟩, fun c => ?_⟩
  · rw [hq, if_pos c]
  · rw [hq, if_neg (by rw [c]; exact Bool.false_ne_true)]
theorem Mid.end_ {al0 al : AL} {ps ts : List PV} (h : Mid al0 ps ts ps.length al) : fitL al0 ps ts = (true, al) := by
  have hq := h.eq
  rw [List.drop_length] at hq
  rw [hq, fitL_nil]
def spFit (n : Nat) : Sp := fun vs H Q _ => ∃ (f : Addr) (mk : List (Str × Int)) (v u : V) (p t : PV) (al : AL), vs = [v, u, .ref f] ∧ AsD H f al ∧ Is H v p ∧ Is H u t ∧ Ar mk ∧ form mk true p = true ∧ form mk true t = true ∧ Gr t ∧ dep p ≤ n ∧ dep t ≤ 60 ∧ AlOk al ∧ al.length + lc p ≤ 100000 ∧
  ∀ H', ExD f H H' → AsD H' f (fit al p t).2 → Q (.bl (fit al p t).1) H'
theorem ok_fits {n : Nat} (T : Txt K mg) (G_fits : FnOk P w K mg base CX0 (n+1) T.a_fits T.d_fits ["pattern", "term", "found"] (spFit n)) : FnOk P w K mg base CX0 (n+2) T.a_fits T.d_fits ["pattern", "term", "found"] (spFit (n+1)) := by
  refine T.F_fits.ok sc_fits (fun vs H Q E h => ?_) (fun cdv A outer s H vs Q E hr h => ?_)
  · obtain ⟨f, mk, v, u, p, t, al, rfl, _⟩ := h; rfl
  · obtain ⟨f, mk, v, u, p, t, al, rfl, hA, hI, hJ, ar, hW, hX, hG, hn, h60, hd, hl, q⟩ := h
    have hu := hu_of hr
    have hr_fits := hr
    refine ⟨_, (pss_cons (ps_if (pt_val (pe_callB call_isi (by rfl) T.z_isinstance (by decide +kernel) (pa_cons (pv 0) (pa_cons (pe_bltn rfl T.z_str (by decide +kernel) (show RelV (V.ty "str") (Value.type "str") from rfl)) pa_nil)))) (pss_one (ps_ret (pe_cmpR (op_tmx (u101 hr)) (pe_dsetd (pv 2) (pv 0) (pv 1) ⟨rfl, rfl, rfl, rfl⟩) (pv 1) (nomark _)))) pss_nil)
    (pss_cons (ps_if (PW.pt (pw_or (pt_val (pe_callB call_isi (by rfl) T.z_isinstance (by decide +kernel) (pa_cons (pv 1) (pa_cons (pe_bltn rfl T.z_str (by decide +kernel) (show RelV (V.ty "str") (Value.type "str") from rfl)) pa_nil)))) (pw_or1 (pt_cmpR op_ne (pe_ix ix_tup (pv 0) pe_int (fun _ _ => rfl)) (pe_ix ix_tup (pv 1) pe_int (fun _ _ => rfl)) (nomark _))))) (pss_one (ps_ret pe_bl)) pss_nil)
    (pss_cons (ps_for PassesOwn.never rfl (RZ.pi_zipA (by rfl) T.z_zip (pa_cons (pe_slice sl_tup (pv 0) (po_some pe_int) po_none) (pa_cons (pe_slice sl_tup (pv 1) (po_some pe_int) po_none) pa_nil))) (pg_tup rfl (pgs_cons (pg_name (i := 3) sc_fits.nd rfl (Or.inl rfl)) (pgs_cons (pg_name (i := 4) sc_fits.nd rfl (Or.inl rfl)) pgs_nil)))
    (pss_one (ps_if (pt_not (pt_val (pe_call G_fits hr_fits rfl T.m_fits T.F_fits.kp T.b_fits .nil pass0 (pa_cons (pv 3) (pa_cons (pv 4) (pa_cons (pv 2) pa_nil)))))) (pss_one (ps_ret pe_bl)) pss_nil)))
    (pss_one (ps_ret pe_bl))))), ?_⟩
    obtain ⟨y, ty, kt⟩ := hI.ty (K := K)
    refine ⟨_, rfl, _, _, y, _, _, rfl, .ty _, ty, kit_str kt, _, rfl, ite2 (fun c => ?_) (fun c => ?_)⟩
    · cases p with
      | oth => cases c
      | tup ts => cases c
      | str z =>
      cases hI with
      | str z k =>
      obtain ⟨wt, rt, et, hGr⟩ := gr_inv hG
      obtain ⟨kvs, e, ek, b⟩ : ∃ kvs : List (Key × V), H f = some (.dK kvs) ∧ kvs.length = al.length ∧ Paired (fun kv zt => kv.1 = Sum.inr zt.1 ∧ Is H kv.2 zt.2) kvs al := by
        obtain ⟨kvs, e, b⟩ := hA
        exact ⟨kvs, e, Paired.length b, b⟩
      refine ⟨_, rfl, f, rfl, .inl ⟨_, .of e⟩, _, rfl, _, rfl, kvs, Sum.inr z, e, rfl, ?_, fun v0 hv0 => ?_, fun hv0 => ?_⟩
      · rw [ek]; exact Nat.lt_of_le_of_lt (show al.length ≤ 100000 by omega) (by decide)
      · rcases pair_val z b with ⟨a, _⟩ | ⟨v1, t1, a, g, hI1⟩
        · rw [a] at hv0; cases hv0
        · rw [a] at hv0
          cases (Option.some.inj hv0)
          have d1 : Gr t1 ∧ dep t1 ≤ 60 := by
            unfold Kx.get at g
            cases qf : al.find? (fun kv => kv.1 == z) with
            | none => rw [qf] at g; cases g
            | some kv =>
              rw [qf] at g
              cases (Option.some.inj g)
              exact hd kv (List.mem_of_find?_eq_some qf)
          have ef : fit al (.str z) t = (one t1 t, al) := by simp only [fit, g]
          rw [ef] at q
          obtain ⟨w1, r1, e1, _⟩ := gr_inv d1.1
          subst e1 et
          exact ⟨_, rfl, _, _, hI1, gr_tm d1.1, by omega, hJ, q H (.refl _ _) hA⟩
      · rcases pair_val z b with ⟨a, g⟩ | ⟨v1, t1, a, g, hI1⟩
        · have ef : fit al (.str z) t = (true, al ++ [(z, t)]) := by simp only [fit, g]
          rw [ef] at q
          have x : ExD f H (upd H f (.dK (putK kvs (Sum.inr z) u))) := .set _
          have hJ2 := Is.exD x ⟨_, e⟩ (gr_tm hG) hJ
          have put := AsD.put hd hG e b hv0 hJ
          subst et
          refine ⟨_, rfl, _, _, hJ2, gr_tm hG, by omega, hJ2, ?_⟩
          rw [one_self]
          exact q _ x put
        · rw [a] at hv0; cases hv0
    · obtain ⟨a, w, vs, ps, rfl, rfl, ea, hL, kw, lk, l2, hWl⟩ := form_inv ar hI hW (Bool.eq_false_iff.mpr c)
      have hlen := hL.len
      rw [dep_cons] at hn
      obtain ⟨y2, ty2, kt2⟩ := hJ.ty (K := K)
      refine ⟨_, rfl, _, _, y2, _, _, rfl, .ty _, ty2, kit_str kt2, _, rfl, ite2 (fun c2 => ?_) (fun c2 => ?_)⟩
      · cases t with
        | oth => cases c2
        | tup ts => cases c2
        | str z =>
          rw [fit_other] at q
          exact iteT (q H (.refl _ _) hA)
      · obtain ⟨a2, w2, vs2, ts, rfl, rfl, ea2, hL2, kw2, lk2, l22, hWl2⟩ := form_inv ar hJ hX (Bool.eq_false_iff.mpr c2)
        have hlen2 := hL2.len
        rw [dep_cons] at h60
        refine ⟨_, rfl, a, _, _, _, rfl, rfl, .inl (.inl ea), atI_nat (j := 0) rfl, _, rfl, a2, _, _, _, rfl, rfl, .inl (.inl ea2), atI_nat (j := 0) rfl, rfl, _, rfl, ?_⟩
        rw [fit_tups] at q
        by_cases ew : w = w2
        case neg =>
          rw [if_neg ew] at q
          refine ite2 (fun _ => q H (.refl _ _) hA) (fun c3 => ?_)
          exfalso
          apply c3
          show (!decide (V.str w = V.str w2)) = true
          rw [decide_eq_false (fun e => ew (V.str.inj e))]
          rfl
        rw [if_pos ew] at q
        subst ew
        have hpt : ps.length = ts.length := by
          rw [lk] at lk2
          have b := Option.some.inj lk2
          omega
        refine ite2 (fun c3 => absurd c3 (by simp)) (fun _ => ?_)
        refine ⟨_, rfl, _, rfl, a, _, rfl, .inl (.inl ea), slice1, fun p1 h1 => ?_⟩
        rw [cut1]
        have s1 := same_upd h1 (.tup vs)
        refine ⟨_, rfl, _, rfl, a2, _, rfl, .inl (.inl (s1 _ _ ea2)), slice1, fun p2 h2 => ?_⟩
        rw [cut1]
        have s2 := same_upd h2 (.tup vs2)
        have s12 := s1.trans s2
        have n12 : p1 ≠ p2 := ne_of_none upd_same h2
        refine ⟨p1, p2, vs, vs2, rfl, .inr ⟨.inl (.inl (s2 _ _ upd_same)), .inl (.inl upd_same), ?_⟩⟩
        refine RZ.for_zipT (K := K) (a := p1) (b := p2) (xs := vs) (ys := vs2) (by rw [hlen, hlen2, hpt]) (fun i σ H2 => ∃ y3 y4 al2, σ = [some (.ref a), some (.ref a2), some (.ref f), y3, y4] ∧ ExD f (upd (upd H p1 (.tup vs)) p2 (.tup vs2)) H2 ∧ AsD H2 f al2 ∧ Mid al ps ts i al2) ?_ ?_ ?_ ?_
        · refine ⟨none, none, al, rfl, .refl _ _, hA.same s12, rfl, hd, ?_⟩
          rw [List.drop_zero]
          simpa only [lc] using hl
        · intro i σ H2 ⟨_, _, _, _, x, _, _⟩
          have hD := (hA.same s12).isD
          exact ⟨.inl (.inl (x.tup hD (s2 _ _ upd_same))), .inl (.inl (x.tup hD upd_same))⟩
        · intro i x x2 Tt σ H2 hx hx2 ⟨y3, y4, al2, es, xd, hA2, hM⟩ nT
          subst es
          obtain ⟨y, ey, hy⟩ := hL.get hx
          obtain ⟨z, ez, hz⟩ := hL2.get hx2
          have hm := List.mem_of_getElem? ey
          have hm2 := List.mem_of_getElem? ez
          have dy := depL_mem hm
          have dz := depL_mem hm2
          have s3 := same_upd nT (.tup [x, x2])
          have hD := (hA.same s12).isD
          have up := fun {v t} (h : Is H v t) (h' : Tm t) => (Is.exD xd hD h' (h.same s12)).same s3
          obtain ⟨turn1, turn2⟩ := hM.turn ey ez ⟨mem_GrL hG z hm2, by omega⟩
          have hf := hM.few
          rw [lcL_get ey] at hf
          refine ⟨Tt, _, rfl, .inl (.inl upd_same), rfl, _, _, rfl, _, _, rfl, rfl, ?_⟩
          refine ⟨_, rfl, _, rfl, _, rfl, f, mk, x, x2, y, z, al2, rfl, hA2.same s3, up hy (form_tm _ (formL_mem hWl y hm)), up hz (form_tm _ (formL_mem hWl2 z hm2)), ar, formL_mem hWl y hm, formL_mem hWl2 z hm2, mem_GrL hG z hm2, by omega, by omega, hM.dp, by omega, fun H3 xd3 hA3 => ⟨_, rfl, ?_⟩⟩
          have xall : ExD f H H3 := ((ExD.of s12).trans xd).trans ((ExD.of s3).trans xd3)
          cases hb : (fit al2 y z).1 with
          | false =>
            rw [turn2 hb] at q
            exact iteT (q H3 xall hA3)
          | true => exact iteF ⟨_, _, _, rfl, xd.trans ((ExD.of s3).trans xd3), hA3, turn1 hb⟩
        · intro σ H2 ⟨y3, y4, al2, es, xd, hA2, hM⟩
          subst es
          rw [hlen] at hM
          rw [hM.end_] at q
          exact q H2 ((ExD.of s12).trans xd) hA2
end
end Kx
namespace Kx
open PySem PySem.Spec PyProof.Rows L2
section
variable {P : Program} {w : World} {K : PySem.W.Frag} {mg : Str → Option Value} {base : Heap}
def spFitted (n : Nat) : Sp := fun vs H Q _ => ∃ (a b : Addr) (mk : List (Str × Int)) (xs ys : List V) (ps ts : List PV), vs = [.ref a, .ref b] ∧ (H a = some (.lst xs) ∧ H b = some (.lst ys)) ∧ IsL H xs ps ∧ IsL H ys ts ∧ Ar mk ∧ formL mk true ps = true ∧ formL mk true ts = true ∧ GrL ts ∧ ps.length = ts.length ∧ (∀ t ∈ ps, dep t ≤ n) ∧ (∀ t ∈ ts, dep t ≤ 60) ∧ lcL ps ≤ 100000 ∧
  ((fitL [] ps ts).1 = true → ∀ f H', Same H H' → H f = none → AsD H' f (fitL [] ps ts).2 → Q (.ref f) H') ∧ ((fitL [] ps ts).1 = false → ∀ H', Same H H' → Q .non H')
theorem ok_fitted {n : Nat} (T : Txt K mg) (G_fits : FnOk P w K mg base CX0 (n+1) T.a_fits T.d_fits ["pattern", "term", "found"] (spFit n)) : FnOk P w K mg base CX0 (n+2) T.a_fitted T.d_fitted ["patterns", "terms"] (spFitted n) := by
  refine T.F_fitted.ok sc_fitted (fun vs H Q E h => ?_) (fun cdv A outer s H vs Q E hr h => ?_)
  · obtain ⟨a, b, mk, xs, ys, ps, ts, rfl, _⟩ := h; rfl
  · obtain ⟨a, b, mk, xs, ys, ps, ts, rfl, hAB, hL, hL2, ar, hW, hX, hG, hpt, hn, ht60, hlc, q1, q2⟩ := h
    have hr_fits := hr
    refine ⟨_, (pss_cons (ps_set (i := 2) sc_fitted.nd rfl (Or.inl rfl) pe_dnewK)
    (pss_cons (ps_for PassesOwn.never rfl (RZ.pi_zipA (by rfl) T.z_zip (pa_cons (pv 0) (pa_cons (pv 1) pa_nil))) (pg_tup rfl (pgs_cons (pg_name (i := 3) sc_fitted.nd rfl (Or.inl rfl)) (pgs_cons (pg_name (i := 4) sc_fitted.nd rfl (Or.inl rfl)) pgs_nil)))
    (pss_one (ps_if (pt_not (pt_val (pe_call G_fits hr_fits rfl T.m_fits T.F_fits.kp T.b_fits .nil pass0 (pa_cons (pv 3) (pa_cons (pv 4) (pa_cons (pv 2) pa_nil)))))) (pss_one (ps_ret pe_non)) pss_nil)))
    (pss_one (ps_ret (pv 2))))), ?_⟩
    refine fun f hf0 => ?_
    have s0 := same_upd hf0 (.dK [])
    have fin : ∀ {H3 : Hp}, ExD f (upd H f (.dK [])) H3 → Same H H3 := fun x b o e => by
      have nb := ne_of_none e hf0
      exact x b o nb (by rw [upd_ne nb]; exact e)
    obtain ⟨eA, eB⟩ := hAB
    · have nA := ne_of_none eA hf0
      have nB := ne_of_none eB hf0
      refine ⟨_, rfl, _, rfl, a, b, xs, ys, rfl, .inl ⟨SqL.of (s0 _ _ eA), SqL.of (s0 _ _ eB), ?_⟩⟩
      refine RZ.for_zipL (K := K) (a := a) (b := b) (xs := xs) (ys := ys) (by rw [hL.len, hL2.len, hpt]) (fun i σ H2 => ∃ y3 y4 al2, σ = [some (.ref a), some (.ref b), some (.ref f), y3, y4] ∧ ExD f (upd H f (.dK [])) H2 ∧ AsD H2 f al2 ∧ Mid [] ps ts i al2) ?_ ?_ ?_ ?_
      · refine ⟨none, none, [], rfl, .refl _ _, ⟨[], upd_same, .nil⟩, rfl, fun kv hk => by simp at hk, ?_⟩
        rw [List.drop_zero]; simpa using hlc
      · intro i σ H2 ⟨_, _, _, _, x, _, _⟩
        exact ⟨SqL.of (x _ _ nA (s0 _ _ eA)), SqL.of (x _ _ nB (s0 _ _ eB))⟩
      · intro i x x2 Tt σ H2 hx hx2 ⟨y3, y4, al2, es, xd, hA2, hM⟩ nT
        subst es
        obtain ⟨y, ey, hy⟩ := hL.get hx
        obtain ⟨z, ez, hz⟩ := hL2.get hx2
        have hm := List.mem_of_getElem? ey
        have hm2 := List.mem_of_getElem? ez
        have s3 := same_upd nT (.tup [x, x2])
        have up := fun {v t} (h : Is H v t) (h' : Tm t) => (Is.exD xd ⟨[], upd_same⟩ h' (h.same s0)).same s3
        obtain ⟨turn1, turn2⟩ := hM.turn ey ez ⟨mem_GrL hG z hm2, ht60 z hm2⟩
        have hf := hM.few
        rw [lcL_get ey] at hf
        refine ⟨Tt, _, rfl, .inl (.inl upd_same), rfl, _, _, rfl, _, _, rfl, rfl, ?_⟩
        refine ⟨_, rfl, _, rfl, _, rfl, f, mk, x, x2, y, z, al2, rfl, hA2.same s3, up hy (form_tm _ (formL_mem hW y hm)), up hz (form_tm _ (formL_mem hX z hm2)), ar, formL_mem hW y hm, formL_mem hX z hm2, mem_GrL hG z hm2, hn y hm, ht60 z hm2, hM.dp, by omega, fun H3 xd3 hA3 => ⟨_, rfl, ?_⟩⟩
        have xall := xd.trans ((ExD.of s3).trans xd3)
        cases hb : (fit al2 y z).1 with
        | false =>
          refine iteT (q2 (by rw [turn2 hb]) H3 (fin xall))
        | true => exact iteF ⟨_, _, _, rfl, xall, hA3, turn1 hb⟩
      · intro σ H2 ⟨y3, y4, al2, es, xd, hA2, hM⟩
        subst es
        rw [hL.len] at hM
        have e := hM.end_
        rw [e] at q1
        exact ⟨_, rfl, q1 rfl f H2 (fin xd) hf0 hA2⟩
end
end Kx
namespace Kx
open PySem PySem.Spec PyProof.Rows L2
section
variable {P : Program} {w : World} {K : PySem.W.Frag} {mg : Str → Option Value} {base : Heap}
theorem val_look (mk : List (Str × Int)) (z : Str) : valV (mk.map fun kv => ((Sum.inr kv.1 : Key), V.int kv.2)) (Sum.inr z) = (look mk z).map V.int := by
  induction mk with
  | nil => rfl
  | cons kv r ih =>
    rw [List.map_cons]
    by_cases h : kv.1 = z
    · rw [valV_pos (by rw [h])]
      simp [look, h]
    · rw [valV_neg (by intro e; exact h (Sum.inr.inj e)), ih]
      simp [look, h]
theorem merge_mk : ∀ (mk : List (Str × Int)) (acc : List (Key × V)), (acc.map (·.1) ++ mk.map fun kv => (Sum.inr kv.1 : Key)).Nodup → mergeK acc (mk.map fun kv => ((Sum.inr kv.1 : Key), V.int kv.2)) = acc ++ mk.map fun kv => ((Sum.inr kv.1 : Key), V.int kv.2)
  | [], acc, _ => by simp [mergeK]
  | kv :: r, acc, h => by
    have hn : valV acc (Sum.inr kv.1) = none := by
      cases e : valV acc (Sum.inr kv.1) with
      | none => rfl
      | some v =>
        exfalso
        have m := valV_in e
        rw [List.map_cons] at h
        exact (List.nodup_append.mp h).2.2 _ m _ (List.mem_cons_self ..) rfl
    have ih := merge_mk r (acc ++ [((Sum.inr kv.1 : Key), V.int kv.2)]) (by
      rw [List.map_append, List.append_assoc]
      exact h)
    show mergeK (putK acc (Sum.inr kv.1) (.int kv.2)) (r.map fun kv => ((Sum.inr kv.1 : Key), V.int kv.2)) = _
    rw [putK_new _ hn, ih, List.append_assoc]
    rfl
theorem merge_nil {mk : List (Str × Int)} (h : (mk.map (·.1)).Nodup) : mergeK [] (mk.map fun kv => ((Sum.inr kv.1 : Key), V.int kv.2)) = mk.map fun kv => ((Sum.inr kv.1 : Key), V.int kv.2) := by
  have e : (mk.map fun kv => (Sum.inr kv.1 : Key)) = (mk.map (·.1)).map Sum.inr := by simp
  have n : ((([] : List (Key × V)).map (·.1)) ++ mk.map fun kv => (Sum.inr kv.1 : Key)).Nodup := by
    rw [e]
    exact List.Pairwise.map _ (fun a b (q : a ≠ b) (z : (Sum.inr a : Key) = Sum.inr b) => q (Sum.inr.inj z)) h
  exact merge_mk mk [] n
theorem form_word {mk : List (Str × Int)} {nm : Bool} {w : Str} {ts : List PV} (h : form mk nm (.tup (.str w :: ts)) = true) : w ∈ mk.map (·.1) := by
  simp only [form, Bool.and_eq_true] at h
  have h1 := h.1
  unfold look at h1
  cases e : mk.find? (fun kv => kv.1 == w) with
  | none => rw [e] at h1; simp at h1
  | some kv =>
    have h2 := List.find?_some e
    have h3 := List.mem_of_find?_eq_some e
    exact List.mem_map.mpr ⟨kv, h3, by simpa using h2⟩
def RForm (mk : List (Str × Int)) (nm : Bool) : ResT := fun _ r ts => r = .bl true ∧ form mk nm (.tup ts) = true
theorem RForm.st (mk : List (Str × Int)) (nm : Bool) : Stable (RForm mk nm) := fun _ _ _ _ _ h => h
end
end Kx
namespace Kx
open PySem PySem.Spec PyProof.Rows L2
section
variable {P : Program} {w : World} {K : PySem.W.Frag} {mg : Str → Option Value} {base : Heap}
theorem lenSeqK {X : Cx} {K : PySem.W.Frag} (h : X.K = K := by rfl) : CallR X (.builtin "len") (fun xs H Q => ∃ p ys, xs = [.ref p] ∧ (SqL K H p ys ∨ SqT K H p ys) ∧ Q (.int (ys.length : Int)) H) := by subst h; exact call_len_seq
theorem pair_append {α β : Type} {F : α → β → Prop} : ∀ {l l' : List α} {m m' : List β}, Paired F l m → Paired F l' m' → Paired F (l ++ l') (m ++ m')
  | _, _, _, _, .nil, h => h
  | _, _, _, _, .cons h t, h' => .cons h (pair_append t h')
theorem pair_len {α β : Type} {F : α → β → Prop} : ∀ {l : List α} {m : List β}, Paired F l m → l.length = m.length
  | _, _, .nil => rfl
  | _, _, .cons _ t => by simp [pair_len t]
theorem pk_of {H : Hp} : ∀ {ps : List Addr} {mk : List (Str × Int)}, Paired (fun p kv => H p = some (.tup [.str kv.1, .int kv.2])) ps mk → Paired (fun p kv => SqT K H p [kV kv.1, kv.2]) ps (mk.map fun kv => ((Sum.inr kv.1 : Key), V.int kv.2))
  | _, _, .nil => .nil
  | _, _, .cons a t => .cons (.inl (.inl a)) (pk_of t)
/-- the tuple at m holds the pairs of words and numbers -/
def MkF (H : Hp) (m : Addr) (mk : List (Str × Int)) : Prop := ∃ (o : Obj) (ps : List Addr), H m = some (.frz o (.tup (ps.map V.ref))) ∧ o.dict = none ∧ Paired (fun p kv => H p = some (.tup [.str kv.1, .int kv.2])) ps mk
def cnts (cs : List Con) : List (Str × Int) := cs.map fun c => (c.w, (c.ps.length : Int))
def spCounts : Sp := fun vs H Q _ => ∃ (v : V) (mk : List PV) (F : List Str) (cs : List Con), vs = [v] ∧ Is H v (tabPV mk F cs) ∧ cs.length ≤ 20 ∧ ∀ m H', Same H H' → MkF H' m (cnts cs) → Q (.ref m) H'
theorem ok_counts (T : Txt K mg)  : FnOk P w K mg base CX0 1 T.a_counts T.d_counts ["table"] spCounts := by
  refine T.F_counts.ok sc_counts (fun vs H Q E h => ?_) (fun cdv A outer s H vs Q E hr h => ?_)
  · obtain ⟨v, mk, F, cs, rfl, _⟩ := h; rfl
  · obtain ⟨v, mk, F, cs, rfl, hI, h20, q⟩ := h
    refine ⟨_, (pss_one (ps_ret (pe_callTy call_tupleF (by rfl) T.z_tuple (by decide +kernel) (pa_cons (pe_lc (own := [("word", 1), ("parts", 2), ("_", 3)]) (g := (gTup K 4 (gCons (gName 1) (gCons (gName 2) (gCons (gName 3) (gCons (gName 3) gNil)))))) (tt := tYes) rfl sc_counts.nd (pi_tup (pe_ix ix_tup (pv 0) pe_int (fun _ _ => rfl))) (blkOk_by (own := [("word", 1), ("parts", 2), ("_", 3)]) (N := ["table", "word", "parts", "_"]) (sc := defScope s_counts) (by decide +kernel)) (fun _ _ _ _ _ => (pg_tup rfl (pgs_cons (pg_name (i := 1) sc_counts.nd rfl (Or.inl rfl)) (pgs_cons (pg_name (i := 2) sc_counts.nd rfl (Or.inl rfl)) (pgs_cons (pg_name (i := 3) sc_counts.nd rfl (Or.inl rfl)) (pgs_cons (pg_name (i := 3) sc_counts.nd rfl (Or.inl rfl)) pgs_nil)))))) (fun _ _ _ _ _ => pts_nil) (fun _ _ _ _ _ => (pe_tup (pa_cons (pv 1) (pa_cons (pe_callB (lenSeqK (K := K)) (by rfl) T.z_len (by decide +kernel) (pa_cons (pv 2) pa_nil)) pa_nil))))) pa_nil)))), ?_⟩
    obtain ⟨a, vs, rfl, ea, hL⟩ := hI.tup_inv
    have l3 : 3 < vs.length := by rw [hL.len]; exact Nat.lt_of_lt_of_le (by decide : 3 < 4) (Nat.le_refl 4)
    have h3 : vs[3]? = some (vs[3]'l3) := List.getElem?_eq_getElem _
    obtain ⟨y, ey, iy⟩ := hL.get h3
    generalize vs[3]'l3 = ct at h3 iy
    have ey2 : y = .tup (cs.map conPV) := (Option.some.inj ey).symm
    subst ey2
    obtain ⟨ca, cvs, rfl, ec, icL⟩ := iy.tup_inv
    have clen := icL.len
    rw [List.length_map] at clen
    refine ⟨_, rfl, a, _, _, _, rfl, rfl, .inl (.inl ea), atI_nat (j := 3) h3, ca, rfl, ⟨_, .inl (.inl ec)⟩, fun D hD => ?_⟩
    refine lc_tup (K := K) (a := ca) (xs := cvs) (fun i H2 => ∃ ps : List Addr, Same H H2 ∧ H2 D = some (.lst (ps.map V.ref)) ∧ Paired (fun p kv => H2 p = some (.tup [.str kv.1, .int kv.2])) ps (cnts (cs.take i))) ?_ ?_ ?_ ?_
    · exact ⟨[], same_upd hD _, upd_same, .nil⟩
    · exact fun i H2 _ ⟨_, sm, _⟩ => .inl (.inl (sm _ _ ec))
    · rintro i x H2 hx ⟨ps, sm, eD, pp⟩
      obtain ⟨y, ey, iy⟩ := icL.get hx
      rw [List.getElem?_map] at ey
      have hi : i < cs.length := by rw [← clen]; exact (List.getElem?_eq_some_iff.mp hx).1
      rw [List.getElem?_eq_getElem hi] at ey
      cases (Option.some.inj ey)
      obtain ⟨xa, xvs, rfl, ex, ixL⟩ := iy.tup_inv
      cases ixL with
      | @cons wv _ _ _ iw ixL =>
      cases iw.str_inv
      cases ixL with
      | @cons pv_ _ _ _ ip ixL =>
      obtain ⟨pa, pvs, rfl, ep, ipL⟩ := ip.tup_inv
      have plen := ipL.len
      rw [List.length_map] at plen
      cases ixL with
      | @cons fv _ _ _ ifm ixL =>
      cases ixL with
      | @cons iv _ _ _ iix ixL =>
      cases ixL
      refine ⟨xa, _, rfl, .inl (.inl (sm _ _ ex)), rfl, _, _, rfl, _, _, rfl, _, _, rfl, _, _, rfl, rfl, rfl, yes_if ?_⟩
      refine ⟨_, rfl, _, rfl, pa, _, rfl, .inr (.inl (.inl (sm _ _ ep))), (by show 2 ≤ sizeLine; decide), fun p hp => ?_⟩
      have sp := same_upd hp (.tup [.str cs[i].w, .int (pvs.length : Int)])
      have eD2 := sp _ _ eD
      have pl := pair_len pp
      have nDp : D ≠ p := ne_of_none eD hp
      refine ⟨_, eD2, ?_, ps ++ [p], Kx.Same.own (sm.trans sp) hD _, by rw [upd_same, List.map_append]; rfl, ?_⟩
      · rw [List.length_map, pl, cnts, List.length_map, List.length_take]
        exact small1000 (by omega)
      · rw [cnts, List.take_succ_eq_append_getElem hi, List.map_append]
        refine pair_append (Paired.imp pp fun p2 kv e => ?_) (.cons ?_ .nil)
        · rw [upd_ne fun z => by rw [z, eD] at e; cases e]
          exact sp _ _ e
        · rw [upd_ne nDp.symm, upd_same, plen]
    · rintro H2 ⟨ps, sm, eD, pp⟩
      rw [clen, List.take_length] at pp
      refine ⟨_, _, rfl, SqL.of eD, fun l o hl od os => ?_⟩
      have sl := same_upd hl (.frz o (.tup (ps.map V.ref)))
      exact q l _ (sm.trans sl) ⟨o, ps, upd_same, od, Paired.imp pp fun _ _ e => sl _ _ e⟩
end
end Kx
namespace Kx
open PySem PySem.Spec PyProof.Rows L2
section
variable {P : Program} {w : World} {K : PySem.W.Frag} {mg : Str → Option Value} {base : Heap}
theorem cnts_nd {F : List Str} {cs : List Con} (G : TabG F cs) : ((cnts cs).map (·.1)).Nodup := by
  have e : (cnts cs).map (·.1) = cs.map (·.w) := by rw [cnts, List.map_map]; rfl
  rw [e]
  exact G.nd
def spLSize (n : Nat) : Sp := fun vs H Q _ => ∃ (v : V) (t : List PV) (W : List Str), vs = [v] ∧ Is H v (.tup t) ∧ Rv W (.tup t) ∧ dep (.tup t) ≤ n ∧ ∀ H', Same H H' → Q (.int (vsz (.tup t) : Int)) H'
theorem ok_law_size {n : Nat} (T : Txt K mg) (G_law_size : FnOk P w K mg base CX0 (n+1) T.a_law_size T.d_law_size ["value"] (spLSize n)) : FnOk P w K mg base CX0 (n+2) T.a_law_size T.d_law_size ["value"] (spLSize (n+1)) := by
  refine T.F_law_size.ok sc_law_size (fun vs H Q E h => ?_) (fun cdv A outer s H vs Q E hr h => ?_)
  · obtain ⟨v, t, W, rfl, _⟩ := h; rfl
  · obtain ⟨v, t, W, rfl, hI, hv, hn, q⟩ := h
    have hr_law_size := hr
    refine ⟨_, (pss_one (ps_ret (pe_op op_add pe_int (pe_callB (cr_sum rfl) (by rfl) T.z_sum (by decide +kernel) (pa_cons (pe_lc (own := [("part", 1)]) (g := (gName 1)) (tt := tYes) rfl sc_law_size.nd (pi_tup (pe_slice sl_tup (pv 0) (po_some pe_int) po_none)) (blkOk_by (own := [("part", 1)]) (N := ["value", "part"]) (sc := defScope s_law_size) (by decide +kernel)) (fun _ _ _ _ _ => (pg_name (i := 1) sc_law_size.nd rfl (Or.inl rfl))) (fun _ _ _ _ _ => pts_nil) (fun _ _ _ _ _ => (pe_call G_law_size hr_law_size rfl T.m_law_size T.F_law_size.kp T.b_law_size .nil pass0 (pa_cons (pv 1) pa_nil)))) pa_nil))))), ?_⟩
    obtain ⟨a, w, us, ts, rfl, et, ea, hL, hw, h3, hvL⟩ := rvt_inv hv hI
    cases et
    have hlen := hL.len
    have hd : dep (.tup (.str w :: ts)) = 1 + depL (.str w :: ts) := rfl
    have hd2 : depL ts ≤ depL (.str w :: ts) := by simp only [depL]; omega
    refine ⟨_, rfl, _, rfl, a, _, rfl, .inl (.inl ea), slice1, fun p1 h1 => ?_⟩
    rw [cut1]
    have s1 := same_upd h1 (.tup us)
    refine ⟨p1, rfl, ⟨_, .inl (.inl upd_same)⟩, fun D hD => ?_⟩
    refine lc_tup (K := K) (a := p1) (xs := us) (fun i H2 => Same (upd H p1 (.tup us)) H2 ∧ ∃ ms : List Int, H2 D = some (.lst (ms.map V.int)) ∧ ms.length = i ∧ ms.sum = (vszL (ts.take i) : Int)) ?_ ?_ ?_ ?_
    · exact ⟨same_upd hD _, [], upd_same, rfl, rfl⟩
    · exact fun i H2 _ ⟨sm, _⟩ => .inl (.inl (sm _ _ upd_same))
    · intro i x H2 hx ⟨sm, ms, eD, lm, sum⟩
      obtain ⟨y, ey, hy⟩ := hL.get hx
      have hm := List.mem_of_getElem? ey
      obtain ⟨hi, ey2⟩ := List.getElem?_eq_some_iff.mp ey
      have dy := depL_mem hm
      have yv := mem_RvL hvL y hm
      obtain ⟨wy, tsy, eyt, _⟩ := rv_inv yv
      subst eyt
      refine ⟨rfl, yes_if ⟨_, rfl, x, _, W, rfl, (hy.same s1).same sm, yv, by omega, fun H3 s3 => ?_⟩⟩
      refine ⟨_, s3 _ _ eD, ?_, Kx.Same.own (sm.trans s3) hD _, ms ++ [(vsz (.tup (.str wy :: tsy)) : Int)], by rw [upd_same, List.map_append]; rfl, by rw [List.length_append, lm]; rfl, ?_⟩
      · rw [List.length_map]; exact small1000 (by omega)
      · rw [List.take_succ_eq_append_getElem hi, ey2, List.sum_append, sum]
        have app : ∀ a b : List PV, vszL (a ++ b) = vszL a + vszL b := by
          intro a
          induction a with
          | nil => intro b; simp [vszL]
          | cons x r ih => intro b; simp only [List.cons_append, vszL, ih]; omega
        rw [app]
        simp [vszL]
    · intro H2 ⟨sm, ms, eD, lm, sum⟩
      rw [hlen, List.take_length] at sum
      refine ⟨D, ms, rfl, SqL.of eD, _, _, rfl, rfl, ?_⟩
      rw [sum]
      have e : (1 : Int) + (vszL ts : Int) = (vsz (.tup (.str w :: ts)) : Int) := by simp only [vsz]; omega
      show Q (.int (1 + (vszL ts : Int))) H2
      rw [e]
      exact q H2 (s1.trans sm)
end
end Kx
namespace Kx
open PySem PySem.Spec PyProof.Rows L2
section
variable {P : Program} {w : World} {K : PySem.W.Frag} {mg : Str → Option Value} {base : Heap}
theorem lvL_mem : ∀ {l : List PV} {t : PV} {z : Str}, t ∈ l → z ∈ lv t → z ∈ lvL l
  | a :: r, t, z, h, hz => by
    simp only [lvL]
    rcases List.mem_cons.mp h with rfl | h
    · exact List.mem_append_left _ hz
    · exact List.mem_append_right _ (lvL_mem h hz)
def spLPut (n : Nat) : Sp := fun vs H Q _ => ∃ (p : Addr) (mk : List (Str × Int)) (v : V) (t : PV) (al : AL), vs = [v, .ref p] ∧ AsD H p al ∧ Is H v t ∧ Ar mk ∧ form mk true t = true ∧ (∀ z ∈ lv t, get al z ≠ none) ∧ dep t ≤ n ∧ ∀ v' H', Same H H' → Is H' v' (psub al t) → Q v' H'
theorem ok_law_put {n : Nat} (T : Txt K mg) (G_law_put : FnOk P w K mg base CX0 (n+1) T.a_law_put T.d_law_put ["term", "trees"] (spLPut n)) : FnOk P w K mg base CX0 (n+2) T.a_law_put T.d_law_put ["term", "trees"] (spLPut (n+1)) := by
  refine T.F_law_put.ok sc_law_put (fun vs H Q E h => ?_) (fun cdv A outer s H vs Q E hr h => ?_)
  · obtain ⟨p, mk, v, t, al, rfl, _⟩ := h; rfl
  · obtain ⟨p, mk, v, t, al, rfl, hA, hI, ar, hW, hcv, hn, q⟩ := h
    have hu := hu_of hr
    have hr_law_put := hr
    refine ⟨_, (pss_cons (ps_if (pt_val (pe_callB call_isi (by rfl) T.z_isinstance (by decide +kernel) (pa_cons (pv 0) (pa_cons (pe_bltn rfl T.z_str (by decide +kernel) (show RelV (V.ty "str") (Value.type "str") from rfl)) pa_nil)))) (pss_one (ps_ret (pe_dget hu (pv 1) (pv 0) (fun _ _ => rfl)))) pss_nil)
    (pss_one (ps_ret (pe_op op_catT (pe_tup (pa_cons (pe_ix ix_tup (pv 0) pe_int (fun _ _ => rfl)) pa_nil)) (pe_callTy call_tuple_of (by rfl) T.z_tuple (by decide +kernel) (pa_cons (pe_lc (own := [("part", 2)]) (g := (gName 2)) (tt := tYes) rfl sc_law_put.nd (pi_tup (pe_slice sl_tup (pv 0) (po_some pe_int) po_none)) (blkOk_by (own := [("part", 2)]) (N := ["term", "trees", "part"]) (sc := defScope s_law_put) (by decide +kernel)) (fun _ _ _ _ _ => (pg_name (i := 2) sc_law_put.nd rfl (Or.inl rfl))) (fun _ _ _ _ _ => pts_nil) (fun _ _ _ _ _ => (pe_call G_law_put hr_law_put rfl T.m_law_put T.F_law_put.kp T.b_law_put .nil pass0 (pa_cons (pv 2) (pa_cons (pv 1) pa_nil))))) pa_nil)))))), ?_⟩
    obtain ⟨u, ty, kt⟩ := hI.ty (K := K)
    refine ⟨_, rfl, _, _, u, _, _, rfl, .ty _, ty, kit_str kt, _, rfl, ite2 (fun c => ?_) (fun c => ?_)⟩
    · cases t with
      | oth => cases c
      | tup ts => cases c
      | str z =>
      cases hI with
      | str z k =>
      obtain ⟨kvs, e, b⟩ := hA
      rcases pair_val z b with ⟨_, g⟩ | ⟨v, t, a, g, hI⟩
      · exact absurd g (hcv z (by simp [lv]))
      · refine ⟨_, rfl, _, rfl, p, v, rfl, (by have w := DGet.k (k := Sum.inr z) e; rw [a] at w; exact w), ?_⟩
        exact q _ H (.refl _) (by simp only [psub, g]; exact hI)
    · obtain ⟨a, w, vs, ts, rfl, rfl, ea, hL, kw, lk, l2, hWl⟩ := form_inv ar hI hW (Bool.eq_false_iff.mpr c)
      have hlen := hL.len
      rw [dep_cons] at hn
      refine ⟨_, rfl, a, _, _, _, rfl, rfl, .inl (.inl ea), atI_nat (j := 0) rfl, (by show 1 ≤ sizeLine; decide), fun t1 ht1 => ?_⟩
      have s0 := same_upd ht1 (.tup [.str w])
      refine ⟨_, rfl, _, rfl, a, _, rfl, .inl (.inl (s0 _ _ ea)), slice1, fun p1 h1 => ?_⟩
      rw [cut1]
      have s1 := same_upd h1 (.tup vs)
      have s01 := s0.trans s1
      refine ⟨p1, rfl, ⟨_, .inl (.inl upd_same)⟩, fun D hD => ?_⟩
      refine lc_tup (K := K) (a := p1) (xs := vs) (fun i H2 => Same (upd (upd H t1 (.tup [.str w])) p1 (.tup vs)) H2 ∧ ∃ ws, H2 D = some (.lst ws) ∧ IsL H2 ws (psubL al (ts.take i)) ∧ ws.length = i) ?_ ?_ ?_ ?_
      · exact ⟨same_upd hD _, [], upd_same, .nil, rfl⟩
      · exact fun i H2 _ ⟨sm, _⟩ => .inl (.inl (sm _ _ upd_same))
      · intro i x H2 hx ⟨sm, ws, eD, hW2, wl⟩
        obtain ⟨y, ey, hy⟩ := hL.get hx
        have hm := List.mem_of_getElem? ey
        have dy := depL_mem hm
        have hi := (List.getElem?_eq_some_iff.mp hx).1
        have s02 := s01.trans sm
        refine ⟨rfl, yes_if ?_⟩
        refine ⟨_, rfl, _, rfl, p, mk, x, y, al, rfl, hA.same s02, hy.same s02, ar, formL_mem hWl y hm, fun z hz => hcv z (by simp only [lv]; exact lvL_mem hm hz), by omega, fun v' H3 s3 hv' => ?_⟩
        refine ⟨ws, s3 _ _ eD, small1000 (by omega), Kx.Same.own (sm.trans s3) hD _, ws ++ [v'], upd_same, ?_, by rw [List.length_append, wl]; rfl⟩
        rw [psubL_take ey]
        exact ((hW2.same s3).append (.cons hv' .nil)).wr (s3 _ _ eD)
      · intro H2 ⟨sm, ws, eD, hW2, wl⟩
        rw [hlen, List.take_length] at hW2
        have e1 := sm _ _ (s1 _ _ upd_same)
        refine ⟨D, ws, rfl, .inl ⟨SqL.of eD, fun l hl => ?_⟩⟩
        have s5 := same_upd hl (.tup ws)
        have s25 := (s01.trans sm).trans s5
        refine ⟨t1, l, _, _, rfl, rfl, .inl (.inl (s5 _ _ e1)), .inl (.inl upd_same), by simp, ?_, fun e => ?_, fun _ p5 h5 => ?_⟩
        · rw [List.length_singleton, wl]; exact Nat.le_of_lt (small1000 (by omega))
        · have e0 : ws.length = 0 := by rw [e]; rfl
          have t0 : ts = [] := List.length_eq_zero_iff.mp (by omega)
          refine q _ _ s25 ?_
          subst t0
          simp only [psub, psubL]
          exact .tup (s5 _ _ e1) (.cons (.str w kw) .nil)
        · have s6 := same_upd h5 (.tup ([V.str w] ++ ws))
          refine q _ _ (s25.trans s6) ?_
          simp only [psub]
          exact .tup upd_same (.cons (.str w kw) (hW2.same (s5.trans s6)))
end
end Kx
set_option maxHeartbeats 1000000
/-! for a, b in zip(t, l): a tuple and a list of one length. -/
namespace Kx
open PySem PySem.Spec PyProof.Rows L2
/-- the pairs of a tuple at a and a list at b -/
def ItzM (K : PySem.W.Frag) (a b : Addr) : It :=
  ⟨fun i H => ∃ (xs ys : List V) (x y : V), SqT K H a xs ∧ SqL K H b ys ∧ xs[i]? = some x ∧ ys[i]? = some y,
   fun i H v H' => ∃ t x y, v = .ref t ∧ H t = none ∧ H' = upd H t (.tup [x, y]) ∧ (∀ xs, SqT K H a xs → xs[i]? = some x) ∧ ∀ ys, SqL K H b ys → ys[i]? = some y,
   fun i H => ∃ xs ys : List V, SqT K H a xs ∧ SqL K H b ys ∧ i = xs.length ∧ i = ys.length⟩
theorem turn_zipM {P : Program} {w : World} {K : PySem.W.Frag} {elts : List Expr} {kk : Nat} {tpos : Pos} {a b z TI TO j1 j2 : Addr} (S : ZipSep2 z TI TO j1 j2 [j1, a] [j2, b]) (na : a ≠ j1) (nb : b ≠ j2) :
    Turn P w K (.Tuple elts kk tpos) (ItzM K a b) [z, TI, TO, j1, j2] z (fun i h => IsZip h z TI TO .none ∧ IsTupOf2 h TI (.ref j1) (.ref j2) ∧ (∃ x y, IsTupOf2 h TO x y) ∧ h.IsTupleIter j1 a i ∧ h.IsListIter j2 b i) where
  mem := List.mem_cons_self ..
  obj := by
    rintro i h ⟨h1, h2, ⟨x, y, h3⟩, ⟨o4, e4, _, d4⟩, ⟨o5, e5, _, d5⟩⟩ c hc
    simp only [List.mem_cons, List.not_mem_nil, or_false] at hc
    rcases hc with rfl | rfl | rfl | rfl | rfl
    · exact ⟨_, h1, fun v q => nomatch q⟩
    · exact ⟨_, h2, fun v q => nomatch q⟩
    · exact ⟨_, h3, fun v q => nomatch q⟩
    · exact ⟨o4, e4, fun v q => by rw [d4] at q; cases q⟩
    · exact ⟨o5, e5, fun v q => by rw [d5] at q; cases q⟩
  keep := by
    rintro i h h' ⟨h1, h2, ⟨x, y, h3⟩, h4, h5⟩ k
    exact ⟨k z (by simp) _ h1, k TI (by simp) _ h2, ⟨x, y, k TO (by simp) _ h3⟩, h4.at fun o q => k j1 (by simp) o q, h5.at fun o q => k j2 (by simp) o q⟩
  item := by
    intro X hP hw hK hc i pins s σ H E I hf st hg
    subst hP hw hK
    obtain ⟨h1, h2, ⟨x0, y0, h3⟩, h4, h5⟩ := st
    obtain ⟨xs, ys, x, y, hqx, hqy, hx, hy⟩ := hg
    obtain ⟨its, rv, p, _⟩ := I.tuple hqx
    obtain ⟨its2, rv2, p2, _⟩ := I.list hqy
    obtain ⟨u, hu, ru⟩ := rv.get hx
    obtain ⟨u2, hu2, ru2⟩ := rv2.get hy
    have hh : X.A.handled = none := I.ok.hd hc
    have b1 : i < its.toArray.size := by simpa using (List.getElem?_eq_some_iff.mp hu).1
    have b2 : i < its2.toArray.size := by simpa using (List.getElem?_eq_some_iff.mp hu2).1
    have zl : z < s.heap.objs.size := Heap.lt_size h1
    refine wpAny_pyNext_zipD2_item S (Draws.tuple (A := X.A.in1) hh j1 a na its.toArray) (Draws.list (A := X.A.in1) hh j2 b nb its2.toArray) h1 h2 h3 ⟨h4, p⟩ ⟨h5, p2.isList⟩ b1 b2 fun v1 v2 g tk e1 e2 g1 g3 g4 g5 gT gs gk => ?_
    have q1 : v1 = u := by simpa [hu] using e1.symm
    have q2 : v2 = u2 := by simpa [hu2] using e2.symm
    subst q1 q2
    refine ⟨_, rfl, wpAny_letOwnedTupleGo_zip (s := { s with heap := g, toks := tk }) g1 fun g' k1 sb => ?_⟩
    have out : ∀ c, c ≠ z → g'.get? c = g.get? c := fun c n => sb.2 c n
    have nw : g'.get? s.heap.objs.size = some { cls := .type "tuple", data := .seq #[v1, v2] } := (out _ (Nat.ne_of_gt zl)).trans gT
    have fp : ∀ {c : Addr} {o : Obj}, c ∉ [z, TI, TO, j1, j2] → s.heap.get? c = some o → g'.get? c = some o := fun {c o} n e => by
      simp only [List.mem_cons, List.not_mem_nil, or_false, not_or] at n
      exact (out c n.1).trans (gk c o n.1 n.2.2.1 n.2.2.2.1 n.2.2.2.2 e)
    have made : ObjOk X.prog X.w (upd H s.heap.objs.size (.tup [x, y])) g' s.heap.objs.size (.tup [x, y]) := ⟨by show 2 ≤ sizeLine; decide, [v1, v2], .cons ru (.cons ru2 .nil), ⟨_, nw, rfl, _, rfl⟩⟩
    have J := I.turnedNew (t' := tk) (ch := [z, TI, TO, j1, j2]) (fun c o n e => fp n e) hf (Nat.le_refl _) made
    refine ⟨.ref s.heap.objs.size, _, J, rfl, ⟨_, x, y, rfl, I.hok.fresh (Nat.le_refl _), rfl, fun l hl => by rw [I.tuple_inj hl hqx]; exact hx, fun l hl => by rw [I.list_inj hl hqy]; exact hy⟩, ⟨k1, ?_, ⟨v1, v2, (out _ S.TOz).trans g3⟩, ?_, ?_⟩, fun c hcm => ?_⟩
    · exact (out _ S.TIz).trans (gk _ _ S.TIz S.TITO S.TIi1 S.TIi2 h2)
    · exact g4.1.at fun o q => (out _ S.zi1.symm).trans q
    · exact g5.1.at fun o q => (out _ S.zi2.symm).trans q
    · have lt : c < s.heap.objs.size := by
        simp only [List.mem_cons, List.not_mem_nil, or_false] at hcm
        rcases hcm with q | q | q | q | q
        · rw [q]; exact zl
        · rw [q]; exact Heap.lt_size h2
        · rw [q]; exact Heap.lt_size h3
        · rw [q]; obtain ⟨_, e, _⟩ := h4; exact Heap.lt_size e
        · rw [q]; obtain ⟨_, e, _⟩ := h5; exact Heap.lt_size e
      rw [upd_ne (Nat.ne_of_lt lt)]
      exact (hf c hcm).1
  done := by
    intro X hP hw hK hc i pins s σ H E I hf st hg
    subst hP hw hK
    obtain ⟨h1, h2, ⟨x0, y0, h3⟩, h4, h5⟩ := st
    obtain ⟨xs, ys, hqx, hqy, l1, l2⟩ := hg
    obtain ⟨its, rv, p, _⟩ := I.tuple hqx
    obtain ⟨its2, rv2, p2, _⟩ := I.list hqy
    have hh : X.A.handled = none := I.ok.hd hc
    have m1 : i = its.toArray.size := by rw [List.size_toArray, ← rv.length]; exact l1
    have m2 : i = its2.toArray.size := by rw [List.size_toArray, ← rv2.length]; exact l2
    refine wpAny_pyNext_zipD2_end S (Draws.tuple (A := X.A.in1) hh j1 a na its.toArray) (Draws.list (A := X.A.in1) hh j2 b nb its2.toArray) h1 h2 h3 ⟨h4, p⟩ ⟨h5, p2.isList⟩ (by omega) (by omega) (.inl m1) fun g tk gk => ?_
    refine ⟨rfl, I.turnedL (t' := tk) (ch := [z, TI, TO, j1, j2]) (fun c o n e => ?_) hf⟩
    simp only [List.mem_cons, List.not_mem_nil, or_false, not_or] at n
    exact gk c o n.1 n.2.2.1 n.2.2.2.1 n.2.2.2.2 e
  self := fun A i s Q E st h => wpAny_pyIter_zip st.1 h
theorem sepM (n a b : Nat) (la : a < n) (lb : b < n) : ZipSep2 (n + 4) (n + 2) (n + 3) n (n + 1) [n, a] [n + 1, b] := by
  have q : ∀ x y z : Nat, x ≠ y → x ≠ z → x ∉ [y, z] := fun x y z h1 h2 h => by
    rcases List.mem_cons.mp h with h | h
    · exact h1 h
    · exact h2 (List.mem_singleton.mp h)
  exact ⟨by show ¬ (n + 2 = n + 4); omega, by show ¬ (n + 3 = n + 4); omega, by show ¬ (n + 2 = n + 3); omega, by show ¬ (n + 2 = n); omega, List.mem_cons_self .., q _ _ _ (by omega) (by omega), q _ _ _ (by omega) (by omega), by show ¬ (n + 2 = n + 1); omega, List.mem_cons_self .., q _ _ _ (by omega) (by omega), q _ _ _ (by omega) (by omega), q _ _ _ (by omega) (by omega), q _ _ _ (by omega) (by omega)⟩
/-- zip(t, l) -/
def iZipM (K : PySem.W.Frag) (ta : TA) : TI := fun σ H R => ta σ H fun vs H1 => ∃ a b xs ys, vs = [.ref a, .ref b] ∧ SqT K H1 a xs ∧ SqL K H1 b ys ∧ R (ItzM K a b) H1
theorem pi_zipM {X : Cx} {e e2 : Expr} {ta : TA} {p pos tpos : Pos} {elts : List Expr} {kk : Nat} (hg : Gl X "zip") (hm : X.mg "zip" = none) (ha : PA X [e, e2] ta)
    (hs : starEach [e, e2] X.env = (false, eval e X.env) :: starEach [e2] X.env := by rfl) (hpl : (backTo pos (starEach [e2] X.env)).any (·.1) = false := by rfl) :
    PI X (.Tuple elts kk tpos) (.Call (.Name "zip" p) [e, e2] [] pos) (iZipM X.K ta) := by
  refine ⟨fun pins s σ H R I h => Call_ (ld_blt I hg hm PyProof.Rows.boot_zip (PyProof.Rows.callWith_type1 (thn (ha.run pos pins s σ H _ I h) fun us s1 ⟨vs, H1, J, rel, a, b, xs, ys, e, hx, hy, q⟩ => ?_) hs hpl))⟩
  subst e
  obtain ⟨u1, u2, rfl, r1, r2⟩ := vals2 rel
  cases r1
  cases r2
  obtain ⟨its, _, p1, _⟩ := J.tuple hx
  obtain ⟨its2, _, p2, _⟩ := J.list hy
  have la : a < s1.heap.objs.size := by obtain ⟨o, ho, _⟩ := id p1; exact Heap.lt_size ho
  have lb : b < s1.heap.objs.size := by obtain ⟨o, ho, _⟩ := id p2.isList; exact Heap.lt_size ho
  refine zip_begins2 (begins_tuple a its.toArray) (begins_list b its2.toArray) p1 p2.isList fun g hz hTI hTO i1 i2 sz kp => wpAny_pyIter_zip hz ?_
  have J2 : Inv X pins σ H1 { s1 with heap := g } := J.kept (t' := s1.toks) kp
  have fresh : ∀ c, c ∈ [s1.heap.objs.size + 4, s1.heap.objs.size + 2, s1.heap.objs.size + 3, s1.heap.objs.size, s1.heap.objs.size + 1] → FpOk X pins H1 c := fun c hc => by
    have le : s1.heap.objs.size ≤ c := by
      simp only [List.mem_cons, List.not_mem_nil, or_false] at hc
      omega
    exact J.fpOk le (J.hok.fresh le)
  refine ⟨_, _, _, _, H1, rfl, J2, turn_zipM (a := a) (b := b) (z := s1.heap.objs.size + 4) (TI := s1.heap.objs.size + 2) (TO := s1.heap.objs.size + 3) (j1 := s1.heap.objs.size) (j2 := s1.heap.objs.size + 1) ?_ (Nat.ne_of_lt la) (Nat.ne_of_lt (Nat.lt_succ_of_lt lb)), ⟨hz, hTI, ⟨_, _, hTO⟩, ⟨_, i1, rfl, rfl⟩, ⟨_, i2, rfl, rfl⟩⟩, fresh, q⟩
  exact sepM _ a b la lb
/-- the loop over it -/
theorem for_zipM {K : PySem.W.Frag} {a b : Addr} {xs ys : List V} {g : TG} {tb : TS} {D : Ends} {σ : L2.St} {H : Hp} (hl : xs.length = ys.length) (Pv : Nat → L2.St → Hp → Prop) (h0 : Pv 0 σ H) (hq : ∀ i σ H, Pv i σ H → SqT K H a xs ∧ SqL K H b ys)
    (hs : ∀ (i : Nat) (x y : V) (t : Addr) (σ : L2.St) (H : Hp), xs[i]? = some x → ys[i]? = some y → Pv i σ H → H t = none → g (.ref t) σ (upd H t (.tup [x, y])) fun σ2 H2 => tb { D with nx := Pv (i + 1), ct := Pv (i + 1), bk := D.nx } σ2 H2) (hd : ∀ σ H, Pv xs.length σ H → D.nx σ H) :
    ∃ W : Nat → Nat → L2.St → Hp → Prop, (∃ m, W 0 m σ H) ∧ ∀ i m σ H, W i m σ H →
      ((ItzM K a b).stop i H ∧ D.nx σ H) ∨ ((ItzM K a b).go i H ∧ ∃ N : L2.St → Hp → Prop, (∀ σ' H', N σ' H' → ∃ m', m' < m ∧ W (i + 1) m' σ' H') ∧ ∀ v H', (ItzM K a b).yld i H v H' → g v σ H' fun σ2 H2 => tb { D with nx := N, ct := N, bk := D.nx } σ2 H2) := by
  refine ⟨fun i m σ H => m = xs.length - i ∧ i ≤ xs.length ∧ Pv i σ H, ⟨_, rfl, Nat.zero_le _, h0⟩, fun i m σ H w => ?_⟩
  obtain ⟨rfl, le, pv⟩ := w
  obtain ⟨qx, qy⟩ := hq i σ H pv
  rcases Nat.lt_or_ge i xs.length with lt | ge
  · have ex : xs[i]? = some xs[i] := List.getElem?_eq_getElem lt
    have ey : ys[i]? = some (ys[i]'(by omega)) := List.getElem?_eq_getElem _
    refine .inr ⟨⟨xs, ys, _, _, qx, qy, ex, ey⟩, Pv (i + 1), fun σ' H' p' => ⟨xs.length - (i + 1), by omega, rfl, lt, p'⟩, ?_⟩
    rintro v H' ⟨t, x, y, rfl, nt, rfl, kx, ky⟩
    exact hs i x y t σ H (kx xs qx) (ky ys qy) pv nt
  · have e : i = xs.length := Nat.le_antisymm le ge
    exact .inl ⟨⟨xs, ys, qx, qy, e, e.trans hl⟩, hd σ H (e ▸ pv)⟩
end Kx
namespace Kx
open PySem PySem.Spec PyProof.Rows L2
section
variable {P : Program} {w : World} {K : PySem.W.Frag} {mg : Str → Option Value} {base : Heap}
/-! ### the trees for what is asked -/
/-- a kind: no index, or a family and a tree -/
def KindIs (H : Hp) (v : V) : Option (Str × PV) → Prop
  | none => v = .non
  | some k => Is H v (.tup [.str k.1, k.2])
inductive KindL (H : Hp) : List V → List (Option (Str × PV)) → Prop
  | nil : KindL H [] []
  | cons {v : V} {vs : List V} {k : Option (Str × PV)} {ks : List (Option (Str × PV))} (h : KindIs H v k) (t : KindL H vs ks) : KindL H (v :: vs) (k :: ks)
theorem KindIs.same {H H' : Hp} (s : Same H H') {v : V} {k : Option (Str × PV)} (h : KindIs H v k) : KindIs H' v k := by
  cases k with
  | none => exact h
  | some k => exact Is.same s h
theorem KindL.same {H H' : Hp} (s : Same H H') : ∀ {vs : List V} {ks : List (Option (Str × PV))}, KindL H vs ks → KindL H' vs ks
  | _, _, .nil => .nil
  | _, _, .cons h t => .cons (h.same s) (t.same s)
theorem KindL.len {H : Hp} : ∀ {vs : List V} {ks : List (Option (Str × PV))}, KindL H vs ks → vs.length = ks.length
  | _, _, .nil => rfl
  | _, _, .cons _ t => by simp [t.len]
theorem KindL.get {H : Hp} : ∀ {vs : List V} {ks : List (Option (Str × PV))}, KindL H vs ks → ∀ {i : Nat} {x : V}, vs[i]? = some x → ∃ k, ks[i]? = some k ∧ KindIs H x k
  | _, _, .nil, i, x, h => by simp at h
  | _, _, .cons h t, 0, x, e => by cases (Option.some.inj e); exact ⟨_, rfl, h⟩
  | _, _, .cons h t, i + 1, x, e => t.get (by simpa using e)
/-- does each kind have the family that is asked for? -/
def goodK : List (Str × PV) → List (Option (Str × PV)) → Bool
  | p :: ps, some k :: ks => p.1 == k.1 && goodK ps ks
  | _ :: _, none :: _ => false
  | _, _ => true
def treeK : Option (Str × PV) → PV
  | none => .oth
  | some k => k.2
/-- what the program finds -/
noncomputable def treesFor (ps : List (Str × PV)) (ks : List (Option (Str × PV))) : Option AL :=
  if goodK ps ks = true then (if (fitL [] (ps.map (·.2)) (ks.map treeK)).1 = true then some (fitL [] (ps.map (·.2)) (ks.map treeK)).2 else none) else none
theorem goodK_bad : ∀ {ps : List (Str × PV)} {ks : List (Option (Str × PV))} {i : Nat} {p : Str × PV} {k : Option (Str × PV)}, ps[i]? = some p → ks[i]? = some k → (∀ x, k = some x → p.1 ≠ x.1) → goodK ps ks = false
  | p :: ps, k :: ks, 0, _, _, h1, h2, h => by
    cases (Option.some.inj h1)
    cases (Option.some.inj h2)
    cases k with
    | none => rfl
    | some x => simp only [goodK, Bool.and_eq_false_iff]; exact .inl (beq_eq_false_iff_ne.mpr (h x rfl))
  | p :: ps, k :: ks, i + 1, _, _, h1, h2, h => by
    have := goodK_bad (ps := ps) (ks := ks) (by simpa using h1) (by simpa using h2) h
    cases k with
    | none => rfl
    | some x => simp only [goodK, this, Bool.and_false]
theorem goodK_all : ∀ {ps : List (Str × PV)} {ks : List (Option (Str × PV))}, (∀ (i : Nat) p k, ps[i]? = some p → ks[i]? = some k → ∃ x, k = some x ∧ p.1 = x.1) → goodK ps ks = true
  | [], _, _ => by simp [goodK]
  | _ :: _, [], _ => by simp [goodK]
  | p :: ps, k :: ks, h => by
    obtain ⟨x, rfl, e⟩ := h 0 p k rfl rfl
    simp only [goodK, Bool.and_eq_true, beq_iff_eq]
    exact ⟨e, goodK_all fun i p k a b => h (i + 1) p k (by simpa using a) (by simpa using b)⟩
theorem mk_ar : Ar MK := fun w k h => by
  unfold look at h
  cases e : MK.find? (fun kv => kv.1 == w) with
  | none => rw [e] at h; cases h
  | some kv =>
    rw [e] at h
    have m := List.mem_of_find?_eq_some e
    have h2 : kv.2 = k := Option.some.inj h
    subst h2
    have all : ∀ kv ∈ MK, kv.2 ≤ 2 := by decide +kernel
    exact all kv m
def spTrees (n : Nat) : Sp := fun vs H Q _ => ∃ (a b : Addr) (ps : List (Str × PV)) (ks : List (Option (Str × PV))) (kvs : List V), vs = [.ref a, .ref b] ∧ Is H (.ref a) (.tup (ps.map prPV)) ∧ H b = some (.lst kvs) ∧ KindL H kvs ks ∧ ps.length = ks.length ∧ ps.length ≤ 3 ∧
  (∀ p ∈ ps, form MK true p.2 = true ∧ dep p.2 ≤ n) ∧ (∀ k ∈ ks, ∀ x, k = some x → form MK true x.2 = true ∧ Gr x.2 ∧ dep x.2 ≤ 60) ∧ lcL (ps.map (·.2)) ≤ 100000 ∧
  (∀ al, treesFor ps ks = some al → ∀ f H', Same H H' → H f = none → AsD H' f al → Q (.ref f) H') ∧ (treesFor ps ks = none → ∀ H', Same H H' → Q .non H')
theorem ok_trees_for {n : Nat} (T : Txt K mg) (G_fitted : FnOk P w K mg base CX0 (n+2) T.a_fitted T.d_fitted ["patterns", "terms"] (spFitted n)) : FnOk P w K mg base CX0 (n+3) T.a_trees_for T.d_trees_for ["asked", "kinds"] (spTrees n) := by
  refine T.F_trees_for.ok sc_trees_for (fun vs H Q E h => ?_) (fun cdv A outer s H vs Q E hr h => ?_)
  · obtain ⟨a, b, ps, ks, kvs, rfl, _⟩ := h; rfl
  · obtain ⟨a, b, ps, ks, kvs, rfl, hI, eb, hK, hl, l3, fp, fk, hlc, q1, q2⟩ := h
    have hr_fitted := hr
    refine ⟨_, (pss_cons (ps_for PassesOwn.never rfl (pi_zipM (by rfl) T.z_zip (pa_cons (pv 0) (pa_cons (pv 1) pa_nil))) (pg_tup rfl (pgs_cons (pg_tup rfl (pgs_cons (pg_name (i := 2) sc_trees_for.nd rfl (Or.inl rfl)) (pgs_cons (pg_name (i := 3) sc_trees_for.nd rfl (Or.inl rfl)) pgs_nil))) (pgs_cons (pg_name (i := 4) sc_trees_for.nd rfl (Or.inl rfl)) pgs_nil)))
    (pss_one (ps_if (PW.pt (pw_or (pt_cmpR op_isN (pv 4) pe_non (nomark _)) (pw_or1 (pt_cmpR op_ne (pe_ix ix_tup (pv 4) pe_int (fun _ _ => rfl)) (pv 2) (nomark _))))) (pss_one (ps_ret pe_non)) pss_nil)))
    (pss_one (ps_ret (pe_call G_fitted hr_fitted rfl T.m_fitted T.F_fitted.kp T.b_fitted .nil pass0 (pa_cons (pe_lc (own := [("_", 3), ("term", 5)]) (g := (gTup K 2 (gCons (gName 3) (gCons (gName 5) gNil)))) (tt := tYes) rfl sc_trees_for.nd (pi_tup (pv 0)) (blkOk_by (own := [("_", 3), ("term", 5)]) (N := ["asked", "kinds", "family", "_", "kind", "term", "tree"]) (sc := defScope s_trees_for) (by decide +kernel)) (fun _ _ _ _ _ => (pg_tup rfl (pgs_cons (pg_name (i := 3) sc_trees_for.nd rfl (Or.inl rfl)) (pgs_cons (pg_name (i := 5) sc_trees_for.nd rfl (Or.inl rfl)) pgs_nil)))) (fun _ _ _ _ _ => pts_nil) (fun _ _ _ _ _ => (pv 5))) (pa_cons (pe_lc (own := [("_", 3), ("tree", 6)]) (g := (gTup K 2 (gCons (gName 3) (gCons (gName 6) gNil)))) (tt := tYes) rfl sc_trees_for.nd (pi_list (pv 1)) (blkOk_by (own := [("_", 3), ("tree", 6)]) (N := ["asked", "kinds", "family", "_", "kind", "term", "tree"]) (sc := defScope s_trees_for) (by decide +kernel)) (fun _ _ _ _ _ => (pg_tup rfl (pgs_cons (pg_name (i := 3) sc_trees_for.nd rfl (Or.inl rfl)) (pgs_cons (pg_name (i := 6) sc_trees_for.nd rfl (Or.inl rfl)) pgs_nil)))) (fun _ _ _ _ _ => pts_nil) (fun _ _ _ _ _ => (pv 6))) pa_nil)))))), ?_⟩
    obtain ⟨a', avs, ea', ea, aL⟩ := hI.tup_inv
    cases ea'
    have al := aL.len
    rw [List.length_map] at al
    have kl := hK.len
    refine ⟨_, rfl, _, rfl, a, b, avs, kvs, rfl, .inl (.inl ea), SqL.of eb, ?_⟩
    refine for_zipM (K := K) (a := a) (b := b) (xs := avs) (ys := kvs) (by omega) (fun i σ H2 => ∃ y2 y3 y4, σ = [some (.ref a), some (.ref b), y2, y3, y4, none, none] ∧ Same H H2 ∧ ∀ j p k, j < i → ps[j]? = some p → ks[j]? = some k → ∃ x, k = some x ∧ p.1 = x.1) ?_ ?_ ?_ ?_
    · exact ⟨none, none, none, rfl, .refl _, fun j p k h => by omega⟩
    · exact fun i σ H2 ⟨_, _, _, _, sm, _⟩ => ⟨.inl (.inl (sm _ _ ea)), SqL.of (sm _ _ eb)⟩
    · rintro i x y t σ H2 hx hy ⟨y2, y3, y4, rfl, sm, hall⟩ ht
      have st := same_upd ht (.tup [x, y])
      obtain ⟨z, ez, iz⟩ := aL.get hx
      rw [List.getElem?_map] at ez
      obtain ⟨p, hp, rfl⟩ := Option.map_eq_some_iff.mp ez
      obtain ⟨k, hk, ik⟩ := hK.get hy
      obtain ⟨xa, xvs, rfl, ex, ixL⟩ := iz.tup_inv
      cases ixL with
      | @cons fv _ _ _ ifv ixL =>
      cases ixL with
      | @cons tv _ _ _ itv ixL =>
      cases ixL
      cases ifv.str_inv
      refine ⟨t, _, rfl, .inl (.inl upd_same), rfl, _, _, rfl, xa, _, rfl, .inl (.inl (st _ _ (sm _ _ ex))), rfl, _, _, rfl, _, _, rfl, rfl, _, _, rfl, rfl, ?_⟩
      have s2 := sm.trans st
      refine ⟨_, rfl, rfl, _, rfl, ?_⟩
      cases k with
      | none =>
        have e : y = .non := ik
        subst e
        have bad : treesFor ps ks = none := by
          unfold treesFor
          rw [if_neg (by rw [goodK_bad hp hk fun x e => by cases e]; exact Bool.false_ne_true)]
        exact iteT (iteT (q2 bad _ s2))
      | some k =>
        obtain ⟨ka, kvs2, rfl, ek, kL⟩ := Is.tup_inv ik
        cases kL with
        | @cons gv _ _ _ igv kL =>
        cases igv.str_inv
        refine iteF ⟨_, rfl, ka, _, _, _, rfl, rfl, .inl (.inl (s2 _ _ ek)), atI_nat (j := 0) rfl, _, rfl, rfl, _, rfl, ?_⟩
        by_cases e : k.1 = p.1
        · refine ite2 (fun c => ?_) (fun _ => ⟨_, _, _, rfl, s2, fun j p' k' hj h1 h2 => ?_⟩)
          · rw [e] at c; simp at c
          · rcases Nat.lt_succ_iff_lt_or_eq.mp hj with h | h
            · exact hall j p' k' h h1 h2
            · subst h
              rw [hp] at h1
              rw [hk] at h2
              cases h1
              cases h2
              exact ⟨_, rfl, e.symm⟩
        · have bad : treesFor ps ks = none := by
            unfold treesFor
            rw [if_neg (by rw [goodK_bad hp hk fun x ex q => by cases ex; exact e q.symm]; exact Bool.false_ne_true)]
          refine ite2 (fun _ => q2 bad _ s2) (fun c => absurd ?_ c)
          simp [e]
    · rintro σ H2 ⟨y2, y3, y4, rfl, sm, hall⟩
      have good : goodK ps ks = true := goodK_all fun i p k h1 h2 => hall i p k (by have := (List.getElem?_eq_some_iff.mp h1).1; omega) h1 h2
      have eT : treesFor ps ks = if (fitL [] (ps.map (·.2)) (ks.map treeK)).1 = true then some (fitL [] (ps.map (·.2)) (ks.map treeK)).2 else none := by unfold treesFor; rw [if_pos good]
      refine ⟨_, rfl, a, rfl, ⟨_, .inl (.inl (sm _ _ ea))⟩, fun D hD => ?_⟩
      have sD := same_upd hD (.lst [])
      refine lc_tup (K := K) (a := a) (xs := avs) (fun i H3 => Same H2 H3 ∧ ∃ ws, H3 D = some (.lst ws) ∧ IsL H3 ws ((ps.map (·.2)).take i) ∧ ws.length = i) ⟨sD, [], upd_same, .nil, rfl⟩ (fun i H3 _ ⟨s3, _⟩ => .inl (.inl (s3 _ _ (sm _ _ ea)))) ?_ ?_
      · rintro i x H3 hx ⟨s3, ws, eD, wL, wl⟩
        obtain ⟨z, ez, iz⟩ := aL.get hx
        rw [List.getElem?_map] at ez
        obtain ⟨p, hp, rfl⟩ := Option.map_eq_some_iff.mp ez
        obtain ⟨hi, ep⟩ := List.getElem?_eq_some_iff.mp hp
        obtain ⟨xa, xvs, rfl, ex, ixL⟩ := iz.tup_inv
        cases ixL with
        | @cons fv _ _ _ ifv ixL =>
        cases ixL with
        | @cons tv _ _ _ itv ixL =>
        cases ixL
        refine ⟨xa, _, rfl, .inl (.inl (s3 _ _ (sm _ _ ex))), rfl, _, _, rfl, _, _, rfl, rfl, rfl, yes_if ⟨_, rfl, ws, eD, small1000 (by omega), Kx.Same.own s3 hD _, ws ++ [tv], upd_same, ?_, by rw [List.length_append, wl]; rfl⟩⟩
        have e2 : (ps.map (·.2)).take (i + 1) = (ps.map (·.2)).take i ++ [p.2] := by
          rw [List.take_succ_eq_append_getElem (by rw [List.length_map]; exact hi), List.getElem_map, ep]
        rw [e2]
        exact (wL.append (.cons ((itv.same sm).same s3) .nil)).wr eD
      · rintro H3 ⟨s3, ws, eD, wL, wl⟩
        rw [al, ← List.length_map (f := (·.2)) (as := ps), List.take_length] at wL
        have eb3 := s3 _ _ (sm _ _ eb)
        refine ⟨_, rfl, b, rfl, ⟨_, SqL.of eb3⟩, fun D2 hD2 => ?_⟩
        have nDD : D ≠ D2 := ne_of_none eD hD2
        refine lc_list (K := K) (a := b) (xs := kvs) (fun i H4 => Same H3 H4 ∧ ∃ ws2, H4 D2 = some (.lst ws2) ∧ IsL H4 ws2 ((ks.map treeK).take i) ∧ ws2.length = i) ⟨same_upd hD2 _, [], upd_same, .nil, rfl⟩ (fun i H4 _ ⟨s4, _⟩ => SqL.of (s4 _ _ eb3)) ?_ ?_
        · rintro i x H4 hx ⟨s4, ws2, eD2, wL2, wl2⟩
          obtain ⟨k, hk, ik⟩ := hK.get hx
          obtain ⟨hi, ek⟩ := List.getElem?_eq_some_iff.mp hk
          obtain ⟨k2, ek2, _⟩ := hall i (ps[i]'(by omega)) k (by omega) (List.getElem?_eq_getElem _) hk
          subst ek2
          obtain ⟨xa, xvs, rfl, ex, ixL⟩ := Is.tup_inv ik
          cases ixL with
          | @cons fv _ _ _ ifv ixL =>
          cases ixL with
          | @cons tv _ _ _ itv ixL =>
          cases ixL
          refine ⟨xa, _, rfl, .inl (.inl (s4 _ _ (s3 _ _ (sm _ _ ex)))), rfl, _, _, rfl, _, _, rfl, rfl, rfl, yes_if ⟨_, rfl, ws2, eD2, small1000 (by omega), Kx.Same.own s4 hD2 _, ws2 ++ [tv], upd_same, ?_, by rw [List.length_append, wl2]; rfl⟩⟩
          have e2 : (ks.map treeK).take (i + 1) = (ks.map treeK).take i ++ [k2.2] := by
            rw [List.take_succ_eq_append_getElem (by rw [List.length_map]; exact hi), List.getElem_map, ek]
            rfl
          rw [e2]
          exact (wL2.append (.cons (((itv.same sm).same s3).same s4) .nil)).wr eD2
        · rintro H4 ⟨s4, ws2, eD2, wL2, wl2⟩
          rw [kl, ← List.length_map (f := treeK) (as := ks), List.take_length] at wL2
          have s34 := (sm.trans s3).trans s4
          have each : ∀ k ∈ ks, ∃ x, k = some x := fun k hk => by
            obtain ⟨i, hi, ei⟩ := List.getElem_of_mem hk
            obtain ⟨x, e, _⟩ := hall i (ps[i]'(by omega)) k (by omega) (List.getElem?_eq_getElem _) (by rw [List.getElem?_eq_getElem hi, ei])
            exact ⟨x, e⟩
          have tk : ∀ t ∈ ks.map treeK, form MK true t = true ∧ Gr t ∧ dep t ≤ 60 := fun t ht => by
            obtain ⟨k, hk, rfl⟩ := List.mem_map.mp ht
            obtain ⟨x, rfl⟩ := each k hk
            exact fk _ hk x rfl
          have tp : ∀ t ∈ ps.map (·.2), form MK true t = true ∧ dep t ≤ n := fun t ht => by
            obtain ⟨p, hp, rfl⟩ := List.mem_map.mp ht
            exact fp p hp
          have fa : ∀ l : List PV, (∀ t ∈ l, form MK true t = true) → formL MK true l = true := fun l h => by rw [formL_all]; exact List.all_eq_true.mpr h
          have ga : ∀ l : List PV, (∀ t ∈ l, Gr t) → GrL l := fun l => by
            induction l with
            | nil => exact fun _ => trivial
            | cons t r ih => exact fun h => ⟨h t (List.mem_cons_self ..), ih fun x hx => h x (List.mem_cons_of_mem _ hx)⟩
          refine ⟨D, D2, MK, ws, ws2, _, _, rfl, ⟨s4 _ _ eD, eD2⟩, wL.same s4, wL2, mk_ar, fa _ fun t ht => (tp t ht).1, fa _ fun t ht => (tk t ht).1, ga _ fun t ht => (tk t ht).2.1, by rw [List.length_map, List.length_map]; exact hl, fun t ht => (tp t ht).2, fun t ht => (tk t ht).2.2, hlc, fun h f H5 s5 hf hA => ?_, fun h H5 s5 => ?_⟩
          · exact q1 _ (by rw [eT, if_pos h]) f H5 (s34.trans s5) (s34.free hf) hA
          · exact q2 (by rw [eT, if_neg (by rw [h]; exact Bool.false_ne_true)]) H5 (s34.trans s5)
end
end Kx
namespace Kx
open PySem PySem.Spec PyProof.Rows L2
section
variable {P : Program} {w : World} {K : PySem.W.Frag} {mg : Str → Option Value} {base : Heap}
/-- the family and index that a constructor makes of the parts' kinds -/
noncomputable def madeK (c : Con) (ks : List (Option (Str × PV))) : Option (Str × PV) := (treesFor c.ps ks).map fun al => (c.fam, psub al c.ix)
def KindsG (ks : List (Option (Str × PV))) : Prop := ∀ k ∈ ks, ∀ x, k = some x → form MK true x.2 = true ∧ Gr x.2 ∧ dep x.2 ≤ 60
structure ConG (c : Con) : Prop where
  ps : ∀ p ∈ c.ps, form MK true p.2 = true ∧ dep p.2 ≤ 3
  len : c.ps.length ≤ 3
  ix : form MK true c.ix = true ∧ dep c.ix ≤ 3
  few : lcL (c.ps.map (·.2)) ≤ 100000
  fam : sok c.fam = true
  nms : ∀ z ∈ lv c.ix, ∃ p ∈ c.ps, z ∈ lv p.2
def spMade : Sp := fun vs H Q _ => ∃ (v : V) (b : Addr) (c : Con) (ks : List (Option (Str × PV))) (kvs : List V), vs = [v, .ref b] ∧ Is H v (conPV c) ∧ ConG c ∧ H b = some (.lst kvs) ∧ KindL H kvs ks ∧ c.ps.length = ks.length ∧ KindsG ks ∧
  ∀ u H', Same H H' → KindIs H' u (madeK c ks) → Q u H'
theorem ok_made_kind (T : Txt K mg) (G_trees_for : FnOk P w K mg base CX0 6 T.a_trees_for T.d_trees_for ["asked", "kinds"] (spTrees 3)) (G_put : FnOk P w K mg base CX0 5 T.a_put T.d_put ["term", "assignment"] (spPut 3)) : FnOk P w K mg base CX0 8 T.a_made_kind T.d_made_kind ["constructor", "kinds"] spMade := by
  refine T.F_made_kind.ok sc_made_kind (fun vs H Q E h => ?_) (fun cdv A outer s H vs Q E hr h => ?_)
  · obtain ⟨v, b, c, ks, kvs, rfl, _⟩ := h; rfl
  · obtain ⟨v, b, c, ks, kvs, rfl, hI, hG, eb, hK, hl, kG, q⟩ := h
    have hr_trees_for : Room 6 _ := hr.mono (by decide)
    have hr_put : Room 5 _ := hr.mono (by decide)
    refine ⟨_, (pss_cons (ps_asg (pv 0) (pg_tup rfl (pgs_cons (pg_name (i := 2) sc_made_kind.nd rfl (Or.inl rfl)) (pgs_cons (pg_name (i := 3) sc_made_kind.nd rfl (Or.inl rfl)) (pgs_cons (pg_name (i := 4) sc_made_kind.nd rfl (Or.inl rfl)) (pgs_cons (pg_name (i := 5) sc_made_kind.nd rfl (Or.inl rfl)) pgs_nil))))))
    (pss_cons (ps_set (i := 6) sc_made_kind.nd rfl (Or.inl rfl) (pe_call G_trees_for hr_trees_for rfl T.m_trees_for T.F_trees_for.kp T.b_trees_for .nil pass0 (pa_cons (pv 3) (pa_cons (pv 1) pa_nil))))
    (pss_one (ps_ret (pe_ifExp (pt_cmpR op_isN (pv 6) pe_non (nomark _)) pe_non (pe_tup (pa_cons (pv 4) (pa_cons (pe_call G_put hr_put rfl T.m_put T.F_put.kp T.b_put .nil pass0 (pa_cons (pv 5) (pa_cons (pv 6) pa_nil))) pa_nil)))))))), ?_⟩
    obtain ⟨ca, cvs, rfl, ec, cL⟩ := hI.tup_inv
    cases cL with
    | @cons wv _ _ _ iw cL =>
    cases cL with
    | @cons pv_ _ _ _ ip cL =>
    obtain ⟨pa, pvs, rfl, ep, pL⟩ := id ip.tup_inv
    cases cL with
    | @cons fv _ _ _ ifm cL =>
    cases ifm.str_inv
    cases cL with
    | @cons iv _ _ _ iix cL =>
    cases cL
    refine ⟨_, rfl, ca, _, rfl, .inl (.inl ec), rfl, _, _, rfl, _, _, rfl, _, _, rfl, _, _, rfl, rfl, ?_⟩
    refine ⟨_, rfl, _, rfl, pa, b, c.ps, ks, kvs, rfl, ip, eb, hK, hl, hG.len, hG.ps, kG, hG.few, fun al hal f H1 s1 hf hA => ?_, fun hal H1 s1 => ?_⟩
    · refine ⟨_, rfl, rfl, _, rfl, iteF ?_⟩
      refine ⟨_, rfl, _, rfl, _, rfl, f, MK, iv, c.ix, al, rfl, hA, iix.same s1, mk_ar, hG.ix.1, hG.ix.2, fun v' H2 s2 iv' => ⟨(by show 2 ≤ sizeLine; decide), fun p hp => ?_⟩⟩
      have s3 := same_upd hp (.tup [.str c.fam, v'])
      refine q _ _ ((s1.trans s2).trans s3) ?_
      rw [madeK, hal]
      exact .tup upd_same (.cons (.str _ hG.fam) (.cons (iv'.same s3) .nil))
    · refine ⟨_, rfl, rfl, _, rfl, iteT (q _ H1 s1 ?_)⟩
      rw [madeK, hal]
      rfl
end
end Kx
/-! What is found by fitting is made of parts of the trees, and tells all names; what putting keeps. -/
namespace Kx
open PySem PySem.Spec PyProof.Rows L2
/-- a property that goes over to the parts -/
def Down (P : PV → Prop) : Prop := ∀ w ts, P (.tup (.str w :: ts)) → ∀ t ∈ ts, P t
mutual
theorem fit_down {P : PV → Prop} (D : Down P) : ∀ (p t : PV) (f : AL), P t → (∀ kv ∈ f, P kv.2) → ∀ kv ∈ (fit f p t).2, P kv.2
  | .str z, t, f, ht, hf => by
    unfold fit
    cases h : Kx.get f z with
    | some u => exact hf
    | none =>
      intro kv hk
      rcases List.mem_append.mp hk with hk | hk
      · exact hf kv hk
      · rw [List.mem_singleton.mp hk]; exact ht
  | .tup (.str w :: ps), .tup (.str w' :: ts), f, ht, hf => by
    rw [fit_tups]
    split
    · exact fitL_down D ps ts f (D _ _ ht) hf
    · exact hf
  | .tup (.str w :: ps), .str _, f, _, hf => by simp only [fit]; exact hf
  | .tup (.str w :: ps), .oth, f, _, hf => by simp only [fit]; exact hf
  | .tup (.str w :: ps), .tup [], f, _, hf => by simp only [fit]; exact hf
  | .tup (.str w :: ps), .tup (.oth :: _), f, _, hf => by simp only [fit]; exact hf
  | .tup (.str w :: ps), .tup (.tup _ :: _), f, _, hf => by simp only [fit]; exact hf
  | .tup [], t, f, _, hf => by cases t <;> (simp only [fit]; exact hf)
  | .tup (.oth :: _), t, f, _, hf => by cases t <;> (simp only [fit]; exact hf)
  | .tup (.tup _ :: _), t, f, _, hf => by cases t <;> (simp only [fit]; exact hf)
  | .oth, t, f, _, hf => by cases t <;> (simp only [fit]; exact hf)
theorem fitL_down {P : PV → Prop} (D : Down P) : ∀ (ps ts : List PV) (f : AL), (∀ t ∈ ts, P t) → (∀ kv ∈ f, P kv.2) → ∀ kv ∈ (fitL f ps ts).2, P kv.2
  | p :: ps, t :: ts, f, ht, hf => by
    have a := fit_down D p t f (ht t (List.mem_cons_self ..)) hf
    rw [fitL_cons]
    split
    · exact fitL_down D ps ts _ (fun x hx => ht x (List.mem_cons_of_mem _ hx)) a
    · exact a
  | [], t, f, _, hf => by rw [fitL_nil]; exact hf
  | _ :: _, [], f, _, hf => by simp only [fitL]; exact hf
end
theorem Le.some {f g : AL} (h : Le f g) {z : Str} (n : get f z ≠ none) : get g z ≠ none := by
  cases e : get f z with
  | none => exact absurd e n
  | some u => rw [h z u e]; simp
mutual
/-- every name of a pattern that fits is told -/
theorem fit_names {mk : List (Str × Int)} : ∀ (p t : PV) (f : AL), form mk true p = true → form mk true t = true → (fit f p t).1 = true → ∀ z ∈ lv p, get (fit f p t).2 z ≠ none
  | .str y, t, f, _, _, h, z, hz => by
    simp only [lv, List.mem_singleton] at hz
    subst hz
    simp only [fit]
    cases e : get f z with
    | some u => simp [e]
    | none =>
      simp only
      rw [get_append e, if_pos rfl]
      simp
  | .oth, _, _, h, _, _, _, _ => by simp [form] at h
  | .tup [], _, _, h, _, _, _, _ => by simp [form] at h
  | .tup (.oth :: _), _, _, h, _, _, _, _ => by simp [form] at h
  | .tup (.tup _ :: _), _, _, h, _, _, _, _ => by simp [form] at h
  | .tup (.str w :: ps), .str _, f, _, _, h, _, _ => by simp [fit] at h
  | .tup (.str w :: ps), .oth, f, _, _, h, _, _ => by simp [fit] at h
  | .tup (.str w :: ps), .tup [], f, _, _, h, _, _ => by simp [fit] at h
  | .tup (.str w :: ps), .tup (.oth :: _), f, _, _, h, _, _ => by simp [fit] at h
  | .tup (.str w :: ps), .tup (.tup _ :: _), f, _, _, h, _, _ => by simp [fit] at h
  | .tup (.str w :: ps), .tup (.str w' :: ts), f, h1, h2, h, z, hz => by
    rw [fit_tups] at h ⊢
    by_cases e : w = w'
    · subst e
      rw [if_pos rfl] at h ⊢
      simp only [form, Bool.and_eq_true, beq_iff_eq] at h1 h2
      have hl : ps.length = ts.length := by
        have := Option.some.inj (h1.1.symm.trans h2.1)
        omega
      exact fitL_names ps ts f hl h1.2 h2.2 h z (by simpa only [lv] using hz)
    · rw [if_neg e] at h; cases h
theorem fitL_names {mk : List (Str × Int)} : ∀ (ps ts : List PV) (f : AL), ps.length = ts.length → formL mk true ps = true → formL mk true ts = true → (fitL f ps ts).1 = true → ∀ z ∈ lvL ps, get (fitL f ps ts).2 z ≠ none
  | [], _, _, _, _, _, _, z, hz => by simp [lvL] at hz
  | p :: ps, [], _, hl, _, _, _, _, _ => by simp at hl
  | p :: ps, t :: ts, f, hl, h1, h2, h, z, hz => by
    rw [fitL_cons] at h ⊢
    simp only [formL, Bool.and_eq_true] at h1 h2
    by_cases e : (fit f p t).1 = true
    · rw [if_pos e] at h ⊢
      simp only [lvL] at hz
      rcases List.mem_append.mp hz with hz | hz
      · exact (fitL_le ps ts _).some (fit_names p t f h1.1 h2.1 e z hz)
      · exact fitL_names ps ts _ (by simpa using hl) h1.2 h2.2 h z hz
    · rw [if_neg e] at h; cases h
end
/-- a tree over the makers of a depth -/
def TreeG (mk : List (Str × Int)) (d : Nat) (t : PV) : Prop := form mk true t = true ∧ Gr t ∧ dep t ≤ d
theorem TreeG.down {mk : List (Str × Int)} {d : Nat} : Down (TreeG mk d) := fun w ts h t ht => by
  obtain ⟨h1, h2, h3⟩ := h
  simp only [form, Bool.and_eq_true] at h1
  have := depL_mem ht
  simp only [dep, depL] at h3
  exact ⟨formL_mem h1.2 t ht, mem_GrL h2 t ht, by omega⟩
mutual
/-- putting trees for all names gives a tree -/
theorem psub_tree {mk : List (Str × Int)} {al : AL} {d : Nat} (h : ∀ kv ∈ al, TreeG mk d kv.2) : ∀ t : PV, form mk true t = true → (∀ z ∈ lv t, get al z ≠ none) → TreeG mk (dep t + d) (psub al t)
  | .str z, _, hz => by
    cases e : get al z with
    | none => exact absurd e (hz z (by simp [lv]))
    | some u =>
      simp only [psub, e, Option.getD_some]
      unfold Kx.get at e
      cases q : al.find? (fun kv => kv.1 == z) with
      | none => rw [q] at e; cases e
      | some kv =>
        rw [q] at e
        have e2 : kv.2 = u := Option.some.inj e
        obtain ⟨a, b, c⟩ := h kv (List.mem_of_find?_eq_some q)
        rw [e2] at a b c
        exact ⟨a, b, by omega⟩
  | .oth, hf, _ => by simp [form] at hf
  | .tup [], hf, _ => by simp [form] at hf
  | .tup (.oth :: _), hf, _ => by simp [form] at hf
  | .tup (.tup _ :: _), hf, _ => by simp [form] at hf
  | .tup (.str w :: r), hf, hz => by
    simp only [form, Bool.and_eq_true, beq_iff_eq] at hf
    obtain ⟨a, b, c⟩ := psubL_tree h r hf.2 (by simpa only [lv] using hz)
    have l : (psubL al r).length = r.length := by rw [psubL_map, List.length_map]
    refine ⟨?_, ?_, ?_⟩
    · simp only [psub, form, Bool.and_eq_true, beq_iff_eq]
      exact ⟨by rw [l]; exact hf.1, a⟩
    · simp only [psub]; exact b
    · simp only [psub, dep, depL]
      omega
theorem psubL_tree {mk : List (Str × Int)} {al : AL} {d : Nat} (h : ∀ kv ∈ al, TreeG mk d kv.2) : ∀ l : List PV, formL mk true l = true → (∀ z ∈ lvL l, get al z ≠ none) → formL mk true (psubL al l) = true ∧ GrL (psubL al l) ∧ depL (psubL al l) ≤ depL l + d
  | [], _, _ => ⟨rfl, trivial, by simp [psubL, depL]⟩
  | t :: r, hf, hz => by
    simp only [formL, Bool.and_eq_true] at hf
    simp only [lvL] at hz
    obtain ⟨a1, b1, c1⟩ := psub_tree h t hf.1 fun z q => hz z (List.mem_append_left _ q)
    obtain ⟨a2, b2, c2⟩ := psubL_tree h r hf.2 fun z q => hz z (List.mem_append_right _ q)
    refine ⟨?_, ⟨b1, b2⟩, ?_⟩
    · simp only [psubL, formL, Bool.and_eq_true]; exact ⟨a1, a2⟩
    · simp only [psubL, depL]; omega
end
/-! ### the index of a value -/
mutual
/-- the family and index of a value, if it has one -/
noncomputable def idxOf (cs : List Con) : PV → Option (Str × PV)
  | .tup (.str w :: ts) => match cs.find? (fun c => c.w == w) with
    | some c => madeK c (idxL cs ts)
    | none => none
  | _ => none
noncomputable def idxL (cs : List Con) : List PV → List (Option (Str × PV))
  | [] => []
  | t :: r => idxOf cs t :: idxL cs r
end
theorem idxL_map (cs : List Con) : ∀ l : List PV, idxL cs l = l.map (idxOf cs)
  | [] => rfl
  | t :: r => by simp only [idxL, List.map_cons, idxL_map cs r]
/-- a raw value: each word is a constructor's, with as many parts -/
def RawV (cs : List Con) (t : PV) : Prop := form (cnts cs) false t = true
theorem goodK_some : ∀ {ps : List (Str × PV)} {ks : List (Option (Str × PV))}, ps.length = ks.length → goodK ps ks = true → ∀ k ∈ ks, ∃ y, k = some y
  | [], [], _, _, k, h => by cases h
  | p :: ps, none :: ks, _, g, k, h => by simp [goodK] at g
  | p :: ps, some y0 :: ks, hl, g, k, h => by
    simp only [goodK, Bool.and_eq_true] at g
    rcases List.mem_cons.mp h with q | q
    · exact ⟨y0, q⟩
    · exact goodK_some (by simpa using hl) g.2 k q
theorem made_tree {c : Con} {ks : List (Option (Str × PV))} {d : Nat} {x : Str × PV} (G : ConG c) (hl : c.ps.length = ks.length) (hk : ∀ k ∈ ks, ∀ y, k = some y → TreeG MK d y.2) (e : madeK c ks = some x) : x.1 = c.fam ∧ TreeG MK (dep c.ix + d) x.2 := by
  unfold madeK at e
  obtain ⟨al, ha, rfl⟩ := Option.map_eq_some_iff.mp e
  refine ⟨rfl, ?_⟩
  unfold treesFor at ha
  split at ha
  · rename_i good
    split at ha
    · rename_i fits
      cases ha
      have some_ : ∀ t ∈ ks.map treeK, TreeG MK d t := by
        intro t ht
        obtain ⟨k, hkm, rfl⟩ := List.mem_map.mp ht
        have ex : ∃ y, k = some y := goodK_some hl good k hkm
        obtain ⟨y, rfl⟩ := ex
        exact hk _ hkm y rfl
      have dn := fitL_down TreeG.down (c.ps.map (·.2)) (ks.map treeK) [] some_ (fun kv h => by cases h)
      have fa : ∀ l : List PV, (∀ t ∈ l, form MK true t = true) → formL MK true l = true := fun l h => by rw [formL_all]; exact List.all_eq_true.mpr h
      have names := fitL_names (mk := MK) (c.ps.map (·.2)) (ks.map treeK) [] (by rw [List.length_map, List.length_map]; exact hl) (fa _ fun t ht => by obtain ⟨p, hp, rfl⟩ := List.mem_map.mp ht; exact (G.ps p hp).1) (fa _ fun t ht => (some_ t ht).1) fits
      refine psub_tree dn c.ix G.ix.1 fun z hz => ?_
      obtain ⟨p, hp, hz2⟩ := G.nms z hz
      exact names z (lvL_mem (List.mem_map.mpr ⟨p, hp, rfl⟩) hz2)
    · cases ha
  · cases ha
theorem look_cnts (w : Str) : ∀ cs : List Con, look (cnts cs) w = (cs.find? fun c => c.w == w).map fun c => (c.ps.length : Int)
  | [] => rfl
  | c :: r => by
    have ih := look_cnts w r
    unfold look at ih ⊢
    by_cases e : c.w = w
    · simp [cnts, e]
    · have ne : (c.w == w) = false := beq_eq_false_iff_ne.mpr e
      simp only [cnts, List.map_cons, List.find?_cons, ne]
      exact ih
mutual
/-- the index of a raw value is a tree, at most three times as deep -/
theorem idx_tree {cs : List Con} (G : ∀ c ∈ cs, ConG c) : ∀ t : PV, RawV cs t → ∀ x, idxOf cs t = some x → TreeG MK (3 * dep t) x.2
  | .str _, _, x, e => by simp [idxOf] at e
  | .oth, _, x, e => by simp [idxOf] at e
  | .tup [], _, x, e => by simp [idxOf] at e
  | .tup (.oth :: _), _, x, e => by simp [idxOf] at e
  | .tup (.tup _ :: _), _, x, e => by simp [idxOf] at e
  | .tup (.str w :: ts), h, x, e => by
    unfold RawV at h
    simp only [form, Bool.and_eq_true, beq_iff_eq] at h
    simp only [idxOf] at e
    have lk := look_cnts w cs
    cases q : cs.find? (fun c => c.w == w) with
    | none => rw [q] at e; cases e
    | some c =>
      rw [q] at e lk
      have hm := List.mem_of_find?_eq_some q
      have hl : c.ps.length = ts.length := by
        rw [lk] at h
        have e1 : (c.ps.length : Int) = (ts.length : Int) := Option.some.inj h.1
        omega
      have parts := idxL_tree G ts (formL_mem h.2)
      obtain ⟨_, a, b, d⟩ := made_tree (d := 3 * depL ts) (G c hm) (by rw [idxL_map, List.length_map]; exact hl) (fun k hk y ey => parts k hk y ey) e
      have := (G c hm).ix.2
      refine ⟨a, b, Nat.le_trans d ?_⟩
      simp only [dep, depL]
      omega
theorem idxL_tree {cs : List Con} (G : ∀ c ∈ cs, ConG c) : ∀ l : List PV, (∀ t ∈ l, RawV cs t) → ∀ k ∈ idxL cs l, ∀ y, k = some y → TreeG MK (3 * depL l) y.2
  | [], _, k, hk, _, _ => by simp [idxL] at hk
  | t :: r, h, k, hk, y, ey => by
    simp only [idxL] at hk
    rcases List.mem_cons.mp hk with q | q
    · subst ey
      obtain ⟨a, b, c⟩ := idx_tree G t (h t (List.mem_cons_self ..)) y q.symm
      refine ⟨a, b, ?_⟩
      simp only [depL]
      omega
    · obtain ⟨a, b, c⟩ := idxL_tree G r (fun x hx => h x (List.mem_cons_of_mem _ hx)) k q y ey
      refine ⟨a, b, ?_⟩
      simp only [depL]
      omega
end
end Kx
namespace Kx
open PySem PySem.Spec PyProof.Rows L2
section
variable {P : Program} {w : World} {K : PySem.W.Frag} {mg : Str → Option Value} {base : Heap}
/-! ### index_of -/
mutual
theorem Is.keep {H H' : Hp} (x : ∀ b o, H b = some o → (∀ u, o ≠ KLm.PinO b u) → H' b = some o) : ∀ {v : V} {t : PV}, Is H v t → Is H' v t
  | _, _, .str z k => .str z k
  | _, _, .non => .non
  | _, _, .bl b => .bl b
  | _, _, .int i => .int i
  | _, _, .lst e => .lst (e.elim fun xs e => ⟨xs, x _ _ e fun _ z => KLm.pin_lst z.symm⟩)
  | _, _, .dict e => .dict (x _ _ e fun _ z => KLm.pin_dK z.symm)
  | _, _, .tup e h => .tup (x _ _ e fun _ z => KLm.pin_tup z.symm) (IsL.keep x h)
theorem IsL.keep {H H' : Hp} (x : ∀ b o, H b = some o → (∀ u, o ≠ KLm.PinO b u) → H' b = some o) : ∀ {v : List V} {t : List PV}, IsL H v t → IsL H' v t
  | _, _, .nil => .nil
  | _, _, .cons h r => .cons (Is.keep x h) (IsL.keep x r)
end
theorem KindIs.keep {H H' : Hp} (x : ∀ b o, H b = some o → (∀ u, o ≠ KLm.PinO b u) → H' b = some o) {v : V} {k : Option (Str × PV)} (h : KindIs H v k) : KindIs H' v k := by
  cases k with
  | none => exact h
  | some k => exact Is.keep x h
theorem KindL.keep {H H' : Hp} (x : ∀ b o, H b = some o → (∀ u, o ≠ KLm.PinO b u) → H' b = some o) : ∀ {vs : List V} {ks : List (Option (Str × PV))}, KindL H vs ks → KindL H' vs ks
  | _, _, .nil => .nil
  | _, _, .cons h t => .cons (h.keep x) (t.keep x)
mutual
theorem Is.tu {H H' : Hp} (x : Tu H H') : ∀ {v : V} {t : PV}, Tm t → Is H v t → Is H' v t
  | _, _, _, .str z k => .str z k
  | _, _, h, .non => absurd h id
  | _, _, h, .bl _ => absurd h id
  | _, _, h, .int _ => absurd h id
  | _, _, h, .lst _ => absurd h id
  | _, _, h, .dict _ => absurd h id
  | _, .tup [], h, .tup e i => absurd h id
  | _, .tup (.oth :: _), h, .tup e i => absurd h id
  | _, .tup (.tup _ :: _), h, .tup e i => absurd h id
  | _, .tup (.str w :: r), h, .tup e (.cons (.str _ k) i) => .tup (x _ _ e (fun _ z => by cases z) (fun _ z => by cases z)) (.cons (.str w k) (IsL.tu x h i))
theorem IsL.tu {H H' : Hp} (x : Tu H H') : ∀ {v : List V} {t : List PV}, TmL t → IsL H v t → IsL H' v t
  | _, _, _, .nil => .nil
  | _, _, h, .cons a r => .cons (Is.tu x h.1 a) (IsL.tu x h.2 r)
end
/-- the result for index_of -/
def RIdx (cs : List Con) : ResT := fun H r ts => KindIs H r (idxOf cs (.tup ts)) ∧ ∀ x, idxOf cs (.tup ts) = some x → Tm x.2
theorem RIdx.st (cs : List Con) : Stable (RIdx cs) := fun H H' v ts x ⟨h, t⟩ => ⟨by
  cases e : idxOf cs (.tup ts) with
  | none => rw [e] at h; exact h
  | some k =>
    rw [e] at h
    exact Is.tu x (t := .tup [.str k.1, k.2]) ⟨t k e, trivial⟩ h, t⟩
theorem RIdx.list {cs : List Con} {H : Hp} : ∀ {rs : List V} {ts : List PV}, ResL (RIdx cs) H rs ts → KindL H rs (idxL cs ts)
  | _, _, .nil => .nil
  | _, _, .cons h t => .cons h.1 (RIdx.list t)
mutual
theorem lc_le {mk : List (Str × Int)} (ar : Ar mk) : ∀ t : PV, form mk true t = true → lc t ≤ 2 ^ dep t
  | .str _, _ => by simp [lc, dep]
  | .oth, _ => by simp [lc]
  | .tup [], _ => by simp [lc]
  | .tup (.oth :: _), h => by simp [form] at h
  | .tup (.tup _ :: _), h => by simp [form] at h
  | .tup (.str w :: r), h => by
    simp only [form, Bool.and_eq_true, beq_iff_eq] at h
    have a := ar w _ h.1
    have b := lcL_le ar r h.2
    simp only [lc]
    have d : dep (.tup (.str w :: r)) = 1 + max 1 (depL r) := dep_cons w r
    rw [d]
    have e : r.length ≤ 2 := by omega
    calc lcL r ≤ r.length * 2 ^ depL r := b
      _ ≤ 2 * 2 ^ depL r := Nat.mul_le_mul_right _ e
      _ ≤ 2 * 2 ^ (max 1 (depL r)) := Nat.mul_le_mul_left _ (Nat.pow_le_pow_right (by decide) (Nat.le_max_right ..))
      _ = 2 ^ (1 + max 1 (depL r)) := by rw [Nat.pow_add]
theorem lcL_le {mk : List (Str × Int)} (ar : Ar mk) : ∀ l : List PV, formL mk true l = true → lcL l ≤ l.length * 2 ^ depL l
  | [], _ => by simp [lcL]
  | t :: r, h => by
    simp only [formL, Bool.and_eq_true] at h
    have a := lc_le ar t h.1
    have b := lcL_le ar r h.2
    simp only [lcL, List.length_cons, depL]
    have c : 2 ^ dep t ≤ 2 ^ (max (dep t) (depL r)) := Nat.pow_le_pow_right (by decide) (Nat.le_max_left ..)
    have d : r.length * 2 ^ depL r ≤ r.length * 2 ^ (max (dep t) (depL r)) := Nat.mul_le_mul_left _ (Nat.pow_le_pow_right (by decide) (Nat.le_max_right ..))
    rw [Nat.add_mul, Nat.one_mul]
    omega
end
theorem con_of {F : List Str} {cs : List Con} (G : TabG F cs) : ∀ c ∈ cs, ConG c := fun c hc => by
  obtain ⟨⟨p1, p2, p3, p4⟩, p5⟩ := G.row c hc
  have fa : formL MK true (c.ps.map (·.2)) = true := by
    rw [formL_all]
    exact List.all_eq_true.mpr fun t ht => by obtain ⟨p, hp, rfl⟩ := List.mem_map.mp ht; exact (p1 p hp).2.1
  refine ⟨fun p hp => ⟨(p1 p hp).2.1, (p1 p hp).2.2⟩, by have : c.ps.length ≤ 2 := p2; omega, p3, ?_, G.ok _ p5, p4⟩
  have a := lcL_le mk_ar _ fa
  have d : depL (c.ps.map (·.2)) ≤ 3 := depL_le fun t ht => by obtain ⟨p, hp, rfl⟩ := List.mem_map.mp ht; exact (p1 p hp).2.2
  have l : (c.ps.map (·.2)).length ≤ 2 := by rw [List.length_map]; exact p2
  calc lcL (c.ps.map (·.2)) ≤ _ := a
    _ ≤ 2 * 2 ^ 3 := Nat.mul_le_mul l (Nat.pow_le_pow_right (by decide) d)
    _ ≤ 100000 := by decide
mutual
theorem raw_rv {cs : List Con} (h2 : ∀ c ∈ cs, c.ps.length ≤ 3) : ∀ t : PV, RawV cs t → Rv (cs.map (·.w)) t
  | .str _, h => by simp [RawV, form] at h
  | .oth, h => by simp [RawV, form] at h
  | .tup [], h => by simp [RawV, form] at h
  | .tup (.oth :: _), h => by simp [RawV, form] at h
  | .tup (.tup _ :: _), h => by simp [RawV, form] at h
  | .tup (.str w :: r), h => by
    unfold RawV at h
    simp only [form, Bool.and_eq_true, beq_iff_eq] at h
    have lk := look_cnts w cs
    rw [h.1] at lk
    cases q : cs.find? (fun c => c.w == w) with
    | none => rw [q] at lk; cases lk
    | some c =>
      rw [q] at lk
      have hm := List.mem_of_find?_eq_some q
      have hw : c.w = w := by simpa using List.find?_some q
      have e : (r.length : Int) = (c.ps.length : Int) := Option.some.inj lk
      refine ⟨List.mem_map.mpr ⟨c, hm, hw⟩, by have := h2 c hm; omega, rawL_rv h2 r h.2⟩
theorem rawL_rv {cs : List Con} (h2 : ∀ c ∈ cs, c.ps.length ≤ 3) : ∀ l : List PV, formL (cnts cs) false l = true → RvL (cs.map (·.w)) l
  | [], _ => trivial
  | t :: r, h => by
    simp only [formL, Bool.and_eq_true] at h
    exact ⟨raw_rv h2 t h.1, rawL_rv h2 r h.2⟩
end
theorem raw_con {cs : List Con} {w : Str} {ts : List PV} (h : RawV cs (.tup (.str w :: ts))) : ∃ c, cs.find? (fun c => c.w == w) = some c ∧ c ∈ cs ∧ c.ps.length = ts.length ∧ ∀ t ∈ ts, RawV cs t := by
  unfold RawV at h
  simp only [form, Bool.and_eq_true, beq_iff_eq] at h
  have lk := look_cnts w cs
  rw [h.1] at lk
  cases q : cs.find? (fun c => c.w == w) with
  | none => rw [q] at lk; cases lk
  | some c =>
    rw [q] at lk
    have e : (ts.length : Int) = (c.ps.length : Int) := Option.some.inj lk
    exact ⟨c, rfl, List.mem_of_find?_eq_some q, by omega, formL_mem h.2⟩
def spLamIdx (D : Addr) (kvs : List (Key × V)) : Sp := fun vs H Q _ => ∃ (w : Str) (l : Addr) (c : Con) (v : V) (ks : List (Option (Str × PV))) (rs : List V), vs = [.str w, .ref l] ∧ H D = some (.dK kvs) ∧ valV kvs (Sum.inr w) = some v ∧ Is H v (conPV c) ∧ ConG c ∧ H l = some (.lst rs) ∧ KindL H rs ks ∧
  c.ps.length = ks.length ∧ KindsG ks ∧ ∀ u H', Same H H' → KindIs H' u (madeK c ks) → Q u H'
def spIndex (TT : List (Addr × Str)) (n : Nat) : Sp := fun vs H Q _ => ∃ (v u : V) (mk : List PV) (F : List Str) (cs : List Con) (t : List PV), vs = [v, u] ∧ LamX.Tabs TT H ∧ Is H v (tabPV mk F cs) ∧ TabG F cs ∧ Is H u (.tup t) ∧ RawV cs (.tup t) ∧ dep (.tup t) ≤ n ∧ dep (.tup t) ≤ 20 ∧
  ∀ r H', LamX.ExtN H H' → LamX.Tabs TT H' → KindIs H' r (idxOf cs (.tup t)) → Q r H'
theorem ok_index_of {n k : Nat} {c0 P0 : Addr} {TT : List (Addr × Str)} (T : Txt K mg) (FC : FunC K "index_of" "index_of" s_index_of T.a_index_of T.d_index_of c0) (hTB : LamX.TabB base mg c0 P0) (hin : (P0, lamq "index_of") ∈ TT) (hun : ∀ p ∈ TT, p.1 = P0 → p.2 = lamq "index_of")
    (G_made_kind : FnOk P w K mg base CX0 8 T.a_made_kind T.d_made_kind ["constructor", "kinds"] spMade)
    (G_folded : FnOk P w K mg base CX0 (k+1) T.a_folded T.d_folded ["tree", "reckon"] (spFolded P w K mg base 9 n)) : FnOk P w K mg base CX0 (k+2) T.a_index_of T.d_index_of ["table", "value"] (spIndex TT n) := by
  refine FC.ok sc_index_of (fun vs H Q E h => ?_) (fun A outer s H vs Q E hr h => ?_)
  · obtain ⟨v, u, mk, F, cs, t, rfl, _⟩ := h; rfl
  · obtain ⟨v, u, mk, F, cs, t, rfl, hT, hI, G, hu0, hraw, hn, h20, q⟩ := h
    have hr_folded := hr
    have hu := hu_of hr
    refine ⟨_, (pss_cons (ps_set (i := 2) sc_index_of.nd rfl (Or.inr rfl) (pe_dc (own := [("constructor", 3)]) (g := gName 3) (tt := tYes) rfl sc_index_of.nd (pi_tup (pe_ix ix_tup (pv 0) pe_int (fun _ _ => rfl))) (blkOk_by (own := [("constructor", 3)]) (N := ["table", "value", "constructors", "constructor", "word", "kinds"]) (sc := defScope s_index_of) (by decide +kernel)) (fun _ _ _ _ _ => pg_name (i := 3) sc_index_of.nd rfl (Or.inl rfl)) (fun _ _ _ _ _ => pts_nil) (fun _ _ _ _ _ => (pe_ix (ixTK (K := K)) (pv 3) pe_int (fun _ _ => rfl))) (fun _ _ _ _ _ => (pv 3))))
    (pss_one (ps_ret (KLm.pe_hand (T := TT) (fr := ["constructors"]) (js := [2]) G_folded hr_folded rfl T.m_folded T.F_folded.kp T.b_folded hTB rfl hin hun rfl (by show KLm.capB (defScope s_index_of) _ _ = true; decide +kernel) rfl (fun _ => rfl) (pv 1))))), ?_⟩
    obtain ⟨a, vs, rfl, ea, hL⟩ := hI.tup_inv
    have l3 : 3 < vs.length := by rw [hL.len]; exact Nat.lt_of_lt_of_le (by decide : 3 < 4) (Nat.le_refl 4)
    have h3 : vs[3]? = some (vs[3]'l3) := List.getElem?_eq_getElem _
    obtain ⟨y, ey, iy⟩ := hL.get h3
    generalize vs[3]'l3 = ct at h3 iy
    have ey2 : y = .tup (cs.map conPV) := (Option.some.inj ey).symm
    subst ey2
    obtain ⟨ca, cvs, rfl, ec, icL⟩ := iy.tup_inv
    have clen := icL.len
    rw [List.length_map] at clen
    have len12 := G.len.2
    have CG := con_of G
    refine ⟨_, rfl, a, _, _, _, rfl, rfl, .inl (.inl ea), atI_nat (j := 3) h3, ca, rfl, ⟨_, .inl (.inl ec)⟩, fun D hD => ?_⟩
    refine dc_tup (K := K) (a := ca) (xs := cvs) (fun i H2 => ∃ kvs : List (Key × V), Same H H2 ∧ H2 D = some (.dK kvs) ∧ kvs.length ≤ i ∧ ∀ (j : Nat) (c : Con), j < i → cs[j]? = some c → ∃ x, valV kvs (Sum.inr c.w) = some x ∧ Is H x (conPV c)) ?_ ?_ ?_ ?_
    · exact ⟨[], same_upd hD _, upd_same, Nat.le_refl _, fun j c h => by omega⟩
    · exact fun i H2 _ ⟨_, sm, _⟩ => .inl (.inl (sm _ _ ec))
    · rintro i x H2 hx ⟨kvs, sm, eD, kl, all⟩
      obtain ⟨y, ey, iy⟩ := icL.get hx
      rw [List.getElem?_map] at ey
      have hi : i < cs.length := by rw [← clen]; exact (List.getElem?_eq_some_iff.mp hx).1
      rw [List.getElem?_eq_getElem hi] at ey
      cases (Option.some.inj ey)
      obtain ⟨xa, xvs, rfl, ex, ixL⟩ := id iy.tup_inv
      cases ixL with
      | @cons wv _ _ _ iw ixL =>
      cases iw.str_inv
      refine ⟨rfl, yes_if ⟨_, rfl, xa, _, _, _, rfl, rfl, .inl (.inl (sm _ _ ex)), atI_nat (j := 0) rfl, _, rfl, kvs, Sum.inr cs[i].w, rfl, eD, small1000 (by omega), ?_⟩⟩
      refine ⟨putK kvs (Sum.inr cs[i].w) (.ref xa), Kx.Same.own sm hD _, upd_same, ?_, fun j c hj hc => ?_⟩
      · unfold putK
        split
        · rw [List.length_map]; omega
        · rw [List.length_append]; simp only [List.length_cons, List.length_nil]; omega
      · by_cases e : j = i
        · subst e
          rw [List.getElem?_eq_getElem hi] at hc
          cases hc
          exact ⟨.ref xa, by rw [valV_put, if_pos rfl], iy⟩
        · obtain ⟨z, hz, iz⟩ := all j c (by omega) hc
          have jl := (List.getElem?_eq_some_iff.mp hc).1
          have ne : (Sum.inr c.w : Key) ≠ Sum.inr cs[i].w := fun q => by
            have q2 : c.w = cs[i].w := Sum.inr.inj q
            have nd := G.nd
            have jl2 : j < (cs.map Con.w).length := by rw [List.length_map]; exact jl
            have il2 : i < (cs.map Con.w).length := by rw [List.length_map]; exact hi
            have e3 : (cs.map Con.w)[j]'jl2 = (cs.map Con.w)[i]'il2 := by
              rw [List.getElem_map, List.getElem_map, (List.getElem?_eq_some_iff.mp hc).2]
              exact q2
            have p := List.pairwise_iff_getElem.mp nd
            rcases Nat.lt_trichotomy j i with h | h | h
            · exact p j i jl2 il2 h e3
            · exact e h
            · exact p i j il2 jl2 h e3.symm
          exact ⟨z, by rw [valV_put, if_neg ne]; exact hz, iz⟩
    · rintro H2 ⟨kvs, sm, eD, kl, all⟩
      refine ⟨_, rfl, hT.ext sm, [.ref D], rfl, fun f c' pm ctv caps H3 H4 x1 T3 x2 f1 C cfree at4 => ?_⟩
      have x0 := LamX.ExtN.of sm
      have hId : LamX.ExtN H H4 := fun b o e n => x2 _ _ (x1 _ _ (x0 _ _ e n) n)
      have eD4 : H4 D = some (.dK kvs) := x2 _ _ (x1 _ _ eD fun _ z => by cases z)
      have iu4 : Is H4 u (.tup t) := hu0.extN hId
      have con4 : ∀ (c : Con), c ∈ cs → ∃ x, valV kvs (Sum.inr c.w) = some x ∧ Is H4 x (conPV c) := fun c hc => by
        obtain ⟨j, hj, ej⟩ := List.getElem_of_mem hc
        obtain ⟨x, e1, e2⟩ := all j c (by omega) (by rw [List.getElem?_eq_getElem hj, ej])
        exact ⟨x, e1, e2.extN hId⟩
      have le3 : ∀ c ∈ cs, c.ps.length ≤ 3 := fun c hc => (CG c hc).len
      refine ⟨u, t, f, cs.map (·.w), 20, RawV cs, RIdx cs, _, spLamIdx D kvs, rfl, ?_, ⟨RIdx.st cs, fun H H' t p => p.on t, by rw [List.length_map]; omega, fun w ts h => ?_, fun w0 ts l rs H5 Q E hg hv h20 s5 p el hrs q => ?_⟩, hraw, at4, iu4, raw_rv le3 _ hraw, hn, by omega, h20, fun r H5 s5 hR => ⟨at4.on (Tu.of s5), fun H6 h6 => ?_⟩⟩
      · refine KLm.lam_ok (k := 8) (N := ["word", "kinds", "constructors"]) (ps := ["word", "kinds"]) (fr := ["constructors"]) (ws := [.ref D]) (sp := spLamIdx D kvs) (NdefX.nscope_by (by decide +kernel)) (fun us hl => match us, hl with | [_, _], _ => rfl) C
          (fun vs H Q E ⟨_, _, _, _, _, _, e, _⟩ => by rw [e]; rfl) fun A outer s H7 vs Q E hr p hsp => ?_
        obtain ⟨w0, l, c, x, ks, rs, rfl, eD7, ex, ix, cg, el, hK, hl, kG, q⟩ := hsp
        have hu := hu_of hr
        have hid : ∀ b o, H7 b = some o → (∀ u, o ≠ KLm.PinO b u) → KLm.hid caps H7 b = some o := fun b o e n => KLm.hid_see p.cel e n
        have dget : DGet (KLm.hid caps H7) D (.str w0) (some x) := ex ▸ DGet.k (k := Sum.inr w0) (hid _ _ eD7 fun _ z => KLm.pin_dK z.symm)
        refine ⟨_, pe_call G_made_kind hr rfl T.m_made_kind T.F_made_kind.kp T.b_made_kind .nil pass0 (pa_cons (pe_dget hu (pv 2) (pv 0) (fun _ _ => rfl)) (pa_cons (pv 1) pa_nil)), ?_⟩
        refine ⟨_, rfl, _, rfl, D, x, rfl, dget, _, rfl, x, l, c, ks, rs, rfl, ix.keep hid, cg, hid _ _ el fun _ z => KLm.pin_lst z.symm, hK.keep hid, hl, kG, fun r H8 s8 hk out => ?_⟩
        have back : ∀ b o, H8 b = some o → KLm.unh caps H7 H8 b = some o := fun b o e => by rw [KLm.unh_out fun z => by rw [out b z] at e; cases e]; exact e
        refine q r _ (fun b o e => ?_) (hk.same back)
        by_cases hb : b ∈ caps.map (·.1)
        · rw [KLm.unh_in hb]; exact e
        · rw [KLm.unh_out hb]; exact s8 _ _ (by rw [KLm.hid_out hb]; exact e)
      · obtain ⟨_, _, _, _, e⟩ := raw_con h
        exact e
      · obtain ⟨c, e1, e2, e3, e4⟩ := raw_con hg
        obtain ⟨x, ex, ix⟩ := con4 c e2
        have cw : c.w = w0 := by simpa using List.find?_some e1
        rw [cw] at ex
        have ei : idxOf cs (.tup (.str w0 :: ts)) = madeK c (idxL cs ts) := by simp only [idxOf, e1]
        have hd : dep (.tup (.str w0 :: ts)) = 1 + max 1 (depL ts) := dep_cons _ _
        refine ⟨w0, l, c, x, idxL cs ts, rs, rfl, s5 _ _ eD4, ex, ix.same s5, CG c e2, el, RIdx.list hrs, by rw [idxL_map, List.length_map]; exact e3, fun k hk y ey => ?_, fun r H6 s6 hk => q r H6 s6 ⟨by rw [ei]; exact hk, fun y ey => ?_⟩⟩
        · obtain ⟨a1, a2, a3⟩ := idxL_tree CG ts e4 k hk y ey
          exact ⟨a1, a2, by omega⟩
        · obtain ⟨a1, a2, a3⟩ := idx_tree CG _ hg y ey
          exact gr_tm a2
      · obtain ⟨y1, y2⟩ := KLm.ext_back x1 x2 s5 h6
        have at5 := at4.on (Tu.of s5)
        refine q r H6 (x0.trans y1) (T3.ext y2) (hR.1.keep fun b o e n => ?_)
        rcases h6 b with z | ⟨_, _, z | z⟩
        · rw [z]; exact e
        · rw [z, at5.fn] at e
          exact absurd (Option.some.inj e).symm (by rw [z] at n; exact n _)
        · obtain ⟨u2, _, e2⟩ := at5.cel.get z
          rw [e] at e2
          exact absurd (Option.some.inj e2) (n _)
end
end Kx
namespace Kx
open PySem PySem.Spec PyProof.Rows L2
section
variable {P : Program} {w : World} {K : PySem.W.Frag} {mg : Str → Option Value} {base : Heap}
/-! ### demanded -/
theorem tabs_wr {TT : List (Addr × Str)} {H : Hp} {l : Addr} {xs ys : List V} (t : LamX.Tabs TT H) (e : H l = some (.lst xs)) : LamX.Tabs TT (upd H l (.lst ys)) := fun p hp => by
  obtain ⟨ps, h1, h2, h3⟩ := t p hp
  refine ⟨ps, by rw [upd_ne fun z => by rw [z, e] at h1; cases h1]; exact h1, h2, fun pos cv hc => ?_⟩
  obtain ⟨c, e1, e2⟩ := h3 pos cv hc
  exact ⟨c, e1, by rw [upd_ne fun z => by rw [z, e] at e2; unfold LamX.CodeO at e2; cases e2]; exact e2⟩
/-- all but the tables stands, and these are told further -/
structure Sx (TT : List (Addr × Str)) (H H' : Hp) : Prop where
  x : LamX.ExtN H H'
  t : LamX.Tabs TT H → LamX.Tabs TT H'
section
variable {TT : List (Addr × Str)} {H H1 H2 : Hp}
theorem Sx.refl (TT : List (Addr × Str)) (H : Hp) : Sx TT H H := ⟨.refl H, id⟩
theorem Sx.trans (a : Sx TT H H1) (b : Sx TT H1 H2) : Sx TT H H2 := ⟨a.x.trans b.x, fun t => b.t (a.t t)⟩
theorem Sx.of (s : Same H H1) : Sx TT H H1 := ⟨.of s, fun t => t.ext s⟩
theorem Sx.lst {l : Addr} {xs : List V} (s : Sx TT H H1) (n : H l = none) (e : H1 l = some (.lst xs)) (ys : List V) : Sx TT H (upd H1 l (.lst ys)) :=
  ⟨fun b o h k => by rw [upd_ne (ne_of_none h n)]; exact s.x b o h k, fun t => tabs_wr (s.t t) e⟩
theorem Sx.at_ (s : Sx TT H H1) {b : Addr} {o : HO} (e : H b = some o) (n : ∀ ps, o ≠ .tbl ps) : H1 b = some o := s.x b o e n
theorem Sx.tup (s : Sx TT H H1) {b : Addr} {vs : List V} (e : H b = some (.tup vs)) : H1 b = some (.tup vs) := s.x b _ e fun _ z => by cases z
theorem Sx.li (s : Sx TT H H1) {b : Addr} {vs : List V} (e : H b = some (.lst vs)) : H1 b = some (.lst vs) := s.x b _ e fun _ z => by cases z
theorem Sx.free (s : Sx TT H H1) {b : Addr} (h : ∀ ps, H b ≠ some (.tbl ps)) (e : H1 b = none) : H b = none := by
  cases q : H b with
  | none => rfl
  | some o => rw [s.x b o q fun ps z => h ps (by rw [q, z])] at e; cases e
theorem Is.sx (s : Sx TT H H1) {v : V} {t : PV} (h : Is H v t) : Is H1 v t := h.extN s.x
theorem IsL.sx (s : Sx TT H H1) {v : List V} {t : List PV} (h : IsL H v t) : IsL H1 v t := IsL.extN s.x h
theorem KindIs.sx (s : Sx TT H H1) {v : V} {k : Option (Str × PV)} (h : KindIs H v k) : KindIs H1 v k := by
  cases k with
  | none => exact h
  | some k => exact Is.sx s h
theorem KindL.sx (s : Sx TT H H1) : ∀ {vs : List V} {ks : List (Option (Str × PV))}, KindL H vs ks → KindL H1 vs ks
  | _, _, .nil => .nil
  | _, _, .cons h t => .cons (h.sx s) (t.sx s)
end
theorem KindIs.wr {H : Hp} {l : Addr} {xs ys : List V} (e : H l = some (.lst xs)) {v : V} {k : Option (Str × PV)} (h : KindIs H v k) : KindIs (upd H l (.lst ys)) v k := by
  cases k with
  | none => exact h
  | some k => exact Is.wr e h
theorem KindL.wr {H : Hp} {l : Addr} {xs ys : List V} (e : H l = some (.lst xs)) : ∀ {vs : List V} {ks : List (Option (Str × PV))}, KindL H vs ks → KindL (upd H l (.lst ys)) vs ks
  | _, _, .nil => .nil
  | _, _, .cons h t => .cons (h.wr e) (t.wr e)
theorem KindL.snoc {H : Hp} {v : V} {k : Option (Str × PV)} (h : KindIs H v k) : ∀ {vs : List V} {ks : List (Option (Str × PV))}, KindL H vs ks → KindL H (vs ++ [v]) (ks ++ [k])
  | _, _, .nil => .cons h .nil
  | _, _, .cons a t => .cons a (t.snoc h)
structure PsG (ps : List (Str × PV)) : Prop where
  len : ps.length ≤ 3
  each : ∀ p ∈ ps, form MK true p.2 = true ∧ dep p.2 ≤ 3
  few : lcL (ps.map (·.2)) ≤ 100000
/-- raw values that are asked for -/
def ValG (cs : List Con) (n : Nat) (t : PV) : Prop := ∃ l, t = .tup l ∧ RawV cs t ∧ dep t ≤ n ∧ dep t ≤ 20
end
end Kx
/-! Data without anything else in it: read as data; == and != of such at any depth. -/
namespace Kx
open PySem PySem.Spec PyProof.Rows L2
noncomputable instance decPV : DecidableEq PV := fun _ _ => Classical.propDecidable _
mutual
/-- nothing but texts and tuples -/
def NoO : PV → Prop
  | .str _ => True
  | .oth => False
  | .tup l => NoOL l
def NoOL : List PV → Prop
  | [] => True
  | t :: r => NoO t ∧ NoOL r
end
theorem NoOL_mem : ∀ {l : List PV}, (∀ t ∈ l, NoO t) → NoOL l
  | [], _ => trivial
  | t :: r, h => ⟨h t (List.mem_cons_self ..), NoOL_mem fun x hx => h x (List.mem_cons_of_mem _ hx)⟩
theorem mem_NoOL : ∀ {l : List PV}, NoOL l → ∀ t ∈ l, NoO t
  | a :: r, h, t, ht => by
    rcases List.mem_cons.mp ht with rfl | ht
    · exact h.1
    · exact mem_NoOL h.2 t ht
mutual
theorem tm_no : ∀ {t : PV}, Tm t → NoO t
  | .str _, _ => trivial
  | .oth, h => absurd h id
  | .tup [], h => absurd h id
  | .tup (.oth :: _), h => absurd h id
  | .tup (.tup _ :: _), h => absurd h id
  | .tup (.str _ :: r), h => ⟨trivial, tmL_no h⟩
theorem tmL_no : ∀ {l : List PV}, TmL l → NoOL l
  | [], _ => trivial
  | t :: r, h => ⟨tm_no h.1, tmL_no h.2⟩
end
mutual
theorem Is.tk {H H' : Hp} (x : ∀ a vs, H a = some (.tup vs) → H' a = some (.tup vs)) : ∀ {v : V} {t : PV}, NoO t → Is H v t → Is H' v t
  | _, _, _, .str z k => .str z k
  | _, _, h, .non => absurd h id
  | _, _, h, .bl _ => absurd h id
  | _, _, h, .int _ => absurd h id
  | _, _, h, .lst _ => absurd h id
  | _, _, h, .dict _ => absurd h id
  | _, _, h, .tup e i => .tup (x _ _ e) (IsL.tk x h i)
theorem IsL.tk {H H' : Hp} (x : ∀ a vs, H a = some (.tup vs) → H' a = some (.tup vs)) : ∀ {v : List V} {t : List PV}, NoOL t → IsL H v t → IsL H' v t
  | _, _, _, .nil => .nil
  | _, _, h, .cons a r => .cons (Is.tk x h.1 a) (IsL.tk x h.2 r)
end
mutual
def toD : PV → PyData
  | .str z => .str z
  | .oth => .none
  | .tup l => .tuple (toDL l)
def toDL : List PV → List PyData
  | [] => []
  | t :: r => toD t :: toDL r
end
mutual
theorem eqv_eq : ∀ {a b : PV}, NoO a → NoO b → PyData.eqv (toD a) (toD b) = true → a = b
  | .oth, _, h, _, _ => absurd h id
  | .str _, .oth, _, h, _ => absurd h id
  | .tup _, .oth, _, h, _ => absurd h id
  | .str x, .str y, _, _, h => by simp only [toD, PyData.eqv, beq_iff_eq] at h; rw [h]
  | .str x, .tup _, _, _, h => by simp [toD, PyData.eqv] at h
  | .tup _, .str y, _, _, h => by simp [toD, PyData.eqv] at h
  | .tup l, .tup m, h1, h2, h => by
    simp only [toD, PyData.eqv] at h
    rw [eqvL_eq h1 h2 h]
theorem eqvL_eq : ∀ {a b : List PV}, NoOL a → NoOL b → PyData.eqvAll (toDL a) (toDL b) = true → a = b
  | [], [], _, _, _ => rfl
  | [], _ :: _, _, _, h => by simp [toDL, PyData.eqvAll] at h
  | _ :: _, [], _, _, h => by simp [toDL, PyData.eqvAll] at h
  | x :: r, y :: q, h1, h2, h => by
    simp only [toDL, PyData.eqvAll, Bool.and_eq_true] at h
    rw [eqv_eq h1.1 h2.1 h.1, eqvL_eq h1.2 h2.2 h.2]
end
mutual
theorem eqv_self : ∀ a : PV, PyData.eqv (toD a) (toD a) = true
  | .str x => by simp [toD, PyData.eqv]
  | .oth => by simp [toD, PyData.eqv]
  | .tup xs => by simp only [toD, PyData.eqv]; exact eqvL_self xs
theorem eqvL_self : ∀ a : List PV, PyData.eqvAll (toDL a) (toDL a) = true
  | [] => by simp [toDL, PyData.eqvAll]
  | x :: r => by simp only [toDL, PyData.eqvAll, eqv_self x, eqvL_self r, Bool.and_self]
end
theorem eqv_one {a b : PV} (ha : NoO a) (hb : NoO b) : PyData.eqv (toD a) (toD b) = decide (a = b) := by
  by_cases e : a = b
  · subst e; rw [eqv_self]; simp
  · rw [decide_eq_false e]
    cases h : PyData.eqv (toD a) (toD b) with
    | false => rfl
    | true => exact absurd (eqv_eq ha hb h) e
mutual
theorem toD_depth : ∀ t : PV, (toD t).depth ≤ dep t
  | .str _ => by simp [toD, PyData.depth]
  | .oth => by simp [toD, PyData.depth]
  | .tup ts => by
    have := toDL_depth ts
    simp only [toD, PyData.depth, dep]; omega
theorem toDL_depth : ∀ l : List PV, PyData.depthAll (toDL l) ≤ depL l
  | [] => by simp [toDL, PyData.depthAll]
  | t :: r => by
    have a := toD_depth t
    have b := toDL_depth r
    simp only [toDL, PyData.depthAll, depL]; omega
end
mutual
theorem Is.lay {H : Hp} : ∀ {v : V} {t : PV}, Is H v t → (toD t).canLay0 = true
  | _, _, .str z k => by simp only [toD, PyData.canLay0]; exact k
  | _, _, .non => rfl
  | _, _, .bl _ => rfl
  | _, _, .int _ => rfl
  | _, _, .lst _ => rfl
  | _, _, .dict _ => rfl
  | _, _, .tup e h => by simp only [toD, PyData.canLay0]; exact IsL.lay h
theorem IsL.lay {H : Hp} : ∀ {v : List V} {t : List PV}, IsL H v t → PyData.canLayAll0 (toDL t) = true
  | _, _, .nil => by simp [toDL, PyData.canLayAll0]
  | _, _, .cons h r => by simp only [toDL, PyData.canLayAll0, Is.lay h, IsL.lay r, Bool.and_self]
end
mutual
theorem Is.dp {K : PySem.W.Frag} {H : Hp} : ∀ {v : V} {t : PV}, NoO t → Is H v t → Dp K H v (toD t)
  | _, _, _, .str z k => by simp only [toD]; exact .str z
  | _, _, h, .non => absurd h id
  | _, _, h, .bl _ => absurd h id
  | _, _, h, .int _ => absurd h id
  | _, _, h, .lst _ => absurd h id
  | _, _, h, .dict _ => absurd h id
  | _, _, h, .tup e i => by simp only [toD]; exact .tup (.inl (.inl e)) (IsL.dp h i)
theorem IsL.dp {K : PySem.W.Frag} {H : Hp} : ∀ {v : List V} {t : List PV}, NoOL t → IsL H v t → DpAll K H v (toDL t)
  | _, _, _, .nil => by simp only [toDL]; exact .nil
  | _, _, h, .cons a r => by simp only [toDL]; exact .cons (Is.dp h.1 a) (IsL.dp h.2 r)
end
/-- None, or such data -/
def DtIs (H : Hp) (v : V) : Option PV → Prop
  | none => v = .non
  | some t => Is H v t ∧ NoO t ∧ dep t ≤ 150
def toDo : Option PV → PyData
  | none => .none
  | some t => toD t
theorem DtIs.dp {K : PySem.W.Frag} {H : Hp} {v : V} {d : Option PV} (h : DtIs H v d) : Dp K H v (toDo d) := by
  cases d with
  | none => rw [show v = _ from h]; exact .non
  | some t => exact Is.dp h.2.1 h.1
theorem DtIs.lay {H : Hp} {v : V} {d : Option PV} (h : DtIs H v d) : (toDo d).canLay0 = true := by
  cases d with
  | none => rfl
  | some t => exact h.1.lay
theorem DtIs.dep {H : Hp} {v : V} {d : Option PV} (h : DtIs H v d) : (toDo d).depth ≤ 150 := by
  cases d with
  | none => simp [toDo, PyData.depth]
  | some t => have := toD_depth t; have := h.2.2; simp only [toDo]; omega
theorem eqv_opt {H : Hp} {v u : V} {a b : Option PV} (ha : DtIs H v a) (hb : DtIs H u b) : PyData.eqv (toDo a) (toDo b) = decide (a = b) := by
  cases a with
  | none =>
    cases b with
    | none => simp [toDo, PyData.eqv]
    | some t => cases t with
      | str _ => simp [toDo, toD, PyData.eqv]
      | oth => exact absurd hb.2.1 id
      | tup _ => simp [toDo, toD, PyData.eqv]
  | some t =>
    cases b with
    | none => cases t with
      | str _ => simp [toDo, toD, PyData.eqv]
      | oth => exact absurd ha.2.1 id
      | tup _ => simp [toDo, toD, PyData.eqv]
    | some u =>
      simp only [toDo, eqv_one ha.2.1 hb.2.1, Option.some.injEq]
section
variable {X : Cx}
theorem u200 {A : Around} {k : Nat} (r : Room k A) : A.units + 200 < cLine := by have := r.un; omega
def rEqP (K : PySem.W.Frag) : R2 := fun x y H Q => ∃ d e, Dp K H x d ∧ Dp K H y e ∧ d.canLay0 = true ∧ e.canLay0 = true ∧ d.depth ≤ 190 ∧ Q (.bl (PyData.eqv d e)) H
def rNeP (K : PySem.W.Frag) : R2 := fun x y H Q => ∃ d e, Dp K H x d ∧ Dp K H y e ∧ d.canLay0 = true ∧ e.canLay0 = true ∧ d.depth ≤ 190 ∧ Q (.bl (!PyData.eqv d e)) H
theorem eqP {K : PySem.W.Frag} (hu : X.A.units + 200 < cLine) (hK : X.K = K := by rfl) : OpR X (compareOp .Eq) (rEqP K) := by
  subst hK
  intro pins s σ H x y v u Q I rx ry h
  obtain ⟨d, e, hd, he, sd, se, l, q⟩ := h
  obtain ⟨as, r1⟩ := Dp.reads I d x v hd rx
  obtain ⟨bs, r2⟩ := Dp.reads I e y u he ry
  exact SeqAt.compareEq_reads r1 r2 sd se (by omega) ⟨.bl _, H, I, rfl, q⟩
theorem neP {K : PySem.W.Frag} (hu : X.A.units + 200 < cLine) (hK : X.K = K := by rfl) : OpR X (compareOp .NotEq) (rNeP K) := by
  subst hK
  intro pins s σ H x y v u Q I rx ry h
  obtain ⟨d, e, hd, he, sd, se, l, q⟩ := h
  obtain ⟨as, r1⟩ := Dp.reads I d x v hd rx
  obtain ⟨bs, r2⟩ := Dp.reads I e y u he ry
  exact SeqAt.compareNe_reads r1 r2 sd se (by omega) ⟨.bl _, H, I, rfl, q⟩
theorem rNe_dt {K : PySem.W.Frag} {H : Hp} {v u : V} {a b : Option PV} {Q : VK} (ha : DtIs H v a) (hb : DtIs H u b) (q : Q (.bl (!decide (a = b))) H) : rNeP K v u H Q :=
  ⟨_, _, ha.dp, hb.dp, ha.lay, hb.lay, Nat.le_trans ha.dep (by decide), by rw [eqv_opt ha hb]; exact q⟩
theorem rEq_dt {K : PySem.W.Frag} {H : Hp} {v u : V} {a b : Option PV} {Q : VK} (ha : DtIs H v a) (hb : DtIs H u b) (q : Q (.bl (decide (a = b))) H) : rEqP K v u H Q :=
  ⟨_, _, ha.dp, hb.dp, ha.lay, hb.lay, Nat.le_trans ha.dep (by decide), by rw [eqv_opt ha hb]; exact q⟩
/-- lists of texts -/
theorem strs_dp {K : PySem.W.Frag} {H : Hp} : ∀ zs : List Str, DpAll K H (zs.map V.str) (zs.map PyData.str)
  | [] => .nil
  | z :: r => .cons (.str z) (strs_dp r)
theorem strs_lay : ∀ zs : List Str, (∀ z ∈ zs, sok z = true) → PyData.canLayAll0 (zs.map PyData.str) = true
  | [], _ => by simp [PyData.canLayAll0]
  | z :: r, h => by
    have a : PyData.canLay0 (.str z) = true := by simp only [PyData.canLay0]; exact h z (List.mem_cons_self ..)
    have b := strs_lay r fun x hx => h x (List.mem_cons_of_mem _ hx)
    simp only [List.map_cons, PyData.canLayAll0, a, b, Bool.and_self]
theorem strs_depth : ∀ zs : List Str, PyData.depthAll (zs.map PyData.str) ≤ 1
  | [] => by simp [PyData.depthAll]
  | z :: r => by have := strs_depth r; simp only [List.map_cons, PyData.depthAll, PyData.depth]; omega
theorem strs_eqv : ∀ zs ws : List Str, PyData.eqvAll (zs.map PyData.str) (ws.map PyData.str) = decide (zs = ws)
  | [], [] => by simp [PyData.eqvAll]
  | [], _ :: _ => by simp [PyData.eqvAll]
  | _ :: _, [] => by simp [PyData.eqvAll]
  | z :: r, w :: q => by
    simp only [List.map_cons, PyData.eqvAll, PyData.eqv, strs_eqv r q]
    by_cases e : z = w <;> by_cases e2 : r = q <;> simp [e, e2]
theorem strs_data {K : PySem.W.Frag} {H : Hp} {a : Addr} {zs : List Str} (h : SqL K H a (zs.map V.str)) : Dp K H (.ref a) (.list (zs.map PyData.str)) := .lst h (strs_dp zs)
theorem rNe_strs {K : PySem.W.Frag} {H : Hp} {a b : Addr} {zs ws : List Str} {Q : VK} (h1 : SqL K H a (zs.map V.str)) (h2 : SqL K H b (ws.map V.str)) (o1 : ∀ z ∈ zs, sok z = true) (o2 : ∀ z ∈ ws, sok z = true) (q : Q (.bl (!decide (zs = ws))) H) : rNeP K (.ref a) (.ref b) H Q :=
  ⟨_, _, strs_data h1, strs_data h2, by simp only [PyData.canLay0]; exact strs_lay _ o1, by simp only [PyData.canLay0]; exact strs_lay _ o2, by have := strs_depth zs; simp only [PyData.depth]; omega, by
    simp only [PyData.eqv, strs_eqv]; exact q⟩
theorem rEq_strs {K : PySem.W.Frag} {H : Hp} {a b : Addr} {zs ws : List Str} {Q : VK} (h1 : SqL K H a (zs.map V.str)) (h2 : SqL K H b (ws.map V.str)) (o1 : ∀ z ∈ zs, sok z = true) (o2 : ∀ z ∈ ws, sok z = true) (q : Q (.bl (decide (zs = ws))) H) : rEqP K (.ref a) (.ref b) H Q :=
  ⟨_, _, strs_data h1, strs_data h2, by simp only [PyData.canLay0]; exact strs_lay _ o1, by simp only [PyData.canLay0]; exact strs_lay _ o2, by have := strs_depth zs; simp only [PyData.depth]; omega, by
    simp only [PyData.eqv, strs_eqv]; exact q⟩
end
end Kx
/-! The law's own fitting: pairs that are left, taken from the end. -/
namespace Kx
open PySem PySem.Spec PyProof.Rows L2
/-- what fitting gives -/
noncomputable def lfit (ps ts : List PV) : Option AL := if (fitL [] ps ts).1 = true then some (fitL [] ps ts).2 else none
/-- pairs that are left and what is found tell the same assignments -/
def FInv (ps ts : List PV) (L : List (PV × PV)) (f : AL) : Prop := ∀ g : AL, psubL g ps = ts ↔ (Le f g ∧ ∀ pt ∈ L, psub g pt.1 = pt.2)
theorem psub_str {g : AL} {z : Str} {t : PV} (ht : Gr t) : psub g (.str z) = t ↔ get g z = some t := by
  obtain ⟨w, r, rfl, _⟩ := gr_inv ht
  simp only [psub]
  cases e : get g z with
  | none => simp
  | some u => simp
theorem psubL_zip {g : AL} : ∀ {a b : List PV}, a.length = b.length → (psubL g a = b ↔ ∀ pt ∈ a.zip b, psub g pt.1 = pt.2)
  | [], [], _ => by simp [psubL]
  | x :: r, y :: q, h => by
    have ih := psubL_zip (g := g) (a := r) (b := q) (by simpa using h)
    simp only [psubL, List.cons.injEq, List.zip_cons_cons, List.forall_mem_cons, ih]
theorem FInv.start {ps ts : List PV} (hl : ps.length = ts.length) : FInv ps ts (ps.zip ts) [] := fun g => by
  rw [psubL_zip hl]
  exact ⟨fun h => ⟨fun z u e => by simp [get] at e, h⟩, fun h => h.2⟩
theorem FInv.name {ps ts : List PV} {L : List (PV × PV)} {f : AL} {z : Str} {t : PV} (h : FInv ps ts (L ++ [(.str z, t)]) f) (ht : Gr t) (e : get f z = some t) : FInv ps ts L f := fun g => by
  rw [h g]
  refine ⟨fun ⟨a, b⟩ => ⟨a, fun pt hp => b pt (List.mem_append_left _ hp)⟩, fun ⟨a, b⟩ => ⟨a, fun pt hp => ?_⟩⟩
  rcases List.mem_append.mp hp with q | q
  · exact b pt q
  · rw [List.mem_singleton.mp q]
    exact (psub_str ht).mpr (a z t e)
theorem FInv.new {ps ts : List PV} {L : List (PV × PV)} {f : AL} {z : Str} {t : PV} (h : FInv ps ts (L ++ [(.str z, t)]) f) (ht : Gr t) (e : get f z = none) : FInv ps ts L (f ++ [(z, t)]) := fun g => by
  rw [h g]
  refine ⟨fun ⟨a, b⟩ => ⟨fun y u ey => ?_, fun pt hp => b pt (List.mem_append_left _ hp)⟩, fun ⟨a, b⟩ => ⟨fun y u ey => a y u ?_, fun pt hp => ?_⟩⟩
  · rw [get_append e] at ey
    by_cases q : y = z
    · rw [if_pos q] at ey
      cases ey
      rw [q]
      exact (psub_str ht).mp (b (.str z, t) (List.mem_append_right _ (List.mem_singleton.mpr rfl)))
    · rw [if_neg q] at ey
      exact a y u ey
  · rw [get_append e, if_neg fun q => by rw [q, e] at ey; cases ey]
    exact ey
  · rcases List.mem_append.mp hp with q | q
    · exact b pt q
    · rw [List.mem_singleton.mp q]
      exact (psub_str ht).mpr (a z t (by rw [get_append e, if_pos rfl]))
theorem FInv.parts {ps ts : List PV} {L : List (PV × PV)} {f : AL} {w : Str} {a b : List PV} (h : FInv ps ts (L ++ [(.tup (.str w :: a), .tup (.str w :: b))]) f) (hl : a.length = b.length) : FInv ps ts (L ++ a.zip b) f := fun g => by
  rw [h g]
  have key : psub g (.tup (.str w :: a)) = .tup (.str w :: b) ↔ ∀ pt ∈ a.zip b, psub g pt.1 = pt.2 := by
    rw [← psubL_zip hl]
    simp only [psub, PV.tup.injEq, List.cons.injEq, true_and]
  refine ⟨fun ⟨x, y⟩ => ⟨x, fun pt hp => ?_⟩, fun ⟨x, y⟩ => ⟨x, fun pt hp => ?_⟩⟩
  · rcases List.mem_append.mp hp with q | q
    · exact y pt (List.mem_append_left _ q)
    · exact key.mp (y _ (List.mem_append_right _ (List.mem_singleton.mpr rfl))) pt q
  · rcases List.mem_append.mp hp with q | q
    · exact y pt (List.mem_append_left _ q)
    · rw [List.mem_singleton.mp q]
      exact key.mpr fun pt hp => y pt (List.mem_append_right _ hp)
section
variable {mk : List (Str × Int)} {ps ts : List PV}
/-- no assignment: fitting gives none -/
theorem lfit_none (hl : ps.length = ts.length) (h1 : formL mk true ps = true) (h2 : formL mk true ts = true) (no : ∀ g : AL, psubL g ps ≠ ts) : lfit ps ts = none := by
  unfold lfit
  rw [if_neg]
  intro e
  exact no _ (fitL_sound (mk := mk) _ ps ts [] hl h1 h2 e (.refl _))
/-- nothing is left: what was found is what fitting gives -/
theorem lfit_some {f : AL} (hl : ps.length = ts.length) (h1 : formL mk true ps = true) (h2 : formL mk true ts = true) (g2 : GrL ts) (h : FInv ps ts [] f) : ∃ al, lfit ps ts = some al ∧ ∀ z, get f z = get al z := by
  have sol : psubL f ps = ts := (h f).mpr ⟨.refl _, fun _ m => by cases m⟩
  obtain ⟨y, le⟩ := fitL_complete f ps ts [] (formL_tm ps h1) g2 (fun z u e => by simp [get] at e) sol
  refine ⟨(fitL [] ps ts).2, by unfold lfit; rw [if_pos y], fun z => ?_⟩
  have le2 : Le f (fitL [] ps ts).2 := ((h _).mp (fitL_sound (mk := mk) _ ps ts [] hl h1 h2 y (.refl _))).1
  cases e : get f z with
  | some u => exact (le2 z u e).symm
  | none =>
    cases e2 : get (fitL [] ps ts).2 z with
    | none => rfl
    | some u => rw [le z u e2] at e; cases e
end
mutual
/-- no name is told twice -/
theorem fit_nd : ∀ (p t : PV) (f : AL), (f.map (·.1)).Nodup → ((fit f p t).2.map (·.1)).Nodup
  | .str z, t, f, h => by
    unfold fit
    cases e : Kx.get f z with
    | some u => exact h
    | none =>
      simp only [List.map_append, List.map_cons, List.map_nil]
      refine List.nodup_append.mpr ⟨h, by simp, fun a ha b hb q => ?_⟩
      rw [List.mem_singleton.mp hb] at q
      obtain ⟨kv, hk, ek⟩ := List.mem_map.mp ha
      unfold Kx.get at e
      have n : f.find? (fun kv => kv.1 == z) = none := by
        cases e3 : f.find? (fun kv => kv.1 == z) with
        | none => rfl
        | some y => rw [e3] at e; cases e
      have := List.find?_eq_none.mp n kv hk
      simp only [beq_iff_eq] at this
      exact this (ek.trans q)
  | .tup (.str w :: ps), .tup (.str w' :: ts), f, h => by
    rw [fit_tups]
    split
    · exact fitL_nd ps ts f h
    · exact h
  | .tup (.str w :: ps), .str _, f, h => by simp only [fit]; exact h
  | .tup (.str w :: ps), .oth, f, h => by simp only [fit]; exact h
  | .tup (.str w :: ps), .tup [], f, h => by simp only [fit]; exact h
  | .tup (.str w :: ps), .tup (.oth :: _), f, h => by simp only [fit]; exact h
  | .tup (.str w :: ps), .tup (.tup _ :: _), f, h => by simp only [fit]; exact h
  | .tup [], t, f, h => by cases t <;> (simp only [fit]; exact h)
  | .tup (.oth :: _), t, f, h => by cases t <;> (simp only [fit]; exact h)
  | .tup (.tup _ :: _), t, f, h => by cases t <;> (simp only [fit]; exact h)
  | .oth, t, f, h => by cases t <;> (simp only [fit]; exact h)
theorem fitL_nd : ∀ (ps ts : List PV) (f : AL), (f.map (·.1)).Nodup → ((fitL f ps ts).2.map (·.1)).Nodup
  | p :: ps, t :: ts, f, h => by
    have a := fit_nd p t f h
    rw [fitL_cons]
    split
    · exact fitL_nd ps ts _ a
    · exact a
  | [], t, f, h => by rw [fitL_nil]; exact h
  | _ :: _, [], f, h => by simp only [fitL]; exact h
end
theorem nd_len {α : Type} [DecidableEq α] : ∀ {l m : List α}, l.Nodup → (∀ x ∈ l, x ∈ m) → l.length ≤ m.length
  | [], _, _, _ => by simp
  | a :: r, m, n, s => by
    simp only [List.nodup_cons] at n
    have hm := s a (List.mem_cons_self ..)
    have k := nd_len (m := m.erase a) n.2 fun x hx => (List.mem_erase_of_ne fun e => n.1 (by rw [← e]; exact hx)).mpr (s x (List.mem_cons_of_mem _ hx))
    rw [List.length_erase_of_mem hm] at k
    have := List.length_pos_of_mem hm
    simp only [List.length_cons]
    omega
/-- two that tell the same, no name twice, are of one length -/
theorem get_mem {f : AL} (n : (f.map (·.1)).Nodup) : ∀ {z : Str} {t : PV}, (z, t) ∈ f ↔ get f z = some t := by
  induction f with
  | nil => intro z t; simp [get]
  | cons kv r ih =>
    intro z t
    simp only [List.map_cons, List.nodup_cons] at n
    unfold get at ih ⊢
    by_cases e : kv.1 = z
    · simp only [List.find?_cons, e, beq_self_eq_true, Option.map_some]
      constructor
      · intro h
        rcases List.mem_cons.mp h with q | q
        · rw [← q]
        · exact absurd (List.mem_map.mpr ⟨(z, t), q, e.symm⟩) n.1
      · intro h
        have h2 := Option.some.inj h
        exact List.mem_cons.mpr (.inl (by rw [← e, ← h2]))
    · have ne : (kv.1 == z) = false := beq_eq_false_iff_ne.mpr e
      simp only [List.find?_cons, ne]
      rw [← ih n.2]
      constructor
      · intro h
        rcases List.mem_cons.mp h with q | q
        · rw [← q] at e; exact absurd rfl e
        · exact q
      · exact fun h => List.mem_cons_of_mem _ h
theorem len_get {f g : AL} (n1 : (f.map (·.1)).Nodup) (n2 : (g.map (·.1)).Nodup) (h : ∀ z, get f z = get g z) : f.length = g.length := by
  have sub : ∀ {a b : AL}, (a.map (·.1)).Nodup → (b.map (·.1)).Nodup → (∀ z, get a z = get b z) → a.length ≤ b.length := fun {a b} na nb hab => by
    have s : (a.map (·.1)) ⊆ (b.map (·.1)) := fun z hz => by
      obtain ⟨kv, hk, ek⟩ := List.mem_map.mp hz
      have : get a kv.1 = some kv.2 := (get_mem na).mp hk
      rw [hab] at this
      exact List.mem_map.mpr ⟨_, (get_mem nb).mpr this, ek⟩
    have := nd_len na fun x hx => s hx
    simpa using this
  exact Nat.le_antisymm (sub n1 n2 h) (sub n2 n1 fun z => (h z).symm)
mutual
theorem vsz_le {mk : List (Str × Int)} (ar : Ar mk) : ∀ t : PV, form mk true t = true → vsz t + 1 ≤ 2 ^ dep t
  | .str _, _ => by simp [vsz, dep]
  | .oth, h => by simp [form] at h
  | .tup [], h => by simp [form] at h
  | .tup (.oth :: _), h => by simp [form] at h
  | .tup (.tup _ :: _), h => by simp [form] at h
  | .tup (.str w :: r), h => by
    simp only [form, Bool.and_eq_true, beq_iff_eq] at h
    have a := ar w _ h.1
    have b := vszL_le ar r h.2
    have d : dep (.tup (.str w :: r)) = 1 + max 1 (depL r) := dep_cons w r
    rw [d, Nat.pow_add]
    simp only [vsz]
    have e : r.length ≤ 2 := by omega
    have c : r.length * 2 ^ depL r ≤ r.length * 2 ^ (max 1 (depL r)) := Nat.mul_le_mul_left _ (Nat.pow_le_pow_right (by decide) (Nat.le_max_right ..))
    have p : 2 ≤ 2 ^ (max 1 (depL r)) := Nat.le_trans (by decide : 2 ≤ 2 ^ 1) (Nat.pow_le_pow_right (by decide) (Nat.le_max_left ..))
    generalize 2 ^ (max 1 (depL r)) = X at c p ⊢
    rcases (by omega : r.length = 0 ∨ r.length = 1 ∨ r.length = 2) with l | l | l <;> rw [l] at b c <;> omega
theorem vszL_le {mk : List (Str × Int)} (ar : Ar mk) : ∀ l : List PV, formL mk true l = true → vszL l + l.length ≤ l.length * 2 ^ depL l
  | [], _ => by simp [vszL]
  | t :: r, h => by
    simp only [formL, Bool.and_eq_true] at h
    have a := vsz_le ar t h.1
    have b := vszL_le ar r h.2
    simp only [vszL, List.length_cons, depL]
    have c : 2 ^ dep t ≤ 2 ^ (max (dep t) (depL r)) := Nat.pow_le_pow_right (by decide) (Nat.le_max_left ..)
    have d : r.length * 2 ^ depL r ≤ r.length * 2 ^ (max (dep t) (depL r)) := Nat.mul_le_mul_left _ (Nat.pow_le_pow_right (by decide) (Nat.le_max_right ..))
    rw [Nat.add_mul, Nat.one_mul]
    omega
end
end Kx
namespace Kx
open PySem PySem.Spec PyProof.Rows L2
section
variable {P : Program} {w : World} {K : PySem.W.Frag} {mg : Str → Option Value} {base : Heap}
/-! ### _law_fit -/
def prp (pt : PV × PV) : PV := .tup [pt.1, pt.2]
def POk (d : Nat) (L : List (PV × PV)) : Prop := ∀ pt ∈ L, form MK true pt.1 = true ∧ TreeG MK d pt.2
def GrA (f : AL) : Prop := ∀ kv ∈ f, Gr kv.2 ∧ dep kv.2 ≤ 150
theorem AsD.tk {H H' : Hp} {p : Addr} {al : AL} (g : GrA al) (x : ∀ a vs, H a = some (.tup vs) → H' a = some (.tup vs)) (s : ∀ kvs, H p = some (.dK kvs) → H' p = some (.dK kvs)) (h : AsD H p al) : AsD H' p al := by
  obtain ⟨kvs, e, b⟩ := h
  exact ⟨kvs, s _ e, Paired.both b fun zt hz _ ⟨q, y⟩ => ⟨q, Is.tk x (tm_no (gr_tm (g zt hz).1)) y⟩⟩
theorem AsD.re {H : Hp} {p : Addr} {al : AL} {kvs : List (Key × V)} {z : Str} {v : V} {t : PV} (g : GrA al) (nd : (al.map (·.1)).Nodup) (ht : Gr t) (e : H p = some (.dK kvs)) (b : Paired (fun kv zt => kv.1 = Sum.inr zt.1 ∧ Is H kv.2 zt.2) kvs al) (n : get al z = some t) (h : Is H v t) :
    AsD (upd H p (.dK (putK kvs (Sum.inr z) v))) p al := by
  have x : ∀ a vs, H a = some (.tup vs) → (upd H p (.dK (putK kvs (Sum.inr z) v))) a = some (.tup vs) := fun a vs ea => by rw [upd_ne fun q => by rw [q, e] at ea; cases ea]; exact ea
  refine ⟨_, upd_same, ?_⟩
  have hv : (kvs.any fun kv => decide (kv.1 = Sum.inr z)) = true := by
    rw [valV_any]
    rcases pair_val z b with ⟨_, q⟩ | ⟨_, _, q, _⟩
    · rw [n] at q; cases q
    · rw [q]; rfl
  have one_ : ∀ zt ∈ al, zt.1 = z → zt.2 = t := fun zt hz q => by
    have : get al zt.1 = some zt.2 := (get_mem nd).mp hz
    rw [q, n] at this
    exact (Option.some.inj this).symm
  have key : ∀ {ks : List (Key × V)} {l : AL}, (∀ zt ∈ l, zt ∈ al) → Paired (fun kv zt => kv.1 = Sum.inr zt.1 ∧ Is H kv.2 zt.2) ks l → Paired (fun kv zt => kv.1 = Sum.inr zt.1 ∧ Is (upd H p (.dK (putK kvs (Sum.inr z) v))) kv.2 zt.2) (ks.map fun kv => if kv.1 = Sum.inr z then (kv.1, v) else kv) l := by
    intro ks l sub pp
    induction pp with
    | nil => exact .nil
    | @cons kv zt ks l h2 t2 ih =>
      refine .cons ?_ (ih fun y hy => sub y (List.mem_cons_of_mem _ hy))
      obtain ⟨h3, h4⟩ := h2
      have gz := (g zt (sub zt (List.mem_cons_self ..))).1
      by_cases q : kv.1 = Sum.inr z
      · simp only [if_pos q]
        refine ⟨h3, ?_⟩
        have : zt.2 = t := one_ zt (sub zt (List.mem_cons_self ..)) (Sum.inr.inj (h3.symm.trans q))
        rw [this]
        exact Is.tk x (tm_no (gr_tm ht)) h
      · simp only [if_neg q]
        exact ⟨h3, Is.tk x (tm_no (gr_tm gz)) h4⟩
  rw [show putK kvs (Sum.inr z) v = kvs.map (fun kv => if kv.1 = Sum.inr z then (kv.1, v) else kv) by unfold putK; rw [if_pos hv]]
  have k2 := key (fun _ h => h) b
  rw [show putK kvs (Sum.inr z) v = kvs.map (fun kv => if kv.1 = Sum.inr z then (kv.1, v) else kv) by unfold putK; rw [if_pos hv]] at k2
  exact k2
theorem tuk {H H1 : Hp} (s : Same H H1) : ∀ a vs, H a = some (.tup vs) → H1 a = some (.tup vs) := fun _ _ e => s _ _ e
theorem vszL_append : ∀ a b : List PV, vszL (a ++ b) = vszL a + vszL b
  | [], b => by simp [vszL]
  | x :: r, b => by simp only [List.cons_append, vszL, vszL_append r b]; omega
theorem POk.no {d : Nat} {L : List (PV × PV)} (h : POk d L) : NoOL (L.map prp) := NoOL_mem fun t ht => by
  obtain ⟨pt, hp, rfl⟩ := List.mem_map.mp ht
  obtain ⟨a, b, c, _⟩ := h pt hp
  exact ⟨tm_no (form_tm _ a), tm_no (gr_tm c), trivial⟩
theorem vsz_pos {mk : List (Str × Int)} {t : PV} (h : form mk true t = true) : 1 ≤ vsz t := by
  cases t with
  | oth => simp [form] at h
  | str z => simp [vsz]
  | tup l => cases l with
    | nil => simp [form] at h
    | cons x r => simp only [vsz]; omega
theorem vszL_len {mk : List (Str × Int)} : ∀ {l : List PV}, (∀ t ∈ l, form mk true t = true) → l.length ≤ vszL l
  | [], _ => by simp
  | t :: r, h => by
    have a := vsz_pos (h t (List.mem_cons_self ..))
    have b := vszL_len (l := r) fun x hx => h x (List.mem_cons_of_mem _ hx)
    simp only [vszL, List.length_cons]; omega
/-- where the walk over the pairs stands -/
def FW (a b fa : Addr) (d : Nat) (ps ts : List PV) (H : Hp) (m : Nat) (σ : L2.St) (H3 : Hp) : Prop := ∃ (y4 y5 : Option V) (td : Addr) (L : List (PV × PV)) (zs : List V) (f : AL), σ = [some (.ref a), some (.ref b), some (.ref fa), some (.ref td), y4, y5, none] ∧ Same H H3 ∧ AsD H3 fa f ∧ (f.map (·.1)).Nodup ∧ GrA f ∧ H td = none ∧ H3 td = some (.lst zs) ∧ IsL H3 zs (L.map prp) ∧ POk d L ∧ FInv ps ts L f ∧ m = vszL (L.map (·.1)) ∧ f.length + m ≤ 60
theorem at1 {x : V} {l : List V} {i : Nat} {v : V} (h : l[i]? = some v) : atI (x :: l) (1 + (i : Int)) = some v := by
  rw [show 1 + (i : Int) = ((i + 1 : Nat) : Int) by omega]
  exact atI_nat (by simpa using h)
def spLFit (d : Nat) : Sp := fun vs H Q _ => ∃ (a b : Addr) (xs ys : List V) (ps ts : List PV), vs = [.ref a, .ref b] ∧ H a = some (.lst xs) ∧ H b = some (.lst ys) ∧ IsL H xs ps ∧ IsL H ys ts ∧ formL MK true ps = true ∧ ps.length = ts.length ∧ vszL ps ≤ 60 ∧ (∀ t ∈ ts, TreeG MK d t) ∧ d ≤ 150 ∧
  (∀ al f H', lfit ps ts = some al → Same H H' → (∃ al', AsD H' f al' ∧ (al'.map (·.1)).Nodup ∧ GrA al' ∧ ∀ z, get al' z = get al z) → Q (.ref f) H') ∧ (lfit ps ts = none → ∀ H', Same H H' → Q .non H')
theorem ok_law_fit {d : Nat} (T : Txt K mg)  : FnOk P w K mg base CX0 1 T.a_law_fit T.d_law_fit ["patterns", "trees"] (spLFit d) := by
  refine T.F_law_fit.ok sc_law_fit (fun vs H Q E h => ?_) (fun cdv A outer s H vs Q E hr h => ?_)
  · obtain ⟨a, b, xs, ys, ps, ts, rfl, _⟩ := h; rfl
  · obtain ⟨a, b, xs, ys, ps, ts, rfl, ea, eb, hX, hY, fp, hl, v60, tt, hd, q1, q2⟩ := h
    have hu := hu_of hr
    refine ⟨_, (pss_cons (ps_set (i := 2) sc_law_fit.nd rfl (Or.inl rfl) pe_dnewK)
    (pss_cons (ps_setLc (i := 3) (own := [("k", 6)]) (g := (gName 6)) (tt := tYes) rfl sc_law_fit.nd rfl rfl (sw_true rfl rfl rfl (by decide +kernel)) (pi_range1 (by rfl) T.z_range (pa_cons (pe_callB call_len_seq (by rfl) T.z_len (by decide +kernel) (pa_cons (pv 0) pa_nil)) pa_nil)) (blkOk_by (own := [("k", 6)]) (N := ["patterns", "trees", "found", "pairs", "pattern", "tree", "k"]) (sc := defScope s_law_fit) (by decide +kernel)) (fun _ _ _ _ _ => (pg_name (i := 6) sc_law_fit.nd rfl (Or.inl rfl))) (fun _ _ _ _ _ => pts_nil) (fun _ _ _ _ _ => (pe_tup (pa_cons (pe_ix (ixLK (K := K)) (pv 0) (pv 6) (fun _ _ => rfl)) (pa_cons (pe_ix (ixLK (K := K)) (pv 1) (pv 6) (fun _ _ => rfl)) pa_nil)))))
    (pss_cons (ps_while PassesOwn.never (pt_cmpR op_gt (pe_callB call_len_seq (by rfl) T.z_len (by decide +kernel) (pa_cons (pv 3) pa_nil)) pe_int (nomark _))
    (pss_cons (ps_asg (pe_bm0 PySem.F.plainAttrs_list PySem.F.slot_list_pop PySem.F.type_list_pop mt_pop (pv 3)) (pg_tup rfl (pgs_cons (pg_name (i := 4) sc_law_fit.nd rfl (Or.inr rfl)) (pgs_cons (pg_name (i := 5) sc_law_fit.nd rfl (Or.inr rfl)) pgs_nil))))
    (pss_one (ps_if (pt_val (pe_callB call_isi (by rfl) T.z_isinstance (by decide +kernel) (pa_cons (pv 4) (pa_cons (pe_bltn rfl T.z_str (by decide +kernel) (show RelV (V.ty "str") (Value.type "str") from rfl)) pa_nil)))) (pss_cons (ps_if (PW.pt (pw_and (pt_cmp (pc_din hu (pv 4) (pv 2))) (pw_and1 (pt_cmpR (neP (u200 hr)) (pe_dget hu (pv 2) (pv 4) (fun _ _ => rfl)) (pv 5) (nomark _))))) (pss_one (ps_ret pe_non)) pss_nil)
    (pss_one (ps_dput hu (pv 2) (pv 4) (pv 5) rfl))) (pss_one (ps_if (pt_cmpR op_ne (pe_ix ix_tup (pv 4) pe_int (fun _ _ => rfl)) (pe_ix ix_tup (pv 5) pe_int (fun _ _ => rfl)) (nomark _)) (pss_one (ps_ret pe_non)) (pss_one (ps_set (i := 3) sc_law_fit.nd rfl (Or.inl rfl) (pe_op op_cat (pv 3) (pe_lc (own := [("k", 6)]) (g := (gName 6)) (tt := tYes) rfl sc_law_fit.nd (pi_range2 (by rfl) T.z_range (pa_cons pe_int (pa_cons (pe_callB call_len_seq (by rfl) T.z_len (by decide +kernel) (pa_cons (pv 4) pa_nil)) pa_nil))) (blkOk_by (own := [("k", 6)]) (N := ["patterns", "trees", "found", "pairs", "pattern", "tree", "k"]) (sc := defScope s_law_fit) (by decide +kernel)) (fun _ _ _ _ _ => (pg_name (i := 6) sc_law_fit.nd rfl (Or.inl rfl))) (fun _ _ _ _ _ => pts_nil) (fun _ _ _ _ _ => (pe_tup (pa_cons (pe_ix (ixTK (K := K)) (pv 4) (pv 6) (fun _ _ => rfl)) (pa_cons (pe_ix (ixTK (K := K)) (pv 5) (pv 6) (fun _ _ => rfl)) pa_nil))))))))))))))
    (pss_one (ps_ret (pv 2)))))), ?_⟩
    have xl := hX.len
    have yl := hY.len
    have fpa : ∀ t ∈ ps, form MK true t = true := formL_mem fp
    have ft : formL MK true ts = true := by rw [formL_all]; exact List.all_eq_true.mpr fun t ht => (tt t ht).1
    have gt : GrL ts := by
      have ga : ∀ l : List PV, (∀ t ∈ l, Gr t) → GrL l := fun l => by
        induction l with
        | nil => exact fun _ => trivial
        | cons t r ih => exact fun h => ⟨h t (List.mem_cons_self ..), ih fun x hx => h x (List.mem_cons_of_mem _ hx)⟩
      exact ga ts fun t ht => (tt t ht).2.1
    have pl := vszL_len fpa
    refine fun fa hfa => ?_
    have s1 := same_upd hfa (.dK [])
    refine ⟨_, rfl, a, xs, rfl, .inl (SqL.of (s1 _ _ ea)), (xs.length : Int), rfl, by omega, by omega, fun D hD => ?_⟩
    have s2 := same_upd hD (.lst [])
    have nfD : fa ≠ D := ne_of_none upd_same hD
    have zl : (ps.zip ts).length = ps.length := by rw [List.length_zip]; omega
    refine lc_range (lo := 0) (n := (xs.length : Int).toNat) (fun i H2 => Same (upd H fa (.dK [])) H2 ∧ ∃ vs, H2 D = some (.lst vs) ∧ IsL H2 vs (((ps.zip ts).take i).map prp) ∧ vs.length = i) ⟨s2, [], upd_same, .nil, rfl⟩ ?_ ?_
    · intro i H2 hi ⟨sm, vs, eD, hV, vl⟩
      have hi' : i < xs.length := by simpa using hi
      obtain ⟨p, ep, ip⟩ := hX.get (List.getElem?_eq_getElem hi')
      obtain ⟨t, et, it⟩ := hY.get (List.getElem?_eq_getElem (i := i) (l := ys) (by omega))
      have m1 := s1.trans sm
      refine ⟨rfl, yes_if ⟨_, rfl, _, rfl, a, _, _, xs[i], rfl, rfl, SqL.of (m1 _ _ ea), by rw [Int.zero_add]; exact atI_nat (List.getElem?_eq_getElem hi'), _, rfl, _, rfl, b, _, _, ys[i]'(by omega), rfl, rfl, SqL.of (m1 _ _ eb), by rw [Int.zero_add]; exact atI_nat (List.getElem?_eq_getElem (by omega)), (by show 2 ≤ sizeLine; decide), fun q hq => ?_⟩⟩
      have s3 := same_upd hq (.tup [xs[i], ys[i]'(by omega)])
      refine ⟨vs, s3 _ _ eD, small1000 (by omega), Kx.Same.own (sm.trans s3) hD _, vs ++ [.ref q], upd_same, ?_, by rw [List.length_append, vl]; rfl⟩
      have hz : i < (ps.zip ts).length := by omega
      have ez : (ps.zip ts)[i] = (p, t) := by
        obtain ⟨_, e1⟩ := List.getElem?_eq_some_iff.mp ep
        obtain ⟨_, e2⟩ := List.getElem?_eq_some_iff.mp et
        rw [List.getElem_zip, e1, e2]
      rw [List.take_succ_eq_append_getElem hz, List.map_append, ez]
      exact IsL.wr (s3 _ _ eD) ((hV.same s3).append (.cons (.tup upd_same (.cons ((ip.same m1).same s3) (.cons ((it.same m1).same s3) .nil))) .nil))
    · intro H2 ⟨sm, vs, eD, hV, vl⟩
      have e0 : ((xs.length : Int)).toNat = (ps.zip ts).length := by omega
      rw [e0, List.take_length] at hV
      have m1 := s1.trans sm
      have fD : H D = none := s1.free hD
      have fF : H fa = none := hfa
      refine ⟨FW a b fa d ps ts H, ⟨_, none, none, D, ps.zip ts, vs, [], rfl, m1, ⟨[], by rw [sm fa _ upd_same], .nil⟩, List.nodup_nil, fun kv h => (by cases h), fD, eD, hV, ?_, FInv.start hl, rfl, ?_⟩, ?_⟩
      · intro pt hp
        obtain ⟨x, y⟩ := List.of_mem_zip (a := pt.1) (b := pt.2) hp
        exact ⟨fpa _ x, tt _ y⟩
      · rw [List.map_fst_zip (by omega)]
        simpa using v60
      · rintro m σ H3 ⟨y4, y5, td, L, zs, f, rfl, sm3, hA, nd, gA, ftd, etd, hZ, hP, hF, rfl, few⟩
        have zlen := hZ.len
        rw [List.length_map] at zlen
        refine ⟨_, rfl, td, zs, rfl, .inl (SqL.of etd), _, _, rfl, rfl, _, rfl, ite2 (fun cz => ?_) (fun cz => ?_)⟩
        case refine_2 =>
          have hz : zs = [] := by cases zs with | nil => rfl | cons _ _ => exact absurd (by simp) cz
          subst hz
          have hL : L = [] := List.eq_nil_of_length_eq_zero zlen.symm
          subst hL
          obtain ⟨al, e1, e2⟩ := lfit_some (mk := MK) hl fp ft gt hF
          exact ⟨_, rfl, q1 al fa H3 e1 sm3 ⟨f, hA, nd, gA, e2⟩⟩
        have hne : zs ≠ [] := by intro e; rw [e] at cz; cases cz
        have hlast : zs[zs.length - 1]? = some (zs.getLast hne) := by rw [List.getLast_eq_getElem, List.getElem?_eq_getElem]
        obtain ⟨L', pt, rfl⟩ : ∃ L' pt, L = L' ++ [pt] := by
          rcases List.eq_nil_or_concat L with e | ⟨a, b, e⟩
          · rw [e] at zlen; exact absurd (List.eq_nil_of_length_eq_zero zlen) hne
          · exact ⟨a, b, by simpa using e⟩
        obtain ⟨ts', y, ey, iy, hZ'⟩ := hZ.snoc_inv hlast hne
        rw [List.map_append] at ey
        obtain ⟨e1, e2⟩ := List.append_inj' ey rfl
        subst e1
        have e3 : prp pt = y := by simpa using e2
        subst e3
        clear e2
        generalize zs.getLast hne = zv at hlast iy
        obtain ⟨p, t⟩ := pt
        obtain ⟨qa, qvs, rfl, eqa, qL⟩ := iy.tup_inv
        cases qL with
        | @cons pv_ _ _ _ ip qL =>
        cases qL with
        | @cons tv _ _ _ it qL =>
        cases qL
        obtain ⟨fP, tT⟩ := hP (p, t) (List.mem_append_right _ (List.mem_singleton.mpr rfl))
        have hP' : POk d L' := fun x hx => hP x (List.mem_append_left _ hx)
        have em : vszL ((L' ++ [(p, t)]).map (·.1)) = vszL (L'.map (·.1)) + vsz p := by rw [List.map_append, vszL_append]; simp [vszL]
        rw [em] at few ⊢
        have vp := vsz_pos fP
        refine ⟨_, fun σ' H' h => h, _, rfl, .inl ⟨rfl, _, SqL.of etd⟩, td, zs, _, rfl, rfl, etd, hlast, ?_⟩
        have fw : ∀ b o, H3 b = some o → b ≠ td → (upd H3 td (.lst zs.dropLast)) b = some o := fun b o e n => by rw [upd_ne n]; exact e
        have ntf : fa ≠ td := fun z => by obtain ⟨_, e, _⟩ := hA; rw [z, etd] at e; cases e
        have sm4 : Same H (upd H3 td (.lst zs.dropLast)) := Kx.Same.own sm3 ftd _
        have etd4 : (upd H3 td (.lst zs.dropLast)) td = some (.lst zs.dropLast) := upd_same
        have hA4 := hA.tk (H' := upd H3 td (.lst zs.dropLast)) gA (fun a vs e => fw _ _ e fun z => by rw [z, etd] at e; cases e) fun kvs e => fw _ _ e ntf
        have ip4 := ip.wr (ys := zs.dropLast) etd
        have it4 := it.wr (ys := zs.dropLast) etd
        have hZ4 := IsL.wr (ys := zs.dropLast) etd hZ'
        have eqa4 := fw _ _ eqa fun z => by rw [z, etd] at eqa; cases eqa
        generalize hH4 : upd H3 td (.lst zs.dropLast) = H4 at *
        refine ⟨qa, _, rfl, .inl (.inl eqa4), rfl, _, _, rfl, _, _, rfl, rfl, ?_⟩
        obtain ⟨u, ty, kt⟩ := ip4.ty (K := K)
        refine ⟨_, rfl, _, _, u, _, _, rfl, .ty _, ty, kit_str kt, _, rfl, ite2 (fun c => ?_) (fun c => ?_)⟩
        · cases p with
          | oth => cases c
          | tup ts => cases c
          | str z =>
          cases ip4.str_inv
          obtain ⟨kvs, eK, pp⟩ := id hA4
          have ht := tT.2.1
          have tn := tm_no (gr_tm ht)
          have dt : dep t ≤ 150 := Nat.le_trans tT.2.2 hd
          have kl := pair_len pp
          have s60 : kvs.length < sizeLine := small1000 (by omega)
          have tkeep : ∀ a vs, H4 a = some (.tup vs) → (upd H4 fa (.dK (putK kvs (Sum.inr z) tv))) a = some (.tup vs) := fun a vs ea => by rw [upd_ne fun q => by rw [q, eK] at ea; cases ea]; exact ea
          have done : ∀ f', AsD (upd H4 fa (.dK (putK kvs (Sum.inr z) tv))) fa f' → (f'.map (·.1)).Nodup → GrA f' → FInv ps ts L' f' → f'.length ≤ f.length + 1 →
              ∃ m', m' < vszL (L'.map (·.1)) + vsz (.str z) ∧ FW a b fa d ps ts H m' [some (.ref a), some (.ref b), some (.ref fa), some (.ref td), some (.str z), some tv, none] (upd H4 fa (.dK (putK kvs (Sum.inr z) tv))) := fun f' h1 h2 h3 h4 h5 =>
            ⟨_, by simp only [vsz]; omega, _, _, td, L', zs.dropLast, f', rfl, Kx.Same.own sm4 hfa _, h1, h2, h3, ftd, by rw [upd_ne ntf.symm]; exact etd4, IsL.tk tkeep hP'.no hZ4, hP', h4, rfl, by simp only [vsz] at few; omega⟩
          refine ⟨_, rfl, _, rfl, fa, _, rfl, DGet.k (k := Sum.inr z) eK, ?_⟩
          rcases pair_val z pp with ⟨e1, e2⟩ | ⟨v, t2, e1, e2, iv⟩
          · rw [e1]
            refine ⟨_, rfl, iteF (iteF ?_)⟩
            refine ⟨_, rfl, _, rfl, _, rfl, fa, _, rfl, DPut.k (k := Sum.inr z) eK s60, ?_⟩
            refine done (f ++ [(z, t)]) ?_ ?_ ?_ (hF.new ht e2) (by simp)
            · refine ⟨_, upd_same, ?_⟩
              rw [putK_new _ e1]
              rw [putK_new _ e1] at tkeep
              exact pair_snoc (Paired.both pp fun zt hz _ ⟨q, y⟩ => ⟨q, Is.tk tkeep (tm_no (gr_tm (gA zt hz).1)) y⟩) ⟨rfl, Is.tk tkeep tn it4⟩
            · rw [List.map_append]
              refine List.nodup_append.mpr ⟨nd, by simp, fun x hx y hy q => ?_⟩
              have : y = z := by simpa using hy
              subst this
              subst q
              obtain ⟨kv, hk, ek⟩ := List.mem_map.mp hx
              have g2 : get f kv.1 = some kv.2 := (get_mem nd).mp hk
              rw [ek, e2] at g2
              cases g2
            · intro kv hk
              rcases List.mem_append.mp hk with q | q
              · exact gA kv q
              · rw [List.mem_singleton.mp q]; exact ⟨ht, dt⟩
          · rw [e1]
            have g2 : (z, t2) ∈ f := (get_mem nd).mpr e2
            have gt2 := gA _ g2
            have iv2 : DtIs H4 v (some t2) := ⟨iv, tm_no (gr_tm gt2.1), gt2.2⟩
            have it2 : DtIs H4 tv (some t) := ⟨it4, tn, dt⟩
            refine ⟨_, rfl, iteT ⟨_, rfl, _, rfl, fa, v, rfl, e1 ▸ DGet.k (k := Sum.inr z) eK, _, rfl, rNe_dt iv2 it2 ⟨_, rfl, ite2 (fun c => ?_) (fun c => ?_)⟩⟩⟩
            · refine q2 (lfit_none (mk := MK) hl fp ft fun g eg => ?_) _ sm4
              obtain ⟨le, all⟩ := (hF g).mp eg
              have g3 := (psub_str ht).mp (all (.str z, t) (List.mem_append_right _ (List.mem_singleton.mpr rfl)))
              rw [le z t2 e2] at g3
              rw [g3] at c
              simp at c
            · have et : t2 = t := by simpa using c
              subst et
              refine ⟨_, rfl, _, rfl, _, rfl, fa, _, rfl, DPut.k (k := Sum.inr z) eK s60, ?_⟩
              exact done f (AsD.re gA nd ht eK pp e2 it4) nd gA (hF.name ht e2) (by omega)
        · obtain ⟨pa, w1, pvs, pts, rfl, rfl, epa, pL, k1, lk1, l21, fW1⟩ := form_inv mk_ar ip4 fP (Bool.eq_false_iff.mpr c)
          obtain ⟨w2, r2, rfl, gr2⟩ := gr_inv tT.2.1
          obtain ⟨ta, w2', tvs, tts, rfl, et, eta, tL, k2, lk2, l22, fW2⟩ := form_inv mk_ar it4 tT.1 rfl
          cases et
          refine ⟨_, rfl, pa, _, _, _, rfl, rfl, .inl (.inl epa), atI_nat (j := 0) rfl, _, rfl, ta, _, _, _, rfl, rfl, .inl (.inl eta), atI_nat (j := 0) rfl, rfl, _, rfl, ite2 (fun cw => ?_) (fun cw => ?_)⟩
          · refine q2 (lfit_none (mk := MK) hl fp ft fun g eg => ?_) _ sm4
            obtain ⟨le, all⟩ := (hF g).mp eg
            have g3 := all (.tup (.str w1 :: pts), .tup (.str w2 :: r2)) (List.mem_append_right _ (List.mem_singleton.mpr rfl))
            simp only [psub, PV.tup.injEq, List.cons.injEq, PV.str.injEq] at g3
            rw [g3.1] at cw
            simp at cw
          · have ew : w1 = w2 := by simpa using cw
            subst ew
            have el : pts.length = r2.length := by
              rw [lk1] at lk2
              have := Option.some.inj lk2
              omega
            have pvl := pL.len
            have tvl := tL.len
            refine ⟨_, rfl, _, rfl, pa, _, rfl, .inr (.inl (.inl epa)), ?_⟩
            refine ⟨1, ((pvs.length + 1 : Nat) : Int), rfl, ⟨by decide, by decide, by omega, by omega⟩, fun D2 hD2 => ?_⟩
            have nTD : td ≠ D2 := ne_of_none etd4 hD2
            have zl2 : (pts.zip r2).length = pts.length := by rw [List.length_zip]; omega
            refine lc_range (lo := 1) (n := (((pvs.length + 1 : Nat) : Int) - 1).toNat) (fun i H5 => Same H4 H5 ∧ ∃ vs, H5 D2 = some (.lst vs) ∧ IsL H5 vs (((pts.zip r2).take i).map prp) ∧ vs.length = i) ⟨same_upd hD2 _, [], upd_same, .nil, rfl⟩ ?_ ?_
            · intro i H5 hi ⟨s5, vs, eD, hV, vl⟩
              have hi' : i < pvs.length := by omega
              obtain ⟨p, ep, ip⟩ := pL.get (List.getElem?_eq_getElem hi')
              obtain ⟨t, et, it⟩ := tL.get (List.getElem?_eq_getElem (i := i) (l := tvs) (by omega))
              refine ⟨rfl, yes_if ⟨_, rfl, _, rfl, pa, _, _, pvs[i], rfl, rfl, .inl (.inl (s5 _ _ epa)), at1 (List.getElem?_eq_getElem hi'), _, rfl, _, rfl, ta, _, _, tvs[i]'(by omega), rfl, rfl, .inl (.inl (s5 _ _ eta)), at1 (List.getElem?_eq_getElem (by omega)), (by show 2 ≤ sizeLine; decide), fun q hq => ?_⟩⟩
              have s6 := same_upd hq (.tup [pvs[i], tvs[i]'(by omega)])
              refine ⟨vs, s6 _ _ eD, small1000 (by omega), Kx.Same.own (s5.trans s6) hD2 _, vs ++ [.ref q], upd_same, ?_, by rw [List.length_append, vl]; rfl⟩
              have hz : i < (pts.zip r2).length := by omega
              have ez : (pts.zip r2)[i] = (p, t) := by
                obtain ⟨_, e1⟩ := List.getElem?_eq_some_iff.mp ep
                obtain ⟨_, e2⟩ := List.getElem?_eq_some_iff.mp et
                rw [List.getElem_zip, e1, e2]
              rw [List.take_succ_eq_append_getElem hz, List.map_append, ez]
              exact IsL.wr (s6 _ _ eD) ((hV.same s6).append (.cons (.tup upd_same (.cons ((ip.same s5).same s6) (.cons ((it.same s5).same s6) .nil))) .nil))
            · intro H5 ⟨s5, vs, eD, hV, vl⟩
              have e0 : (((pvs.length + 1 : Nat) : Int) - 1).toNat = (pts.zip r2).length := by omega
              rw [e0, List.take_length] at hV
              have vl2 := hV.len
              rw [List.length_map] at vl2
              have zd : zs.dropLast.length ≤ 60 := by
                rw [hZ4.len, List.length_map]
                have h1 : (L'.map (·.1)).length ≤ vszL (L'.map (·.1)) := vszL_len (mk := MK) fun t ht => by
                  obtain ⟨pt, hp, rfl⟩ := List.mem_map.mp ht
                  exact (hP' pt hp).1
                rw [List.length_map] at h1
                omega
              have p60 : pts.length ≤ vszL pts := vszL_len (mk := MK) (formL_mem fW1)
              simp only [vsz] at few
              refine ⟨td, D2, zs.dropLast, vs, rfl, rfl, s5 _ _ etd4, eD, Nat.le_of_lt (small1000 (by omega)), fun q hq => ?_⟩
              have s6 := same_upd hq (.lst (zs.dropLast ++ vs))
              have s46 := s5.trans s6
              have em2 : vszL ((L' ++ pts.zip r2).map (·.1)) = vszL (L'.map (·.1)) + vszL pts := by
                rw [List.map_append, vszL_append, List.map_fst_zip (by omega)]
              refine ⟨_, ?_, _, _, q, L' ++ pts.zip r2, _, f, rfl, sm4.trans s46, hA4.same s46, nd, gA, (sm4.trans s5).free hq, upd_same, ?_, ?_, hF.parts el, rfl, ?_⟩
              · rw [em2]; simp only [vsz]; omega
              · rw [List.map_append]
                exact (hZ4.same s46).append (hV.same s6)
              · intro pt hp
                rcases List.mem_append.mp hp with h | h
                · exact hP' pt h
                · obtain ⟨x, y⟩ := List.of_mem_zip (a := pt.1) (b := pt.2) h
                  exact ⟨formL_mem fW1 _ x, TreeG.down _ _ tT _ y⟩
              · rw [em2]; omega
end
end Kx
namespace Kx
open PySem PySem.Spec PyProof.Rows L2
section
variable {P : Program} {w : World} {K : PySem.W.Frag} {mg : Str → Option Value} {base : Heap}
/-! ### _law_index -/
def isNn : Value → Bool
  | .none => true
  | _ => false
def rNin (neg : Bool) : R2 := fun x y H Q => ∃ (p : Addr) (xs : List V) (ks : List (Option (Str × PV))), x = .non ∧ y = .ref p ∧ H p = some (.lst xs) ∧ KindL H xs ks ∧ (∀ k ∈ ks, ∀ z, k = some z → NoO z.2) ∧ Q (.bl (if neg then !(ks.any (·.isNone)) else ks.any (·.isNone))) H
theorem nin_items {X : Cx} {pins : List (Addr × Obj)} {σ : L2.St} {H : Hp} {s : Shared} (I : Inv X pins σ H s) {A : Around} (hu : A.units + 150 < cLine) : ∀ {xs : List V} {ks : List (Option (Str × PV))} {us : List Value}, KindL H xs ks → (∀ k ∈ ks, ∀ z, k = some z → NoO z.2) → Vals xs us →
    us.any isNn = ks.any (·.isNone) ∧ ∀ y ∈ us, SeqAt.EqAt A s y .none (isNn y)
  | _, _, _, .nil, _, .nil => ⟨rfl, fun y h => by cases h⟩
  | _, _, _, .cons (v := v) (k := k) h t, n, .cons (b := u) r r2 => by
    obtain ⟨e, q⟩ := nin_items I hu t (fun k hk => n k (List.mem_cons_of_mem _ hk)) r2
    cases k with
    | none =>
      rw [show v = V.non from h] at r
      cases r
      refine ⟨by simp [isNn], fun y hy => ?_⟩
      rcases List.mem_cons.mp hy with rfl | hy
      · exact SeqAt.EqAt.same _
      · exact q y hy
    | some z =>
      have hz : Is H v (.tup [.str z.1, z.2]) := h
      have no : NoO (.tup [.str z.1, z.2]) := ⟨trivial, n _ (List.mem_cons_self ..) z rfl, trivial⟩
      obtain ⟨a, vs, rfl, _, _⟩ := id hz.tup_inv
      cases r
      refine ⟨by simp [isNn, e], fun y hy => ?_⟩
      rcases List.mem_cons.mp hy with rfl | hy
      · obtain ⟨as, r1⟩ := Dp.reads I _ _ _ (Is.dp (K := X.K) no hz) (rfl : RelV (.ref a) (.ref a))
        have d0 : min (toD (.tup [.str z.1, z.2])).depth (PyData.none).depth = 0 := by simp [PyData.depth]
        have z0 := SeqAt.eqAt_reads _ .none A s (.ref a) .none as [] r1 Reads.none hz.lay rfl (by rw [d0]; omega)
        simpa [toD, PyData.eqv, isNn] using z0
      · exact q y hy
end
end Kx
/-! Comprehensions over a tuple or a list, item by item. -/
namespace Kx
open PySem PySem.Spec PyProof.Rows L2
/-- what a heap behind keeps -/
structure Ord (G : Hp → Hp → Prop) : Prop where
  refl : ∀ H, G H H
  trans : ∀ {H H1 H2}, G H H1 → G H1 H2 → G H H2
  of : ∀ {H H1}, Same H H1 → G H H1
  lst : ∀ {H H1 l xs}, G H H1 → H l = none → H1 l = some (.lst xs) → ∀ ys, G H (upd H1 l (.lst ys))
  tup : ∀ {H H1 b vs}, G H H1 → H b = some (.tup vs) → H1 b = some (.tup vs)
  li : ∀ {H H1 b vs}, G H H1 → H b = some (.lst vs) → H1 b = some (.lst vs)
theorem ordS : Ord Same := ⟨.refl, fun a b => a.trans b, id, fun s n e ys => Kx.Same.own s n _, fun s e => s _ _ e, fun s e => s _ _ e⟩
theorem ordX (TT : List (Addr × Str)) : Ord (Sx TT) := ⟨.refl TT, fun a b => a.trans b, .of, fun s n e ys => s.lst n e ys, fun s e => s.tup e, fun s e => s.li e⟩
theorem Paired.get {α β : Type} {F : α → β → Prop} : ∀ {l : List α} {m : List β}, Paired F l m → ∀ {i : Nat} {x : α}, l[i]? = some x → ∃ y, m[i]? = some y ∧ F x y
  | _, _, .nil, i, x, h => by simp at h
  | _, _, .cons h _, 0, x, e => by cases (Option.some.inj e); exact ⟨_, rfl, h⟩
  | _, _, .cons _ r, i + 1, x, e => Paired.get r (by simpa using e)
section
variable {α : Type} {G : Hp → Hp → Prop} {K : PySem.W.Frag} {a D : Addr} {xs : List V} {ys : List α} {g : TG} {tt : TT} {te : TE} {vs : List Nat} {σ : L2.St} {H1 : Hp} {Qd : Hp → Prop}
theorem lc_pick (O : Ord G) (Sq : Hp → Prop) (f : α → Bool) (R S : Hp → V → α → Prop) (hR : Paired (R H1) xs ys) (sR : ∀ {H H' v y}, G H H' → R H v y → R H' v y) (sS : ∀ {H H' v y}, G H H' → S H v y → S H' v y)
    (wS : ∀ {H l zs zs' v y}, H l = some (.lst zs) → S H v y → S (upd H l (.lst zs')) v y) (hD : H1 D = none) (few : ys.length ≤ 16000000)
    (step : ∀ (x : V) (y : α) (H9 : Hp) (Q' : VK) (Z : Hp → Prop), R H9 x y → y ∈ ys → G H1 H9 → (f y = true → ∀ v H10, G H9 H10 → S H10 v y → Q' v H10) → (f y = false → ∀ H10, G H9 H10 → Z H10) → g x (wipe σ vs) H9 fun σ2 H2 => wipe σ2 vs = wipe σ vs ∧ tt σ2 H2 fun b H3 => if b = true then te σ2 H3 Q' else Z H3) :
    ∃ Pv : Nat → Hp → Prop, Pv 0 (upd H1 D (.lst [])) ∧ (∀ i H, Pv i H → G H1 H) ∧
      (∀ i x H, xs[i]? = some x → Pv i H → g x (wipe σ vs) H fun σ2 H2 => wipe σ2 vs = wipe σ vs ∧ tt σ2 H2 fun b H3 => if b = true then te σ2 H3 fun y H4 => ∃ acc, H4 D = some (.lst acc) ∧ acc.length < sizeLine ∧ Pv (i + 1) (upd H4 D (.lst (acc ++ [y]))) else Pv (i + 1) H3) ∧
      (∀ H, Pv xs.length H → ∃ ws, G H1 H ∧ H D = some (.lst ws) ∧ Paired (S H) ws (ys.filter f)) := by
  have hl := pair_len hR
  refine ⟨fun i H => G H1 H ∧ ∃ ws, H D = some (.lst ws) ∧ Paired (S H) ws ((ys.take i).filter f), ⟨O.of (same_upd hD _), [], upd_same, .nil⟩, fun i H h => h.1, fun i x H hx ⟨s, ws, eD, pp⟩ => ?_, fun H ⟨s, ws, eD, pp⟩ => ⟨ws, s, eD, ?_⟩⟩
  · obtain ⟨y, ey, ry⟩ := Paired.get hR hx
    obtain ⟨hi, ey2⟩ := List.getElem?_eq_some_iff.mp ey
    have tk : (ys.take (i + 1)).filter f = (ys.take i).filter f ++ (if f y = true then [y] else []) := by
      rw [List.take_succ_eq_append_getElem hi, ey2, List.filter_append]
      by_cases c : f y = true
      · rw [if_pos c, List.filter_cons, if_pos c, List.filter_nil]
      · rw [if_neg c, List.filter_cons, if_neg c, List.filter_nil]
    refine step x y H _ _ (sR s ry) (List.mem_of_getElem? ey) s (fun c v H10 s2 hv => ⟨ws, O.li s2 eD, ?_, O.lst (O.trans s s2) hD (O.li s2 eD) _, ws ++ [v], upd_same, ?_⟩) (fun c H10 s2 => ⟨O.trans s s2, ws, O.li s2 eD, ?_⟩)
    · have := pair_len pp
      have := List.length_filter_le f (ys.take i)
      rw [List.length_take] at this
      exact Nat.lt_of_le_of_lt (show ws.length ≤ 16000000 by omega) (by decide)
    · rw [tk, if_pos c]
      exact pair_snoc (Paired.imp pp fun v y h => wS (O.li s2 eD) (sS s2 h)) (wS (O.li s2 eD) hv)
    · rw [tk, if_neg (by rw [c]; exact Bool.false_ne_true), List.append_nil]
      exact Paired.imp pp fun v y h => sS s2 h
  · rw [hl, List.take_length] at pp
    exact pp
/-- over a tuple -/
theorem lc_pickT (O : Ord G) (f : α → Bool) (R S : Hp → V → α → Prop) (hsrc : ∀ H', G H1 H' → SqT K H' a xs) (hR : Paired (R H1) xs ys) (sR : ∀ {H H' v y}, G H H' → R H v y → R H' v y) (sS : ∀ {H H' v y}, G H H' → S H v y → S H' v y)
    (wS : ∀ {H l zs zs' v y}, H l = some (.lst zs) → S H v y → S (upd H l (.lst zs')) v y) (hD : H1 D = none) (few : ys.length ≤ 16000000)
    (step : ∀ (x : V) (y : α) (H9 : Hp) (Q' : VK) (Z : Hp → Prop), R H9 x y → y ∈ ys → G H1 H9 → (f y = true → ∀ v H10, G H9 H10 → S H10 v y → Q' v H10) → (f y = false → ∀ H10, G H9 H10 → Z H10) → g x (wipe σ vs) H9 fun σ2 H2 => wipe σ2 vs = wipe σ vs ∧ tt σ2 H2 fun b H3 => if b = true then te σ2 H3 Q' else Z H3)
    (hd : ∀ H ws, G H1 H → H D = some (.lst ws) → Paired (S H) ws (ys.filter f) → Qd H) :
    ∃ W : Nat → Nat → Hp → Prop, (∃ m, W 0 m (upd H1 D (.lst []))) ∧ ∀ i m H, W i m H →
      ((Itt K a).stop i H ∧ Qd H) ∨ ((Itt K a).go i H ∧ ∃ Nx : Hp → Prop, (∀ H', Nx H' → ∃ m', m' < m ∧ W (i + 1) m' H') ∧ ∀ x H', (Itt K a).yld i H x H' → g x (wipe σ vs) H' fun σ2 H2 => wipe σ2 vs = wipe σ vs ∧ tt σ2 H2 fun b H3 =>
        if b = true then te σ2 H3 fun y H4 => ∃ acc, H4 D = some (.lst acc) ∧ acc.length < sizeLine ∧ Nx (upd H4 D (.lst (acc ++ [y]))) else Nx H3) := by
  obtain ⟨Pv, h0, h1, h2, h3⟩ := lc_pick (tt := tt) (te := te) (g := g) (vs := vs) (σ := σ) (D := D) O (fun _ => True) f R S hR sR sS wS hD few step
  exact lc_tup (K := K) (a := a) (xs := xs) Pv h0 (fun i H _ p => hsrc H (h1 i H p)) h2 fun H p => by obtain ⟨ws, x, y, z⟩ := h3 H p; exact hd H ws x y z
/-- over a list -/
theorem lc_pickL (O : Ord G) (f : α → Bool) (R S : Hp → V → α → Prop) (hsrc : ∀ H', G H1 H' → SqL K H' a xs) (hR : Paired (R H1) xs ys) (sR : ∀ {H H' v y}, G H H' → R H v y → R H' v y) (sS : ∀ {H H' v y}, G H H' → S H v y → S H' v y)
    (wS : ∀ {H l zs zs' v y}, H l = some (.lst zs) → S H v y → S (upd H l (.lst zs')) v y) (hD : H1 D = none) (few : ys.length ≤ 16000000)
    (step : ∀ (x : V) (y : α) (H9 : Hp) (Q' : VK) (Z : Hp → Prop), R H9 x y → y ∈ ys → G H1 H9 → (f y = true → ∀ v H10, G H9 H10 → S H10 v y → Q' v H10) → (f y = false → ∀ H10, G H9 H10 → Z H10) → g x (wipe σ vs) H9 fun σ2 H2 => wipe σ2 vs = wipe σ vs ∧ tt σ2 H2 fun b H3 => if b = true then te σ2 H3 Q' else Z H3)
    (hd : ∀ H ws, G H1 H → H D = some (.lst ws) → Paired (S H) ws (ys.filter f) → Qd H) :
    ∃ W : Nat → Nat → Hp → Prop, (∃ m, W 0 m (upd H1 D (.lst []))) ∧ ∀ i m H, W i m H →
      ((Itl K a).stop i H ∧ Qd H) ∨ ((Itl K a).go i H ∧ ∃ Nx : Hp → Prop, (∀ H', Nx H' → ∃ m', m' < m ∧ W (i + 1) m' H') ∧ ∀ x H', (Itl K a).yld i H x H' → g x (wipe σ vs) H' fun σ2 H2 => wipe σ2 vs = wipe σ vs ∧ tt σ2 H2 fun b H3 =>
        if b = true then te σ2 H3 fun y H4 => ∃ acc, H4 D = some (.lst acc) ∧ acc.length < sizeLine ∧ Nx (upd H4 D (.lst (acc ++ [y]))) else Nx H3) := by
  obtain ⟨Pv, h0, h1, h2, h3⟩ := lc_pick (tt := tt) (te := te) (g := g) (vs := vs) (σ := σ) (D := D) O (fun _ => True) f R S hR sR sS wS hD few step
  exact lc_list (K := K) (a := a) (xs := xs) Pv h0 (fun i H _ p => hsrc H (h1 i H p)) h2 fun H p => by obtain ⟨ws, x, y, z⟩ := h3 H p; exact hd H ws x y z
end
/-! ### pairs and their parts -/
theorem isL_pair {H : Hp} {α : Type} {F : α → PV} : ∀ {vs : List V} {ys : List α}, IsL H vs (ys.map F) → Paired (fun v y => Is H v (F y)) vs ys
  | _, [], .nil => .nil
  | _, _ :: _, .cons h t => .cons h (isL_pair t)
theorem pair_isL {H : Hp} {α : Type} {F : α → PV} : ∀ {vs : List V} {ys : List α}, Paired (fun v y => Is H v (F y)) vs ys → IsL H vs (ys.map F)
  | _, _, .nil => .nil
  | _, _, .cons h t => .cons h (pair_isL t)
theorem pair_strs {α : Type} {F : α → Str} : ∀ {vs : List V} {ys : List α}, Paired (fun v y => v = V.str (F y)) vs ys → vs = (ys.map F).map V.str
  | _, _, .nil => rfl
  | _, _, .cons h t => by rw [h, pair_strs t]; rfl
theorem filt_all {α : Type} (l : List α) : l.filter (fun _ => true) = l := by simp
theorem pr_inv {H : Hp} {v : V} {p : Str × PV} (h : Is H v (prPV p)) : ∃ xa tv, v = .ref xa ∧ H xa = some (.tup [.str p.1, tv]) ∧ Is H tv p.2 ∧ sok p.1 = true := by
  obtain ⟨xa, xvs, rfl, ex, ixL⟩ := h.tup_inv
  cases ixL with
  | @cons fv _ _ _ ifv ixL =>
  cases ixL with
  | @cons tv _ _ _ itv ixL =>
  cases ixL
  have e := ifv.str_inv
  subst e
  cases ifv with
  | str _ k => exact ⟨xa, tv, rfl, ex, itv, k⟩
end Kx
namespace Kx
open PySem PySem.Spec PyProof.Rows L2
section
variable {P : Program} {w : World} {K : PySem.W.Frag} {mg : Str → Option Value} {base : Heap}
/-! ### _law_index -/
theorem noneIn {X : Cx} (hu : X.A.units + 200 < cLine) : OpR X (compareOp .In) (rNin false) := by
  intro pins s σ H x y v u Q I rx ry h
  obtain ⟨p, xs, ks, rfl, rfl, e, hK, no, q⟩ := h
  cases rx
  cases ry
  obtain ⟨its, r, pl, hz⟩ := I.list (SqL.of e)
  obtain ⟨e1, e2⟩ := nin_items I (A := X.A.in1) (by show X.A.units + 1 + 150 < cLine; omega) hK no r
  refine SeqAt.in_listAt isNn pl.isList (fun w hw => e2 w (by simpa using hw)) ⟨.bl _, H, I, rfl, ?_⟩
  rw [show its.toArray.any isNn = its.any isNn by simp, e1]
  exact q
theorem noneNotIn {X : Cx} (hu : X.A.units + 200 < cLine) : OpR X (compareOp .NotIn) (rNin true) := by
  intro pins s σ H x y v u Q I rx ry h
  obtain ⟨p, xs, ks, rfl, rfl, e, hK, no, q⟩ := h
  cases rx
  cases ry
  obtain ⟨its, r, pl, hz⟩ := I.list (SqL.of e)
  obtain ⟨e1, e2⟩ := nin_items I (A := X.A.in1) (by show X.A.units + 1 + 150 < cLine; omega) hK no r
  refine SeqAt.notIn_listAt isNn pl.isList (fun w hw => e2 w (by simpa using hw)) ⟨.bl _, H, I, rfl, ?_⟩
  rw [show its.toArray.any isNn = its.any isNn by simp, e1]
  exact q
theorem goodK_fam : ∀ {ps : List (Str × PV)} {kk : List (Str × PV)}, ps.length = kk.length → goodK ps (kk.map some) = decide (kk.map (·.1) = ps.map (·.1))
  | [], [], _ => by simp [goodK]
  | p :: ps, k :: kk, h => by
    have ih := goodK_fam (ps := ps) (kk := kk) (by simpa using h)
    simp only [List.map_cons, goodK, ih, List.cons.injEq]
    by_cases e : p.1 = k.1
    · by_cases e2 : kk.map (·.1) = ps.map (·.1) <;> simp [e, e2]
    · have e3 : ¬ k.1 = p.1 := fun q => e q.symm
      simp [e, e3]
theorem all_some {α : Type} : ∀ {ks : List (Option α)}, (ks.any (·.isNone)) = false → ∃ kk : List α, ks = kk.map some
  | [], _ => ⟨[], rfl⟩
  | none :: r, h => by simp at h
  | some k :: r, h => by
    obtain ⟨kk, e⟩ := all_some (ks := r) (by simpa using h)
    exact ⟨k :: kk, by rw [e]; rfl⟩
theorem kindL_pr {H : Hp} : ∀ {vs : List V} {kk : List (Str × PV)}, KindL H vs (kk.map some) → IsL H vs (kk.map prPV)
  | _, [], .nil => .nil
  | _, _ :: _, .cons h t => .cons h (kindL_pr t)
theorem pair_kindL {H : Hp} {α : Type} {F : α → Option (Str × PV)} : ∀ {vs : List V} {ys : List α}, Paired (fun v y => KindIs H v (F y)) vs ys → KindL H vs (ys.map F)
  | _, _, .nil => .nil
  | _, _, .cons h t => .cons h (pair_kindL t)
theorem treeK_some (kk : List (Str × PV)) : (kk.map some).map treeK = kk.map (·.2) := by simp [treeK]
theorem ps_vsz {ps : List (Str × PV)} (h : ∀ p ∈ ps, form MK true p.2 = true ∧ dep p.2 ≤ 3) (l : ps.length ≤ 3) : formL MK true (ps.map (·.2)) = true ∧ vszL (ps.map (·.2)) ≤ 60 := by
  have fa : formL MK true (ps.map (·.2)) = true := by
    rw [formL_all]
    exact List.all_eq_true.mpr fun t ht => by obtain ⟨p, hp, rfl⟩ := List.mem_map.mp ht; exact (h p hp).1
  refine ⟨fa, ?_⟩
  have a := vszL_le mk_ar _ fa
  have d : depL (ps.map (·.2)) ≤ 3 := depL_le fun t ht => by obtain ⟨p, hp, rfl⟩ := List.mem_map.mp ht; exact (h p hp).2
  have l2 : (ps.map (·.2)).length ≤ 3 := by rw [List.length_map]; exact l
  have := Nat.mul_le_mul l2 (Nat.pow_le_pow_right (by decide : 0 < 2) d)
  omega
theorem filt_one {cs : List Con} (nd : (cs.map (·.w)).Nodup) {w : Str} {c : Con} (h : cs.find? (fun c => c.w == w) = some c) : cs.filter (fun c => c.w == w) = [c] := by
  induction cs with
  | nil => cases h
  | cons x r ih =>
    simp only [List.map_cons, List.nodup_cons] at nd
    by_cases e : x.w = w
    · have e1 : (x.w == w) = true := beq_iff_eq.mpr e
      simp only [List.find?_cons, e1] at h
      have h2 : x = c := Option.some.inj h
      subst h2
      have : r.filter (fun c => c.w == w) = [] := List.filter_eq_nil_iff.mpr fun y hy q => nd.1 (by
        have : y.w = w := beq_iff_eq.mp q
        rw [e, ← this]
        exact List.mem_map.mpr ⟨y, hy, rfl⟩)
      rw [List.filter_cons, if_pos e1, this]
    · have e1 : (x.w == w) = false := beq_eq_false_iff_ne.mpr e
      simp only [List.find?_cons, e1] at h
      rw [List.filter_cons, if_neg (by rw [e1]; exact Bool.false_ne_true)]
      exact ih nd.2 h
theorem words_nd {F : List Str} {cs : List Con} (G : TabG F cs) : (cs.map (·.w)).Nodup := by
  have := cnts_nd G
  rwa [cnts, List.map_map] at this
theorem tab_inv {H : Hp} {v : V} {mk : List PV} {F : List Str} {cs : List Con} (h : Is H v (tabPV mk F cs)) : ∃ a v0 v1 fa ca fvs cvs, v = .ref a ∧ H a = some (.tup [v0, v1, .ref fa, .ref ca]) ∧ H fa = some (.tup fvs) ∧ IsL H fvs (F.map PV.str) ∧ H ca = some (.tup cvs) ∧ IsL H cvs (cs.map conPV) := by
  obtain ⟨a, vs, rfl, ea, hL⟩ := h.tup_inv
  cases hL with
  | @cons v0 _ _ _ i0 hL =>
  cases hL with
  | @cons v1 _ _ _ i1 hL =>
  cases hL with
  | @cons v2 _ _ _ i2 hL =>
  cases hL with
  | @cons v3 _ _ _ i3 hL =>
  cases hL
  obtain ⟨fa, fvs, rfl, ef, fL⟩ := i2.tup_inv
  obtain ⟨ca, cvs, rfl, ec, cL⟩ := i3.tup_inv
  exact ⟨a, v0, v1, fa, ca, fvs, cvs, rfl, ea, ef, fL, ec, cL⟩
theorem con_inv {H : Hp} {v : V} {c : Con} (h : Is H v (conPV c)) : ∃ a pa iv pvs, v = .ref a ∧ H a = some (.tup [.str c.w, .ref pa, .str c.fam, iv]) ∧ H pa = some (.tup pvs) ∧ IsL H pvs (c.ps.map prPV) ∧ Is H iv c.ix ∧ sok c.w = true ∧ sok c.fam = true := by
  obtain ⟨a, vs, rfl, ea, hL⟩ := h.tup_inv
  cases hL with
  | @cons v0 _ _ _ i0 hL =>
  cases hL with
  | @cons v1 _ _ _ i1 hL =>
  cases hL with
  | @cons v2 _ _ _ i2 hL =>
  cases hL with
  | @cons v3 _ _ _ i3 hL =>
  cases hL
  obtain ⟨pa, pvs, rfl, ep, pL⟩ := i1.tup_inv
  have e0 := i0.str_inv
  have e2 := i2.str_inv
  subst e0
  subst e2
  cases i0 with
  | str _ k0 =>
  cases i2 with
  | str _ k2 => exact ⟨a, pa, v3, pvs, rfl, ea, ep, pL, i3, k0, k2⟩
theorem psub_congr {f g : AL} (h : ∀ z, get f z = get g z) : ∀ t : PV, psub f t = psub g t := by
  intro t
  have key : ∀ n, ∀ t : PV, dep t ≤ n → psub f t = psub g t := by
    intro n
    induction n with
    | zero => intro t ht; have := dep_pos t; omega
    | succ n ih =>
      intro t ht
      cases t with
      | str z => simp only [psub, h z]
      | oth => rfl
      | tup l =>
        cases l with
        | nil => rfl
        | cons x r =>
          simp only [psub, psubL_map]
          refine congrArg PV.tup (congrArg _ (List.map_congr_left fun y hy => ih y ?_))
          have := depL_mem (List.mem_cons_of_mem x hy)
          simp only [dep] at ht
          omega
  exact key _ t (Nat.le_refl _)
theorem isL_sok {H : Hp} : ∀ {vs : List V} {kk : List (Str × PV)}, IsL H vs (kk.map prPV) → ∀ k ∈ kk, sok k.1 = true
  | _, [], _, k, h => by cases h
  | _, x :: r, .cons h t, k, hk => by
    rcases List.mem_cons.mp hk with rfl | hk
    · obtain ⟨_, _, _, _, _, s⟩ := pr_inv h
      exact s
    · exact isL_sok t k hk
theorem sok_map {kk : List (Str × PV)} (h : ∀ k ∈ kk, sok k.1 = true) : ∀ z ∈ kk.map (·.1), sok z = true := fun z hz => by
  obtain ⟨k, hk, rfl⟩ := List.mem_map.mp hz
  exact h k hk
def spLIdx (n : Nat) : Sp := fun vs H Q _ => ∃ (v u : V) (mk : List PV) (F : List Str) (cs : List Con) (t : List PV), vs = [v, u] ∧ Is H v (tabPV mk F cs) ∧ TabG F cs ∧ Is H u (.tup t) ∧ RawV cs (.tup t) ∧ dep (.tup t) ≤ n ∧ dep (.tup t) ≤ 20 ∧
  ∀ r H', Same H H' → KindIs H' r (idxOf cs (.tup t)) → Q r H'
theorem ok_law_index {n : Nat} (T : Txt K mg) (G_law_index : FnOk P w K mg base CX0 (n+4) T.a_law_index T.d_law_index ["table", "value"] (spLIdx n)) (G_law_fit : FnOk P w K mg base CX0 1 T.a_law_fit T.d_law_fit ["patterns", "trees"] (spLFit 60)) (G_law_put : FnOk P w K mg base CX0 4 T.a_law_put T.d_law_put ["term", "trees"] (spLPut 3)) : FnOk P w K mg base CX0 (n+5) T.a_law_index T.d_law_index ["table", "value"] (spLIdx (n+1)) := by
  refine T.F_law_index.ok sc_law_index (fun vs H Q E h => ?_) (fun cdv A outer s H vs Q E hr h => ?_)
  · obtain ⟨v, u, mk, F, cs, t, rfl, _⟩ := h; rfl
  · obtain ⟨v, u, mk, F, cs, t, rfl, hI, G, hu0, hraw, hn, h20, q⟩ := h
    have hu := hu_of hr
    have hr_law_index := hr
    have hr_law_fit : Room 1 _ := hr.mono (by omega)
    have hr_law_put : Room 4 _ := hr.mono (by omega)
    refine ⟨_, (pss_cons (ps_set (i := 2) sc_law_index.nd rfl (Or.inl rfl) (pe_ix ix_list (pe_lc (own := [("one", 5)]) (g := (gName 5)) rfl sc_law_index.nd (pi_tup (pe_ix ix_tup (pv 0) pe_int (fun _ _ => rfl))) (blkOk_by (own := [("one", 5)]) (N := ["table", "value", "row", "found", "trees", "one", "part", "pair"]) (sc := defScope s_law_index) (by decide +kernel)) (fun _ _ _ _ _ => (pg_name (i := 5) sc_law_index.nd rfl (Or.inl rfl))) (fun _ _ _ _ _ => pts_one (pt_cmpR op_eq (pe_ix (ixTK (K := K)) (pv 5) pe_int (fun _ _ => rfl)) (pe_ix (ixTK (K := K)) (pv 1) pe_int (fun _ _ => rfl)) (nomark _))) (fun _ _ _ _ _ => (pv 5))) pe_int (fun _ _ => rfl)))
    (pss_cons (ps_setLc (i := 3) (own := [("part", 6)]) (g := (gName 6)) (tt := tYes) rfl sc_law_index.nd rfl rfl (sw_true rfl rfl rfl (by decide +kernel)) (pi_tup (pe_slice sl_tup (pv 1) (po_some pe_int) po_none)) (blkOk_by (own := [("part", 6)]) (N := ["table", "value", "row", "found", "trees", "one", "part", "pair"]) (sc := defScope s_law_index) (by decide +kernel)) (fun _ _ _ _ _ => (pg_name (i := 6) sc_law_index.nd rfl (Or.inl rfl))) (fun _ _ _ _ _ => pts_nil) (fun _ _ _ _ _ => (pe_call G_law_index hr_law_index rfl T.m_law_index T.F_law_index.kp T.b_law_index .nil pass0 (pa_cons (pv 0) (pa_cons (pv 6) pa_nil)))))
    (pss_cons (ps_if (PW.pt (pw_or (pt_cmpR (noneIn (u200 hr)) pe_non (pv 3) (by rfl)) (pw_or1 (pt_cmpR (neP (u200 hr)) (pe_lc (own := [("pair", 7)]) (g := (gName 7)) (tt := tYes) rfl sc_law_index.nd (pi_list (pv 3)) (blkOk_by (own := [("pair", 7)]) (N := ["table", "value", "row", "found", "trees", "one", "part", "pair"]) (sc := defScope s_law_index) (by decide +kernel)) (fun _ _ _ _ _ => (pg_name (i := 7) sc_law_index.nd rfl (Or.inl rfl))) (fun _ _ _ _ _ => pts_nil) (fun _ _ _ _ _ => (pe_ix (ixTK (K := K)) (pv 7) pe_int (fun _ _ => rfl)))) (pe_lc (own := [("pair", 7)]) (g := (gName 7)) (tt := tYes) rfl sc_law_index.nd (pi_tup (pe_ix ix_tup (pv 2) pe_int (fun _ _ => rfl))) (blkOk_by (own := [("pair", 7)]) (N := ["table", "value", "row", "found", "trees", "one", "part", "pair"]) (sc := defScope s_law_index) (by decide +kernel)) (fun _ _ _ _ _ => (pg_name (i := 7) sc_law_index.nd rfl (Or.inl rfl))) (fun _ _ _ _ _ => pts_nil) (fun _ _ _ _ _ => (pe_ix (ixTK (K := K)) (pv 7) pe_int (fun _ _ => rfl)))) (nomark _))))) (pss_one (ps_ret pe_non)) pss_nil)
    (pss_cons (ps_set (i := 4) sc_law_index.nd rfl (Or.inl rfl) (pe_call G_law_fit hr_law_fit rfl T.m_law_fit T.F_law_fit.kp T.b_law_fit .nil pass0 (pa_cons (pe_lc (own := [("pair", 7)]) (g := (gName 7)) (tt := tYes) rfl sc_law_index.nd (pi_tup (pe_ix ix_tup (pv 2) pe_int (fun _ _ => rfl))) (blkOk_by (own := [("pair", 7)]) (N := ["table", "value", "row", "found", "trees", "one", "part", "pair"]) (sc := defScope s_law_index) (by decide +kernel)) (fun _ _ _ _ _ => (pg_name (i := 7) sc_law_index.nd rfl (Or.inl rfl))) (fun _ _ _ _ _ => pts_nil) (fun _ _ _ _ _ => (pe_ix (ixTK (K := K)) (pv 7) pe_int (fun _ _ => rfl)))) (pa_cons (pe_lc (own := [("pair", 7)]) (g := (gName 7)) (tt := tYes) rfl sc_law_index.nd (pi_list (pv 3)) (blkOk_by (own := [("pair", 7)]) (N := ["table", "value", "row", "found", "trees", "one", "part", "pair"]) (sc := defScope s_law_index) (by decide +kernel)) (fun _ _ _ _ _ => (pg_name (i := 7) sc_law_index.nd rfl (Or.inl rfl))) (fun _ _ _ _ _ => pts_nil) (fun _ _ _ _ _ => (pe_ix (ixTK (K := K)) (pv 7) pe_int (fun _ _ => rfl)))) pa_nil))))
    (pss_cons (ps_if (pt_cmpR op_isN (pv 4) pe_non (nomark _)) (pss_one (ps_ret pe_non)) pss_nil)
    (pss_one (ps_ret (pe_tup (pa_cons (pe_ix ix_tup (pv 2) pe_int (fun _ _ => rfl)) (pa_cons (pe_call G_law_put hr_law_put rfl T.m_law_put T.F_law_put.kp T.b_law_put .nil pass0 (pa_cons (pe_ix ix_tup (pv 2) pe_int (fun _ _ => rfl)) (pa_cons (pv 4) pa_nil))) pa_nil)))))))))), ?_⟩
    have CG := con_of G
    have len12 := G.len.2
    have le3 : ∀ c ∈ cs, c.ps.length ≤ 3 := fun c hc => (CG c hc).len
    obtain ⟨ua, w0, us, ts, rfl, et, eua, hL, hw, h3, hvL⟩ := rvt_inv (raw_rv le3 _ hraw) hu0
    cases et
    obtain ⟨c, hfind, hc, hcl, hparts⟩ := raw_con hraw
    have hix : idxOf cs (.tup (.str w0 :: ts)) = madeK c (idxL cs ts) := by simp only [idxOf, hfind]
    rw [hix] at q
    have hd : dep (.tup (.str w0 :: ts)) = 1 + max 1 (depL ts) := dep_cons _ _
    obtain ⟨a, v0, v1, fa, ca, fvs, cvs, rfl, ea, ef, fL, ec, cL⟩ := tab_inv hI
    refine ⟨_, rfl, a, _, _, _, rfl, rfl, .inl (.inl ea), atI_nat (j := 3) rfl, ca, rfl, ⟨_, .inl (.inl ec)⟩, fun D hD => ?_⟩
    refine lc_pickT (K := K) (a := ca) (xs := cvs) ordS (fun c : Con => c.w == w0) (fun H v c => Is H v (conPV c)) (fun H v c => Is H v (conPV c)) (fun H' s => .inl (.inl (s _ _ ec))) (isL_pair cL) (fun s h => h.same s) (fun s h => h.same s) (fun e h => h.wr e) hD (by omega) (fun x y H9 Q' Z hx hy s9 y1 y0 => ?_) (fun H2 ws s2 eD hws => ?_)
    · obtain ⟨xa, pa, iv, pvs, rfl, ex, _⟩ := con_inv hx
      refine ⟨rfl, _, rfl, xa, _, _, _, rfl, rfl, .inl (.inl ex), atI_nat (j := 0) rfl, _, rfl, ua, _, _, _, rfl, rfl, .inl (.inl (s9 _ _ eua)), atI_nat (j := 0) rfl, rfl, _, rfl, ?_⟩
      refine ite2 (fun c => ⟨_, rfl, y1 (by simpa using c) _ _ (.refl _) hx⟩) (fun c => y0 (by simpa using c) _ (.refl _))
    · rw [filt_one (words_nd G) hfind] at hws
      cases hws with
      | @cons cv _ wl _ icv hws =>
      cases hws
      obtain ⟨ra, pa, iv, pvs, rfl, er, ep, pL, iiv, k0, k1⟩ := con_inv icv
      have eua2 := s2 _ _ eua
      refine ⟨D, _, _, _, rfl, rfl, SqL.of eD, atI_nat (j := 0) rfl, _, rfl, _, rfl, ua, _, rfl, .inl (.inl eua2), slice1, fun p1 h1 => ?_⟩
      rw [cut1]
      have s3 := same_upd h1 (.tup us)
      refine ⟨p1, rfl, ⟨_, .inl (.inl upd_same)⟩, fun D2 hD2 => ?_⟩
      have s23 := s2.trans s3
      refine lc_pickT (K := K) (a := p1) (xs := us) ordS (fun _ => true) (fun H v (t : PV) => Is H v t) (fun H v t => KindIs H v (idxOf cs t)) (fun H' s => .inl (.inl (s _ _ upd_same))) (isL_pair (F := id) (by rw [List.map_id]; exact IsL.same s23 hL)) (fun s h => h.same s) (fun s h => h.same s) (fun e h => h.wr e) hD2 (by omega) (fun x y H9 Q' Z hx hy s9 y1 y0 => ?_) (fun H4 ws4 s4 eD4 hws4 => ?_)
      · have rw_ := hparts y hy
        have dy := depL_mem hy
        have yv := mem_RvL hvL y hy
        obtain ⟨wy, tsy, eyt, _⟩ := rv_inv yv
        subst eyt
        exact ⟨rfl, yes_if ⟨_, rfl, _, rfl, _, x, mk, F, cs, _, rfl, (hI.same s23).same s9, G, hx, rw_, by omega, by omega, fun r H5 s5 hk => y1 rfl r H5 s5 hk⟩⟩
      · rw [filt_all] at hws4
        have hK4 := pair_kindL hws4
        rw [← idxL_map] at hK4
        have trees := idxL_tree CG ts hparts
        have no : ∀ k ∈ idxL cs ts, ∀ z, k = some z → NoO z.2 := fun k hk z hz => tm_no (gr_tm (trees k hk z hz).2.1)
        have s24 := s23.trans s4
        refine ⟨_, rfl, D2, ws4, idxL cs ts, rfl, rfl, eD4, hK4, no, ?_⟩
        refine ⟨_, rfl, ite2 (fun ch => ?_) (fun ch => ?_)⟩
        · have bad : madeK c (idxL cs ts) = none := by
            unfold madeK treesFor
            rw [if_neg, Option.map_none]
            intro good
            obtain ⟨k, hk, e⟩ := List.any_eq_true.mp ch
            obtain ⟨y, rfl⟩ := goodK_some (by rw [idxL_map, List.length_map]; exact hcl) good k hk
            cases e
          exact iteT (q _ H4 s24 (by rw [bad]; rfl))
        obtain ⟨kk, ekk⟩ := all_some (Bool.eq_false_iff.mpr ch)
        rw [ekk] at hK4
        have hPr := kindL_pr hK4
        have kkl : kk.length = ts.length := by
          have := congrArg List.length ekk
          rw [idxL_map, List.length_map, List.length_map] at this
          exact this.symm
        refine ⟨_, rfl, D2, rfl, ⟨_, SqL.of eD4⟩, fun D3 hD3 => ?_⟩
        refine lc_pickL (K := K) (a := D2) (xs := ws4) ordS (fun _ => true) (fun H v (p : Str × PV) => Is H v (prPV p)) (fun _ v (p : Str × PV) => v = V.str p.1) (fun H' s => SqL.of (s _ _ eD4)) (isL_pair hPr) (fun s h => h.same s) (fun _ h => h) (fun _ h => h) hD3 (by omega) (fun x y H9 Q' Z hx hy s9 y1 y0 => ?_) (fun H5 ws5 s5 eD5 p5 => ?_)
        · obtain ⟨xa, tv, rfl, ex, it, k⟩ := pr_inv hx
          exact ⟨rfl, yes_if ⟨_, rfl, xa, _, _, _, rfl, rfl, .inl (.inl ex), atI_nat (j := 0) rfl, y1 rfl _ _ (.refl _) rfl⟩⟩
        rw [filt_all] at p5
        have e5 := pair_strs p5
        subst e5
        have s25 := s24.trans s5
        have s35 := s23.trans (s4.trans s5)
        refine ⟨_, rfl, ra, _, _, _, rfl, rfl, .inl (.inl (s3.trans (s4.trans s5) _ _ er)), atI_nat (j := 1) rfl, pa, rfl, ⟨_, .inl (.inl (s3.trans (s4.trans s5) _ _ ep))⟩, fun D4 hD4 => ?_⟩
        refine lc_pickT (K := K) (a := pa) (xs := pvs) ordS (fun _ => true) (fun H v (p : Str × PV) => Is H v (prPV p)) (fun _ v (p : Str × PV) => v = V.str p.1) (fun H' s => .inl (.inl (s _ _ (s3.trans (s4.trans s5) _ _ ep)))) (isL_pair (pL.same (s3.trans (s4.trans s5)))) (fun s h => h.same s) (fun _ h => h) (fun _ h => h) hD4 (by have := (CG c hc).len; omega) (fun x y H9 Q' Z hx hy s9 y1 y0 => ?_) (fun H6 ws6 s6 eD6 p6 => ?_)
        · obtain ⟨xa, tv, rfl, ex, it, k⟩ := pr_inv hx
          exact ⟨rfl, yes_if ⟨_, rfl, xa, _, _, _, rfl, rfl, .inl (.inl ex), atI_nat (j := 0) rfl, y1 rfl _ _ (.refl _) rfl⟩⟩
        rw [filt_all] at p6
        have e6 := pair_strs p6
        subst e6
        refine rNe_strs (SqL.of (s6 _ _ eD5)) (SqL.of eD6) (sok_map (isL_sok hPr)) (sok_map (isL_sok pL)) ⟨_, rfl, ite2 (fun cf => ?_) (fun cf => ?_)⟩
        · have bad : madeK c (idxL cs ts) = none := by
            unfold madeK treesFor
            rw [if_neg, Option.map_none]
            rw [ekk, goodK_fam (by omega)]
            simpa using cf
          exact q _ H6 (s25.trans s6) (by rw [bad]; rfl)
        have good : goodK c.ps (idxL cs ts) = true := by
          rw [ekk, goodK_fam (by omega)]
          simpa using cf
        have s26 := s25.trans s6
        have er6 := (s3.trans (s4.trans (s5.trans s6))) _ _ er
        have ep6 := (s3.trans (s4.trans (s5.trans s6))) _ _ ep
        have pL6 := pL.same (s3.trans (s4.trans (s5.trans s6)))
        have iiv6 := iiv.same (s3.trans (s4.trans (s5.trans s6)))
        have eD46 := (s5.trans s6) _ _ eD4
        have hPr6 := hPr.same (s5.trans s6)
        refine ⟨_, rfl, ra, _, _, _, rfl, rfl, .inl (.inl er6), atI_nat (j := 1) rfl, pa, rfl, ⟨_, .inl (.inl ep6)⟩, fun D5 hD5 => ?_⟩
        refine lc_pickT (K := K) (a := pa) (xs := pvs) ordS (fun _ => true) (fun H v (p : Str × PV) => Is H v (prPV p)) (fun H v (p : Str × PV) => Is H v p.2) (fun H' s => .inl (.inl (s _ _ ep6))) (isL_pair pL6) (fun s h => h.same s) (fun s h => h.same s) (fun e h => h.wr e) hD5 (by have := (CG c hc).len; omega) (fun x y H9 Q' Z hx hy s9 y1 y0 => ?_) (fun H7 ws7 s7 eD7 p7 => ?_)
        · obtain ⟨xa, tv, rfl, ex, it, k⟩ := pr_inv hx
          exact ⟨rfl, yes_if ⟨_, rfl, xa, _, _, _, rfl, rfl, .inl (.inl ex), atI_nat (j := 1) rfl, y1 rfl _ _ (.refl _) it⟩⟩
        rw [filt_all] at p7
        refine ⟨_, rfl, D2, rfl, ⟨_, SqL.of (s7 _ _ eD46)⟩, fun D6 hD6 => ?_⟩
        refine lc_pickL (K := K) (a := D2) (xs := ws4) ordS (fun _ => true) (fun H v (p : Str × PV) => Is H v (prPV p)) (fun H v (p : Str × PV) => Is H v p.2) (fun H' s => SqL.of (s _ _ (s7 _ _ eD46))) (isL_pair (hPr6.same s7)) (fun s h => h.same s) (fun s h => h.same s) (fun e h => h.wr e) hD6 (by omega) (fun x y H9 Q' Z hx hy s9 y1 y0 => ?_) (fun H8 ws8 s8 eD8 p8 => ?_)
        · obtain ⟨xa, tv, rfl, ex, it, k⟩ := pr_inv hx
          exact ⟨rfl, yes_if ⟨_, rfl, xa, _, _, _, rfl, rfl, .inl (.inl ex), atI_nat (j := 1) rfl, y1 rfl _ _ (.refl _) it⟩⟩
        rw [filt_all] at p8
        have i7 : IsL H8 ws7 (c.ps.map (·.2)) := IsL.same s8 (pair_isL p7)
        have i8 : IsL H8 ws8 (kk.map (·.2)) := pair_isL p8
        obtain ⟨fps, vz⟩ := ps_vsz (CG c hc).ps (CG c hc).len
        have s28 := s26.trans (s7.trans s8)
        have dl : depL ts ≤ 19 := by omega
        have kt : ∀ t ∈ kk.map (·.2), TreeG MK 60 t := fun t ht => by
          obtain ⟨k, hk, rfl⟩ := List.mem_map.mp ht
          obtain ⟨a1, a2, a3⟩ := trees (some k) (by rw [ekk]; exact List.mem_map.mpr ⟨k, hk, rfl⟩) k rfl
          exact ⟨a1, a2, by omega⟩
        have eTF : treesFor c.ps (idxL cs ts) = lfit (c.ps.map (·.2)) (kk.map (·.2)) := by
          unfold treesFor lfit
          rw [if_pos good, ekk, treeK_some]
        refine ⟨D5, D6, ws7, ws8, _, _, rfl, s8 _ _ eD7, eD8, i7, i8, fps, by rw [List.length_map, List.length_map]; omega, vz, kt, by decide, fun al f H9 hal s9 ⟨al', hA, nd, gA, eq⟩ => ?_, fun hn H9 s9 => ?_⟩
        · refine ⟨_, rfl, rfl, _, rfl, iteF ?_⟩
          have s29 := s28.trans s9
          have er9 := (s7.trans (s8.trans s9)) _ _ er6
          have iiv9 := iiv6.same (s7.trans (s8.trans s9))
          have names : ∀ z ∈ lv c.ix, get al' z ≠ none := fun z hz => by
            rw [eq]
            obtain ⟨p, hp, hz2⟩ := (CG c hc).nms z hz
            have fk : formL MK true (kk.map (·.2)) = true := by rw [formL_all]; exact List.all_eq_true.mpr fun t ht => (kt t ht).1
            have hal2 := hal
            unfold lfit at hal2
            split at hal2
            · rename_i fits
              cases hal2
              exact fitL_names (mk := MK) _ _ [] (by rw [List.length_map, List.length_map]; omega) fps fk fits z (lvL_mem (List.mem_map.mpr ⟨p, hp, rfl⟩) hz2)
            · cases hal2
          refine ⟨_, rfl, ra, _, _, _, rfl, rfl, .inl (.inl er9), atI_nat (j := 2) rfl, _, rfl, ra, _, _, _, rfl, rfl, .inl (.inl er9), atI_nat (j := 3) rfl, _, rfl, f, MK, iv, c.ix, al', rfl, hA, iiv9, mk_ar, (CG c hc).ix.1, names, (CG c hc).ix.2, fun v' H10 s10 iv' => ⟨(by show 2 ≤ sizeLine; decide), fun p hp => ?_⟩⟩
          have s11 := same_upd hp (.tup [.str c.fam, v'])
          refine q _ _ ((s29.trans s10).trans s11) ?_
          unfold madeK
          rw [eTF, hal]
          rw [psub_congr eq] at iv'
          exact .tup upd_same (.cons (.str _ k1) (.cons (iv'.same s11) .nil))
        · refine ⟨_, rfl, rfl, _, rfl, iteT (q _ H9 (s28.trans s9) ?_)⟩
          unfold madeK
          rw [eTF, hn]
          rfl
end
end Kx
/-! rules inside a comprehension. -/
namespace Kx
open PySem PySem.Spec PyProof.Rows L2
theorem catTK {X : Cx} {K : PySem.W.Frag} (h : X.K = K := by rfl) : OpR X (binaryOp .Add) (rCatT K) := by
  subst h
  exact op_catT
theorem slAK {X : Cx} {K : PySem.W.Frag} (h : X.K = K := by rfl) : SlR X (rSlA K) := by
  subst h
  exact sl_tupA
end Kx
/-! The order of values: by size, by the constructor's place, by the parts. -/
namespace Kx
open PySem PySem.Spec PyProof.Rows L2
abbrev Wf (mk : List (Str × Int)) (t : PV) : Prop := form mk false t = true
abbrev WfL (mk : List (Str × Int)) (l : List PV) : Prop := formL mk false l = true
theorem mem_WfL {mk : List (Str × Int)} {l : List PV} (h : WfL mk l) : ∀ t ∈ l, Wf mk t := by
  rw [WfL, formL_all] at h
  exact fun t ht => List.all_eq_true.mp h t ht
theorem WfL_mem {mk : List (Str × Int)} {l : List PV} (h : ∀ t ∈ l, Wf mk t) : WfL mk l := by
  rw [WfL, formL_all]
  exact List.all_eq_true.mpr h
theorem wf_tup {mk : List (Str × Int)} {w : Str} {r : List PV} : Wf mk (.tup (.str w :: r)) ↔ look mk w = some (r.length : Int) ∧ WfL mk r := by
  simp only [Wf, form, Bool.and_eq_true, beq_iff_eq]
theorem wf_inv {mk : List (Str × Int)} : ∀ {t : PV}, Wf mk t → ∃ w r, t = .tup (.str w :: r) ∧ look mk w = some (r.length : Int) ∧ WfL mk r
  | .tup (.str w :: r), h => ⟨w, r, rfl, (wf_tup.mp h).1, (wf_tup.mp h).2⟩
  | .str z, h => by simp [Wf, form] at h
  | .oth, h => by simp [Wf, form] at h
  | .tup [], h => by simp [Wf, form] at h
  | .tup (.oth :: _), h => by simp [Wf, form] at h
  | .tup (.tup _ :: _), h => by simp [Wf, form] at h
theorem wfL_cons {mk : List (Str × Int)} {t : PV} {r : List PV} : WfL mk (t :: r) ↔ Wf mk t ∧ WfL mk r := by
  simp only [WfL, Wf, formL, Bool.and_eq_true]
def widx (mk : List (Str × Int)) (w : Str) : Nat := (mk.map (·.1)).idxOf w
mutual
def keyD (mk : List (Str × Int)) : PV → PyData
  | .str _ => .int 0
  | .oth => .int 0
  | .tup [] => .int 0
  | .tup (.oth :: _) => .int 0
  | .tup (.tup _ :: _) => .int 0
  | .tup (.str w :: r) => .tuple (.int ((1 + vszL r : Nat) : Int) :: .int ((widx mk w : Nat) : Int) :: keyDL mk r)
def keyDL (mk : List (Str × Int)) : List PV → List PyData
  | [] => []
  | t :: r => keyD mk t :: keyDL mk r
end
theorem look_in {mk : List (Str × Int)} {w : Str} {n : Int} (h : look mk w = some n) : w ∈ mk.map (·.1) := by
  unfold look at h
  cases q : mk.find? (fun kv => kv.1 == w) with
  | none => rw [q] at h; cases h
  | some kv =>
    have a := List.mem_of_find?_eq_some q
    have b := List.find?_some q
    have e : kv.1 = w := by simpa using b
    rw [← e]
    exact List.mem_map_of_mem a
theorem widx_lt {mk : List (Str × Int)} {w : Str} (h : w ∈ mk.map (·.1)) : widx mk w < (mk.map (·.1)).length := List.idxOf_lt_length_of_mem h
theorem widx_at {mk : List (Str × Int)} {w : Str} (h : w ∈ mk.map (·.1)) : (mk.map (·.1))[widx mk w]'(widx_lt h) = w := List.getElem_idxOf _
theorem widx_inj {mk : List (Str × Int)} {w w' : Str} (h : w ∈ mk.map (·.1)) (h' : w' ∈ mk.map (·.1)) (e : widx mk w = widx mk w') : w = w' := by
  have a := widx_at h
  have b := widx_at h'
  rw [← a, ← b]
  congr 1
mutual
theorem keyD_inj {mk : List (Str × Int)} : ∀ {x y : PV}, Wf mk x → Wf mk y → PyData.eqv (keyD mk x) (keyD mk y) = true → x = y
  | .tup (.str w :: r), .tup (.str w' :: r'), hx, hy, e => by
    obtain ⟨l1, f1⟩ := wf_tup.mp hx
    obtain ⟨l2, f2⟩ := wf_tup.mp hy
    simp only [keyD, PyData.eqv, PyData.eqvAll, Bool.and_eq_true, beq_iff_eq] at e
    have ew : w = w' := widx_inj (look_in l1) (look_in l2) (by have := e.2.1; omega)
    rw [ew, keyDL_inj f1 f2 e.2.2]
  | .str z, _, hx, _, _ => by simp [Wf, form] at hx
  | .oth, _, hx, _, _ => by simp [Wf, form] at hx
  | .tup [], _, hx, _, _ => by simp [Wf, form] at hx
  | .tup (.oth :: _), _, hx, _, _ => by simp [Wf, form] at hx
  | .tup (.tup _ :: _), _, hx, _, _ => by simp [Wf, form] at hx
  | .tup (.str _ :: _), .str z, _, hy, _ => by simp [Wf, form] at hy
  | .tup (.str _ :: _), .oth, _, hy, _ => by simp [Wf, form] at hy
  | .tup (.str _ :: _), .tup [], _, hy, _ => by simp [Wf, form] at hy
  | .tup (.str _ :: _), .tup (.oth :: _), _, hy, _ => by simp [Wf, form] at hy
  | .tup (.str _ :: _), .tup (.tup _ :: _), _, hy, _ => by simp [Wf, form] at hy
theorem keyDL_inj {mk : List (Str × Int)} : ∀ {x y : List PV}, WfL mk x → WfL mk y → PyData.eqvAll (keyDL mk x) (keyDL mk y) = true → x = y
  | [], [], _, _, _ => rfl
  | [], _ :: _, _, _, e => by simp [keyDL, PyData.eqvAll] at e
  | _ :: _, [], _, _, e => by simp [keyDL, PyData.eqvAll] at e
  | x :: r, y :: s, hx, hy, e => by
    simp only [keyDL, PyData.eqvAll, Bool.and_eq_true] at e
    rw [keyD_inj (wfL_cons.mp hx).1 (wfL_cons.mp hy).1 e.1, keyDL_inj (wfL_cons.mp hx).2 (wfL_cons.mp hy).2 e.2]
end
mutual
theorem keyD_self {mk : List (Str × Int)} : ∀ {x : PV}, PyData.eqv (keyD mk x) (keyD mk x) = true
  | .tup (.str w :: r) => by simp only [keyD, PyData.eqv, PyData.eqvAll, beq_self_eq_true, keyDL_self, Bool.and_self]
  | .str z => by simp [keyD, PyData.eqv]
  | .oth => by simp [keyD, PyData.eqv]
  | .tup [] => by simp [keyD, PyData.eqv]
  | .tup (.oth :: _) => by simp [keyD, PyData.eqv]
  | .tup (.tup _ :: _) => by simp [keyD, PyData.eqv]
theorem keyDL_self {mk : List (Str × Int)} : ∀ {x : List PV}, PyData.eqvAll (keyDL mk x) (keyDL mk x) = true
  | [] => by simp [keyDL, PyData.eqvAll]
  | x :: r => by simp only [keyDL, PyData.eqvAll, keyD_self, keyDL_self, Bool.and_self]
end
mutual
theorem alike_key {mk : List (Str × Int)} : ∀ {x y : PV}, Wf mk x → Wf mk y → PySem.W.alike (keyD mk x) (keyD mk y) = true
  | .tup (.str w :: r), .tup (.str w' :: r'), hx, hy => by
    simp only [keyD, PySem.W.alike, PySem.W.alikeAll, Bool.true_and]
    exact alike_keyL (wf_tup.mp hx).2 (wf_tup.mp hy).2
  | .str z, _, hx, _ => by simp [Wf, form] at hx
  | .oth, _, hx, _ => by simp [Wf, form] at hx
  | .tup [], _, hx, _ => by simp [Wf, form] at hx
  | .tup (.oth :: _), _, hx, _ => by simp [Wf, form] at hx
  | .tup (.tup _ :: _), _, hx, _ => by simp [Wf, form] at hx
  | .tup (.str _ :: _), .str z, _, hy => by simp [Wf, form] at hy
  | .tup (.str _ :: _), .oth, _, hy => by simp [Wf, form] at hy
  | .tup (.str _ :: _), .tup [], _, hy => by simp [Wf, form] at hy
  | .tup (.str _ :: _), .tup (.oth :: _), _, hy => by simp [Wf, form] at hy
  | .tup (.str _ :: _), .tup (.tup _ :: _), _, hy => by simp [Wf, form] at hy
theorem alike_keyL {mk : List (Str × Int)} : ∀ {x y : List PV}, WfL mk x → WfL mk y → PySem.W.alikeAll (keyDL mk x) (keyDL mk y) = true
  | [], [], _, _ => by simp [keyDL, PySem.W.alikeAll]
  | [], _ :: _, _, _ => by simp [keyDL, PySem.W.alikeAll]
  | _ :: _, [], _, _ => by simp [keyDL, PySem.W.alikeAll]
  | x :: r, y :: s, hx, hy => by
    simp only [keyDL, PySem.W.alikeAll, alike_key (wfL_cons.mp hx).1 (wfL_cons.mp hy).1, alike_keyL (wfL_cons.mp hx).2 (wfL_cons.mp hy).2, Bool.and_self]
end
/-- the key of x is less than that of y -/
def klt (mk : List (Str × Int)) (x y : PV) : Bool := PySem.W.dataLt (keyD mk x) (keyD mk y)
def kltL (mk : List (Str × Int)) (x y : List PV) : Bool := PySem.W.rowLt (keyDL mk x) (keyDL mk y)
theorem klt_eq {mk : List (Str × Int)} (w w' : Str) (r r' : List PV) : klt mk (.tup (.str w :: r)) (.tup (.str w' :: r')) = if vszL r = vszL r' then (if widx mk w = widx mk w' then kltL mk r r' else decide (widx mk w < widx mk w')) else decide (vszL r < vszL r') := by
  unfold klt kltL PySem.W.rowLt
  simp only [keyD]
  rw [PySem.W.dataLt_tuple, PySem.W.dataLt_cons (by simp [PySem.W.alike]), PySem.W.dataLt_cons (by simp [PySem.W.alike]), PySem.W.dataLt_int, PySem.W.dataLt_int]
  simp only [PyData.eqv, beq_iff_eq]
  by_cases h : vszL r = vszL r'
  · rw [if_pos h, if_pos (by omega)]
    by_cases h2 : widx mk w = widx mk w'
    · rw [if_pos h2, if_pos (by omega)]
    · rw [if_neg h2, if_neg (by omega)]
      exact decide_eq_decide.mpr (by omega)
  · rw [if_neg h, if_neg (by omega)]
    exact decide_eq_decide.mpr (by omega)
theorem kltL_nil (mk : List (Str × Int)) : kltL mk [] [] = false := PyProof.Rows.lex_irrefl _
theorem kltL_self {mk : List (Str × Int)} (x : PV) (r r' : List PV) (hx : Wf mk x) : kltL mk (x :: r) (x :: r') = kltL mk r r' := by
  unfold kltL PySem.W.rowLt
  simp only [keyDL]
  rw [PySem.W.dataLt_cons (alike_key hx hx), if_pos keyD_self]
theorem kltL_ne {mk : List (Str × Int)} {x y : PV} (r r' : List PV) (hx : Wf mk x) (hy : Wf mk y) (n : x ≠ y) : kltL mk (x :: r) (y :: r') = klt mk x y := by
  unfold kltL PySem.W.rowLt klt
  simp only [keyDL]
  rw [PySem.W.dataLt_cons (alike_key hx hy), if_neg (fun e => n (keyD_inj hx hy e))]
theorem klt_irrefl (mk : List (Str × Int)) (x : PV) : klt mk x x = false := PyProof.Rows.lex_irrefl _
theorem klt_trans {mk : List (Str × Int)} {x y z : PV} (h : klt mk x y = true) (g : klt mk y z = true) : klt mk x z = true := PyProof.Rows.lex_trans _ _ _ h g
theorem klt_asym {mk : List (Str × Int)} {x y : PV} (h : klt mk x y = true) : klt mk y x = false := by
  cases q : klt mk y x with
  | false => rfl
  | true =>
    have := klt_trans h q
    rw [klt_irrefl] at this
    cases this
/-- -1, 0, 1 -/
def ordT (mk : List (Str × Int)) (x y : PV) : Int := (if klt mk y x = true then 1 else 0) - (if klt mk x y = true then 1 else 0)
theorem ord_lt {mk : List (Str × Int)} {x y : PV} (h : klt mk x y = true) : ordT mk x y = -1 := by
  unfold ordT
  rw [h, klt_asym h]; rfl
theorem ord_gt {mk : List (Str × Int)} {x y : PV} (h : klt mk y x = true) : ordT mk x y = 1 := by
  unfold ordT
  rw [h, klt_asym h]; rfl
theorem ord_self (mk : List (Str × Int)) (x : PV) : ordT mk x x = 0 := by
  unfold ordT
  rw [klt_irrefl]; rfl
theorem ord_iff {mk : List (Str × Int)} {x y : PV} : ordT mk x y = -1 ↔ klt mk x y = true := by
  constructor
  · intro h
    unfold ordT at h
    cases q : klt mk x y with
    | true => rfl
    | false => rw [q] at h; split at h <;> simp at h
  · exact ord_lt
end Kx
/-! The values of each size, in their order. -/
namespace Kx
open PySem PySem.Spec PyProof.Rows L2
theorem vsz_one : ∀ t : PV, 1 ≤ vsz t
  | .str _ => by simp [vsz]
  | .oth => by simp [vsz]
  | .tup [] => by simp [vsz]
  | .tup (_ :: _) => by simp [vsz]
theorem klt_size {mk : List (Str × Int)} {x y : PV} (hx : Wf mk x) (hy : Wf mk y) (h : vsz x < vsz y) : klt mk x y = true := by
  obtain ⟨w, r, rfl, _⟩ := wf_inv hx
  obtain ⟨w', r', rfl, _⟩ := wf_inv hy
  simp only [vsz] at h
  rw [klt_eq, if_neg (by omega)]
  exact decide_eq_true (by omega)
mutual
theorem klt_total {mk : List (Str × Int)} : ∀ {x y : PV}, Wf mk x → Wf mk y → klt mk x y = false → klt mk y x = false → x = y
  | .tup (.str w :: r), y, hx, hy, h, g => by
    obtain ⟨w', r', rfl, l2, f2⟩ := wf_inv hy
    obtain ⟨l1, f1⟩ := wf_tup.mp hx
    rw [klt_eq] at h g
    by_cases e : vszL r = vszL r'
    · rw [if_pos e] at h
      rw [if_pos e.symm] at g
      by_cases e2 : widx mk w = widx mk w'
      · rw [if_pos e2] at h
        rw [if_pos e2.symm] at g
        have ew := widx_inj (look_in l1) (look_in l2) e2
        subst ew
        rw [l1] at l2
        have ll : r.length = r'.length := by
          have := Option.some.inj l2
          omega
        rw [kltL_total f1 f2 ll h g]
      · rw [if_neg e2] at h
        rw [if_neg (fun q => e2 q.symm)] at g
        have a := of_decide_eq_false h
        have b := of_decide_eq_false g
        omega
    · rw [if_neg e] at h
      rw [if_neg (fun q => e q.symm)] at g
      have a := of_decide_eq_false h
      have b := of_decide_eq_false g
      omega
  | .str z, _, hx, _, _, _ => by simp [Wf, form] at hx
  | .oth, _, hx, _, _, _ => by simp [Wf, form] at hx
  | .tup [], _, hx, _, _, _ => by simp [Wf, form] at hx
  | .tup (.oth :: _), _, hx, _, _, _ => by simp [Wf, form] at hx
  | .tup (.tup _ :: _), _, hx, _, _, _ => by simp [Wf, form] at hx
theorem kltL_total {mk : List (Str × Int)} : ∀ {x y : List PV}, WfL mk x → WfL mk y → x.length = y.length → kltL mk x y = false → kltL mk y x = false → x = y
  | [], [], _, _, _, _, _ => rfl
  | [], _ :: _, _, _, l, _, _ => by simp at l
  | _ :: _, [], _, _, l, _, _ => by simp at l
  | x :: r, y :: s, hx, hy, l, h, g => by
    obtain ⟨x1, x2⟩ := wfL_cons.mp hx
    obtain ⟨y1, y2⟩ := wfL_cons.mp hy
    by_cases e : x = y
    · subst e
      rw [kltL_self x r s x1] at h
      rw [kltL_self x s r x1] at g
      rw [kltL_total x2 y2 (by simpa using l) h g]
    · rw [kltL_ne r s x1 y1 e] at h
      rw [kltL_ne s r y1 x1 (fun q => e q.symm)] at g
      exact absurd (klt_total x1 y1 h g) e
end
/-- the rows of so many things of this size in total -/
def prt (R : List (List PV)) : Nat → Nat → List (List PV)
  | 0, t => if t = 0 then [[]] else []
  | k + 1, t => (List.range' 1 (t - k)).flatMap fun l => (R.getD l []).flatMap fun a => (prt R k (t - l)).map (a :: ·)
theorem prt_mem {mk : List (Str × Int)} {R : List (List PV)} (h : ∀ l, ∀ x ∈ R.getD l [], Wf mk x ∧ vsz x = l) : ∀ (k t : Nat) {r : List PV}, r ∈ prt R k t → WfL mk r ∧ r.length = k ∧ vszL r = t ∧ ∀ x ∈ r, x ∈ R.getD (vsz x) []
  | 0, t, r, hr => by
    unfold prt at hr
    split at hr
    · rename_i e
      rw [List.mem_singleton.mp hr]
      exact ⟨rfl, rfl, by simp only [vszL]; omega, fun x hx => by cases hx⟩
    · simp at hr
  | k + 1, t, r, hr => by
    unfold prt at hr
    obtain ⟨l, hl, hr⟩ := List.mem_flatMap.mp hr
    obtain ⟨a, ha, hr⟩ := List.mem_flatMap.mp hr
    obtain ⟨s, hs, rfl⟩ := List.mem_map.mp hr
    obtain ⟨w, n, z, q⟩ := prt_mem h k (t - l) hs
    obtain ⟨w1, n1⟩ := h l a ha
    have hl' := List.mem_range'_1.mp hl
    refine ⟨wfL_cons.mpr ⟨w1, w⟩, by simp [n], by simp only [vszL]; omega, fun x hx => ?_⟩
    rcases List.mem_cons.mp hx with rfl | hx
    · rw [n1]; exact ha
    · exact q x hx
theorem vszL_ge : ∀ l : List PV, l.length ≤ vszL l
  | [] => Nat.zero_le _
  | t :: r => by
    have := vszL_ge r
    have := vsz_one t
    simp only [vszL, List.length_cons]; omega
theorem prt_all {R : List (List PV)} : ∀ {r : List PV}, (∀ x ∈ r, x ∈ R.getD (vsz x) []) → r ∈ prt R r.length (vszL r)
  | [], _ => by simp [prt, vszL]
  | a :: s, h => by
    have ih := prt_all (r := s) fun x hx => h x (List.mem_cons_of_mem _ hx)
    have g := vszL_ge s
    have p := vsz_one a
    show a :: s ∈ (List.range' 1 (vszL (a :: s) - s.length)).flatMap fun l => (R.getD l []).flatMap fun b => (prt R s.length (vszL (a :: s) - l)).map (b :: ·)
    refine List.mem_flatMap.mpr ⟨vsz a, List.mem_range'_1.mpr ⟨p, by simp only [vszL]; omega⟩, List.mem_flatMap.mpr ⟨a, h a (List.mem_cons_self ..), List.mem_map.mpr ⟨s, ?_, rfl⟩⟩⟩
    have e : vszL (a :: s) - vsz a = vszL s := by simp only [vszL]; omega
    rw [e]; exact ih
theorem prt_srt {mk : List (Str × Int)} {R : List (List PV)} (h : ∀ l, ∀ x ∈ R.getD l [], Wf mk x ∧ vsz x = l) (hs : ∀ l, (R.getD l []).Pairwise fun x y => klt mk x y = true) : ∀ (k t : Nat), (prt R k t).Pairwise fun x y => kltL mk x y = true
  | 0, t => by
    unfold prt
    split
    · exact List.pairwise_singleton _ _
    · exact List.Pairwise.nil
  | k + 1, t => by
    unfold prt
    refine List.pairwise_flatMap.mpr ⟨fun l hl => List.pairwise_flatMap.mpr ⟨fun a ha => ?_, ?_⟩, ?_⟩
    · refine List.pairwise_map.mpr ((prt_srt h hs k (t - l)).imp fun {x y} e => ?_)
      rw [kltL_self a x y (h l a ha).1]; exact e
    · refine List.Pairwise.imp_of_mem (fun {a b} ha hb e x hx y hy => ?_) (hs l)
      obtain ⟨x', _, rfl⟩ := List.mem_map.mp hx
      obtain ⟨y', _, rfl⟩ := List.mem_map.mp hy
      rw [kltL_ne x' y' (h l a ha).1 (h l b hb).1 (fun q => by rw [q, klt_irrefl] at e; cases e)]
      exact e
    · refine (List.pairwise_lt_range' (s := 1) (n := t - k)).imp fun {l m} hlm x hx y hy => ?_
      obtain ⟨a, ha, hx⟩ := List.mem_flatMap.mp hx
      obtain ⟨b, hb, hy⟩ := List.mem_flatMap.mp hy
      obtain ⟨x', _, rfl⟩ := List.mem_map.mp hx
      obtain ⟨y', _, rfl⟩ := List.mem_map.mp hy
      obtain ⟨wa, sa⟩ := h l a ha
      obtain ⟨wb, sb⟩ := h m b hb
      rw [kltL_ne x' y' wa wb (fun q => by rw [q] at sa; omega)]
      exact klt_size wa wb (by omega)
/-! ### the values -/
/-- it has an index -/
noncomputable def Good (cs : List Con) (t : PV) : Bool := (idxOf cs t).isSome
noncomputable def nxtV (cs : List Con) (R : List (List PV)) : List PV := cs.flatMap fun c => ((prt R c.ps.length (R.length - 1)).map fun r => PV.tup (.str c.w :: r)).filter (Good cs)
noncomputable def rowsV (cs : List Con) : Nat → List (List PV)
  | 0 => [[]]
  | n + 1 => rowsV cs n ++ [nxtV cs (rowsV cs n)]
theorem rowsV_len (cs : List Con) : ∀ n, (rowsV cs n).length = n + 1
  | 0 => rfl
  | n + 1 => by simp [rowsV, rowsV_len cs n]
structure RwOk (cs : List Con) (R : List (List PV)) : Prop where
  one : 1 ≤ R.length
  wf : ∀ l, ∀ x ∈ R.getD l [], Wf (cnts cs) x ∧ vsz x = l
  all : ∀ l, l < R.length → ∀ x, Wf (cnts cs) x → vsz x = l → Good cs x = true → x ∈ R.getD l []
  ok : ∀ l, ∀ x ∈ R.getD l [], Good cs x = true
  srt : ∀ l, (R.getD l []).Pairwise fun x y => klt (cnts cs) x y = true
theorem getD_snoc (R : List (List PV)) (q : List PV) (l : Nat) : (R ++ [q]).getD l [] = if l = R.length then q else R.getD l [] := by
  simp only [List.getD_eq_getElem?_getD]
  by_cases h : l = R.length
  · rw [if_pos h, h, List.getElem?_append_right (Nat.le_refl _), Nat.sub_self]; rfl
  · rw [if_neg h]
    rcases Nat.lt_or_ge l R.length with g | g
    · rw [List.getElem?_append_left g]
    · rw [List.getElem?_append_right g, List.getElem?_eq_none (by simp; omega), List.getElem?_eq_none g]
theorem look_cnt {cs : List Con} (nd : (cs.map Con.w).Nodup) {c : Con} (hc : c ∈ cs) : look (cnts cs) c.w = some (c.ps.length : Int) := by
  induction cs with
  | nil => cases hc
  | cons a r ih =>
    obtain ⟨n1, n2⟩ := List.nodup_cons.mp nd
    unfold look cnts
    rw [List.map_cons]
    by_cases e : a.w = c.w
    · rcases List.mem_cons.mp hc with rfl | h
      · simp
      · exact absurd (List.mem_map.mpr ⟨c, h, e.symm⟩) n1
    · rw [List.find?_cons_of_neg (by simpa using e)]
      rcases List.mem_cons.mp hc with rfl | h
      · exact absurd rfl e
      · exact ih n2 h
theorem cnt_look {cs : List Con} {w : Str} {n : Int} (h : look (cnts cs) w = some n) : ∃ c ∈ cs, c.w = w ∧ (c.ps.length : Int) = n := by
  unfold look at h
  obtain ⟨kv, hk, e⟩ := Option.map_eq_some_iff.mp h
  have a := List.mem_of_find?_eq_some hk
  have b := List.find?_some hk
  unfold cnts at a
  obtain ⟨c, hc, rfl⟩ := List.mem_map.mp a
  exact ⟨c, hc, by simpa using b, e⟩
theorem good_parts {cs : List Con} (nd : (cs.map Con.w).Nodup) {w : Str} {r : List PV} (h : Good cs (.tup (.str w :: r)) = true) (wf : Wf (cnts cs) (.tup (.str w :: r))) : ∀ x ∈ r, Good cs x = true := by
  unfold Good at h
  obtain ⟨y, hy⟩ := Option.isSome_iff_exists.mp h
  simp only [idxOf] at hy
  cases fc : cs.find? (fun c => c.w == w) with
  | none => rw [fc] at hy; cases hy
  | some c =>
    rw [fc] at hy
    dsimp only at hy
    unfold madeK treesFor at hy
    obtain ⟨al, ha, _⟩ := Option.map_eq_some_iff.mp hy
    obtain ⟨lk, _⟩ := wf_tup.mp wf
    have hc := List.mem_of_find?_eq_some fc
    have ew : c.w = w := by simpa using List.find?_some fc
    have lc := look_cnt nd hc
    rw [ew, lk] at lc
    have ll : c.ps.length = (idxL cs r).length := by
      rw [idxL_map, List.length_map]
      have := Option.some.inj lc
      omega
    split at ha
    · rename_i g
      intro x hx
      have hk := goodK_some ll g (idxOf cs x) (by rw [idxL_map]; exact List.mem_map.mpr ⟨x, hx, rfl⟩)
      obtain ⟨z, hz⟩ := hk
      unfold Good
      rw [hz]; rfl
    · cases ha
theorem nd_idx {l : List Str} (nd : l.Nodup) : l.Pairwise fun a b => l.idxOf a < l.idxOf b := by
  rw [List.pairwise_iff_getElem]
  intro i j hi hj hij
  rw [nd.idxOf_getElem i hi, nd.idxOf_getElem j hj]
  exact hij
theorem cs_idx {cs : List Con} (nd : (cs.map Con.w).Nodup) : cs.Pairwise fun a b => widx (cnts cs) a.w < widx (cnts cs) b.w := by
  have e : (cnts cs).map (·.1) = cs.map Con.w := by rw [cnts, List.map_map]; rfl
  unfold widx
  rw [e]
  exact (List.pairwise_map (f := Con.w) (R := fun a b => (cs.map Con.w).idxOf a < (cs.map Con.w).idxOf b)).mp (nd_idx nd)
theorem rows_ok {cs : List Con} (nd : (cs.map Con.w).Nodup) : ∀ n, RwOk cs (rowsV cs n)
  | 0 => by
    have e : ∀ l, ([[]] : List (List PV)).getD l [] = [] := fun l => by cases l <;> rfl
    refine ⟨Nat.le_refl 1, fun l x hx => ?_, fun l hl x wf hz _ => ?_, fun l x hx => ?_, fun l => ?_⟩
    · rw [rowsV, e] at hx; cases hx
    · have : l = 0 := by simp [rowsV] at hl; exact hl
      have := vsz_one x
      omega
    · rw [rowsV, e] at hx; cases hx
    · rw [rowsV, e]; exact .nil
  | n + 1 => by
    have ih := rows_ok nd n
    have ln := rowsV_len cs n
    have mem : ∀ x, x ∈ nxtV cs (rowsV cs n) → Wf (cnts cs) x ∧ vsz x = n + 1 ∧ Good cs x = true := fun x hx => by
      obtain ⟨c, hc, hx⟩ := List.mem_flatMap.mp hx
      obtain ⟨hx, g⟩ := List.mem_filter.mp hx
      obtain ⟨r, hr, rfl⟩ := List.mem_map.mp hx
      obtain ⟨wl, nl, zl, _⟩ := prt_mem ih.wf _ _ hr
      exact ⟨wf_tup.mpr ⟨by rw [look_cnt nd hc, nl], wl⟩, by simp only [vsz]; omega, g⟩
    refine ⟨by simp [rowsV], fun l x hx => ?_, fun l hl x wf hz g => ?_, fun l x hx => ?_, fun l => ?_⟩
    · rw [rowsV, getD_snoc] at hx
      split at hx
      · rename_i e
        obtain ⟨a, b, _⟩ := mem x hx
        exact ⟨a, by omega⟩
      · exact ih.wf l x hx
    · rw [rowsV_len] at hl
      rw [rowsV, getD_snoc]
      split
      · rename_i e
        obtain ⟨w, r, rfl, lk, fl⟩ := wf_inv wf
        obtain ⟨c, hc, rfl, ec⟩ := cnt_look lk
        refine List.mem_flatMap.mpr ⟨c, hc, List.mem_filter.mpr ⟨List.mem_map.mpr ⟨r, ?_, rfl⟩, g⟩⟩
        have lr : c.ps.length = r.length := by omega
        have zr : (rowsV cs n).length - 1 = vszL r := by
          simp only [vsz] at hz
          omega
        rw [lr, zr]
        refine prt_all fun x hx => ?_
        have gp := good_parts nd g wf x hx
        have xz : vsz x ≤ vszL r := by
          have key : ∀ {l : List PV} {x : PV}, x ∈ l → vsz x ≤ vszL l := by
            intro l
            induction l with
            | nil => intro x h; cases h
            | cons a q ih2 =>
              intro x h
              simp only [vszL]
              rcases List.mem_cons.mp h with rfl | h
              · omega
              · have := ih2 h; omega
          exact key hx
        exact ih.all (vsz x) (by omega) x (mem_WfL fl x hx) rfl gp
      · exact ih.all l (by omega) x wf hz g
    · rw [rowsV, getD_snoc] at hx
      split at hx
      · exact (mem x hx).2.2
      · exact ih.ok l x hx
    · rw [rowsV, getD_snoc]
      split
      · refine List.pairwise_flatMap.mpr ⟨fun c hc => ?_, ?_⟩
        · refine List.Pairwise.filter _ (List.pairwise_map.mpr (List.Pairwise.imp_of_mem (fun {x y} hx hy e => ?_) (prt_srt ih.wf ih.srt _ _)))
          have a := prt_mem ih.wf _ _ hx
          have b := prt_mem ih.wf _ _ hy
          rw [klt_eq, if_pos (by omega), if_pos rfl]
          exact e
        · refine (cs_idx nd).imp fun {k m} hkm x hx y hy => ?_
          obtain ⟨r, hr, rfl⟩ := List.mem_map.mp (List.mem_filter.mp hx).1
          obtain ⟨s, hs, rfl⟩ := List.mem_map.mp (List.mem_filter.mp hy).1
          have a := prt_mem ih.wf _ _ hr
          have b := prt_mem ih.wf _ _ hs
          rw [klt_eq, if_pos (by omega), if_neg (by omega)]
          exact decide_eq_true hkm
      · exact ih.srt l
end Kx
namespace Kx
open PySem PySem.Spec PyProof.Rows L2
section
variable {P : Program} {w : World} {K : PySem.W.Frag} {mg : Str → Option Value} {base : Heap}
set_option pp.maxSteps 1500
theorem tree_inv {mk : List (Str × Int)} {H : Hp} {v : V} {t : PV} (hI : Is H v t) (hT : Wf mk t) : ∃ a w vs ts, v = .ref a ∧ t = .tup (.str w :: ts) ∧ H a = some (.tup (.str w :: vs)) ∧ IsL H vs ts ∧ sok w = true ∧ look mk w = some (ts.length : Int) ∧ WfL mk ts := by
  obtain ⟨w, ts, rfl, h1, h3⟩ := wf_inv hT
  obtain ⟨a, vs, rfl, ea, hL⟩ := hI.tup_inv
  cases hL with
  | cons h0 hL =>
    cases h0 with
    | str z k => exact ⟨a, w, _, ts, rfl, rfl, ea, hL, k, h1, h3⟩
theorem vszL_take' {ts : List PV} {i : Nat} {y : PV} (h : ts[i]? = some y) : vszL (ts.take (i + 1)) = vszL (ts.take i) + vsz y := by
  induction ts generalizing i with
  | nil => simp at h
  | cons t r ih =>
    cases i with
    | zero => cases (Option.some.inj h); simp [vszL]
    | succ i =>
      have := ih (i := i) (by simpa using h)
      simp only [List.take_succ_cons, vszL]
      omega
def spSizeT (n : Nat) : Sp := fun vs H Q _ => ∃ (v : V) (mk : List (Str × Int)) (t : PV), vs = [v] ∧ Is H v t ∧ Wf mk t ∧ dep t ≤ n ∧ ∀ H', Same H H' → Q (.int ((vsz t : Nat) : Int)) H'
theorem ok_size {n : Nat} (T : Txt K mg) (G_size : FnOk P w K mg base CX0 (n+1) T.a_size T.d_size ["term"] (spSizeT n)) : FnOk P w K mg base CX0 (n+2) T.a_size T.d_size ["term"] (spSizeT (n+1)) := by
  refine T.F_size.ok sc_size (fun vs H Q E h => ?_) (fun cdv A outer s H vs Q E hr h => ?_)
  · obtain ⟨v, mk, t, rfl, _⟩ := h; rfl
  · obtain ⟨v, mk, t, rfl, hI, hT, hn, q⟩ := h
    have hr_size := hr
    refine ⟨_, (pss_cons (ps_if (pt_val (pe_callB call_isi (by rfl) T.z_isinstance (by decide +kernel) (pa_cons (pv 0) (pa_cons (pe_bltn rfl T.z_str (by decide +kernel) (show RelV (V.ty "str") (Value.type "str") from rfl)) pa_nil)))) (pss_one (ps_ret pe_int)) pss_nil)
    (pss_cons (ps_set (i := 1) sc_size.nd rfl (Or.inl rfl) pe_int)
    (pss_cons (ps_for PassesOwn.never rfl (pi_tup (pe_slice sl_tup (pv 0) (po_some pe_int) po_none)) (pg_name (i := 2) sc_size.nd rfl (Or.inl rfl))
    (pss_one (ps_aug (i := 1) sc_size.nd rfl (Or.inl rfl) (pe_call G_size hr_size rfl T.m_size T.F_size.kp T.b_size .nil pass0 (pa_cons (pv 2) pa_nil)) ip_add)))
    (pss_one (ps_ret (pv 1)))))), ?_⟩
    obtain ⟨a, w, vs, ts, rfl, rfl, ea, hL, kw, lk, hTl⟩ := tree_inv hI hT
    have hlen := hL.len
    rw [dep_cons] at hn
    refine ⟨_, rfl, _, _, _, _, _, rfl, .ty _, .base (.tup ea), kit_ty (show kitB "tuple" "str" = some false by decide +kernel), _, rfl, iteF ?_⟩
    refine ⟨_, rfl, _, rfl, a, _, rfl, .inl (.inl ea), slice1, fun p1 h1 => ?_⟩
    rw [cut1]
    have s1 := same_upd h1 (.tup vs)
    refine ⟨p1, rfl, ⟨_, .inl (.inl upd_same)⟩, ?_⟩
    refine for_tup (K := K) (a := p1) (xs := vs) (fun i σ H2 => ∃ y3, σ = [some (.ref a), some (.int ((1 + vszL (ts.take i) : Nat) : Int)), y3] ∧ Same (upd H p1 (.tup vs)) H2) ?_ ?_ ?_ ?_
    · exact ⟨_, rfl, .refl _⟩
    · exact fun i σ H2 _ ⟨_, _, sm⟩ => .inl (.inl (sm _ _ upd_same))
    · intro i x σ H2 hx ⟨y3, es, sm⟩
      subst es
      obtain ⟨y, ey, hy⟩ := hL.get hx
      have hm := List.mem_of_getElem? ey
      have cy := depL_mem hm
      have s12 := s1.trans sm
      refine ⟨_, rfl, _, rfl, x, mk, y, rfl, hy.same s12, mem_WfL hTl y hm, by omega, fun H3 s3 => ?_⟩
      refine ⟨_, _, rfl, rfl, some x, ?_, sm.trans s3⟩
      rw [vszL_take' ey]
      show [some (V.ref a), some (V.int (((1 + vszL (ts.take i) : Nat) : Int) + (vsz y : Int))), some x] = _
      have e : (((1 + vszL (ts.take i) : Nat) : Int) + (vsz y : Int)) = ((1 + (vszL (ts.take i) + vsz y) : Nat) : Int) := by omega
      rw [e]
    · intro σ H2 ⟨y3, es, sm⟩
      subst es
      rw [hlen, List.take_length]
      exact ⟨_, rfl, q H2 (s1.trans sm)⟩
theorem mk_get {H : Hp} {ps : List Addr} {mk : List (Str × Int)} (h : Paired (fun p kv => H p = some (.tup [.str kv.1, .int kv.2])) ps mk) : ∀ {i : Nat} {x : V}, (ps.map V.ref)[i]? = some x → ∃ p kv, x = .ref p ∧ mk[i]? = some kv ∧ H p = some (.tup [.str kv.1, .int kv.2]) := by
  induction h with
  | nil => intro i x hx; simp at hx
  | cons a t ih =>
    intro i x hx
    cases i with
    | zero => cases (Option.some.inj hx); exact ⟨_, _, rfl, rfl, a⟩
    | succ i => exact ih (by simpa using hx)
theorem words_ix {mk : List (Str × Int)} {w : Str} (nd : (mk.map (·.1)).Nodup) (h : w ∈ mk.map (·.1)) : ((mk.map (·.1)).map V.str).all flatV = true ∧ ((mk.map (·.1)).map V.str)[widx mk w]? = some (.str w) ∧ L2.eqV (.str w) (.str w) = true ∧
    ∀ (m : Nat) (z' : V), m < widx mk w → ((mk.map (·.1)).map V.str)[m]? = some z' → L2.eqV z' (.str w) = false := by
  refine ⟨List.all_eq_true.mpr fun x hx => ?_, ?_, ?_, fun m z' hm hz => ?_⟩
  · obtain ⟨z, _, rfl⟩ := List.mem_map.mp hx; rfl
  · rw [List.getElem?_map, List.getElem?_eq_getElem (widx_lt h), widx_at h]; rfl
  · show (w == w) = true; simp
  · have hl : m < (mk.map (·.1)).length := Nat.lt_trans hm (widx_lt h)
    rw [List.getElem?_map, List.getElem?_eq_getElem hl] at hz
    cases (Option.some.inj hz)
    show ((mk.map (·.1))[m] == w) = false
    refine beq_eq_false_iff_ne.mpr fun z => ?_
    have := nd.idxOf_getElem m hl
    rw [z] at this
    unfold widx at hm
    omega
theorem map_take_succ {mk : List (Str × Int)} {i : Nat} {kv : Str × Int} (h : mk[i]? = some kv) : ((mk.take (i + 1)).map (·.1)).map V.str = ((mk.take i).map (·.1)).map V.str ++ [V.str kv.1] := by
  obtain ⟨hi, e⟩ := List.getElem?_eq_some_iff.mp h
  rw [List.take_succ_eq_append_getElem hi, e, List.map_append, List.map_append]; rfl
theorem MkF.same {H H' : Hp} {m : Addr} {mk : List (Str × Int)} (s : Same H H') (h : MkF H m mk) : MkF H' m mk := by
  obtain ⟨o, ps, e, d, p⟩ := h
  exact ⟨o, ps, s _ _ e, d, Paired.imp p fun _ _ e => s _ _ e⟩
theorem wf_tm {mk : List (Str × Int)} {t : PV} (h : Wf mk t) : Tm t := form_tm t h
theorem neD_iff {y z : PV} (hy : NoO y) (hz : NoO z) : (!PyData.eqv (toD y) (toD z)) = true ↔ y ≠ z := by
  rw [eqv_one hy hz]
  simp
def spOrder (n : Nat) : Sp := fun vs H Q _ => ∃ (m : Addr) (mk : List (Str × Int)) (v u : V) (t s : PV), vs = [.ref m, v, u] ∧ MkF H m mk ∧ (mk.map (·.1)).Nodup ∧ mk.length ≤ 12 ∧ Is H v t ∧ Is H u s ∧ Wf mk t ∧ Wf mk s ∧ dep t ≤ n ∧ dep t ≤ 60 ∧ dep s ≤ 60 ∧ ∀ H', Same H H' → Q (.int (ordT mk t s)) H'
theorem ord_size {mk : List (Str × Int)} {w w' : Str} {ts ss : List PV} (h : vszL ts ≠ vszL ss) : ordT mk (.tup (.str w :: ts)) (.tup (.str w' :: ss)) = if vszL ts < vszL ss then -1 else 1 := by
  unfold ordT
  rw [klt_eq, klt_eq, if_neg h, if_neg (Ne.symm h)]
  by_cases q : vszL ts < vszL ss
  · have : ¬ vszL ss < vszL ts := by omega
    simp [q, this]
  · have : vszL ss < vszL ts := by omega
    simp [q, this]
theorem ord_word {mk : List (Str × Int)} {w w' : Str} {ts ss : List PV} (h : vszL ts = vszL ss) (n : widx mk w ≠ widx mk w') : ordT mk (.tup (.str w :: ts)) (.tup (.str w' :: ss)) = if widx mk w < widx mk w' then -1 else 1 := by
  unfold ordT
  rw [klt_eq, klt_eq, if_pos h, if_pos h.symm, if_neg n, if_neg (Ne.symm n)]
  by_cases q : widx mk w < widx mk w'
  · have : ¬ widx mk w' < widx mk w := by omega
    simp [q, this]
  · have : widx mk w' < widx mk w := by omega
    simp [q, this]
theorem kltL_drop {mk : List (Str × Int)} : ∀ (i : Nat) {ts ss : List PV}, WfL mk ts → ts.take i = ss.take i → kltL mk ts ss = kltL mk (ts.drop i) (ss.drop i)
  | 0, _, _, _, _ => rfl
  | i + 1, [], [], _, _ => rfl
  | i + 1, [], _ :: _, _, e => by simp at e
  | i + 1, _ :: _, [], _, e => by simp at e
  | i + 1, t :: r, s :: q, h, e => by
    simp only [List.take_succ_cons] at e
    obtain ⟨e1, e2⟩ := List.cons.inj e
    subst e1
    rw [kltL_self _ _ _ (wfL_cons.mp h).1]
    exact kltL_drop i (wfL_cons.mp h).2 e2
theorem ord_part {mk : List (Str × Int)} {w : Str} {ts ss : List PV} {i : Nat} {y z : PV} (hT : WfL mk ts) (hS : WfL mk ss) (h : vszL ts = vszL ss) (e : ts.take i = ss.take i) (ey : ts[i]? = some y) (ez : ss[i]? = some z) (n : y ≠ z) : ordT mk (.tup (.str w :: ts)) (.tup (.str w :: ss)) = ordT mk y z := by
  obtain ⟨h1, e1⟩ := List.getElem?_eq_some_iff.mp ey
  obtain ⟨h2, e2⟩ := List.getElem?_eq_some_iff.mp ez
  have wy := mem_WfL hT y (List.mem_of_getElem? ey)
  have wz := mem_WfL hS z (List.mem_of_getElem? ez)
  unfold ordT
  rw [klt_eq, klt_eq, if_pos h, if_pos h.symm, if_pos rfl, kltL_drop i hT e, kltL_drop i hS e.symm, List.drop_eq_getElem_cons h1, List.drop_eq_getElem_cons h2, e1, e2, kltL_ne _ _ wy wz n, kltL_ne _ _ wz wy (Ne.symm n)]
  simp
theorem ok_order {n : Nat} (T : Txt K mg) (G_size : FnOk P w K mg base CX0 61 T.a_size T.d_size ["term"] (spSizeT 60)) (G_order : FnOk P w K mg base CX0 (n+61) T.a_order T.d_order ["makers", "one", "other"] (spOrder n)) : FnOk P w K mg base CX0 (n+62) T.a_order T.d_order ["makers", "one", "other"] (spOrder (n+1)) := by
  refine T.F_order.ok sc_order (fun vs H Q E h => ?_) (fun cdv A outer s H vs Q E hr h => ?_)
  · obtain ⟨m, mk, v, u, t, s, rfl, _⟩ := h; rfl
  · obtain ⟨m, mk, v, u, t, s', rfl, hM, nd, m5, hI, hJ, hW, hX, hn, d1, d2, q⟩ := h
    have hr_size := hr.mono (show 61 ≤ n + 61 by omega)
    have hr_order := hr
    refine ⟨_, (pss_cons (ps_if (pt_cmpR op_ne (pe_call G_size hr_size rfl T.m_size T.F_size.kp T.b_size .nil pass0 (pa_cons (pv 1) pa_nil)) (pe_call G_size hr_size rfl T.m_size T.F_size.kp T.b_size .nil pass0 (pa_cons (pv 2) pa_nil)) (nomark _)) (pss_one (ps_ret (pe_ifExp (pt_cmpR op_lt (pe_call G_size hr_size rfl T.m_size T.F_size.kp T.b_size .nil pass0 (pa_cons (pv 1) pa_nil)) (pe_call G_size hr_size rfl T.m_size T.F_size.kp T.b_size .nil pass0 (pa_cons (pv 2) pa_nil)) (nomark _)) (pe_un un_neg pe_int) pe_int))) pss_nil)
    (pss_cons (ps_if (pt_cmpR op_ne (pe_ix ix_tup (pv 1) pe_int (fun _ _ => rfl)) (pe_ix ix_tup (pv 2) pe_int (fun _ _ => rfl)) (nomark _)) (pss_cons (ps_setLc (i := 3) (own := [("word", 6), ("_", 7)]) (g := (gTup K 2 (gCons (gName 6) (gCons (gName 7) gNil)))) (tt := tYes) rfl sc_order.nd rfl rfl (sw_true rfl rfl rfl (by decide +kernel)) (pi_tup (pv 0)) (blkOk_by (own := [("word", 6), ("_", 7)]) (N := ["makers", "one", "other", "words", "part", "beside", "word", "_"]) (sc := defScope s_order) (by decide +kernel)) (fun _ _ _ _ _ => (pg_tup rfl (pgs_cons (pg_name (i := 6) sc_order.nd rfl (Or.inl rfl)) (pgs_cons (pg_name (i := 7) sc_order.nd rfl (Or.inl rfl)) pgs_nil)))) (fun _ _ _ _ _ => pts_nil) (fun _ _ _ _ _ => (pv 6)))
    (pss_one (ps_ret (pe_ifExp (pt_cmpR op_lt (pe_bm PySem.F.plainAttrs_list PySem.F.slot_list_index PySem.F.type_list_index mt_index (pv 3) (pa_cons (pe_ix ix_tup (pv 1) pe_int (fun _ _ => rfl)) pa_nil)) (pe_bm PySem.F.plainAttrs_list PySem.F.slot_list_index PySem.F.type_list_index mt_index (pv 3) (pa_cons (pe_ix ix_tup (pv 2) pe_int (fun _ _ => rfl)) pa_nil)) (nomark _)) (pe_un un_neg pe_int) pe_int)))) pss_nil)
    (pss_cons (ps_for PassesOwn.never rfl (RZ.pi_zipA (by rfl) T.z_zip (pa_cons (pe_slice sl_tup (pv 1) (po_some pe_int) po_none) (pa_cons (pe_slice sl_tup (pv 2) (po_some pe_int) po_none) pa_nil))) (pg_tup rfl (pgs_cons (pg_name (i := 4) sc_order.nd rfl (Or.inl rfl)) (pgs_cons (pg_name (i := 5) sc_order.nd rfl (Or.inl rfl)) pgs_nil)))
    (pss_one (ps_if (pt_cmpR (neP (u200 hr)) (pv 4) (pv 5) (nomark _)) (pss_one (ps_ret (pe_call G_order hr_order rfl T.m_order T.F_order.kp T.b_order .nil pass0 (pa_cons (pv 0) (pa_cons (pv 4) (pa_cons (pv 5) pa_nil)))))) pss_nil)))
    (pss_one (ps_ret pe_int))))), ?_⟩
    refine ⟨_, rfl, v, mk, t, rfl, hI, hW, d1, fun H1 s1 => ⟨_, rfl, u, mk, s', rfl, hJ.same s1, hX, d2, fun H2 s2 => ⟨rfl, _, rfl, ?_⟩⟩⟩
    have s12 := s1.trans s2
    obtain ⟨a, w, vs, ts, rfl, rfl, ea, hL, kw, lk, hTl⟩ := tree_inv (hI.same s12) hW
    obtain ⟨b, w', us, ss, rfl, rfl, eb, hL2, kw2, lk2, hSl⟩ := tree_inv (hJ.same s12) hX
    refine ite2 (fun c => ?_) (fun c => ?_)
    · have ne : vszL ts ≠ vszL ss := fun e => by
        rw [show vsz (.tup (.str w :: ts)) = 1 + vszL ts from rfl, show vsz (.tup (.str w' :: ss)) = 1 + vszL ss from rfl, e] at c
        simp at c
      rw [ord_size ne] at q
      refine ⟨_, rfl, _, mk, _, rfl, hI.same s12, hW, d1, fun H3 s3 => ⟨_, rfl, _, mk, _, rfl, hJ.same (s12.trans s3), hX, d2, fun H4 s4 => ?_⟩⟩
      refine ⟨_, _, rfl, rfl, _, rfl, ite2 (fun c2 => ?_) (fun c2 => ?_)⟩
      · have c3 : vszL ts < vszL ss := by
          have : ((1 + vszL ts : Nat) : Int) < ((1 + vszL ss : Nat) : Int) := of_decide_eq_true c2
          omega
        rw [if_pos c3] at q
        exact ⟨_, rfl, q H4 ((s12.trans s3).trans s4)⟩
      · have c3 : ¬ vszL ts < vszL ss := fun h => by
          refine c2 (decide_eq_true ?_)
          show ((1 + vszL ts : Nat) : Int) < ((1 + vszL ss : Nat) : Int)
          omega
        rw [if_neg c3] at q
        exact q H4 ((s12.trans s3).trans s4)
    · have eqz : vszL ts = vszL ss := by
        have : V.int ((vsz (.tup (.str w :: ts)) : Nat) : Int) = V.int ((vsz (.tup (.str w' :: ss)) : Nat) : Int) := by
          refine Classical.byContradiction fun h => c ?_
          rw [decide_eq_false h]; rfl
        have h := V.int.inj this
        rw [show vsz (.tup (.str w :: ts)) = 1 + vszL ts from rfl, show vsz (.tup (.str w' :: ss)) = 1 + vszL ss from rfl] at h
        omega
      have hlen := hL.len
      have hlen2 := hL2.len
      refine ⟨_, rfl, a, _, _, _, rfl, rfl, .inl (.inl ea), atI_nat (j := 0) rfl, _, rfl, b, _, _, _, rfl, rfl, .inl (.inl eb), atI_nat (j := 0) rfl, rfl, _, rfl, ?_⟩
      refine ite2 (fun c2 => ?_) (fun c2 => ?_)
      · have nw : w ≠ w' := fun e => by rw [e] at c2; simp at c2
        have ni : widx mk w ≠ widx mk w' := fun e => nw (widx_inj (look_in lk) (look_in lk2) e)
        rw [ord_word eqz ni] at q
        obtain ⟨o, ps, em, od, pp⟩ := id hM
        have lnP := Paired.length pp
        refine ⟨_, rfl, m, rfl, ⟨_, .inl (.inr ⟨o, s12 _ _ em⟩)⟩, fun D hD => ?_⟩
        refine lc_tup (K := K) (a := m) (xs := ps.map V.ref) (fun i H3 => Same H2 H3 ∧ H3 D = some (.lst (((mk.take i).map (·.1)).map V.str))) ?_ ?_ ?_ ?_
        · exact ⟨same_upd hD _, upd_same⟩
        · exact fun i H3 _ ⟨sm, _⟩ => .inl (.inr ⟨o, sm _ _ (s12 _ _ em)⟩)
        · intro i x H3 hx ⟨sm, eD⟩
          obtain ⟨p, kv, rfl, hkv, ep⟩ := mk_get pp hx
          refine ⟨p, _, rfl, .inl (.inl (sm _ _ (s12 _ _ ep))), rfl, _, _, rfl, _, _, rfl, rfl, rfl, yes_if ?_⟩
          refine ⟨_, rfl, _, eD, ?_, Kx.Same.own sm hD _, ?_⟩
          · rw [List.length_map, List.length_map, List.length_take]; exact small1000 (by omega)
          · rw [map_take_succ hkv, upd_same]
        · intro H3 ⟨sm, eD⟩
          rw [List.length_map, lnP, List.take_length] at eD
          obtain ⟨i1, i2, i3, i4⟩ := words_ix nd (look_in lk)
          obtain ⟨j1, j2, j3, j4⟩ := words_ix nd (look_in lk2)
          refine ⟨_, rfl, .inl ⟨rfl, _, SqL.of eD⟩, _, rfl, a, _, _, _, rfl, rfl, .inl (.inl (sm _ _ ea)), atI_nat (j := 0) rfl, D, _, .str w, widx mk w, .str w, rfl, rfl, SqL.of eD, rfl, i1, i2, i3, i4, ?_⟩
          refine ⟨_, rfl, .inl ⟨rfl, _, SqL.of eD⟩, _, rfl, b, _, _, _, rfl, rfl, .inl (.inl (sm _ _ eb)), atI_nat (j := 0) rfl, D, _, .str w', widx mk w', .str w', rfl, rfl, SqL.of eD, rfl, j1, j2, j3, j4, ?_⟩
          refine ⟨_, _, rfl, rfl, _, rfl, ite2 (fun c3 => ?_) (fun c3 => ?_)⟩
          · have c4 : widx mk w < widx mk w' := by
              have : ((widx mk w : Nat) : Int) < ((widx mk w' : Nat) : Int) := of_decide_eq_true c3
              omega
            rw [if_pos c4] at q
            exact ⟨_, rfl, q H3 (s12.trans sm)⟩
          · have c4 : ¬ widx mk w < widx mk w' := fun h => by
              refine c3 (decide_eq_true ?_)
              omega
            rw [if_neg c4] at q
            exact q H3 (s12.trans sm)
      · have ew : w = w' := Classical.byContradiction fun h => c2 (by
          rw [decide_eq_false (fun e => h (V.str.inj e))]; rfl)
        subst ew
        have hpt : ts.length = ss.length := by
          have z := lk.symm.trans lk2
          have := Option.some.inj z
          omega
        refine ⟨_, rfl, _, rfl, a, _, rfl, .inl (.inl ea), slice1, fun p1 h1 => ?_⟩
        rw [cut1]
        have t1 := same_upd h1 (.tup vs)
        refine ⟨_, rfl, _, rfl, b, _, rfl, .inl (.inl (t1 _ _ eb)), slice1, fun p2 h2 => ?_⟩
        rw [cut1]
        have t2 := same_upd h2 (.tup us)
        have t12 := t1.trans t2
        have all := s12.trans t12
        refine ⟨p1, p2, vs, us, rfl, .inr ⟨.inl (.inl (t2 _ _ upd_same)), .inl (.inl upd_same), ?_⟩⟩
        rw [dep_cons] at hn d1 d2
        refine RZ.for_zipT (K := K) (a := p1) (b := p2) (xs := vs) (ys := us) (by rw [hlen, hlen2, hpt]) (fun i σ H3 => ∃ y4 y5, σ = [some (.ref m), some (.ref a), some (.ref b), none, y4, y5, none, none] ∧ Same (upd (upd H2 p1 (.tup vs)) p2 (.tup us)) H3 ∧ ts.take i = ss.take i) ?_ ?_ ?_ ?_
        · exact ⟨none, none, rfl, .refl _, rfl⟩
        · intro i σ H3 ⟨_, _, _, x, _⟩
          exact ⟨.inl (.inl (x _ _ (t2 _ _ upd_same))), .inl (.inl (x _ _ upd_same))⟩
        · intro i x x2 Tt σ H3 hx hx2 ⟨y4, y5, es, xd, hE⟩ nT
          subst es
          obtain ⟨y, ey, hy⟩ := hL.get hx
          obtain ⟨z, ez, hz⟩ := hL2.get hx2
          have hm := List.mem_of_getElem? ey
          have hm2 := List.mem_of_getElem? ez
          have dy := depL_mem hm
          have dz := depL_mem hm2
          have t3 := same_upd nT (.tup [x, x2])
          have u3 := (t12.trans xd).trans t3
          have all3 := (all.trans xd).trans t3
          have gy := hy.same u3
          have gz := hz.same u3
          have wy := mem_WfL hTl y hm
          have wz := mem_WfL hSl z hm2
          refine ⟨Tt, _, rfl, .inl (.inl upd_same), rfl, _, _, rfl, _, _, rfl, rfl, ?_⟩
          refine ⟨_, rfl, _, rfl, _, _, gy.dp (tm_no (wf_tm wy)), gz.dp (tm_no (wf_tm wz)), gy.lay, gz.lay, Nat.le_trans (toD_depth y) (by omega), _, rfl, ite2 (fun c3 => ?_) (fun c3 => ?_)⟩
          · have nyz := (neD_iff (tm_no (wf_tm wy)) (tm_no (wf_tm wz))).mp c3
            rw [ord_part hTl hSl eqz hE ey ez nyz] at q
            refine ⟨_, rfl, _, rfl, _, rfl, m, mk, x, x2, y, z, rfl, hM.same all3, nd, m5, gy, gz, wy, wz, by omega, by omega, by omega, fun H4 s4 => ?_⟩
            exact q H4 (all3.trans s4)
          · have eyz : y = z := Classical.byContradiction fun h => c3 ((neD_iff (tm_no (wf_tm wy)) (tm_no (wf_tm wz))).mpr h)
            refine ⟨_, _, rfl, xd.trans t3, ?_⟩
            obtain ⟨g1, g2⟩ := List.getElem?_eq_some_iff.mp ey
            obtain ⟨g3, g4⟩ := List.getElem?_eq_some_iff.mp ez
            rw [List.take_succ_eq_append_getElem g1, List.take_succ_eq_append_getElem g3, hE, g2, g4, eyz]
        · intro σ H3 ⟨y4, y5, es, xd, hE⟩
          subst es
          rw [hlen, List.take_length, hpt, List.take_length] at hE
          subst hE
          rw [ord_self] at q
          exact q H3 (all.trans xd)
end
end Kx
namespace Kx
open PySem PySem.Spec PyProof.Rows L2
section
variable {P : Program} {w : World} {K : PySem.W.Frag} {mg : Str → Option Value} {base : Heap}
set_option pp.maxSteps 1500
theorem smallB {n : Nat} (h : n ≤ 16000000) : n < sizeLine := Nat.lt_of_le_of_lt h (by decide)
theorem flatMap_len {α β : Type} {f : α → List β} {c : Nat} : ∀ {l : List α}, (∀ a ∈ l, (f a).length ≤ c) → (l.flatMap f).length ≤ l.length * c
  | [], _ => by simp
  | a :: r, h => by
    have := h a (List.mem_cons_self ..)
    have := flatMap_len (l := r) fun b hb => h b (List.mem_cons_of_mem _ hb)
    rw [List.flatMap_cons, List.length_append, List.length_cons, Nat.succ_mul]
    omega
theorem getD_over {R : List (List PV)} {l : Nat} (h : R.length ≤ l) : R.getD l [] = [] := by
  rw [List.getD_eq_getElem?_getD, List.getElem?_eq_none h]; rfl
theorem getD_in {R : List (List PV)} {l : Nat} (h : l < R.length) : R.getD l [] = R[l] := by
  rw [List.getD_eq_getElem?_getD, List.getElem?_eq_getElem h]; rfl
theorem getD_mem_len {R : List (List PV)} {l : Nat} {x : PV} (h : x ∈ R.getD l []) : l < R.length := by
  cases Nat.lt_or_ge l R.length with
  | inl h => exact h
  | inr h2 => rw [getD_over h2] at h; simp at h
theorem flatMap_one {β : Type} {t : Nat} {f : Nat → List β} : ∀ {n : Nat} {s : Nat}, s ≤ t → t < s + n → (∀ l, l ≠ t → s ≤ l → l < s + n → f l = []) → (List.range' s n).flatMap f = f t
  | 0, s, h, h2, _ => by omega
  | n + 1, s, h, h2, h0 => by
    rw [List.range'_succ, List.flatMap_cons]
    by_cases e : s = t
    · subst e
      have : (List.range' (s + 1) n).flatMap f = [] := by
        rw [List.flatMap_eq_nil_iff]
        intro l hl
        have := List.mem_range'_1.mp hl
        exact h0 l (by omega) (by omega) (by omega)
      rw [this, List.append_nil]
    · rw [h0 s e (Nat.le_refl _) (by omega), List.nil_append]
      exact flatMap_one (by omega) (by omega) fun l a b c => h0 l a (by omega) (by omega)
theorem prt_one {R : List (List PV)} (h : R.getD 0 [] = []) (t : Nat) : prt R 1 t = (R.getD t []).map fun a => [a] := by
  unfold prt
  cases t with
  | zero => rw [h]; rfl
  | succ t =>
    rw [Nat.sub_zero, flatMap_one (t := t + 1) (by omega) (by omega)]
    · simp only [Nat.sub_self, prt, if_pos]
      exact List.map_eq_flatMap.symm
    · intro l n a b
      have : ¬ (t + 1 - l = 0) := by omega
      simp [prt, this]
theorem prt_zero (R : List (List PV)) (t : Nat) : prt R 0 t = if t = 0 then [[]] else [] := rfl
/-- the makers without parts -/
theorem upd_out {H : Hp} {b l : Addr} {o x : HO} {bad : List Addr} (nb : b ∉ bad) (m : l ∈ bad) (e : H b = some x) : upd H l o b = some x := by
  have n : b ≠ l := fun q => nb (by rw [q]; exact m)
  rw [upd_ne n]; exact e
/-- the rows of trees, in lists of their own, not one of the given -/
def RowsAt (H : Hp) (a : Addr) (bad : List Addr) (R : List (List PV)) : Prop := ∃ ps : List Addr, H a = some (.lst (ps.map V.ref)) ∧ Paired (fun p row => p ∉ bad ∧ ∃ vs, H p = some (.lst vs) ∧ IsL H vs row) ps R
theorem RowsAt.same {H H' : Hp} {a : Addr} {bad : List Addr} {R : List (List PV)} (h : RowsAt H a bad R) (s : Same H H') : RowsAt H' a bad R := by
  obtain ⟨ps, e, p⟩ := h
  exact ⟨ps, s _ _ e, Paired.imp p fun _ _ ⟨n, vs, e, i⟩ => ⟨n, vs, s _ _ e, i.same s⟩⟩
theorem RowsAt.len {H : Hp} {a : Addr} {bad : List Addr} {R : List (List PV)} (h : RowsAt H a bad R) : ∃ ps : List Addr, H a = some (.lst (ps.map V.ref)) ∧ ps.length = R.length := by
  obtain ⟨ps, e, p⟩ := h
  exact ⟨ps, e, Paired.length p⟩
theorem RowsAt.set {H : Hp} {a l : Addr} {bad : List Addr} {R : List (List PV)} {xs ys : List V} (h : RowsAt H a bad R) (e : H l = some (.lst xs)) (n : l ≠ a) (m : l ∈ bad) : RowsAt (upd H l (.lst ys)) a bad R := by
  obtain ⟨ps, e0, p⟩ := h
  exact ⟨ps, by rw [upd_ne n.symm]; exact e0, Paired.imp p fun b _ ⟨nb, vs, e1, i⟩ => ⟨nb, vs, upd_out nb m e1, IsL.wr e i⟩⟩
theorem pair_get {α β : Type} {F : α → β → Prop} : ∀ {l : List α} {m : List β}, Paired F l m → ∀ {i : Nat} (h : i < l.length) (h2 : i < m.length), F l[i] m[i]
  | _, _, .cons a t, 0, _, _ => a
  | _, _, .cons a t, i + 1, h, h2 => pair_get t (by simpa using h) (by simpa using h2)
theorem RowsAt.get {H : Hp} {a : Addr} {bad : List Addr} {R : List (List PV)} (h : RowsAt H a bad R) {i : Nat} (hi : i < R.length) : ∃ qs p vs, H a = some (.lst qs) ∧ qs.length = R.length ∧ qs[i]? = some (.ref p) ∧ p ∉ bad ∧ H p = some (.lst vs) ∧ IsL H vs (R.getD i []) := by
  obtain ⟨ps, e, q⟩ := h
  have hl := Paired.length q
  obtain ⟨n, vs, e1, k⟩ := pair_get q (i := i) (by omega) hi
  refine ⟨_, ps[i]'(by omega), vs, e, by rw [List.length_map, hl], by rw [List.getElem?_map, List.getElem?_eq_getElem (by omega)]; rfl, n, e1, ?_⟩
  rw [getD_in hi]; exact k
theorem RowsAt.snoc {H : Hp} {a p : Addr} {bad : List Addr} {R : List (List PV)} {ps : List Addr} {vs : List V} {row : List PV} (e : H a = some (.lst (ps.map V.ref))) (q : Paired (fun p row => p ∉ bad ∧ ∃ vs, H p = some (.lst vs) ∧ IsL H vs row) ps R) (m : a ∈ bad) (np : p ∉ bad) (ep : H p = some (.lst vs)) (i : IsL H vs row) : RowsAt (upd H a (.lst (ps.map V.ref ++ [V.ref p]))) a bad (R ++ [row]) := by
  refine ⟨ps ++ [p], by rw [upd_same, List.map_append]; rfl, pair_snoc (Paired.imp q fun b _ ⟨nb, vs, e1, i⟩ => ⟨nb, vs, upd_out nb m e1, IsL.wr e i⟩) ⟨np, vs, upd_out np m ep, IsL.wr e i⟩⟩
def spPart (n : Nat) : Sp := fun vs H Q _ => ∃ (ra : Addr) (bad : List Addr) (R : List (List PV)) (k t : Nat), vs = [.ref ra, .int k, .int t] ∧ RowsAt H ra bad R ∧ R.getD 0 [] = [] ∧ t < R.length ∧ R.length ≤ 4 ∧ (∀ l, (R.getD l []).length ≤ 1024) ∧ k < n ∧ k ≤ 2 ∧
  ∀ p H' ws, Same H H' → H p = none → H' p = some (.lst ws) → IsL H' ws ((prt R k t).map PV.tup) → Q (.ref p) H'
theorem prt_few {R : List (List PV)} (h : R.getD 0 [] = []) (hR : ∀ l, (R.getD l []).length ≤ 1024) {k : Nat} (hk : k ≤ 1) (t : Nat) : (prt R k t).length ≤ 1024 := by
  match k, hk with
  | 0, _ =>
    unfold prt
    split
    · simp
    · simp
  | 1, _ =>
    rw [prt_one h, List.length_map]
    exact hR t
theorem map_get {α β : Type} {f : α → β} {l : List α} {i : Nat} {y : β} (h : (l.map f)[i]? = some y) : ∃ x, l[i]? = some x ∧ y = f x := by
  rw [List.getElem?_map] at h
  cases e : l[i]? with
  | none => rw [e] at h; cases h
  | some x => rw [e] at h; exact ⟨x, rfl, (Option.some.inj h).symm⟩
theorem take_get {α : Type} {l : List α} {i : Nat} {x : α} (h : l[i]? = some x) : l.take (i + 1) = l.take i ++ [x] := by
  obtain ⟨hi, e⟩ := List.getElem?_eq_some_iff.mp h
  rw [List.take_succ_eq_append_getElem hi, e]
theorem prt_length {R : List (List PV)} : ∀ (k t : Nat) {r : List PV}, r ∈ prt R k t → r.length = k
  | 0, t, r, hr => by
    unfold prt at hr
    split at hr
    · rw [List.mem_singleton.mp hr]; rfl
    · simp at hr
  | k + 1, t, r, hr => by
    unfold prt at hr
    obtain ⟨l, hl, hr⟩ := List.mem_flatMap.mp hr
    obtain ⟨a, ha, hr⟩ := List.mem_flatMap.mp hr
    obtain ⟨s, hs, rfl⟩ := List.mem_map.mp hr
    rw [List.length_cons, prt_length k (t - l) hs]
theorem ok_part_rows {n : Nat} (T : Txt K mg) (G_part_rows : FnOk P w K mg base CX0 (n+1) T.a_part_rows T.d_part_rows ["rows", "parts", "total"] (spPart n)) : FnOk P w K mg base CX0 (n+2) T.a_part_rows T.d_part_rows ["rows", "parts", "total"] (spPart (n+1)) := by
  refine T.F_part_rows.ok sc_part_rows (fun vs H Q E h => ?_) (fun cdv A outer s H vs Q E hr h => ?_)
  · obtain ⟨ra, bad, R, k, t, rfl, _⟩ := h; rfl
  · obtain ⟨ra, bad, R, k, t, rfl, hR, h0, ht, h90, h39, hk, hk2, q⟩ := h
    have hr_part_rows := hr
    refine ⟨_, (pss_cons (ps_if (pt_cmpR op_eq (pv 1) pe_int (nomark _)) (pss_one (ps_ret (pe_ifExp (pt_cmpR op_eq (pv 2) pe_int (nomark _)) (pe_lst (pa_cons (pe_tup pa_nil) pa_nil)) (pe_lst pa_nil)))) pss_nil)
    (pss_cons (ps_set (i := 3) sc_part_rows.nd rfl (Or.inl rfl) (pe_lst pa_nil))
    (pss_cons (ps_for PassesOwn.never rfl (pi_range2 (by rfl) T.z_range (pa_cons pe_int (pa_cons (pe_op op_add (pe_op op_sub (pv 2) (pv 1)) pe_int) pa_nil))) (pg_name (i := 4) sc_part_rows.nd rfl (Or.inl rfl))
    (pss_cons (ps_set (i := 5) sc_part_rows.nd rfl (Or.inl rfl) (pe_call G_part_rows hr_part_rows rfl T.m_part_rows T.F_part_rows.kp T.b_part_rows .nil pass0 (pa_cons (pv 0) (pa_cons (pe_op op_sub (pv 1) pe_int) (pa_cons (pe_op op_sub (pv 2) (pv 4)) pa_nil)))))
    (pss_one (ps_for PassesOwn.never rfl (pi_list (pe_ix ix_list (pv 0) (pv 4) (fun _ _ => rfl))) (pg_name (i := 6) sc_part_rows.nd rfl (Or.inl rfl))
    (pss_one (ps_for PassesOwn.never rfl (pi_list (pv 5)) (pg_name (i := 7) sc_part_rows.nd rfl (Or.inl rfl))
    (pss_one (ps_expr (pe_bm PySem.F.plainAttrs_list PySem.F.slot_list_append PySem.F.type_list_append mt_append (pv 3) (pa_cons (pe_tup (pa_cons (pv 6) (StX.pa_star (pv 7) pa_nil (by rfl)))) pa_nil))))))))))
    (pss_one (ps_ret (pv 3)))))), ?_⟩
    refine ⟨_, rfl, rfl, _, rfl, ite2 (fun c => ?_) (fun c => ?_)⟩
    · have ek : k = 0 := by
        have := V.int.inj (of_decide_eq_true c)
        omega
      subst ek
      refine ⟨_, rfl, rfl, _, rfl, ite2 (fun c2 => ?_) (fun c2 => ?_)⟩
      · have et : t = 0 := by
          have := V.int.inj (of_decide_eq_true c2)
          omega
        subst et
        refine ⟨(by show 0 ≤ sizeLine; decide), fun p1 h1 => ⟨(by show 1 ≤ sizeLine; decide), fun l hl => ?_⟩⟩
        have s1 := same_upd h1 (.tup [])
        have s2 := same_upd hl (.lst [.ref p1])
        exact q l _ _ (s1.trans s2) (s1.free hl) upd_same (.cons (.tup (s2 _ _ upd_same) .nil) .nil)
      · have et : t ≠ 0 := fun e => by rw [e] at c2; exact c2 rfl
        refine ⟨(by show 0 ≤ sizeLine; decide), fun l hl => ?_⟩
        refine q l _ [] (same_upd hl _) hl upd_same ?_
        rw [prt_zero, if_neg et]
        exact .nil
    · obtain ⟨k, rfl⟩ : ∃ j, k = j + 1 := ⟨k - 1, by
        have : k ≠ 0 := fun e => by rw [e] at c; exact c rfl
        omega⟩
      refine ⟨(by show 0 ≤ sizeLine; decide), fun fa hf => ?_⟩
      have sf := same_upd hf (.lst [])
      refine ⟨_, rfl, _, rfl, _, _, rfl, rfl, _, _, rfl, rfl, _, _, rfl, ⟨by omega, by omega, by omega, by omega⟩, ?_⟩
      have cnt : (((t : Int) - ((k + 1 : Nat) : Int) + 2) - 1).toNat = t - k := by omega
      let G : Nat → PV → List (List PV) := fun l a => (prt R k (t - l)).map (a :: ·)
      let F : Nat → List (List PV) := fun l => (R.getD l []).flatMap (G l)
      have eF : prt R (k + 1) t = (List.range' 1 (t - k)).flatMap F := rfl
      have k1 : k ≤ 1 := by omega
      have few : ∀ l, (prt R k l).length ≤ 1024 := prt_few h0 h39 k1
      have rlen : ∀ l, (R.getD l []).length ≤ 1024 := h39
      have gl : ∀ l a, (G l a).length ≤ 1024 := fun l a => by
        show ((prt R k (t - l)).map (a :: ·)).length ≤ 1024
        rw [List.length_map]; exact few _
      have fl : ∀ l, (F l).length ≤ 1048576 := fun l => Nat.le_trans (flatMap_len fun a _ => gl l a) (Nat.mul_le_mul_right 1024 (rlen l))
      rw [cnt]
      refine for_range (fun i σ H1 => ∃ y4 y5 y6 y7 acc, σ = [some (.ref ra), some (.int ((k + 1 : Nat) : Int)), some (.int t), some (.ref fa), y4, y5, y6, y7] ∧ Same H H1 ∧ H1 fa = some (.lst acc) ∧ IsL H1 acc (((List.range' 1 i).flatMap F).map PV.tup)) ?_ ?_ ?_
      · exact ⟨none, none, none, none, [], rfl, sf, upd_same, .nil⟩
      · intro i σ H1 hi ⟨y4, y5, y6, y7, acc, es, sm, eA, hA⟩
        subst es
        have bi := flatMap_len (l := List.range' 1 i) (f := F) (c := 1048576) fun l _ => fl l
        rw [List.length_range'] at bi
        refine ⟨_, rfl, _, rfl, _, _, rfl, rfl, _, rfl, _, rfl, _, _, rfl, rfl, ra, bad, R, k, t - (1 + i), ?_, hR.same sm, h0, by omega, h90, h39, by omega, by omega, fun p H2 ws s2 np ep hW => ?_⟩
        · have e1 : ((k + 1 : Nat) : Int) - 1 = (k : Int) := by omega
          have e2 : (t : Int) - (1 + (i : Int)) = ((t - (1 + i) : Nat) : Int) := by omega
          show [V.ref ra, V.int (((k + 1 : Nat) : Int) - 1), V.int ((t : Int) - (1 + (i : Int)))] = _
          rw [e1, e2]
        have sm2 := sm.trans s2
        have npf : p ≠ fa := fun e => by rw [e, eA] at np; cases np
        obtain ⟨qs, p', vs, ea, eql, eq, nb, ep', hV⟩ := hR.get (i := 1 + i) (by omega)
        have np' : p' ≠ fa := fun e => by rw [e, hf] at ep'; cases ep'
        have ep2 := hV.len
        have hwl := hW.len
        rw [List.length_map] at hwl
        have fw := few (t - (1 + i))
        refine ⟨_, rfl, _, rfl, ra, _, _, _, rfl, rfl, SqL.of (sm2 _ _ ea), ?_, p', rfl, ⟨_, SqL.of (sm2 _ _ ep')⟩, ?_⟩
        · exact atI_nat (j := 1 + i) eq
        have rl := rlen (1 + i)
        refine for_list (K := K) (a := p') (xs := vs) (fun j σ H3 => ∃ y6 y7 acc, σ = [some (.ref ra), some (.int ((k + 1 : Nat) : Int)), some (.int t), some (.ref fa), some (.int (1 + (i : Int))), some (.ref p), y6, y7] ∧ Same H H3 ∧ H3 p = some (.lst ws) ∧ IsL H3 ws ((prt R k (t - (1 + i))).map PV.tup) ∧ H3 fa = some (.lst acc) ∧ IsL H3 acc (((List.range' 1 i).flatMap F ++ ((R.getD (1 + i) []).take j).flatMap (G (1 + i))).map PV.tup)) ?_ ?_ ?_ ?_
        · refine ⟨y6, y7, acc, rfl, sm2, ep, hW, s2 _ _ eA, ?_⟩
          simpa using hA.same s2
        · exact fun j σ H3 _ ⟨_, _, _, _, s3, _⟩ => SqL.of (s3 _ _ ep')
        · intro j x σ H3 hx ⟨y6, y7, acc, es, s3, ep3, hW3, eA3, hA3⟩
          subst es
          obtain ⟨y, ey, hy⟩ := hV.get hx
          have hj := (List.getElem?_eq_some_iff.mp ey).1
          have bj := flatMap_len (l := (R.getD (1 + i) []).take j) (f := G (1 + i)) (c := 1024) fun a _ => gl _ a
          rw [List.length_take] at bj
          refine ⟨_, rfl, p, rfl, ⟨_, SqL.of ep3⟩, ?_⟩
          refine for_list (K := K) (a := p) (xs := ws) (fun m σ H4 => ∃ y7 acc, σ = [some (.ref ra), some (.int ((k + 1 : Nat) : Int)), some (.int t), some (.ref fa), some (.int (1 + (i : Int))), some (.ref p), some x, y7] ∧ Same H H4 ∧ H4 p = some (.lst ws) ∧ IsL H4 ws ((prt R k (t - (1 + i))).map PV.tup) ∧ H4 fa = some (.lst acc) ∧ IsL H4 acc (((List.range' 1 i).flatMap F ++ ((R.getD (1 + i) []).take j).flatMap (G (1 + i)) ++ ((prt R k (t - (1 + i))).take m).map (y :: ·)).map PV.tup)) ?_ ?_ ?_ ?_
          · refine ⟨y7, acc, rfl, s3, ep3, hW3, eA3, ?_⟩
            simpa using hA3
          · exact fun m σ H4 _ ⟨_, _, _, _, ep4, _⟩ => SqL.of ep4
          · intro m z σ H4 hz ⟨y7, acc, es, s4, ep4, hW4, eA4, hA4⟩
            subst es
            obtain ⟨y', ey', hz'⟩ := hW4.get hz
            obtain ⟨r, er, rfl⟩ := map_get ey'
            obtain ⟨b, zs, rfl, eb, hb⟩ := hz'.tup_inv
            have hm := (List.getElem?_eq_some_iff.mp er).1
            have al := hA4.len
            simp only [List.length_map, List.length_append, List.length_take] at al
            have zl := hb.len
            have rm := List.mem_of_getElem? er
            have r3 : r.length = k := (prt_length k (t - (1 + i)) rm)
            refine ⟨_, rfl, .inl ⟨rfl, _, SqL.of eA4⟩, _, rfl, _, rfl, b, zs, rfl, .inl (.inl (.inl eb)), ?_, fun tp htp => ?_⟩
            · exact Nat.le_of_lt (smallB (by simp; omega))
            have s5 := same_upd htp (.tup (x :: (zs ++ [])))
            have eA5 := s5 _ _ eA4
            refine ⟨fa, acc, _, rfl, rfl, eA5, smallB ?_, ?_⟩
            · have : (prt R k (t - (1 + i))).length ≤ 1024 := fw
              omega
            · refine ⟨_, acc ++ [.ref tp], rfl, Kx.Same.own (s4.trans s5) hf _, ?_, IsL.wr eA5 (hW4.same s5), upd_same, ?_⟩
              · rw [upd_ne npf]; exact s5 _ _ ep4
              · have e : ((List.range' 1 i).flatMap F ++ ((R.getD (1 + i) []).take j).flatMap (G (1 + i)) ++ ((prt R k (t - (1 + i))).take (m + 1)).map (y :: ·)).map PV.tup = ((List.range' 1 i).flatMap F ++ ((R.getD (1 + i) []).take j).flatMap (G (1 + i)) ++ ((prt R k (t - (1 + i))).take m).map (y :: ·)).map PV.tup ++ [.tup (y :: r)] := by
                  rw [take_get er]
                  simp only [List.map_append, List.append_assoc, List.map_cons, List.map_nil]
                rw [e]
                refine IsL.wr eA5 ((hA4.same s5).append (.cons (.tup upd_same ?_) .nil))
                have hb5 := (hb.same s5).append .nil
                rw [List.append_nil r] at hb5
                exact .cons (hy.same (s4.trans s5)) hb5
          · intro σ H4 ⟨y7, acc, es, s4, ep4, hW4, eA4, hA4⟩
            subst es
            refine ⟨_, _, acc, rfl, s4, ep4, hW4, eA4, ?_⟩
            rw [hwl, List.take_length] at hA4
            rw [take_get ey, List.flatMap_append, List.flatMap_cons, List.flatMap_nil, List.append_nil, ← List.append_assoc]
            exact hA4
        · intro σ H3 ⟨y6, y7, acc, es, s3, ep3, hW3, eA3, hA3⟩
          subst es
          refine ⟨_, _, _, _, acc, rfl, s3, eA3, ?_⟩
          rw [ep2, List.take_length] at hA3
          rw [List.range'_1_concat, List.flatMap_append, List.flatMap_cons, List.flatMap_nil, List.append_nil]
          exact hA3
      · intro σ H1 ⟨y4, y5, y6, y7, acc, es, sm, eA, hA⟩
        subst es
        rw [← eF] at hA
        exact ⟨_, rfl, q fa H1 acc sm hf eA hA⟩
end
end Kx
namespace Kx
open PySem PySem.Spec PyProof.Rows L2
section
variable {P : Program} {w : World} {K : PySem.W.Frag} {mg : Str → Option Value} {base : Heap}
set_option pp.maxSteps 1500
theorem dep_vsz {mk : List (Str × Int)} : ∀ {t : PV}, Wf mk t → dep t ≤ vsz t + 1 := by
  have key : ∀ (n : Nat) {t : PV}, vsz t ≤ n → Wf mk t → dep t ≤ vsz t + 1 := by
    intro n
    induction n with
    | zero => intro t h; have := vsz_one t; omega
    | succ n ih =>
      intro t h wf
      obtain ⟨w, r, rfl, _, fl⟩ := wf_inv wf
      have h1 : depL r ≤ vszL r + 1 := depL_le fun x hx => by
        have hv : vsz x ≤ vszL r := by
          have key : ∀ {l : List PV} {x : PV}, x ∈ l → vsz x ≤ vszL l := by
            intro l
            induction l with
            | nil => intro x h; cases h
            | cons a q ih2 =>
              intro x h
              simp only [vszL]
              rcases List.mem_cons.mp h with rfl | h
              · omega
              · have := ih2 h; omega
          exact key hx
        simp only [vsz] at h
        have := ih (by omega) (mem_WfL fl x hx)
        omega
      simp only [dep, depL, vsz]
      omega
  intro t h
  exact key _ (Nat.le_refl _) h
theorem RowsAt.sx {TT : List (Addr × Str)} {H H' : Hp} {a : Addr} {bad : List Addr} {R : List (List PV)} (s : Sx TT H H') (h : RowsAt H a bad R) : RowsAt H' a bad R := by
  obtain ⟨ps, e, p⟩ := h
  exact ⟨ps, s.li e, Paired.imp p fun _ _ ⟨n, vs, e, i⟩ => ⟨n, vs, s.li e, IsL.sx s i⟩⟩
def spBefore : Sp := fun vs H Q _ => ∃ (tv v u : V) (mk : List PV) (F : List Str) (cs : List Con) (t s : PV), vs = [tv, v, u] ∧ Is H tv (tabPV mk F cs) ∧ TabG F cs ∧ Is H v t ∧ Is H u s ∧ Wf (cnts cs) t ∧ Wf (cnts cs) s ∧ dep t ≤ 20 ∧ dep s ≤ 20 ∧ ∀ H', Same H H' → Q (.bl (klt (cnts cs) t s)) H'
theorem ok_before (T : Txt K mg) (G_counts : FnOk P w K mg base CX0 1 T.a_counts T.d_counts ["table"] spCounts) (G_order : FnOk P w K mg base CX0 81 T.a_order T.d_order ["makers", "one", "other"] (spOrder 20)) : FnOk P w K mg base CX0 82 T.a_before T.d_before ["table", "one", "other"] spBefore := by
  refine T.F_before.ok sc_before (fun vs H Q E h => ?_) (fun cdv A outer s H vs Q E hr h => ?_)
  · obtain ⟨tv, v, u, mk, F, cs, t, s, rfl, _⟩ := h; rfl
  · obtain ⟨tv, v, u, mk, F, cs, t, s', rfl, hI, G, hv, hu', wt, ws, d1, d2, q⟩ := h
    have hr_counts := hr.mono (show 1 ≤ 81 by omega)
    have hr_order := hr
    refine ⟨_, (pss_one (ps_ret (pe_cmpR op_eq (pe_call G_order hr_order rfl T.m_order T.F_order.kp T.b_order .nil pass0 (pa_cons (pe_call G_counts hr_counts rfl T.m_counts T.F_counts.kp T.b_counts .nil pass0 (pa_cons (pv 0) pa_nil)) (pa_cons (pv 1) (pa_cons (pv 2) pa_nil)))) (pe_un un_neg pe_int) (nomark _)))), ?_⟩
    have l12 := G.len.2
    refine ⟨_, rfl, tv, mk, F, cs, rfl, hI, by omega, fun m H1 s1 hM => ?_⟩
    refine ⟨_, rfl, _, rfl, m, cnts cs, v, u, t, s', rfl, hM, cnts_nd G, by rw [cnts, List.length_map]; omega, hv.same s1, hu'.same s1, wt, ws, d1, by omega, by omega, fun H2 s2 => ?_⟩
    have e : decide (V.int (ordT (cnts cs) t s') = V.int (-1)) = klt (cnts cs) t s' := by
      cases hk : klt (cnts cs) t s' with
      | true => rw [ord_lt hk]; rfl
      | false =>
        refine decide_eq_false fun h => ?_
        have := ord_iff.mp (V.int.inj h)
        rw [hk] at this
        cases this
    have fin := q H2 (s1.trans s2)
    rw [← e] at fin
    exact ⟨1, rfl, rfl, fin⟩
/-- how many values there are of a size, at most -/
def bnd : Nat → Nat
  | 0 => 0
  | 1 => 8
  | 2 => 64
  | 3 => 1024
  | _ => 8192
def pbd : Nat → Nat
  | 0 => 1
  | 1 => 8
  | 2 => 64
  | _ => 1024
theorem prt_bnd {R : List (List PV)} (h0 : R.getD 0 [] = []) (h : ∀ l, (R.getD l []).length ≤ bnd l) (k t : Nat) (hk : k ≤ 2) (ht : t ≤ 3) : (prt R k t).length ≤ pbd t := by
  have p1 : ∀ t, (prt R 1 t).length = (R.getD t []).length := fun t => by rw [prt_one h0, List.length_map]
  have two : ∀ t, prt R 2 t = (List.range' 1 (t - 1)).flatMap fun l => (R.getD l []).flatMap fun a => (prt R 1 (t - l)).map (a :: ·) := fun t => rfl
  have mul : ∀ l m, ((R.getD l []).flatMap fun a => (prt R 1 m).map (a :: ·)).length ≤ (R.getD l []).length * (R.getD m []).length := fun l m => flatMap_len fun a _ => by rw [List.length_map, p1]; exact Nat.le_refl _
  have b1 := h 1
  have b2 := h 2
  have b3 := h 3
  simp only [bnd] at b1 b2 b3
  have ht' : t = 0 ∨ t = 1 ∨ t = 2 ∨ t = 3 := by omega
  have hk' : k = 0 ∨ k = 1 ∨ k = 2 := by omega
  rcases hk' with rfl | rfl | rfl
  · rcases ht' with rfl | rfl | rfl | rfl <;> simp [prt, pbd]
  · rw [p1]
    rcases ht' with rfl | rfl | rfl | rfl
    · rw [h0]; simp [pbd]
    · exact b1
    · exact b2
    · exact b3
  · rw [two]
    rcases ht' with rfl | rfl | rfl | rfl
    · simp [pbd]
    · simp [pbd]
    · show ((List.range' 1 1).flatMap _).length ≤ 64
      have m := mul 1 1
      have e : (List.range' 1 1) = [1] := rfl
      rw [e, List.flatMap_cons, List.flatMap_nil, List.append_nil]
      have : (R.getD 1 []).length * (R.getD 1 []).length ≤ 8 * 8 := Nat.mul_le_mul b1 b1
      exact Nat.le_trans m this
    · show ((List.range' 1 2).flatMap _).length ≤ 1024
      have m := mul 1 2
      have m2 := mul 2 1
      have e : (List.range' 1 2) = [1, 2] := rfl
      rw [e, List.flatMap_cons, List.flatMap_cons, List.flatMap_nil, List.append_nil, List.length_append]
      have a1 : (R.getD 1 []).length * (R.getD 2 []).length ≤ 8 * 64 := Nat.mul_le_mul b1 b2
      have a2 : (R.getD 2 []).length * (R.getD 1 []).length ≤ 64 * 8 := Nat.mul_le_mul b2 b1
      have c1 : ((R.getD 1 []).flatMap fun a => (prt R 1 (3 - 1)).map (a :: ·)).length ≤ 8 * 64 := Nat.le_trans m a1
      have c2 : ((R.getD 2 []).flatMap fun a => (prt R 1 (3 - 2)).map (a :: ·)).length ≤ 64 * 8 := Nat.le_trans m2 a2
      omega
theorem pbd_le (t : Nat) : pbd t ≤ 1024 := by
  match t with
  | 0 => decide
  | 1 => decide
  | 2 => decide
  | n + 3 => exact Nat.le_refl _
theorem nxt_len {cs : List Con} {R : List (List PV)} (c8 : cs.length ≤ 8) (p2 : ∀ c ∈ cs, c.ps.length ≤ 2) (h0 : R.getD 0 [] = []) (h : ∀ l, (R.getD l []).length ≤ bnd l) (one : 1 ≤ R.length) (r4 : R.length ≤ 4) : (nxtV cs R).length ≤ bnd R.length := by
  have g : (nxtV cs R).length ≤ cs.length * pbd (R.length - 1) := flatMap_len fun c hc => by
    refine Nat.le_trans (List.length_filter_le _ _) ?_
    rw [List.length_map]
    exact prt_bnd h0 h _ _ (p2 c hc) (by omega)
  have k : cs.length * pbd (R.length - 1) ≤ 8 * pbd (R.length - 1) := Nat.mul_le_mul_right _ c8
  have r : R.length = 1 ∨ R.length = 2 ∨ R.length = 3 ∨ R.length = 4 := by omega
  rcases r with e | e | e | e <;> rw [e] at g k ⊢
  · have z : pbd (1 - 1) = 1 := rfl
    have y : bnd 1 = 8 := rfl
    omega
  · have z : pbd (2 - 1) = 8 := rfl
    have y : bnd 2 = 64 := rfl
    omega
  · have z : pbd (3 - 1) = 64 := rfl
    have y : bnd 3 = 1024 := rfl
    omega
  · have z : pbd (4 - 1) = 1024 := rfl
    have y : bnd 4 = 8192 := rfl
    omega
def spOfSize (TT : List (Addr × Str)) : Sp := fun vs H Q _ => ∃ (tv : V) (ra : Addr) (bad : List Addr) (mk : List PV) (F : List Str) (cs : List Con) (R : List (List PV)), vs = [tv, .ref ra, .int ((R.length : Nat) : Int)] ∧ LamX.Tabs TT H ∧ Is H tv (tabPV mk F cs) ∧ TabG F cs ∧ cs.length ≤ 8 ∧ RowsAt H ra bad R ∧ RwOk cs R ∧ R.length ≤ 4 ∧ (∀ l, (R.getD l []).length ≤ bnd l) ∧
  ∀ p H' ws, Sx TT H H' → H p = none → H' p = some (.lst ws) → IsL H' ws (nxtV cs R) → Q (.ref p) H'
theorem ok_values_of_size {TT : List (Addr × Str)} (T : Txt K mg) (G_part_rows : FnOk P w K mg base CX0 4 T.a_part_rows T.d_part_rows ["rows", "parts", "total"] (spPart 3)) (G_index_of : FnOk P w K mg base CX0 53 T.a_index_of T.d_index_of ["table", "value"] (spIndex TT 20)) : FnOk P w K mg base CX0 54 T.a_values_of_size T.d_values_of_size ["table", "rows", "total"] (spOfSize TT) := by
  refine T.F_values_of_size.ok sc_values_of_size (fun vs H Q E h => ?_) (fun cdv A outer s H vs Q E hr h => ?_)
  · obtain ⟨tv, ra, bad, mk, F, cs, R, rfl, _⟩ := h; rfl
  · obtain ⟨tv, ra, bad, mk, F, cs, R, rfl, hT, hI, G, c8, hR, ok, r4, rl, q⟩ := h
    have hr_part_rows := hr.mono (show 4 ≤ 53 by omega)
    have hr_index_of := hr
    refine ⟨_, (pss_cons (ps_set (i := 3) sc_values_of_size.nd rfl (Or.inl rfl) (pe_lst pa_nil))
    (pss_cons (ps_for PassesOwn.never rfl (pi_tup (pe_ix ix_tup (pv 0) pe_int (fun _ _ => rfl))) (pg_tup rfl (pgs_cons (pg_name (i := 4) sc_values_of_size.nd rfl (Or.inl rfl)) (pgs_cons (pg_name (i := 5) sc_values_of_size.nd rfl (Or.inl rfl)) (pgs_cons (pg_name (i := 6) sc_values_of_size.nd rfl (Or.inl rfl)) (pgs_cons (pg_name (i := 6) sc_values_of_size.nd rfl (Or.inl rfl)) pgs_nil)))))
    (pss_one (ps_for PassesOwn.never rfl (pi_list (pe_call G_part_rows hr_part_rows rfl T.m_part_rows T.F_part_rows.kp T.b_part_rows .nil pass0 (pa_cons (pv 1) (pa_cons (pe_callB call_len_seq (by rfl) T.z_len (by decide +kernel) (pa_cons (pv 5) pa_nil)) (pa_cons (pe_op op_sub (pv 2) pe_int) pa_nil))))) (pg_name (i := 7) sc_values_of_size.nd rfl (Or.inl rfl))
    (pss_cons (ps_set (i := 8) sc_values_of_size.nd rfl (Or.inl rfl) (pe_tup (pa_cons (pv 4) (StX.pa_star (pv 7) pa_nil (by rfl)))))
    (pss_one (ps_if (pt_cmpR op_notN (pe_call G_index_of hr_index_of rfl T.m_index_of T.F_index_of.kp T.b_index_of .nil pass0 (pa_cons (pv 0) (pa_cons (pv 8) pa_nil))) pe_non (nomark _)) (pss_one (ps_expr (pe_bm PySem.F.plainAttrs_list PySem.F.slot_list_append PySem.F.type_list_append mt_append (pv 3) (pa_cons (pv 8) pa_nil)))) pss_nil))))))
    (pss_one (ps_ret (pv 3))))), ?_⟩
    obtain ⟨a, v0, v1, fa0, ca, fvs, cvs, rfl, ea, ef, iF, ec, iC⟩ := tab_inv hI
    have lC := iC.len
    rw [List.length_map] at lC
    have one := ok.one
    have h0 : R.getD 0 [] = [] := by
      cases e : R.getD 0 [] with
      | nil => rfl
      | cons x r =>
        have hx : x ∈ R.getD 0 [] := by rw [e]; exact List.mem_cons_self ..
        have := (ok.wf 0 x hx).2
        have := vsz_one x
        omega
    have rl4 : ∀ l, (R.getD l []).length ≤ 1024 := fun l => by
      have := rl l
      match l, this with
      | 0, h => exact Nat.le_trans h (by decide)
      | 1, h => exact Nat.le_trans h (by decide)
      | 2, h => exact Nat.le_trans h (by decide)
      | 3, h => exact Nat.le_trans h (by decide)
      | l + 4, h => rw [getD_over (by omega)]; simp
    let Gc : Con → List PV := fun c => ((prt R c.ps.length (R.length - 1)).map fun r => PV.tup (.str c.w :: r)).filter (Good cs)
    have CG := con_of G
    have p2 : ∀ c ∈ cs, c.ps.length ≤ 2 := fun c hc => (G.row c hc).1.len
    have plen : ∀ c ∈ cs, (prt R c.ps.length (R.length - 1)).length ≤ 1024 := fun c hc => Nat.le_trans (prt_bnd h0 rl _ _ (p2 c hc) (by omega)) (pbd_le _)
    have lenG : ∀ c ∈ cs, (Gc c).length ≤ 1024 := fun c hc => by
      refine Nat.le_trans (List.length_filter_le _ _) ?_
      rw [List.length_map]
      exact plen c hc
    have lenT : ∀ i, ((cs.take i).flatMap Gc).length ≤ 8192 := fun i => by
      refine Nat.le_trans (flatMap_len fun c hc => lenG c (List.mem_of_mem_take hc)) ?_
      rw [List.length_take]
      have : min i cs.length * 1024 ≤ 8 * 1024 := Nat.mul_le_mul_right _ (by omega)
      omega
    refine ⟨(by show 0 ≤ sizeLine; decide), fun fa hf => ?_⟩
    have s0 := same_upd hf (.lst [])
    have t0 : Sx TT H (upd H fa (.lst [])) := .of s0
    refine ⟨_, rfl, a, _, _, _, rfl, rfl, .inl (.inl (s0 _ _ ea)), atI_nat (j := 3) rfl, ca, rfl, ⟨_, .inl (.inl (s0 _ _ ec))⟩, ?_⟩
    refine for_tup (K := K) (a := ca) (xs := cvs) (fun i σ H2 => ∃ (y4 y5 y6 y7 y8 : Option V) (acc : List V), σ = [some (.ref a), some (.ref ra), some (.int ((R.length : Nat) : Int)), some (.ref fa), y4, y5, y6, y7, y8] ∧ Sx TT H H2 ∧ H2 fa = some (.lst acc) ∧ IsL H2 acc ((cs.take i).flatMap Gc)) ?_ ?_ ?_ ?_
    · exact ⟨none, none, none, none, none, [], rfl, t0, upd_same, .nil⟩
    · exact fun i σ H2 _ ⟨_, _, _, _, _, _, _, t2, _⟩ => .inl (.inl (t2.tup ec))
    · rintro i x σ H2 hx ⟨y4, y5, y6, y7, y8, acc, rfl, t2, efa, iA⟩
      obtain ⟨tt, et, it⟩ := iC.get hx
      rw [List.getElem?_map] at et
      obtain ⟨c, hc, rfl⟩ := Option.map_eq_some_iff.mp et
      have hcm := List.mem_of_getElem? hc
      obtain ⟨xa, pa, iv, pvs, rfl, exa, epa, pL, _, kw, _⟩ := con_inv (it.sx t2)
      have pl := pL.len
      rw [List.length_map] at pl
      have al := iA.len
      have hr2 := hR.sx t2
      have cp := p2 c hcm
      refine ⟨xa, _, rfl, .inl (.inl exa), rfl, _, _, rfl, _, _, rfl, _, _, rfl, _, _, rfl, rfl, ?_⟩
      refine ⟨_, rfl, _, rfl, pa, _, rfl, .inr (.inl (.inl epa)), _, rfl, _, _, rfl, rfl, ra, bad, R, c.ps.length, R.length - 1, ?_, hr2, h0, by omega, r4, rl4, by omega, cp, fun p H3 ws s3 np ep iW => ⟨p, rfl, ⟨_, SqL.of ep⟩, ?_⟩⟩
      · show [V.ref ra, V.int ((pvs.length : Nat) : Int), V.int (((R.length : Nat) : Int) - 1)] = _
        have e1 : ((R.length : Nat) : Int) - 1 = ((R.length - 1 : Nat) : Int) := by omega
        rw [e1, pl]
      have t3 := t2.trans (.of (TT := TT) s3)
      have lw := iW.len
      rw [List.length_map] at lw
      have efa3 := s3 _ _ efa
      have npf : p ≠ fa := fun e => by rw [e, efa] at np; cases np
      refine for_list (K := K) (a := p) (xs := ws) (fun j σ H4 => ∃ (y7 y8 : Option V) (acc : List V), σ = [some (.ref a), some (.ref ra), some (.int ((R.length : Nat) : Int)), some (.ref fa), some (.str c.w), some (.ref pa), some iv, y7, y8] ∧ Sx TT H H4 ∧ H4 p = some (.lst ws) ∧ IsL H4 ws ((prt R c.ps.length (R.length - 1)).map PV.tup) ∧ H4 fa = some (.lst acc) ∧ IsL H4 acc ((cs.take i).flatMap Gc ++ (((prt R c.ps.length (R.length - 1)).take j).map fun r => PV.tup (.str c.w :: r)).filter (Good cs))) ?_ ?_ ?_ ?_
      · refine ⟨_, _, acc, rfl, t3, ep, iW, efa3, ?_⟩
        simpa using iA.same s3
      · exact fun j σ H4 _ ⟨_, _, _, _, _, e, _⟩ => SqL.of e
      · rintro j x σ H4 hx2 ⟨y7, y8, acc4, rfl, t4, ep4, iW4, efa4, iA4⟩
        obtain ⟨tt, et2, it2⟩ := iW4.get hx2
        rw [List.getElem?_map] at et2
        obtain ⟨r, er, rfl⟩ := Option.map_eq_some_iff.mp et2
        obtain ⟨b, zs, rfl, eb, iz⟩ := it2.tup_inv
        have rm := List.mem_of_getElem? er
        obtain ⟨wl, nl, zl, _⟩ := prt_mem ok.wf _ _ rm
        have lz := iz.len
        have hj := (List.getElem?_eq_some_iff.mp er).1
        have pn := plen c hcm
        have la4 := iA4.len
        have lA := lenT i
        have lf := List.length_filter_le (Good cs) (((prt R c.ps.length (R.length - 1)).take j).map fun r => PV.tup (.str c.w :: r))
        rw [List.length_map, List.length_take] at lf
        rw [List.length_append] at la4
        refine ⟨_, rfl, _, rfl, b, zs, rfl, .inl (.inl (.inl eb)), Nat.le_of_lt (small1000 (by simp; omega)), fun tp htp => ?_⟩
        have s5 := same_upd htp (.tup (V.str c.w :: (zs ++ [])))
        have t5 := t4.trans (.of (TT := TT) s5)
        have ia := (hI.sx t5)
        have iv5 : Is (upd H4 tp (.tup (V.str c.w :: (zs ++ [])))) (.ref tp) (.tup (.str c.w :: r)) := .tup upd_same (.cons (.str _ kw) (by have := (iz.same s5).append .nil; rwa [List.append_nil r] at this))
        have wf : Wf (cnts cs) (.tup (.str c.w :: r)) := wf_tup.mpr ⟨by rw [look_cnt G.nd hcm, nl], wl⟩
        have dv := dep_vsz wf
        have vz : vsz (.tup (.str c.w :: r)) = 1 + (R.length - 1) := by simp only [vsz]; omega
        have efa5 := s5 _ _ efa4
        have ep5 := s5 _ _ ep4
        have iW5 := iW4.same s5
        have iA5 := iA4.same s5
        refine ⟨_, rfl, _, rfl, .ref a, .ref tp, mk, F, cs, _, rfl, t5.t hT, ia, G, iv5, wf, by omega, by omega, fun rr H6 x6 T6 k6 => ?_⟩
        have t6' : Sx TT (upd H4 tp (.tup (V.str c.w :: (zs ++ [])))) H6 := ⟨x6, fun _ => T6⟩
        have t6 := t5.trans t6'
        have efa6 := t6'.li efa5
        have ep6 := t6'.li ep5
        have iW6 := iW5.sx t6'
        have iA6 := iA5.sx t6'
        have iv6 := iv5.sx t6'
        have tk : (prt R c.ps.length (R.length - 1)).take (j + 1) = (prt R c.ps.length (R.length - 1)).take j ++ [r] := by
          obtain ⟨hi, eg⟩ := List.getElem?_eq_some_iff.mp er
          rw [List.take_succ_eq_append_getElem hi, eg]
        refine ⟨rfl, _, rfl, ?_⟩
        cases hid : idxOf cs (.tup (.str c.w :: r)) with
        | none =>
          rw [hid] at k6
          rw [show rr = .non from k6]
          have g : Good cs (.tup (.str c.w :: r)) = false := by unfold Good; rw [hid]; rfl
          refine iteF ⟨_, _, acc4, rfl, t6, ep6, iW6, efa6, ?_⟩
          rw [tk, List.map_append, List.filter_append]
          simpa [g] using iA6
        | some y =>
          rw [hid] at k6
          obtain ⟨ra6, _, rfl, _, _⟩ := Is.tup_inv (show Is H6 rr (.tup [.str y.1, y.2]) from k6)
          have g : Good cs (.tup (.str c.w :: r)) = true := by unfold Good; rw [hid]; rfl
          refine iteT ⟨_, rfl, .inl ⟨rfl, _, SqL.of efa6⟩, _, rfl, fa, acc4, _, rfl, rfl, efa6, smallB (by omega), _, _, acc4 ++ [.ref tp], rfl, t6.lst hf efa6 _, ?_, IsL.wr efa6 iW6, upd_same, ?_⟩
          · rw [upd_ne npf]; exact ep6
          · rw [tk, List.map_append, List.filter_append, ← List.append_assoc]
            have e1 : ([r].map fun r => PV.tup (.str c.w :: r)).filter (Good cs) = [.tup (.str c.w :: r)] := by simp [g]
            rw [e1]
            exact IsL.wr efa6 (iA6.append (.cons iv6 .nil))
      · rintro σ H4 ⟨y7, y8, acc4, rfl, t4, ep4, iW4, efa4, iA4⟩
        refine ⟨_, _, _, _, _, acc4, rfl, t4, efa4, ?_⟩
        rw [lw, List.take_length] at iA4
        rw [show cs.take (i + 1) = cs.take i ++ [c] from by
          obtain ⟨hi, eg⟩ := List.getElem?_eq_some_iff.mp hc
          rw [List.take_succ_eq_append_getElem hi, eg], List.flatMap_append, List.flatMap_cons, List.flatMap_nil, List.append_nil]
        exact iA4
    · rintro σ H2 ⟨y4, y5, y6, y7, y8, acc, rfl, t2, efa, iA⟩
      rw [lC, List.take_length] at iA
      exact ⟨_, rfl, q fa H2 acc t2 hf efa iA⟩
end
end Kx
namespace Kx
open PySem PySem.Spec PyProof.Rows L2
section
variable {P : Program} {w : World} {K : PySem.W.Frag} {mg : Str → Option Value} {base : Heap}
set_option pp.maxSteps 1500
theorem rows_bnd {cs : List Con} (c8 : cs.length ≤ 8) (p2 : ∀ c ∈ cs, c.ps.length ≤ 2) : ∀ n, n ≤ 4 → (∀ l, ((rowsV cs n).getD l []).length ≤ bnd l) ∧ (rowsV cs n).getD 0 [] = []
  | 0, _ => by
    have e : ∀ l, ([[]] : List (List PV)).getD l [] = [] := fun l => by cases l <;> rfl
    exact ⟨fun l => by rw [rowsV, e]; simp, rfl⟩
  | n + 1, h => by
    obtain ⟨b, z⟩ := rows_bnd c8 p2 n (by omega)
    have ln := rowsV_len cs n
    refine ⟨fun l => ?_, ?_⟩
    · rw [rowsV, getD_snoc]
      split
      · rename_i e
        rw [e]
        exact nxt_len c8 p2 z b (by omega) (by omega)
      · exact b l
    · rw [rowsV, getD_snoc, if_neg (by omega)]
      exact z
def spValuesOf (TT : List (Addr × Str)) : Sp := fun vs H Q _ => ∃ (tv : V) (mk : List PV) (F : List Str) (cs : List Con) (n : Nat), vs = [tv, .int n] ∧ LamX.Tabs TT H ∧ Is H tv (tabPV mk F cs) ∧ TabG F cs ∧ cs.length ≤ 8 ∧ 1 ≤ n ∧ n ≤ 4 ∧
  ∀ p H' ws, Sx TT H H' → H' p = some (.lst ws) → IsL H' ws ((rowsV cs n).getD n []) → Q (.ref p) H'
theorem ok_values_of {TT : List (Addr × Str)} (T : Txt K mg) (G_values_of_size : FnOk P w K mg base CX0 54 T.a_values_of_size T.d_values_of_size ["table", "rows", "total"] (spOfSize TT)) : FnOk P w K mg base CX0 55 T.a_values_of T.d_values_of ["table", "total"] (spValuesOf TT) := by
  refine T.F_values_of.ok sc_values_of (fun vs H Q E h => ?_) (fun cdv A outer s H vs Q E hr h => ?_)
  · obtain ⟨tv, mk, F, cs, n, rfl, _⟩ := h; rfl
  · obtain ⟨tv, mk, F, cs, n, rfl, hT, hI, G, c8, n1, n4, q⟩ := h
    have hr_values_of_size := hr
    refine ⟨_, (pss_cons (ps_set (i := 2) sc_values_of.nd rfl (Or.inl rfl) (pe_lst (pa_cons (pe_lst pa_nil) pa_nil)))
    (pss_cons (ps_for PassesOwn.never rfl (pi_range2 (by rfl) T.z_range (pa_cons pe_int (pa_cons (pe_op op_add (pv 1) pe_int) pa_nil))) (pg_name (i := 3) sc_values_of.nd rfl (Or.inl rfl))
    (pss_one (ps_expr (pe_bm PySem.F.plainAttrs_list PySem.F.slot_list_append PySem.F.type_list_append mt_append (pv 2) (pa_cons (pe_call G_values_of_size hr_values_of_size rfl T.m_values_of_size T.F_values_of_size.kp T.b_values_of_size .nil pass0 (pa_cons (pv 0) (pa_cons (pv 2) (pa_cons (pv 3) pa_nil)))) pa_nil)))))
    (pss_one (ps_ret (pe_ix ix_list (pv 2) (pv 1) (fun _ _ => rfl)))))), ?_⟩
    have p2 : ∀ c ∈ cs, c.ps.length ≤ 2 := fun c hc => (G.row c hc).1.len
    refine ⟨(by show 0 ≤ sizeLine; decide), fun l0 h0 => ⟨(by show 1 ≤ sizeLine; decide), fun L hL => ?_⟩⟩
    have s1 := same_upd h0 (.lst [])
    have s2 := same_upd hL (.lst [V.ref l0])
    have fL : H L = none := s1.free hL
    have n0 : l0 ≠ L := ne_of_none upd_same hL
    have nn : (1 : Int) + ((n : Nat) : Int) - 1 = (n : Int) := by omega
    have cn : (((n : Nat) : Int) + 1 - 1).toNat = n := by omega
    refine ⟨_, rfl, _, _, rfl, rfl, 1, _, rfl, ⟨by decide, by decide, by omega, by omega⟩, ?_⟩
    rw [cn]
    refine for_range (lo := 1) (n := n) (fun i σ H2 => i ≤ n ∧ ∃ (y3 : Option V), σ = [some tv, some (.int (n : Int)), some (.ref L), y3] ∧ Sx TT H H2 ∧ RowsAt H2 L [L] (rowsV cs i)) ?_ ?_ ?_
    · refine ⟨Nat.zero_le _, none, rfl, (Sx.of s1).trans (.of s2), [l0], upd_same, .cons ⟨by simp [n0], [], by rw [upd_ne n0, upd_same], .nil⟩ .nil⟩
    · rintro i σ H2 hi ⟨_, y3, rfl, t2, hR⟩
      obtain ⟨bb, zz⟩ := rows_bnd c8 p2 i (by omega)
      have ln := rowsV_len cs i
      obtain ⟨ps, eL, lps⟩ := hR.len
      have eR : (1 : Int) + (i : Int) = (((rowsV cs i).length : Nat) : Int) := by rw [ln]; omega
      refine ⟨_, rfl, .inl ⟨rfl, _, SqL.of eL⟩, _, rfl, _, rfl, _, rfl, tv, L, [L], mk, F, cs, rowsV cs i, (by show [tv, V.ref L, V.int (1 + (i : Int))] = _; rw [eR]), t2.t hT, hI.sx t2, G, c8, hR, rows_ok G.nd i, by omega, bb, fun p H3 ws t3 np ep iW => ?_⟩
      have hR3 := hR.sx t3
      obtain ⟨ps3, eL3, pp3⟩ := id hR3
      have npL : p ≠ L := fun e => by rw [e, eL] at np; cases np
      have lp3 := Paired.length pp3
      refine ⟨L, _, .ref p, rfl, rfl, eL3, small1000 (by rw [List.length_map]; omega), by omega, _, rfl, (t2.trans t3).lst fL eL3 _, ?_⟩
      exact RowsAt.snoc eL3 pp3 (by simp) (by simp [npL]) ep iW
    · rintro σ H2 ⟨_, y3, rfl, t2, hR⟩
      have ln := rowsV_len cs n
      obtain ⟨qs, p, vs, eL, lq, eq, _, ep, iW⟩ := hR.get (i := n) (by omega)
      exact ⟨_, rfl, _, rfl, L, _, _, _, rfl, rfl, SqL.of eL, atI_nat (j := n) eq, q p H2 vs t2 ep iW⟩
end
end Kx
namespace Kx
open PySem PySem.Spec PyProof.Rows L2
section
variable {P : Program} {w : World} {K : PySem.W.Frag} {mg : Str → Option Value} {base : Heap}
set_option pp.maxSteps 1500
theorem con_get {H : Hp} {cvs : List V} {cs : List Con} (h : IsL H cvs (cs.map conPV)) {i : Nat} {x : V} (hx : cvs[i]? = some x) : ∃ c, cs[i]? = some c ∧ Is H x (conPV c) := by
  obtain ⟨t, et, it⟩ := h.get hx
  rw [List.getElem?_map] at et
  obtain ⟨c, hc, rfl⟩ := Option.map_eq_some_iff.mp et
  exact ⟨c, hc, it⟩
theorem take_snoc {α : Type} {l : List α} {i : Nat} {x : α} (h : l[i]? = some x) : l.take (i + 1) = l.take i ++ [x] := by
  obtain ⟨hi, e⟩ := List.getElem?_eq_some_iff.mp h
  rw [List.take_succ_eq_append_getElem hi, e]
def spCons : Sp := fun vs H Q _ => ∃ (tv : V) (mk : List PV) (F : List Str) (cs : List Con) (f : Str), vs = [tv, .str f] ∧ Is H tv (tabPV mk F cs) ∧ cs.length ≤ 12 ∧ ∀ p H' ws, Same H H' → H p = none → H' p = some (.lst ws) → IsL H' ws ((cs.filter fun c => c.fam == f).map conPV) → Q (.ref p) H'
theorem ok_law_constructors (T : Txt K mg)  : FnOk P w K mg base CX0 1 T.a_law_constructors T.d_law_constructors ["table", "family"] spCons := by
  refine T.F_law_constructors.ok sc_law_constructors (fun vs H Q E h => ?_) (fun cdv A outer s H vs Q E hr h => ?_)
  · obtain ⟨tv, mk, F, cs, f, rfl, _⟩ := h; rfl
  · obtain ⟨tv, mk, F, cs, f, rfl, hI, c12, q⟩ := h
    refine ⟨_, (pss_one (ps_ret (pe_lc (own := [("row", 2)]) (g := (gName 2)) rfl sc_law_constructors.nd (pi_tup (pe_ix ix_tup (pv 0) pe_int (fun _ _ => rfl))) (blkOk_by (own := [("row", 2)]) (N := ["table", "family", "row"]) (sc := defScope s_law_constructors) (by decide +kernel)) (fun _ _ _ _ _ => (pg_name (i := 2) sc_law_constructors.nd rfl (Or.inl rfl))) (fun _ _ _ _ _ => pts_one (pt_cmpR op_eq (pe_ix (ixTK (K := K)) (pv 2) pe_int (fun _ _ => rfl)) (pv 1) (nomark _))) (fun _ _ _ _ _ => (pv 2))))), ?_⟩
    obtain ⟨a, v0, v1, fa0, ca, fvs, cvs, rfl, ea, ef, iF, ec, iC⟩ := tab_inv hI
    have lC := iC.len
    rw [List.length_map] at lC
    refine ⟨_, rfl, a, _, _, _, rfl, rfl, .inl (.inl ea), atI_nat (j := 3) rfl, ca, rfl, ⟨_, .inl (.inl ec)⟩, fun D hD => ?_⟩
    refine lc_tup (K := K) (a := ca) (xs := cvs) (fun i H2 => ∃ xs, Same H H2 ∧ H2 D = some (.lst xs) ∧ IsL H2 xs (((cs.take i).filter fun c => c.fam == f).map conPV)) ?_ ?_ ?_ ?_
    · exact ⟨[], same_upd hD _, upd_same, .nil⟩
    · exact fun i H2 _ ⟨_, sm, _⟩ => .inl (.inl (sm _ _ ec))
    · rintro i x H2 hx ⟨xs, sm, eD, iX⟩
      obtain ⟨c, hc, it⟩ := con_get iC hx
      have it2 := it.same sm
      obtain ⟨xa, pa, iv, pvs, rfl, exa, _, _, _, _, _⟩ := con_inv it2
      have lx := iX.len
      rw [List.length_map] at lx
      have lf := List.length_filter_le (fun c : Con => c.fam == f) (cs.take i)
      rw [List.length_take] at lf
      refine ⟨rfl, _, rfl, xa, _, _, _, rfl, rfl, .inl (.inl exa), atI_nat (j := 2) rfl, _, rfl, rfl, _, rfl, ite2 (fun c1 => ?_) (fun c1 => ?_)⟩
      · have e : c.fam = f := V.str.inj (of_decide_eq_true c1)
        refine ⟨_, rfl, xs, eD, small1000 (by omega), xs ++ [.ref xa], Kx.Same.own sm hD _, upd_same, IsL.wr eD ?_⟩
        have e2 : ([c].filter fun c : Con => c.fam == f) = [c] := by simp [e]
        rw [take_snoc hc, List.filter_append, List.map_append, e2]
        exact iX.append (.cons it2 .nil)
      · have e : ¬ c.fam = f := fun e => c1 (by rw [e]; exact decide_eq_true rfl)
        refine ⟨xs, sm, eD, ?_⟩
        rw [take_snoc hc, List.filter_append]
        simpa [e] using iX
    · rintro H2 ⟨xs, sm, eD, iX⟩
      rw [lC, List.take_length] at iX
      exact q D H2 xs sm hD eD iX
def spLBefore (n : Nat) : Sp := fun vs H Q _ => ∃ (tv v u : V) (mk : List PV) (F : List Str) (cs : List Con) (t s : PV), vs = [tv, v, u] ∧ Is H tv (tabPV mk F cs) ∧ TabG F cs ∧ Is H v t ∧ Is H u s ∧ Wf (cnts cs) t ∧ Wf (cnts cs) s ∧ dep t ≤ n ∧ dep t ≤ 20 ∧ dep s ≤ 20 ∧ ∀ H', Same H H' → Q (.bl (klt (cnts cs) t s)) H'
theorem ok_law_before {n : Nat} (T : Txt K mg) (G_law_size : FnOk P w K mg base CX0 21 T.a_law_size T.d_law_size ["value"] (spLSize 20)) (G_law_before : FnOk P w K mg base CX0 (n+21) T.a_law_before T.d_law_before ["table", "one", "other"] (spLBefore n)) : FnOk P w K mg base CX0 (n+22) T.a_law_before T.d_law_before ["table", "one", "other"] (spLBefore (n+1)) := by
  refine T.F_law_before.ok sc_law_before (fun vs H Q E h => ?_) (fun cdv A outer s H vs Q E hr h => ?_)
  · obtain ⟨tv, v, u, mk, F, cs, t, s, rfl, _⟩ := h; rfl
  · obtain ⟨tv, v, u, mk, F, cs, t, s', rfl, hT, G, hI, hJ, hW, hX, hn, d1, d2, q⟩ := h
    have hr_law_size := hr.mono (show 21 ≤ n + 21 by omega)
    have hr_law_before := hr
    refine ⟨_, (pss_cons (ps_if (pt_cmpR op_ne (pe_call G_law_size hr_law_size rfl T.m_law_size T.F_law_size.kp T.b_law_size .nil pass0 (pa_cons (pv 1) pa_nil)) (pe_call G_law_size hr_law_size rfl T.m_law_size T.F_law_size.kp T.b_law_size .nil pass0 (pa_cons (pv 2) pa_nil)) (nomark _)) (pss_one (ps_ret (pe_cmpR op_lt (pe_call G_law_size hr_law_size rfl T.m_law_size T.F_law_size.kp T.b_law_size .nil pass0 (pa_cons (pv 1) pa_nil)) (pe_call G_law_size hr_law_size rfl T.m_law_size T.F_law_size.kp T.b_law_size .nil pass0 (pa_cons (pv 2) pa_nil)) (nomark _)))) pss_nil)
    (pss_cons (ps_setLc (i := 3) (own := [("row", 5)]) (g := (gName 5)) (tt := tYes) rfl sc_law_before.nd rfl rfl (sw_true rfl rfl rfl (by decide +kernel)) (pi_tup (pe_ix ix_tup (pv 0) pe_int (fun _ _ => rfl))) (blkOk_by (own := [("row", 5)]) (N := ["table", "one", "other", "words", "k", "row"]) (sc := defScope s_law_before) (by decide +kernel)) (fun _ _ _ _ _ => (pg_name (i := 5) sc_law_before.nd rfl (Or.inl rfl))) (fun _ _ _ _ _ => pts_nil) (fun _ _ _ _ _ => (pe_ix (ixTK (K := K)) (pv 5) pe_int (fun _ _ => rfl))))
    (pss_cons (ps_if (pt_cmpR op_ne (pe_ix ix_tup (pv 1) pe_int (fun _ _ => rfl)) (pe_ix ix_tup (pv 2) pe_int (fun _ _ => rfl)) (nomark _)) (pss_one (ps_ret (pe_cmpR op_lt (pe_bm PySem.F.plainAttrs_list PySem.F.slot_list_index PySem.F.type_list_index mt_index (pv 3) (pa_cons (pe_ix ix_tup (pv 1) pe_int (fun _ _ => rfl)) pa_nil)) (pe_bm PySem.F.plainAttrs_list PySem.F.slot_list_index PySem.F.type_list_index mt_index (pv 3) (pa_cons (pe_ix ix_tup (pv 2) pe_int (fun _ _ => rfl)) pa_nil)) (nomark _)))) pss_nil)
    (pss_cons (ps_for PassesOwn.never rfl (pi_range2 (by rfl) T.z_range (pa_cons pe_int (pa_cons (pe_callB call_len_seq (by rfl) T.z_len (by decide +kernel) (pa_cons (pv 1) pa_nil)) pa_nil))) (pg_name (i := 4) sc_law_before.nd rfl (Or.inl rfl))
    (pss_one (ps_if (pt_cmpR (neP (u200 hr)) (pe_ix ix_tup (pv 1) (pv 4) (fun _ _ => rfl)) (pe_ix ix_tup (pv 2) (pv 4) (fun _ _ => rfl)) (nomark _)) (pss_one (ps_ret (pe_call G_law_before hr_law_before rfl T.m_law_before T.F_law_before.kp T.b_law_before .nil pass0 (pa_cons (pv 0) (pa_cons (pe_ix ix_tup (pv 1) (pv 4) (fun _ _ => rfl)) (pa_cons (pe_ix ix_tup (pv 2) (pv 4) (fun _ _ => rfl)) pa_nil)))))) pss_nil)))
    (pss_one (ps_ret pe_bl)))))), ?_⟩
    have c3 : ∀ c ∈ cs, c.ps.length ≤ 3 := fun c hc => (con_of G c hc).len
    have rvt := raw_rv c3 t hW
    have rvs := raw_rv c3 s' hX
    obtain ⟨w, ts, rfl, lk, hTl⟩ := wf_inv hW
    obtain ⟨w', ss, rfl, lk2, hSl⟩ := wf_inv hX
    refine ⟨_, rfl, v, _, cs.map (·.w), rfl, hI, rvt, d1, fun H1 s1 => ⟨_, rfl, u, _, cs.map (·.w), rfl, hJ.same s1, rvs, d2, fun H2 s2 => ⟨rfl, _, rfl, ?_⟩⟩⟩
    have s12 := s1.trans s2
    obtain ⟨a, w0, vs, ts0, rfl, e0, ea, hL, kw, _, _⟩ := tree_inv (hI.same s12) hW
    cases e0
    obtain ⟨b, w0', us, ss0, rfl, e0', eb, hL2, kw2, _, _⟩ := tree_inv (hJ.same s12) hX
    cases e0'
    have nd := cnts_nd G
    refine ite2 (fun c => ?_) (fun c => ?_)
    · have ne : vszL ts ≠ vszL ss := fun e => by
        rw [show vsz (.tup (.str w :: ts)) = 1 + vszL ts from rfl, show vsz (.tup (.str w' :: ss)) = 1 + vszL ss from rfl, e] at c
        simp at c
      have e : klt (cnts cs) (.tup (.str w :: ts)) (.tup (.str w' :: ss)) = decide (((vsz (.tup (.str w :: ts)) : Nat) : Int) < ((vsz (.tup (.str w' :: ss)) : Nat) : Int)) := by
        rw [klt_eq, if_neg ne]
        simp only [vsz]
        exact decide_eq_decide.mpr (by omega)
      rw [e] at q
      exact ⟨_, rfl, _, _, cs.map (·.w), rfl, hI.same s12, rvt, d1, fun H3 s3 => ⟨_, rfl, _, _, cs.map (·.w), rfl, hJ.same (s12.trans s3), rvs, d2, fun H4 s4 => ⟨_, _, rfl, rfl, q H4 ((s12.trans s3).trans s4)⟩⟩⟩
    · have eqz : vszL ts = vszL ss := by
        have : V.int ((vsz (.tup (.str w :: ts)) : Nat) : Int) = V.int ((vsz (.tup (.str w' :: ss)) : Nat) : Int) := by
          refine Classical.byContradiction fun h => c ?_
          rw [decide_eq_false h]; rfl
        have h := V.int.inj this
        rw [show vsz (.tup (.str w :: ts)) = 1 + vszL ts from rfl, show vsz (.tup (.str w' :: ss)) = 1 + vszL ss from rfl] at h
        omega
      have hlen := hL.len
      have hlen2 := hL2.len
      obtain ⟨ta, v0, v1, fa0, ca, fvs, cvs, rfl, eta, eft, iF, ec, iC⟩ := tab_inv (hT.same s12)
      have lC := iC.len
      rw [List.length_map] at lC
      have l12 := G.len.2
      refine ⟨_, rfl, ta, _, _, _, rfl, rfl, .inl (.inl eta), atI_nat (j := 3) rfl, ca, rfl, ⟨_, .inl (.inl ec)⟩, fun D hD => ?_⟩
      refine lc_tup (K := K) (a := ca) (xs := cvs) (fun i H3 => Same H2 H3 ∧ H3 D = some (.lst (((cnts (cs.take i)).map (·.1)).map V.str))) ?_ ?_ ?_ ?_
      · exact ⟨same_upd hD _, upd_same⟩
      · exact fun i H3 _ ⟨sm, _⟩ => .inl (.inl (sm _ _ ec))
      · rintro i x H3 hx ⟨sm, eD⟩
        obtain ⟨cc, hc, it⟩ := con_get iC hx
        obtain ⟨xa, pa, iv, pvs, rfl, exa, _, _, _, _, _⟩ := con_inv (it.same sm)
        refine ⟨rfl, yes_if ⟨_, rfl, xa, _, _, _, rfl, rfl, .inl (.inl exa), atI_nat (j := 0) rfl, _, eD, small1000 (by rw [List.length_map, List.length_map, cnts, List.length_map, List.length_take]; omega), Kx.Same.own sm hD _, ?_⟩⟩
        rw [upd_same, take_snoc hc, cnts, cnts, List.map_append, List.map_append, List.map_append]; rfl
      rintro H3 ⟨sm, eD⟩
      rw [lC, List.take_length] at eD
      have s13 := s12.trans sm
      refine ⟨_, rfl, a, _, _, _, rfl, rfl, .inl (.inl (sm _ _ ea)), atI_nat (j := 0) rfl, _, rfl, b, _, _, _, rfl, rfl, .inl (.inl (sm _ _ eb)), atI_nat (j := 0) rfl, rfl, _, rfl, ite2 (fun c2 => ?_) (fun c2 => ?_)⟩
      · have nw : w ≠ w' := fun e => by rw [e] at c2; simp at c2
        have ni : widx (cnts cs) w ≠ widx (cnts cs) w' := fun e => nw (widx_inj (look_in lk) (look_in lk2) e)
        obtain ⟨i1, i2, i3, i4⟩ := words_ix nd (look_in lk)
        obtain ⟨j1, j2, j3, j4⟩ := words_ix nd (look_in lk2)
        have e : klt (cnts cs) (.tup (.str w :: ts)) (.tup (.str w' :: ss)) = decide (((widx (cnts cs) w : Nat) : Int) < ((widx (cnts cs) w' : Nat) : Int)) := by
          rw [klt_eq, if_pos eqz, if_neg ni]
          exact decide_eq_decide.mpr (by omega)
        rw [e] at q
        refine ⟨_, rfl, .inl ⟨rfl, _, SqL.of eD⟩, _, rfl, a, _, _, _, rfl, rfl, .inl (.inl (sm _ _ ea)), atI_nat (j := 0) rfl, D, _, .str w, widx (cnts cs) w, .str w, rfl, rfl, SqL.of eD, rfl, i1, i2, i3, i4, ?_⟩
        refine ⟨_, rfl, .inl ⟨rfl, _, SqL.of eD⟩, _, rfl, b, _, _, _, rfl, rfl, .inl (.inl (sm _ _ eb)), atI_nat (j := 0) rfl, D, _, .str w', widx (cnts cs) w', .str w', rfl, rfl, SqL.of eD, rfl, j1, j2, j3, j4, ?_⟩
        exact ⟨_, _, rfl, rfl, q H3 s13⟩
      have ew : w = w' := Classical.byContradiction fun h => c2 (by
        rw [decide_eq_false (fun e => h (V.str.inj e))]; rfl)
      subst ew
      have hpt : ts.length = ss.length := by
        have z := lk.symm.trans lk2
        have := Option.some.inj z
        omega
      have el : (((V.str w :: vs).length : Nat) : Int) - 1 = ((vs.length : Nat) : Int) := by rw [List.length_cons]; omega
      have dv := dep_vsz hW
      have lts : ts.length ≤ 3 := by
        obtain ⟨cc, hcc, rfl, ecc⟩ := cnt_look lk
        have := c3 cc hcc
        omega
      refine ⟨_, rfl, a, _, rfl, .inr (.inl (.inl (sm _ _ ea))), 1, _, rfl, ⟨by decide, by decide, by rw [List.length_cons]; omega, by rw [List.length_cons]; omega⟩, ?_⟩
      rw [el]
      rw [dep_cons] at hn d1 d2
      refine for_range (lo := 1) (n := vs.length) (fun i σ H4 => ∃ y4, σ = [some (.ref ta), some (.ref a), some (.ref b), some (.ref D), y4, none] ∧ Same H3 H4 ∧ ts.take i = ss.take i) ?_ ?_ ?_
      · exact ⟨none, rfl, .refl _, rfl⟩
      · rintro i σ H4 hi ⟨y4, rfl, s4, hE⟩
        have ei : vs[i]? = some vs[i] := List.getElem?_eq_getElem hi
        have ej : us[i]? = some (us[i]'(by omega)) := List.getElem?_eq_getElem _
        obtain ⟨y, ey, hy⟩ := hL.get ei
        obtain ⟨z, ez, hz⟩ := hL2.get ej
        have hm := List.mem_of_getElem? ey
        have hm2 := List.mem_of_getElem? ez
        have dy := depL_mem hm
        have dz := depL_mem hm2
        have s34 := sm.trans s4
        have gy := hy.same s34
        have gz := hz.same s34
        have wy := mem_WfL hTl y hm
        have wz := mem_WfL hSl z hm2
        have at1 : (V.str w :: vs)[1 + i]? = some vs[i] := by rw [Nat.add_comm, List.getElem?_cons_succ]; exact ei
        have at2 : (V.str w :: us)[1 + i]? = some (us[i]'(by omega)) := by rw [Nat.add_comm, List.getElem?_cons_succ]; exact ej
        have ea4 := s34 _ _ ea
        have eb4 := s34 _ _ eb
        refine ⟨_, rfl, _, rfl, a, _, _, _, rfl, rfl, .inl (.inl ea4), atI_nat (j := 1 + i) at1, _, rfl, _, rfl, b, _, _, _, rfl, rfl, .inl (.inl eb4), atI_nat (j := 1 + i) at2, ?_⟩
        refine ⟨_, _, gy.dp (tm_no (wf_tm wy)), gz.dp (tm_no (wf_tm wz)), gy.lay, gz.lay, Nat.le_trans (toD_depth y) (by omega), _, rfl, ite2 (fun c3 => ?_) (fun c3 => ?_)⟩
        · have nyz := (neD_iff (tm_no (wf_tm wy)) (tm_no (wf_tm wz))).mp c3
          have e : klt (cnts cs) (.tup (.str w :: ts)) (.tup (.str w :: ss)) = klt (cnts cs) y z := by
            obtain ⟨h1, e1⟩ := List.getElem?_eq_some_iff.mp ey
            obtain ⟨h2, e2⟩ := List.getElem?_eq_some_iff.mp ez
            rw [klt_eq, if_pos eqz, if_pos rfl, kltL_drop i hTl hE, List.drop_eq_getElem_cons h1, List.drop_eq_getElem_cons h2, e1, e2, kltL_ne _ _ wy wz nyz]
          rw [e] at q
          have at1' : atI (V.str w :: vs) (1 + (i : Int)) = some vs[i] := atI_nat (j := 1 + i) at1
          refine ⟨_, rfl, _, rfl, _, rfl, a, _, _, _, rfl, rfl, .inl (.inl ea4), atI_nat (j := 1 + i) at1, _, rfl, _, rfl, b, _, _, _, rfl, rfl, .inl (.inl eb4), atI_nat (j := 1 + i) at2, .ref ta, _, _, mk, F, cs, y, z, rfl, (hT.same s12).same s34, G, gy, gz, wy, wz, by omega, by omega, by omega, fun H5 s5 => ?_⟩
          exact q H5 ((s13.trans s4).trans s5)
        · have eyz : y = z := Classical.byContradiction fun h => c3 ((neD_iff (tm_no (wf_tm wy)) (tm_no (wf_tm wz))).mpr h)
          refine ⟨_, rfl, s4, ?_⟩
          rw [take_snoc ey, take_snoc ez, hE, eyz]
      · rintro σ H4 ⟨y4, rfl, s4, hE⟩
        rw [hlen, List.take_length, hpt, List.take_length] at hE
        subst hE
        rw [klt_irrefl] at q
        exact q H4 (s13.trans s4)
end
end Kx
/-! The raw values of each family and size, as the law makes them. -/
namespace Kx
open PySem PySem.Spec PyProof.Rows L2
/-- the parts that may stand for these families, with what is left of the size -/
def tls (raw : Str → Nat → List PV) : List Str → Nat → List (List PV × Nat)
  | [], l => [([], l)]
  | f :: fs, l => (List.range' 1 l).flatMap fun s => (raw f s).flatMap fun o => (tls raw fs (l - s)).map fun x => (o :: x.1, x.2)
/-- those that leave nothing -/
def tp (raw : Str → Nat → List PV) (fs : List Str) (l : Nat) : List (List PV) := ((tls raw fs l).filter fun x => decide (x.2 = 0)).map (·.1)
def fmsOf (c : Con) : List Str := c.ps.map (·.1)
def rawV (cs : List Con) : Nat → Str → Nat → List PV
  | 0, _, _ => []
  | n + 1, f, m => if m = 0 then [] else (cs.filter fun c => c.fam == f).flatMap fun c => (tp (rawV cs n) (fmsOf c) (m - 1)).map fun r => PV.tup (.str c.w :: r)
theorem rawV_succ (cs : List Con) (n : Nat) (f : Str) {m : Nat} (h : 1 ≤ m) : rawV cs (n + 1) f m = (cs.filter fun c => c.fam == f).flatMap fun c => (tp (rawV cs n) (fmsOf c) (m - 1)).map fun r => PV.tup (.str c.w :: r) := by
  rw [rawV, if_neg (by omega)]
/-- one family more -/
def extT (raw : Str → Nat → List PV) (g : Str) (x : List PV × Nat) : List (List PV × Nat) := (List.range' 1 x.2).flatMap fun s => (raw g s).map fun o => (x.1 ++ [o], x.2 - s)
theorem tls_snoc (raw : Str → Nat → List PV) (g : Str) : ∀ (fs : List Str) (l : Nat), tls raw (fs ++ [g]) l = (tls raw fs l).flatMap (extT raw g)
  | [], l => by
    simp only [List.nil_append, tls, extT, List.flatMap_cons, List.flatMap_nil, List.append_nil, List.map_cons, List.map_nil]
    congr 1
    funext s
    induction raw g s with
    | nil => rfl
    | cons o r ih => rw [List.flatMap_cons, List.map_cons, ih]; rfl
  | f :: fs, l => by
    simp only [List.cons_append, tls, List.flatMap_assoc, List.flatMap_map]
    congr 1
    funext s
    congr 1
    funext o
    rw [tls_snoc raw g fs (l - s), List.map_flatMap]
    congr 1
    funext x
    simp only [extT, List.map_flatMap, List.map_map]
    rfl
theorem tls_mem {mk : List (Str × Int)} {raw : Str → Nat → List PV} (h : ∀ f s, ∀ x ∈ raw f s, Wf mk x ∧ vsz x = s) : ∀ (fs : List Str) (l : Nat) {x : List PV × Nat}, x ∈ tls raw fs l → WfL mk x.1 ∧ x.1.length = fs.length ∧ vszL x.1 + x.2 = l
  | [], l, x, hx => by
    rw [tls, List.mem_singleton] at hx
    rw [hx]
    exact ⟨rfl, rfl, by simp [vszL]⟩
  | f :: fs, l, x, hx => by
    rw [tls] at hx
    obtain ⟨s, hs, hx⟩ := List.mem_flatMap.mp hx
    obtain ⟨o, ho, hx⟩ := List.mem_flatMap.mp hx
    obtain ⟨y, hy, rfl⟩ := List.mem_map.mp hx
    obtain ⟨a, b, c⟩ := tls_mem h fs (l - s) hy
    obtain ⟨w, z⟩ := h f s o ho
    have hs' := List.mem_range'_1.mp hs
    exact ⟨wfL_cons.mpr ⟨w, a⟩, by simp [b], by simp only [vszL]; omega⟩
theorem tls_all {raw : Str → Nat → List PV} : ∀ {fs : List Str} {r : List PV} {l : Nat}, r.length = fs.length → (∀ (i : Nat) f x, fs[i]? = some f → r[i]? = some x → x ∈ raw f (vsz x)) → vszL r ≤ l → (r, l - vszL r) ∈ tls raw fs l
  | [], [], l, _, _, _ => by simp [tls, vszL]
  | [], _ :: _, _, h, _, _ => by simp at h
  | _ :: _, [], _, h, _, _ => by simp at h
  | f :: fs, x :: r, l, h, hm, hl => by
    simp only [vszL] at hl
    have p := vsz_one x
    have ih := tls_all (raw := raw) (fs := fs) (r := r) (l := l - vsz x) (by simpa using h) (fun i g y a b => hm (i + 1) g y (by simpa using a) (by simpa using b)) (by omega)
    rw [tls]
    refine List.mem_flatMap.mpr ⟨vsz x, List.mem_range'_1.mpr ⟨p, by omega⟩, List.mem_flatMap.mpr ⟨x, hm 0 f x rfl rfl, List.mem_map.mpr ⟨_, ih, ?_⟩⟩⟩
    simp only [vszL, Prod.mk.injEq, true_and]
    omega
theorem tls_nd {mk : List (Str × Int)} {raw : Str → Nat → List PV} (h : ∀ f s, ∀ x ∈ raw f s, Wf mk x ∧ vsz x = s) (hn : ∀ f s, (raw f s).Nodup) : ∀ (fs : List Str) (l : Nat), (tls raw fs l).Pairwise fun x y => x.1 ≠ y.1
  | [], l => by simp [tls]
  | f :: fs, l => by
    rw [tls]
    refine List.pairwise_flatMap.mpr ⟨fun s hs => List.pairwise_flatMap.mpr ⟨fun o ho => ?_, ?_⟩, ?_⟩
    · refine List.pairwise_map.mpr ((tls_nd h hn fs (l - s)).imp fun {x y} e q => e ?_)
      exact (List.cons.inj q).2
    · refine (hn f s).imp fun {a b} e x hx y hy q => ?_
      obtain ⟨x', _, rfl⟩ := List.mem_map.mp hx
      obtain ⟨y', _, rfl⟩ := List.mem_map.mp hy
      exact e (List.cons.inj q).1
    · refine (List.pairwise_lt_range' (s := 1) (n := l)).imp fun {s t} hst x hx y hy q => ?_
      obtain ⟨a, ha, hx⟩ := List.mem_flatMap.mp hx
      obtain ⟨b, hb, hy⟩ := List.mem_flatMap.mp hy
      obtain ⟨x', _, rfl⟩ := List.mem_map.mp hx
      obtain ⟨y', _, rfl⟩ := List.mem_map.mp hy
      have e : a = b := (List.cons.inj q).1
      have sa := (h f s a ha).2
      have sb := (h f t b hb).2
      rw [e] at sa
      omega
theorem tp_mem {mk : List (Str × Int)} {raw : Str → Nat → List PV} (h : ∀ f s, ∀ x ∈ raw f s, Wf mk x ∧ vsz x = s) {fs : List Str} {l : Nat} {r : List PV} (hr : r ∈ tp raw fs l) : WfL mk r ∧ r.length = fs.length ∧ vszL r = l := by
  obtain ⟨x, hx, rfl⟩ := List.mem_map.mp hr
  obtain ⟨hx, z⟩ := List.mem_filter.mp hx
  obtain ⟨a, b, c⟩ := tls_mem h fs l hx
  have := of_decide_eq_true z
  exact ⟨a, b, by omega⟩
theorem tp_nd {mk : List (Str × Int)} {raw : Str → Nat → List PV} (h : ∀ f s, ∀ x ∈ raw f s, Wf mk x ∧ vsz x = s) (hn : ∀ f s, (raw f s).Nodup) (fs : List Str) (l : Nat) : (tp raw fs l).Nodup :=
  List.pairwise_map.mpr ((tls_nd h hn fs l).filter _)
theorem tp_all {raw : Str → Nat → List PV} {fs : List Str} {r : List PV} (h : r.length = fs.length) (hm : ∀ (i : Nat) f x, fs[i]? = some f → r[i]? = some x → x ∈ raw f (vsz x)) : r ∈ tp raw fs (vszL r) := by
  have := tls_all h hm (Nat.le_refl _)
  rw [Nat.sub_self] at this
  exact List.mem_map.mpr ⟨_, List.mem_filter.mpr ⟨this, by simp⟩, rfl⟩
/-! ### how many -/
theorem tp_cons (raw : Str → Nat → List PV) (f : Str) (fs : List Str) (l : Nat) : tp raw (f :: fs) l = (List.range' 1 l).flatMap fun s => (raw f s).flatMap fun o => (tp raw fs (l - s)).map (o :: ·) := by
  unfold tp
  simp only [tls, List.filter_flatMap, List.map_flatMap, List.filter_map, List.map_map]
  rfl
theorem tp_nil (raw : Str → Nat → List PV) (l : Nat) : tp raw [] l = if l = 0 then [[]] else [] := by
  unfold tp
  by_cases h : l = 0 <;> simp [tls, h]
theorem tp_bnd {raw : Str → Nat → List PV} (h : ∀ f s, 1 ≤ s → s ≤ 3 → (raw f s).length ≤ bnd s) (fs : List Str) (t : Nat) (hk : fs.length ≤ 2) (ht : t ≤ 3) : (tp raw fs t).length ≤ pbd t := by
  have b1 := fun f => h f 1 (by decide) (by decide)
  have b2 := fun f => h f 2 (by decide) (by decide)
  have b3 := fun f => h f 3 (by decide) (by decide)
  simp only [bnd] at b1 b2 b3
  have n0 : tp raw [] 0 = [[]] := rfl
  have n1 : tp raw [] 1 = [] := rfl
  have n2 : tp raw [] 2 = [] := rfl
  have one : ∀ f, ∀ t, 1 ≤ t → t ≤ 3 → (tp raw [f] t).length = (raw f t).length := fun f t t1 t3 => by
    have z : ∀ s, (fun o : PV => (tp raw [] s).map (o :: ·)) = fun o => if s = 0 then [[o]] else [] := fun s => by
      funext o
      rw [tp_nil]
      by_cases e : s = 0 <;> simp [e]
    have e0 : ∀ l : List PV, (l.flatMap fun o => ([] : List (List PV))) = [] := fun l => by simp
    have e1 : ∀ l : List PV, (l.flatMap fun o => [[o]]).length = l.length := fun l => by
      induction l with
      | nil => rfl
      | cons a r ih => rw [List.flatMap_cons, List.length_append, ih]; simp; omega
    rw [tp_cons]
    simp only [z]
    rcases (show t = 1 ∨ t = 2 ∨ t = 3 by omega) with rfl | rfl | rfl
    · show ((List.range' 1 1).flatMap _).length = _
      rw [show List.range' 1 1 = [1] from rfl]
      simp only [List.flatMap_cons, List.flatMap_nil, List.append_nil]
      exact e1 _
    · rw [show List.range' 1 2 = [1, 2] from rfl]
      simp only [List.flatMap_cons, List.flatMap_nil, List.append_nil]
      show ((raw f 1).flatMap (fun o => ([] : List (List PV))) ++ (raw f 2).flatMap (fun o => [[o]])).length = _
      rw [e0, List.nil_append]
      exact e1 _
    · rw [show List.range' 1 3 = [1, 2, 3] from rfl]
      simp only [List.flatMap_cons, List.flatMap_nil, List.append_nil]
      show ((raw f 1).flatMap (fun o => ([] : List (List PV))) ++ ((raw f 2).flatMap (fun o => ([] : List (List PV))) ++ (raw f 3).flatMap (fun o => [[o]]))).length = _
      rw [e0, e0, List.nil_append, List.nil_append]
      exact e1 _
  have zero : ∀ f fs, tp raw (f :: fs) 0 = [] := fun f fs => rfl
  match fs, hk with
  | [], _ =>
    rw [tp_nil]
    split
    · rename_i e; subst e; simp [pbd]
    · simp
  | [f], _ =>
    rcases (show t = 0 ∨ t = 1 ∨ t = 2 ∨ t = 3 by omega) with rfl | rfl | rfl | rfl
    · rw [zero]; simp
    · rw [one f 1 (by decide) (by decide)]; exact b1 f
    · rw [one f 2 (by decide) (by decide)]; exact b2 f
    · rw [one f 3 (by decide) (by decide)]; exact b3 f
  | [f, g], _ =>
    have mul : ∀ s u, 1 ≤ u → u ≤ 3 → ((raw f s).flatMap fun a => (tp raw [g] u).map (a :: ·)).length ≤ (raw f s).length * (raw g u).length := fun s u h1 h3 => flatMap_len fun a _ => by rw [List.length_map, one g u h1 h3]; exact Nat.le_refl _
    have nul : ∀ s, ((raw f s).flatMap fun a => (tp raw [g] 0).map (a :: ·)) = [] := fun s => by rw [zero]; simp
    rcases (show t = 0 ∨ t = 1 ∨ t = 2 ∨ t = 3 by omega) with rfl | rfl | rfl | rfl
    · rw [zero]; simp
    · rw [tp_cons, show List.range' 1 1 = [1] from rfl]
      simp only [List.flatMap_cons, List.flatMap_nil, List.append_nil]
      rw [nul]; simp
    · rw [tp_cons, show List.range' 1 2 = [1, 2] from rfl]
      simp only [List.flatMap_cons, List.flatMap_nil, List.append_nil]
      rw [nul, List.append_nil]
      have : (raw f 1).length * (raw g 1).length ≤ 8 * 8 := Nat.mul_le_mul (b1 f) (b1 g)
      exact Nat.le_trans (mul 1 1 (by decide) (by decide)) this
    · rw [tp_cons, show List.range' 1 3 = [1, 2, 3] from rfl]
      simp only [List.flatMap_cons, List.flatMap_nil, List.append_nil]
      rw [nul, List.append_nil, List.length_append]
      have a1 : (raw f 1).length * (raw g 2).length ≤ 8 * 64 := Nat.mul_le_mul (b1 f) (b2 g)
      have a2 : (raw f 2).length * (raw g 1).length ≤ 64 * 8 := Nat.mul_le_mul (b2 f) (b1 g)
      have c1 := Nat.le_trans (mul 1 2 (by decide) (by decide)) a1
      have c2 := Nat.le_trans (mul 2 1 (by decide) (by decide)) a2
      show _ ≤ 1024
      have c1' : ((raw f 1).flatMap fun a => (tp raw [g] (3 - 1)).map (a :: ·)).length ≤ 8 * 64 := c1
      have c2' : ((raw f 2).flatMap fun a => (tp raw [g] (3 - 2)).map (a :: ·)).length ≤ 64 * 8 := c2
      omega
theorem raw_len {cs : List Con} (c8 : cs.length ≤ 8) (p2 : ∀ c ∈ cs, c.ps.length ≤ 2) : ∀ (n : Nat) (f : Str) (m : Nat), 1 ≤ m → m ≤ 4 → (rawV cs n f m).length ≤ bnd m
  | 0, f, m, _, _ => by simp [rawV]
  | n + 1, f, m, m1, m4 => by
    have ih : ∀ f s, 1 ≤ s → s ≤ 3 → (rawV cs n f s).length ≤ bnd s := fun f s h1 h3 => raw_len c8 p2 n f s h1 (by omega)
    have g : (rawV cs (n + 1) f m).length ≤ (cs.filter fun c => c.fam == f).length * pbd (m - 1) := by
      rw [rawV_succ cs n f m1]
      refine flatMap_len fun c hc => ?_
      rw [List.length_map]
      exact tp_bnd (fun f s h1 h3 => ih f s h1 h3) _ _ (by rw [fmsOf, List.length_map]; exact p2 c (List.mem_filter.mp hc).1) (by omega)
    have lf := List.length_filter_le (fun c : Con => c.fam == f) cs
    have k : (cs.filter fun c => c.fam == f).length * pbd (m - 1) ≤ 8 * pbd (m - 1) := Nat.mul_le_mul_right _ (by omega)
    rcases (show m = 1 ∨ m = 2 ∨ m = 3 ∨ m = 4 by omega) with rfl | rfl | rfl | rfl
    · have z : pbd (1 - 1) = 1 := rfl
      have y : bnd 1 = 8 := rfl
      omega
    · have z : pbd (2 - 1) = 8 := rfl
      have y : bnd 2 = 64 := rfl
      omega
    · have z : pbd (3 - 1) = 64 := rfl
      have y : bnd 3 = 1024 := rfl
      omega
    · have z : pbd (4 - 1) = 1024 := rfl
      have y : bnd 4 = 8192 := rfl
      omega
/-! ### what it holds -/
theorem raw_mem {cs : List Con} (nd : (cs.map Con.w).Nodup) : ∀ (n : Nat) (f : Str) (m : Nat), ∀ x ∈ rawV cs n f m, Wf (cnts cs) x ∧ vsz x = m
  | 0, f, m, x, hx => by simp [rawV] at hx
  | n + 1, f, m, x, hx => by
    rcases Nat.eq_zero_or_pos m with e | m1
    · rw [rawV, if_pos e] at hx; cases hx
    rw [rawV_succ cs n f m1] at hx
    obtain ⟨c, hc, hx⟩ := List.mem_flatMap.mp hx
    obtain ⟨r, hr, rfl⟩ := List.mem_map.mp hx
    obtain ⟨hc, ef⟩ := List.mem_filter.mp hc
    obtain ⟨a, b, z⟩ := tp_mem (raw_mem nd n) hr
    refine ⟨wf_tup.mpr ⟨by rw [look_cnt nd hc, b, fmsOf, List.length_map], a⟩, ?_⟩
    simp only [vsz]; omega
theorem raw_fam {cs : List Con} {n : Nat} {f : Str} {m : Nat} {x : PV} (hx : x ∈ rawV cs n f m) : ∃ c ∈ cs, c.fam = f ∧ ∃ r, x = .tup (.str c.w :: r) := by
  cases n with
  | zero => simp [rawV] at hx
  | succ n =>
    rcases Nat.eq_zero_or_pos m with e | m1
    · rw [rawV, if_pos e] at hx; cases hx
    rw [rawV_succ cs n f m1] at hx
    obtain ⟨c, hc, hx⟩ := List.mem_flatMap.mp hx
    obtain ⟨r, hr, rfl⟩ := List.mem_map.mp hx
    obtain ⟨hc, ef⟩ := List.mem_filter.mp hc
    exact ⟨c, hc, by simpa using ef, r, rfl⟩
theorem con_eq {cs : List Con} (nd : (cs.map Con.w).Nodup) {c d : Con} (hc : c ∈ cs) (hd : d ∈ cs) (e : c.w = d.w) : c = d := by
  induction cs with
  | nil => cases hc
  | cons a r ih =>
    obtain ⟨n1, n2⟩ := List.nodup_cons.mp nd
    rcases List.mem_cons.mp hc with rfl | h1 <;> rcases List.mem_cons.mp hd with rfl | h2
    · rfl
    · exact absurd (List.mem_map.mpr ⟨d, h2, e.symm⟩) n1
    · exact absurd (List.mem_map.mpr ⟨c, h1, e⟩) n1
    · exact ih n2 h1 h2
theorem raw_nd {cs : List Con} (nd : (cs.map Con.w).Nodup) : ∀ (n : Nat) (f : Str) (m : Nat), (rawV cs n f m).Nodup
  | 0, f, m => .nil
  | n + 1, f, m => by
    rcases Nat.eq_zero_or_pos m with e | m1
    · rw [rawV, if_pos e]; exact .nil
    rw [rawV_succ cs n f m1]
    refine List.pairwise_flatMap.mpr ⟨fun c hc => ?_, ?_⟩
    · refine List.pairwise_map.mpr ((tp_nd (raw_mem nd n) (raw_nd nd n) (fmsOf c) (m - 1)).imp fun {x y} e q => e ?_)
      exact (List.cons.inj (PV.tup.inj q)).2
    · refine List.Pairwise.filter _ ((List.pairwise_map (f := Con.w) (R := fun a b => a ≠ b)).mp nd |>.imp fun {c d} e x hx y hy q => ?_)
      obtain ⟨x', _, rfl⟩ := List.mem_map.mp hx
      obtain ⟨y', _, rfl⟩ := List.mem_map.mp hy
      exact e (PV.str.inj (List.cons.inj (PV.tup.inj q)).1)
theorem goodK_at : ∀ {ps : List (Str × PV)} {ks : List (Option (Str × PV))} {i : Nat} {p : Str × PV} {k : Option (Str × PV)}, goodK ps ks = true → ps[i]? = some p → ks[i]? = some k → ∃ y, k = some y ∧ p.1 = y.1
  | p :: ps, none :: ks, 0, _, _, g, h1, h2 => by simp [goodK] at g
  | p :: ps, none :: ks, i + 1, _, _, g, h1, h2 => by simp [goodK] at g
  | p :: ps, some y :: ks, 0, _, _, g, h1, h2 => by
    cases (Option.some.inj h1)
    cases (Option.some.inj h2)
    simp only [goodK, Bool.and_eq_true, beq_iff_eq] at g
    exact ⟨y, rfl, g.1⟩
  | p :: ps, some y :: ks, i + 1, _, _, g, h1, h2 => by
    simp only [goodK, Bool.and_eq_true] at g
    exact goodK_at g.2 (by simpa using h1) (by simpa using h2)
/-- each value that has an index is among those of its family -/
theorem raw_all {cs : List Con} (nd : (cs.map Con.w).Nodup) : ∀ (n : Nat) {t : PV} {y : Str × PV}, idxOf cs t = some y → Wf (cnts cs) t → vsz t ≤ n → t ∈ rawV cs n y.1 (vsz t)
  | 0, t, y, _, _, h => by have := vsz_one t; omega
  | n + 1, t, y, hy, wf, h => by
    obtain ⟨w, r, rfl, lk, fl⟩ := wf_inv wf
    obtain ⟨c, hc, rfl, ec⟩ := cnt_look lk
    simp only [idxOf] at hy
    cases fc : cs.find? (fun d => d.w == c.w) with
    | none => rw [fc] at hy; cases hy
    | some d =>
      rw [fc] at hy
      dsimp only at hy
      have hd := List.mem_of_find?_eq_some fc
      have ew : d.w = c.w := by simpa using List.find?_some fc
      have := con_eq nd hd hc ew
      subst this
      unfold madeK treesFor at hy
      obtain ⟨al, ha, rfl⟩ := Option.map_eq_some_iff.mp hy
      have g : goodK d.ps (idxL cs r) = true := by
        split at ha
        · rename_i g; exact g
        · cases ha
      have ll : d.ps.length = r.length := by omega
      rw [rawV_succ cs n _ (vsz_one _)]
      refine List.mem_flatMap.mpr ⟨d, List.mem_filter.mpr ⟨hd, by simp⟩, List.mem_map.mpr ⟨r, ?_, rfl⟩⟩
      have e : vsz (.tup (.str d.w :: r)) - 1 = vszL r := by simp only [vsz]; omega
      rw [e]
      refine tp_all (by rw [fmsOf, List.length_map, ll]) fun i f x hf hx => ?_
      rw [fmsOf, List.getElem?_map] at hf
      obtain ⟨p, hp, rfl⟩ := Option.map_eq_some_iff.mp hf
      have hk : (idxL cs r)[i]? = some (idxOf cs x) := by rw [idxL_map, List.getElem?_map, hx]; rfl
      obtain ⟨z, hz, e2⟩ := goodK_at g hp hk
      rw [e2]
      have hm := List.mem_of_getElem? hx
      have xz : vsz x ≤ vszL r := by
        have key : ∀ {l : List PV} {x : PV}, x ∈ l → vsz x ≤ vszL l := by
          intro l
          induction l with
          | nil => intro x h; cases h
          | cons a q ih2 =>
            intro x h
            simp only [vszL]
            rcases List.mem_cons.mp h with rfl | h
            · omega
            · have := ih2 h; omega
        exact key hm
      simp only [vsz] at h
      exact raw_all nd n hz (mem_WfL fl x hm) (by omega)
/-! ### the list that is kept sorted -/
abbrev Srt (mk : List (Str × Int)) (l : List PV) : Prop := l.Pairwise fun x y => klt mk x y = true
/-- how many stand before it -/
def plc (mk : List (Str × Int)) (l : List PV) (x : PV) : Nat := (l.filter fun y => klt mk y x).length
theorem ins_srt {mk : List (Str × Int)} {x : PV} (wx : Wf mk x) : ∀ {l : List PV}, Srt mk l → (∀ y ∈ l, Wf mk y ∧ y ≠ x) → Srt mk (l.take (plc mk l x) ++ x :: l.drop (plc mk l x))
  | [], _, _ => by simp [plc]
  | y :: r, s, h => by
    obtain ⟨s1, s2⟩ := List.pairwise_cons.mp s
    obtain ⟨wy, ny⟩ := h y (List.mem_cons_self ..)
    have hr := fun z hz => h z (List.mem_cons_of_mem _ hz)
    by_cases c : klt mk y x = true
    · have e : plc mk (y :: r) x = plc mk r x + 1 := by simp [plc, c]
      rw [e, List.take_succ_cons, List.drop_succ_cons, List.cons_append]
      refine List.pairwise_cons.mpr ⟨fun z hz => ?_, ins_srt wx s2 hr⟩
      rcases List.mem_append.mp hz with q | q
      · exact s1 z (List.mem_of_mem_take q)
      · rcases List.mem_cons.mp q with rfl | q
        · exact c
        · exact s1 z (List.mem_of_mem_drop q)
    · have c0 : klt mk y x = false := by simpa using c
      have xy : klt mk x y = true := by
        cases q : klt mk x y with
        | true => rfl
        | false => exact absurd (klt_total wy wx c0 q) ny
      have e : plc mk (y :: r) x = 0 := by
        unfold plc
        rw [List.length_eq_zero_iff, List.filter_eq_nil_iff]
        intro z hz
        rcases List.mem_cons.mp hz with rfl | hz
        · exact c
        · intro q
          have := klt_trans (s1 z hz) q
          exact c this
      rw [e]
      show Srt mk (x :: y :: r)
      refine List.pairwise_cons.mpr ⟨fun z hz => ?_, s⟩
      rcases List.mem_cons.mp hz with rfl | hz
      · exact xy
      · exact klt_trans xy (s1 z hz)
theorem plc_le (mk : List (Str × Int)) (l : List PV) (x : PV) : plc mk l x ≤ l.length := List.length_filter_le _ _
theorem srt_eq {mk : List (Str × Int)} : ∀ {l m : List PV}, Srt mk l → Srt mk m → (∀ x, x ∈ l ↔ x ∈ m) → l = m
  | [], [], _, _, _ => rfl
  | [], y :: m, _, _, h => by have := (h y).mpr (List.mem_cons_self ..); cases this
  | x :: l, [], _, _, h => by have := (h x).mp (List.mem_cons_self ..); cases this
  | x :: l, y :: m, s, t, h => by
    obtain ⟨s1, s2⟩ := List.pairwise_cons.mp s
    obtain ⟨t1, t2⟩ := List.pairwise_cons.mp t
    have e : x = y := by
      rcases List.mem_cons.mp ((h x).mp (List.mem_cons_self ..)) with e | hx
      · exact e
      · rcases List.mem_cons.mp ((h y).mpr (List.mem_cons_self ..)) with e | hy
        · exact e.symm
        · have a := t1 x hx
          have b := s1 y hy
          rw [klt_asym a] at b
          cases b
    subst e
    congr 1
    refine srt_eq s2 t2 fun z => ?_
    constructor
    · intro hz
      rcases List.mem_cons.mp ((h z).mp (List.mem_cons_of_mem _ hz)) with e | q
      · have := s1 z hz
        rw [e, klt_irrefl] at this
        cases this
      · exact q
    · intro hz
      rcases List.mem_cons.mp ((h z).mpr (List.mem_cons_of_mem _ hz)) with e | q
      · have := t1 z hz
        rw [e, klt_irrefl] at this
        cases this
      · exact q
end Kx
namespace Kx
open PySem PySem.Spec PyProof.Rows L2
section
variable {P : Program} {w : World} {K : PySem.W.Frag} {mg : Str → Option Value} {base : Heap}
set_option pp.maxSteps 1500
theorem tls_len {raw : Str → Nat → List PV} (h : ∀ f s, 1 ≤ s → s ≤ 3 → (raw f s).length ≤ 1024) : ∀ (fs : List Str) (l : Nat), l ≤ 3 → (tls raw fs l).length ≤ 3072 ^ fs.length
  | [], l, _ => by simp [tls]
  | f :: fs, l, hl => by
    have a : (tls raw (f :: fs) l).length ≤ (List.range' 1 l).length * (1024 * 3072 ^ fs.length) := flatMap_len fun s hs => by
      have hs' := List.mem_range'_1.mp hs
      refine Nat.le_trans (flatMap_len (c := 3072 ^ fs.length) fun o _ => by rw [List.length_map]; exact tls_len h fs (l - s) (by omega)) ?_
      exact Nat.mul_le_mul_right _ (h f s (by omega) (by omega))
    rw [List.length_range'] at a
    have b : l * (1024 * 3072 ^ fs.length) ≤ 3 * (1024 * 3072 ^ fs.length) := Nat.mul_le_mul_right _ hl
    rw [List.length_cons, Nat.pow_succ]
    omega
theorem ext_len {raw : Str → Nat → List PV} (h : ∀ f s, 1 ≤ s → s ≤ 3 → (raw f s).length ≤ 1024) (g : Str) (x : List PV × Nat) (hx : x.2 ≤ 3) {i : Nat} (hi : i ≤ x.2) : ((List.range' 1 i).flatMap fun s => (raw g s).map fun o => (x.1 ++ [o], x.2 - s)).length ≤ 3072 := by
  refine Nat.le_trans (flatMap_len (c := 1024) fun s hs => ?_) ?_
  · have hs' := List.mem_range'_1.mp hs
    rw [List.length_map]; exact h g s (by omega) (by omega)
  · rw [List.length_range']; omega
/-- a row of parts and what is left -/
def Rst (w : Str) (H : Hp) (v : V) (x : List PV × Nat) : Prop := ∃ q b, v = .ref q ∧ H q = some (.tup [.ref b, .int (x.2 : Int)]) ∧ Is H (.ref b) (.tup (.str w :: x.1))
theorem Rst.same {w : Str} {H H' : Hp} {v : V} {x : List PV × Nat} (s : Same H H') (h : Rst w H v x) : Rst w H' v x := by
  obtain ⟨q, b, e, eq, i⟩ := h
  exact ⟨q, b, e, s _ _ eq, i.same s⟩
theorem Rst.wr {w : Str} {H : Hp} {l : Addr} {zs zs' : List V} {v : V} {x : List PV × Nat} (e : H l = some (.lst zs)) (h : Rst w H v x) : Rst w (upd H l (.lst zs')) v x := by
  obtain ⟨q, b, rfl, eq, i⟩ := h
  exact ⟨q, b, rfl, by rw [upd_ne fun z => by rw [z, e] at eq; cases eq]; exact eq, Is.wr e i⟩
theorem pair_app {α β : Type} {F : α → β → Prop} : ∀ {l l' : List α} {m m' : List β}, Paired F l m → Paired F l' m' → Paired F (l ++ l') (m ++ m')
  | _, _, _, _, .nil, b => b
  | _, _, _, _, .cons h t, b => .cons h (pair_app t b)
theorem pair_map {α β γ : Type} {F : α → γ → Prop} {f : β → γ} : ∀ {l : List α} {m : List β}, Paired (fun a b => F a (f b)) l m → Paired F l (m.map f)
  | _, _, .nil => .nil
  | _, _, .cons h t => .cons h (pair_map t)
theorem go_catT {H : Hp} {a b : Addr} {xs ys : List V} {ts us : List PV} {Q : VK} (ea : H a = some (.tup xs)) (eb : H b = some (.tup ys)) (ix : IsL H xs ts) (iy : IsL H ys us) (ne : ts ≠ []) (l : ts.length + us.length ≤ 900)
    (q : ∀ u H', Same H H' → Is H' u (.tup (ts ++ us)) → Q u H') : rCatT K (.ref a) (.ref b) H Q := by
  have lx := ix.len
  have ly := iy.len
  refine ⟨a, b, xs, ys, rfl, rfl, .inl (.inl ea), .inl (.inl eb), fun z => ne ?_, Nat.le_of_lt (small1000 (by omega)), fun z => ?_, fun _ p hp => ?_⟩
  · rw [z] at lx
    exact List.eq_nil_of_length_eq_zero lx.symm
  · rw [z] at ly
    have : us = [] := List.eq_nil_of_length_eq_zero ly.symm
    rw [this, List.append_nil] at q
    exact q _ H (.refl _) (.tup ea ix)
  · have s := same_upd hp (.tup (xs ++ ys))
    exact q _ _ s (.tup upd_same ((ix.append iy).same s))
def spRaw (n : Nat) : Sp := fun vs H Q _ => ∃ (tv : V) (mk : List PV) (F : List Str) (cs : List Con) (f : Str) (m : Nat), vs = [tv, .str f, .int (m : Int)] ∧ Is H tv (tabPV mk F cs) ∧ TabG F cs ∧ cs.length ≤ 8 ∧ 1 ≤ m ∧ m ≤ n ∧ m ≤ 4 ∧ ∀ p H' ws, Same H H' → H p = none → H' p = some (.lst ws) → IsL H' ws (rawV cs n f m) → Q (.ref p) H'
theorem ok_law_raw {n : Nat} (T : Txt K mg) (G_law_constructors : FnOk P w K mg base CX0 1 T.a_law_constructors T.d_law_constructors ["table", "family"] spCons) (G_law_raw : FnOk P w K mg base CX0 (n+1) T.a_law_raw T.d_law_raw ["table", "family", "many"] (spRaw n)) : FnOk P w K mg base CX0 (n+2) T.a_law_raw T.d_law_raw ["table", "family", "many"] (spRaw (n+1)) := by
  refine T.F_law_raw.ok sc_law_raw (fun vs H Q E h => ?_) (fun cdv A outer s H vs Q E hr h => ?_)
  · obtain ⟨tv, mk, F, cs, f, m, rfl, _⟩ := h; rfl
  · obtain ⟨tv, mk, F, cs, f, m, rfl, hI, G, c8, m1, mn, m4, q⟩ := h
    have hr_law_constructors := hr.mono (show 1 ≤ n + 1 by omega)
    have hr_law_raw := hr
    refine ⟨_, (pss_cons (ps_set (i := 3) sc_law_raw.nd rfl (Or.inl rfl) (pe_lst pa_nil))
    (pss_cons (ps_for PassesOwn.never rfl (pi_list (pe_call G_law_constructors hr_law_constructors rfl T.m_law_constructors T.F_law_constructors.kp T.b_law_constructors .nil pass0 (pa_cons (pv 0) (pa_cons (pv 1) pa_nil)))) (pg_name (i := 4) sc_law_raw.nd rfl (Or.inl rfl))
    (pss_cons (ps_set (i := 5) sc_law_raw.nd rfl (Or.inl rfl) (pe_lst (pa_cons (pe_tup (pa_cons (pe_tup (pa_cons (pe_ix ix_tup (pv 4) pe_int (fun _ _ => rfl)) pa_nil)) (pa_cons (pe_op op_sub (pv 2) pe_int) pa_nil))) pa_nil)))
    (pss_cons (ps_for PassesOwn.never rfl (pi_tup (pe_ix ix_tup (pv 4) pe_int (fun _ _ => rfl))) (pg_name (i := 6) sc_law_raw.nd rfl (Or.inl rfl))
    (pss_cons (ps_set (i := 7) sc_law_raw.nd rfl (Or.inl rfl) (pe_lst pa_nil))
    (pss_cons (ps_for PassesOwn.never rfl (pi_list (pv 5)) (pg_tup rfl (pgs_cons (pg_name (i := 8) sc_law_raw.nd rfl (Or.inr rfl)) (pgs_cons (pg_name (i := 9) sc_law_raw.nd rfl (Or.inr rfl)) pgs_nil)))
    (pss_one (ps_for PassesOwn.never rfl (pi_range2 (by rfl) T.z_range (pa_cons pe_int (pa_cons (pe_op op_add (pv 9) pe_int) pa_nil))) (pg_name (i := 10) sc_law_raw.nd rfl (Or.inr rfl))
    (pss_one (ps_set (i := 7) sc_law_raw.nd rfl (Or.inl rfl) (pe_op op_cat (pv 7) (pe_lc (own := [("one", 11)]) (g := (gName 11)) (tt := tYes) rfl sc_law_raw.nd (pi_list (pe_call G_law_raw hr_law_raw rfl T.m_law_raw T.F_law_raw.kp T.b_law_raw .nil pass0 (pa_cons (pv 0) (pa_cons (pe_ix ix_tup (pv 6) pe_int (fun _ _ => rfl)) (pa_cons (pv 10) pa_nil))))) (blkOk_by (own := [("one", 11)]) (N := ["table", "family", "many", "rows", "row", "rests", "part", "longer", "value", "left", "size_v", "one"]) (sc := defScope s_law_raw) (by decide +kernel)) (fun _ _ _ _ _ => (pg_name (i := 11) sc_law_raw.nd rfl (Or.inl rfl))) (fun _ _ _ _ _ => pts_nil) (fun _ _ _ _ _ => (pe_tup (pa_cons (pe_op (catTK (K := K)) (pv 8) (pe_tup (pa_cons (pv 11) pa_nil))) (pa_cons (pe_op op_sub (pv 9) (pv 10)) pa_nil)))))))))))
    (pss_one (ps_set (i := 5) sc_law_raw.nd rfl (Or.inl rfl) (pv 7))))))
    (pss_one (ps_set (i := 3) sc_law_raw.nd rfl (Or.inl rfl) (pe_op op_cat (pv 3) (pe_lc (own := [("value", 8), ("left", 9)]) (g := (gTup K 2 (gCons (gName 8) (gCons (gName 9) gNil)))) rfl sc_law_raw.nd (pi_list (pv 5)) (blkOk_by (own := [("value", 8), ("left", 9)]) (N := ["table", "family", "many", "rows", "row", "rests", "part", "longer", "value", "left", "size_v", "one"]) (sc := defScope s_law_raw) (by decide +kernel)) (fun _ _ _ _ _ => (pg_tup rfl (pgs_cons (pg_name (i := 8) sc_law_raw.nd rfl (Or.inl rfl)) (pgs_cons (pg_name (i := 9) sc_law_raw.nd rfl (Or.inl rfl)) pgs_nil)))) (fun _ _ _ _ _ => pts_one (pt_cmpR op_eq (pv 9) pe_int (nomark _))) (fun _ _ _ _ _ => (pv 8)))))))))
    (pss_one (ps_ret (pv 3))))), ?_⟩
    have p2 : ∀ c ∈ cs, c.ps.length ≤ 2 := fun c hc => (G.row c hc).1.len
    have rl : ∀ f s, 1 ≤ s → s ≤ 3 → (rawV cs n f s).length ≤ bnd s := fun f s h1 h3 => raw_len c8 p2 n f s h1 (by omega)
    have rl2 : ∀ f s, 1 ≤ s → s ≤ 3 → (rawV cs n f s).length ≤ 1024 := fun f s h1 h3 => by
      refine Nat.le_trans (rl f s h1 h3) ?_
      rcases (show s = 1 ∨ s = 2 ∨ s = 3 by omega) with rfl | rfl | rfl <;> decide
    have rm := raw_mem G.nd n
    rw [rawV_succ cs n f m1] at q
    let fcs := cs.filter fun c => c.fam == f
    let Gc : Con → List PV := fun c => (tp (rawV cs n) (fmsOf c) (m - 1)).map fun r => PV.tup (.str c.w :: r)
    have fin : ∀ c, c ∈ fcs → c ∈ cs := fun c hc => (List.mem_filter.mp hc).1
    have f8 : fcs.length ≤ 8 := Nat.le_trans (List.length_filter_le _ _) c8
    have gl : ∀ c ∈ fcs, (Gc c).length ≤ 1024 := fun c hc => by
      show ((tp (rawV cs n) (fmsOf c) (m - 1)).map _).length ≤ 1024
      rw [List.length_map]
      exact Nat.le_trans (tp_bnd rl _ _ (by rw [fmsOf, List.length_map]; exact p2 c (fin c hc)) (by omega)) (pbd_le _)
    have accl : ∀ i, ((fcs.take i).flatMap Gc).length ≤ 8192 := fun i => by
      refine Nat.le_trans (flatMap_len fun c hc => gl c (List.mem_of_mem_take hc)) ?_
      rw [List.length_take]
      have : min i fcs.length * 1024 ≤ 8 * 1024 := Nat.mul_le_mul_right _ (by omega)
      omega
    refine ⟨(by show 0 ≤ sizeLine; decide), fun ra0 hra0 => ?_⟩
    have s1 := same_upd hra0 (.lst [])
    refine ⟨_, rfl, _, rfl, tv, mk, F, cs, f, rfl, hI.same s1, G.len.2, fun p H2 ws s2 np ep iW => ⟨p, rfl, ⟨_, SqL.of ep⟩, ?_⟩⟩
    have s12 := s1.trans s2
    have lW := iW.len
    rw [List.length_map] at lW
    refine for_list (K := K) (a := p) (xs := ws) (fun i σ H3 => ∃ (y4 y5 y6 y7 y8 y9 y10 y11 : Option V) (ra : Addr) (acc : List V), σ = [some tv, some (.str f), some (.int (m : Int)), some (.ref ra), y4, y5, y6, y7, y8, y9, y10, y11] ∧ Same H2 H3 ∧ H ra = none ∧ H3 ra = some (.lst acc) ∧ IsL H3 acc ((fcs.take i).flatMap Gc)) ?_ ?_ ?_ ?_
    · exact ⟨_, _, _, _, _, _, _, _, ra0, [], rfl, .refl _, hra0, s2 _ _ upd_same, .nil⟩
    · exact fun i σ H3 _ ⟨_, _, _, _, _, _, _, _, _, _, _, s3, _⟩ => SqL.of (s3 _ _ ep)
    · rintro i x σ H3 hx ⟨y4, y5, y6, y7, y8, y9, y10, y11, ra, acc, rfl, s3, nra, era, iA⟩
      obtain ⟨c, hc, ic⟩ := con_get iW hx
      have hcm := List.mem_of_getElem? hc
      have hcs := fin c hcm
      obtain ⟨xa, pa, iv, pvs, rfl, exa, epa, pL, _, kw, _⟩ := con_inv (ic.same s3)
      have pl := pL.len
      rw [List.length_map] at pl
      have cp := p2 c hcs
      have s13 := s12.trans s3
      refine ⟨_, rfl, xa, _, _, _, rfl, rfl, .inl (.inl exa), atI_nat (j := 0) rfl, (by show 1 ≤ sizeLine; decide), fun q1 hq1 => ?_⟩
      have u1 := same_upd hq1 (.tup [.str c.w])
      refine ⟨_, rfl, _, _, rfl, rfl, (by show 2 ≤ sizeLine; decide), fun q2 hq2 => ?_⟩
      have e1 : ((m : Nat) : Int) - 1 = ((m - 1 : Nat) : Int) := by omega
      have u2 := same_upd hq2 (.tup [.ref q1, .int ((m : Int) - 1)])
      refine ⟨(by show 1 ≤ sizeLine; decide), fun l0 hl0 => ?_⟩
      have u3 := same_upd hl0 (.lst [.ref q2])
      have u23 := u2.trans u3
      have u123 := u1.trans u23
      have r0 : Rst c.w (upd (upd (upd H3 q1 (.tup [.str c.w])) q2 (.tup [.ref q1, .int ((m : Int) - 1)])) l0 (.lst [.ref q2])) (.ref q2) ([], m - 1) := ⟨q2, q1, rfl, (u3 _ _ upd_same).trans (by show some (HO.tup [V.ref q1, V.int ((m : Int) - 1)]) = some (HO.tup [V.ref q1, V.int ((m - 1 : Nat) : Int)]); rw [e1]), .tup (u23 _ _ upd_same) (.cons (.str _ kw) .nil)⟩
      have el0 : (upd (upd (upd H3 q1 (.tup [.str c.w])) q2 (.tup [.ref q1, .int ((m : Int) - 1)])) l0 (.lst [.ref q2])) l0 = some (.lst [.ref q2]) := upd_same
      generalize hHb : (upd (upd (upd H3 q1 (.tup [.str c.w])) q2 (.tup [.ref q1, .int ((m : Int) - 1)])) l0 (.lst [.ref q2])) = Hb at *
      have epab := u123 _ _ epa
      have pLb := pL.same u123
      let T : Nat → List (List PV × Nat) := fun j => tls (rawV cs n) ((fmsOf c).take j) (m - 1)
      have tl : ∀ j, j ≤ 1 → (T j).length ≤ 3072 := fun j hj => by
        refine Nat.le_trans (tls_len rl2 _ _ (by omega)) ?_
        rw [List.length_take]
        have : (3072 : Nat) ^ min j (fmsOf c).length ≤ 3072 ^ 1 := Nat.pow_le_pow_right (by decide) (by omega)
        omega
      have tl2 : ∀ j, (T j).length ≤ 9437184 := fun j => by
        refine Nat.le_trans (tls_len rl2 _ _ (by omega)) ?_
        rw [List.length_take, fmsOf, List.length_map]
        have : (3072 : Nat) ^ min j c.ps.length ≤ 3072 ^ 2 := Nat.pow_le_pow_right (by decide) (by omega)
        omega
      have x3 : ∀ j, ∀ x ∈ T j, x.2 ≤ m - 1 := fun j x hx => by
        obtain ⟨_, _, h⟩ := tls_mem rm _ _ hx
        omega
      refine ⟨_, rfl, xa, _, _, _, rfl, rfl, .inl (.inl (u123 _ _ exa)), atI_nat (j := 1) rfl, pa, rfl, ⟨_, .inl (.inl epab)⟩, ?_⟩
      refine for_tup (K := K) (a := pa) (xs := pvs) (fun j σ H4 => ∃ (y6 y7 y8 y9 y10 y11 : Option V) (l : Addr) (rs : List V), σ = [some tv, some (.str f), some (.int (m : Int)), some (.ref ra), some (.ref xa), some (.ref l), y6, y7, y8, y9, y10, y11] ∧ Same Hb H4 ∧ H4 l = some (.lst rs) ∧ Paired (Rst c.w H4) rs (T j)) ?_ ?_ ?_ ?_
      · exact ⟨_, _, _, _, _, _, l0, _, rfl, .refl _, el0, .cons r0 .nil⟩
      · exact fun j σ H4 _ ⟨_, _, _, _, _, _, _, _, _, s4, _⟩ => .inl (.inl (s4 _ _ epab))
      · rintro j x σ H4 hx ⟨y6, y7, y8, y9, y10, y11, l, rs, rfl, s4, el, pR⟩
        obtain ⟨pt, et, it⟩ := pLb.get hx
        rw [List.getElem?_map] at et
        obtain ⟨pp, hpp, rfl⟩ := Option.map_eq_some_iff.mp et
        have hj := (List.getElem?_eq_some_iff.mp hpp).1
        obtain ⟨xb, tv2, rfl, exb, _, kp⟩ := pr_inv (it.same s4)
        have lR := Paired.length pR
        have tj := tl j (by omega)
        refine ⟨(by show 0 ≤ sizeLine; decide), fun g0 hg0 => ?_⟩
        have s5 := same_upd hg0 (.lst [])
        have s45 := s4.trans s5
        have eT : T (j + 1) = (T j).flatMap (extT (rawV cs n) pp.1) := by
          show tls _ ((fmsOf c).take (j + 1)) _ = _
          rw [take_snoc (show (fmsOf c)[j]? = some pp.1 by rw [fmsOf, List.getElem?_map, hpp]; rfl), tls_snoc]
        refine ⟨_, rfl, l, rfl, ⟨_, SqL.of (s5 _ _ el)⟩, ?_⟩
        refine for_list (K := K) (a := l) (xs := rs) (fun k σ H5 => ∃ (y8 y9 y10 y11 : Option V) (g : Addr) (ls : List V), σ = [some tv, some (.str f), some (.int (m : Int)), some (.ref ra), some (.ref xa), some (.ref l), some (.ref xb), some (.ref g), y8, y9, y10, y11] ∧ Same (upd H4 g0 (.lst [])) H5 ∧ H5 g = some (.lst ls) ∧ Paired (Rst c.w H5) ls (((T j).take k).flatMap (extT (rawV cs n) pp.1))) ?_ ?_ ?_ ?_
        · exact ⟨_, _, _, _, g0, [], rfl, .refl _, upd_same, .nil⟩
        · exact fun k σ H5 _ ⟨_, _, _, _, _, _, _, s6, _⟩ => SqL.of (s6 _ _ (s5 _ _ el))
        · rintro k x σ H5 hx ⟨y8, y9, y10, y11, g, ls, rfl, s6, eg, pL5⟩
          obtain ⟨z, ez, rz⟩ := Paired.get pR hx
          have s56 := s5.trans s6
          obtain ⟨qa, qb, rfl, eqa, iqb⟩ := rz.same s56
          have hz := List.mem_of_getElem? ez
          have z3 := x3 j z hz
          refine ⟨qa, _, rfl, .inl (.inl eqa), rfl, _, _, rfl, _, _, rfl, rfl, ?_⟩
          refine ⟨_, rfl, _, _, rfl, rfl, 1, _, rfl, ⟨by decide, by decide, by omega, by omega⟩, ?_⟩
          have cn : (((z.2 : Nat) : Int) + 1 - 1).toNat = z.2 := by omega
          rw [cn]
          have preL : (((T j).take k).flatMap (extT (rawV cs n) pp.1)).length ≤ 9437184 := by
            refine Nat.le_trans (flatMap_len (c := 3072) fun y hy => ext_len rl2 pp.1 y (by have := x3 j y (List.mem_of_mem_take hy); omega) (Nat.le_refl _)) ?_
            rw [List.length_take]
            have : min k (T j).length * 3072 ≤ 3072 * 3072 := Nat.mul_le_mul_right _ (by omega)
            omega
          refine for_range (lo := 1) (n := z.2) (fun s σ H6 => ∃ (y10 y11 : Option V) (g : Addr) (ls : List V), σ = [some tv, some (.str f), some (.int (m : Int)), some (.ref ra), some (.ref xa), some (.ref l), some (.ref xb), some (.ref g), some (.ref qb), some (.int (z.2 : Int)), y10, y11] ∧ Same H5 H6 ∧ H6 g = some (.lst ls) ∧ Paired (Rst c.w H6) ls (((T j).take k).flatMap (extT (rawV cs n) pp.1) ++ (List.range' 1 s).flatMap fun s => (rawV cs n pp.1 s).map fun o => (z.1 ++ [o], z.2 - s))) ?_ ?_ ?_
          · exact ⟨_, _, g, ls, rfl, .refl _, eg, by simpa using pL5⟩
          · rintro s σ H6 hs ⟨y10, y11, g, ls, rfl, s7, eg, pL6⟩
            have s67 := s6.trans s7
            have s47 := s45.trans s67
            have lL := Paired.length pL6
            have exl := ext_len rl2 pp.1 z (by omega) (Nat.le_of_lt hs)
            rw [List.length_append] at lL
            have sL := rl2 pp.1 (1 + s) (by omega) (by omega)
            refine ⟨_, rfl, _, rfl, _, rfl, xb, _, _, _, rfl, rfl, .inl (.inl ((s5.trans s67) _ _ exb)), atI_nat (j := 0) rfl, _, rfl, tv, mk, F, cs, pp.1, 1 + s, ?_, hI.same (s13.trans (u123.trans s47)), G, c8, by omega, by omega, by omega, fun rp H7 w7 s8 n8 e8 i8 => ⟨rp, rfl, ⟨_, SqL.of e8⟩, fun D hD => ?_⟩⟩
            · show [tv, V.str pp.1, V.int (1 + (s : Int))] = _
              rw [show (1 : Int) + (s : Int) = ((1 + s : Nat) : Int) by omega]
            have s78 := s7.trans s8
            have eg7 := s8 _ _ eg
            have iqb7 := iqb.same s78
            have b1024 : (rawV cs n pp.1 (1 + s)).length ≤ 16000000 := by omega
            refine lc_pickL (K := K) (a := rp) (xs := w7) ordS (fun _ => true) (fun H v (o : PV) => Is H v o) (fun H v (o : PV) => Rst c.w H v (z.1 ++ [o], z.2 - (1 + s))) (fun H' s => SqL.of (s _ _ e8)) (isL_pair (F := fun o : PV => o) (by simpa using i8)) (fun s h => h.same s) (fun s h => h.same s) (fun e h => h.wr e) hD b1024 (fun x o H9 Q' Z hx ho s9 y1 y0 => ?_) (fun H10 w10 s10 eD p10 => ?_)
            · refine ⟨rfl, yes_if ⟨_, rfl, _, rfl, (by show 1 ≤ sizeLine; decide), fun t1 ht1 => ?_⟩⟩
              have v1 := same_upd ht1 (.tup [x])
              obtain ⟨_, qvs, eqb0, eqb, iqL⟩ := (iqb7.same (s9.trans v1)).tup_inv
              cases eqb0
              have zl : z.1.length ≤ 2 := by
                obtain ⟨_, h, _⟩ := tls_mem rm _ _ hz
                rw [List.length_take, fmsOf, List.length_map] at h
                omega
              refine go_catT eqb upd_same iqL (.cons (hx.same v1) .nil) (by simp) (by simp only [List.length_cons, List.length_nil]; omega) fun u H11 s11 iu => ?_
              obtain ⟨ub, _, rfl, _, _⟩ := id iu.tup_inv
              refine ⟨_, rfl, _, rfl, _, _, rfl, rfl, (by show 2 ≤ sizeLine; decide), fun t2 ht2 => ?_⟩
              have v2 := same_upd ht2 (.tup [.ref ub, .int ((z.2 : Int) - (1 + (s : Int)))])
              refine y1 rfl _ _ ((v1.trans s11).trans v2) ⟨t2, ub, rfl, ?_, iu.same v2⟩
              rw [show (((z.1 ++ [o], z.2 - (1 + s)) : List PV × Nat).2 : Int) = (z.2 : Int) - (1 + (s : Int)) by show ((z.2 - (1 + s) : Nat) : Int) = _; omega]
              exact upd_same
            · rw [filt_all] at p10
              have l10 := Paired.length p10
              have eg10 := s10 _ _ eg7
              refine ⟨g, D, ls, w10, rfl, rfl, eg10, eD, Nat.le_of_lt (smallB (by omega)), fun ng hng => ?_⟩
              have v3 := same_upd hng (.lst (ls ++ w10))
              refine ⟨_, _, ng, ls ++ w10, rfl, s78.trans (s10.trans v3), upd_same, ?_⟩
              have e5 : (((T j).take k).flatMap (extT (rawV cs n) pp.1) ++ (List.range' 1 (s + 1)).flatMap fun s => (rawV cs n pp.1 s).map fun o => (z.1 ++ [o], z.2 - s)) = (((T j).take k).flatMap (extT (rawV cs n) pp.1) ++ (List.range' 1 s).flatMap fun s => (rawV cs n pp.1 s).map fun o => (z.1 ++ [o], z.2 - s)) ++ (rawV cs n pp.1 (1 + s)).map fun o => (z.1 ++ [o], z.2 - (1 + s)) := by
                rw [List.range'_1_concat, List.flatMap_append, List.flatMap_cons, List.flatMap_nil, List.append_nil, List.append_assoc]
              rw [e5]
              refine pair_append (Paired.imp pL6 fun v y h => (h.same (s8.trans s10)).same v3) (pair_map (Paired.imp p10 fun v y h => h.same v3))
          · rintro σ H6 ⟨y10, y11, g, ls, rfl, s7, eg, pL6⟩
            refine ⟨_, _, _, _, g, ls, rfl, s6.trans s7, eg, ?_⟩
            rw [take_snoc ez, List.flatMap_append, List.flatMap_cons, List.flatMap_nil, List.append_nil]
            exact pL6
        · rintro σ H5 ⟨y8, y9, y10, y11, g, ls, rfl, s6, eg, pL5⟩
          rw [lR, List.take_length, ← eT] at pL5
          exact ⟨_, rfl, _, _, _, _, _, _, g, ls, rfl, s45.trans s6, eg, pL5⟩
      · rintro σ H4 ⟨y6, y7, y8, y9, y10, y11, l, rs, rfl, s4, el, pR⟩
        have eTe : T pvs.length = tls (rawV cs n) (fmsOf c) (m - 1) := by
          show tls _ ((fmsOf c).take pvs.length) _ = _
          rw [List.take_of_length_le (by rw [fmsOf, List.length_map, pl]; exact Nat.le_refl _)]
        have tE := tl2 pvs.length
        rw [eTe] at pR tE
        have s34 := u123.trans s4
        have era4 := s34 _ _ era
        refine ⟨_, rfl, _, rfl, l, rfl, ⟨_, SqL.of el⟩, fun D hD => ?_⟩
        refine lc_pickL (K := K) (a := l) (xs := rs) ordS (fun x : List PV × Nat => decide (x.2 = 0)) (fun H v x => Rst c.w H v x) (fun H v x => Is H v (.tup (.str c.w :: x.1))) (fun H' s => SqL.of (s _ _ el)) pR (fun s h => h.same s) (fun s h => h.same s) (fun e h => h.wr e) hD (by omega) (fun x z H9 Q' Z hx hz s9 y1 y0 => ?_) (fun H10 w10 s10 eD p10 => ?_)
        · obtain ⟨qa, qb, rfl, eqa, iqb⟩ := hx
          refine ⟨qa, _, rfl, .inl (.inl eqa), rfl, _, _, rfl, _, _, rfl, rfl, ?_⟩
          refine ⟨rfl, _, rfl, rfl, _, rfl, ite2 (fun c1 => ?_) (fun c1 => ?_)⟩
          · have e0 : z.2 = 0 := by
              have := V.int.inj (of_decide_eq_true c1)
              omega
            exact ⟨_, rfl, y1 (decide_eq_true e0) _ _ (.refl _) iqb⟩
          · have e0 : z.2 ≠ 0 := fun e => c1 (by rw [e]; rfl)
            exact y0 (decide_eq_false e0) _ (.refl _)
        · have i10 : IsL H10 w10 (((tls (rawV cs n) (fmsOf c) (m - 1)).filter fun x => decide (x.2 = 0)).map fun x => PV.tup (.str c.w :: x.1)) := pair_isL p10
          have eG : (((tls (rawV cs n) (fmsOf c) (m - 1)).filter fun x => decide (x.2 = 0)).map fun x => PV.tup (.str c.w :: x.1)) = Gc c := by
            show _ = (tp (rawV cs n) (fmsOf c) (m - 1)).map fun r => PV.tup (.str c.w :: r)
            rw [tp, List.map_map]; rfl
          rw [eG] at i10
          have l10 := i10.len
          have lA := iA.len
          have a1 := accl i
          have a2 := gl c hcm
          have era10 := s10 _ _ era4
          refine ⟨ra, D, acc, w10, rfl, rfl, era10, eD, Nat.le_of_lt (smallB (by omega)), fun nr hnr => ?_⟩
          have v3 := same_upd hnr (.lst (acc ++ w10))
          have s310 := s34.trans s10
          refine ⟨_, _, _, _, _, _, _, _, nr, acc ++ w10, rfl, (s3.trans s310).trans v3, (s13.trans s310).free hnr, upd_same, ?_⟩
          rw [take_snoc hc, List.flatMap_append, List.flatMap_cons, List.flatMap_nil, List.append_nil]
          exact (iA.same (s310.trans v3)).append (i10.same v3)
    · rintro σ H3 ⟨y4, y5, y6, y7, y8, y9, y10, y11, ra, acc, rfl, s3, nra, era, iA⟩
      rw [lW, List.take_of_length_le (Nat.le_refl _)] at iA
      exact ⟨_, rfl, q ra H3 acc (s12.trans s3) nra era iA⟩
end
end Kx
namespace Kx
open PySem PySem.Spec PyProof.Rows L2
section
variable {P : Program} {w : World} {K : PySem.W.Frag} {mg : Str → Option Value} {base : Heap}
set_option pp.maxSteps 1500
def cutP (ts : List PV) (lo hi : Option Int) : List PV := (ts.drop (HT.sIx ts.length 0 lo)).take (HT.sIx ts.length ts.length hi - HT.sIx ts.length 0 lo)
theorem go_slA {H : Hp} {a : Addr} {xs : List V} {ts : List PV} {lo hi : Option Int} {Q : VK} (e : H a = some (.tup xs)) (i : IsL H xs ts) (q : ∀ u H', Same H H' → Is H' u (.tup (cutP ts lo hi)) → Q u H') : rSlA K (.ref a) lo hi H Q := by
  have l := i.len
  have c : IsL H (cutV xs lo hi) (cutP ts lo hi) := by
    unfold cutV cutP
    rw [← l]
    exact (i.drop _).take _
  refine ⟨a, xs, rfl, .inl (.inl e), fun hw => ?_, fun _ p hp => ?_⟩
  · refine q _ H (.refl _) (.tup e ?_)
    have w : cutV xs lo hi = xs := by
      unfold cutV
      rw [hw.1, hw.2]
      simp
    rw [w] at c
    exact c
  · have s := same_upd hp (.tup (cutV xs lo hi))
    exact q _ _ s (.tup upd_same (c.same s))
theorem cut8 (ts : List PV) : cutP ts none (some 8) = ts.take 8 := by
  unfold cutP
  rw [show (8 : Int) = ((8 : Nat) : Int) from rfl, HT.sIx_nat, HT.sIx_none]
  simp [List.take_take, Nat.min_comm]
theorem tabs_ex {TT : List (Addr × Str)} {d c : Addr} {H H' : Hp} (x : Ex d c H H') (D : Dr H d c) (t : LamX.Tabs TT H) : LamX.Tabs TT H' := fun p hp => by
  obtain ⟨ps, h1, h2, h3⟩ := t p hp
  exact ⟨ps, x.keep D h1 (fun _ z => by cases z), h2, fun pos cv hc => by
    obtain ⟨k, e1, e2⟩ := h3 pos cv hc
    exact ⟨k, e1, x.keep D e2 fun _ z => by unfold LamX.CodeO at z; cases z⟩⟩
theorem Dr.sx {TT : List (Addr × Str)} {d c : Addr} {H H' : Hp} (s : Sx TT H H') (D : Dr H d c) : Dr H' d c := by
  obtain ⟨ns, m, e, e2, r⟩ := D
  exact ⟨ns, m, s.li e, s.li e2, r⟩
theorem Dr.off {H : Hp} {d c a : Addr} {vs : List V} (D : Dr H d c) (e : H a = some (.tup vs)) : a ≠ d ∧ a ≠ c := by
  obtain ⟨⟨ys, e1⟩, ⟨zs, e2⟩⟩ := D.lst
  exact ⟨ne_of e e1 (fun z => nomatch z), ne_of e e2 (fun z => nomatch z)⟩
theorem con_mem {H : Hp} {cvs : List V} {cs : List Con} (h : IsL H cvs (cs.map conPV)) {x : V} (hx : x ∈ cvs) : ∃ c ∈ cs, Is H x (conPV c) := by
  obtain ⟨i, hi, ei⟩ := List.getElem_of_mem hx
  obtain ⟨t, et, it⟩ := h.get (show cvs[i]? = some x by rw [List.getElem?_eq_getElem hi, ei])
  rw [List.getElem?_map] at et
  obtain ⟨c, hc, rfl⟩ := Option.map_eq_some_iff.mp et
  exact ⟨c, List.mem_of_getElem? hc, it⟩
theorem isL_mem {H : Hp} {vs : List V} {ts : List PV} (h : IsL H vs ts) {x : V} (hx : x ∈ vs) : ∃ t ∈ ts, Is H x t := by
  obtain ⟨i, hi, ei⟩ := List.getElem_of_mem hx
  obtain ⟨t, et, it⟩ := h.get (show vs[i]? = some x by rw [List.getElem?_eq_getElem hi, ei])
  exact ⟨t, List.mem_of_getElem? et, it⟩
theorem tab_at {H : Hp} {a : Addr} {mk : List PV} {F : List Str} {cs : List Con} (h : Is H (.ref a) (tabPV mk F cs)) : ∃ v0 v1 fa ca fvs cvs, H a = some (.tup [v0, v1, .ref fa, .ref ca]) ∧ H fa = some (.tup fvs) ∧ IsL H fvs (F.map PV.str) ∧ H ca = some (.tup cvs) ∧ IsL H cvs (cs.map conPV) := by
  obtain ⟨a', v0, v1, fa, ca, fvs, cvs, e, r⟩ := tab_inv h
  cases e
  exact ⟨v0, v1, fa, ca, fvs, cvs, r⟩
/-- two lists of the same data -/
theorem ne_same {H : Hp} {a b : Addr} {xs ys : List V} {ts : List PV} {Q : VK} (ea : H a = some (.lst xs)) (eb : H b = some (.lst ys)) (ia : IsL H xs ts) (ib : IsL H ys ts) (no : NoOL ts) (d : depL ts ≤ 180) (q : Q (.bl false) H) : rNeP K (.ref a) (.ref b) H Q := by
  refine ⟨_, _, .lst (SqL.of ea) (ia.dp no), .lst (SqL.of eb) (ib.dp no), by simp only [PyData.canLay0]; exact ia.lay, by simp only [PyData.canLay0]; exact ib.lay, ?_, ?_⟩
  · have := toDL_depth ts
    simp only [PyData.depth]; omega
  · rw [show PyData.eqv (.list (toDL ts)) (.list (toDL ts)) = true by simp only [PyData.eqv]; exact eqvL_self ts]
    exact q
theorem noOL_all : ∀ {ts : List PV}, (∀ t ∈ ts, NoO t) → NoOL ts
  | [], _ => trivial
  | t :: r, h => ⟨h t (List.mem_cons_self ..), noOL_all fun x hx => h x (List.mem_cons_of_mem _ hx)⟩
/-! ### the words of the law -/
def W8 : List Str := ["Q3", "B1", "Z9", "A2", "M0", "C5", "Y4", "D8"]
def renW (w : Str) (c : Con) : Con := ⟨w, c.ps, c.fam, c.ix⟩
def ren (cs : List Con) : List Con := List.zipWith renW W8 cs
theorem w8_nd : W8.Nodup := by decide +kernel
theorem w8_ok : ∀ w ∈ W8, sok w = true := by decide +kernel
theorem zip_words : ∀ (ws : List Str) (cs : List Con), (List.zipWith renW ws cs).map Con.w = ws.take cs.length
  | [], cs => by simp
  | w :: ws, [] => by simp
  | w :: ws, c :: cs => by simp [renW, zip_words ws cs]
theorem zip_mem : ∀ {ws : List Str} {cs : List Con} {x : Con}, x ∈ List.zipWith renW ws cs → ∃ w ∈ ws, ∃ c ∈ cs, x = renW w c
  | [], cs, x, h => by simp at h
  | w :: ws, [], x, h => by simp at h
  | w :: ws, c :: cs, x, h => by
    rw [List.zipWith_cons_cons] at h
    rcases List.mem_cons.mp h with rfl | h
    · exact ⟨w, List.mem_cons_self .., c, List.mem_cons_self .., rfl⟩
    · obtain ⟨a, ha, b, hb, e⟩ := zip_mem h
      exact ⟨a, List.mem_cons_of_mem _ ha, b, List.mem_cons_of_mem _ hb, e⟩
theorem ren_len (cs : List Con) : (ren cs).length = min 8 cs.length := by
  unfold ren
  rw [List.length_zipWith]; rfl
theorem ren_get {cs : List Con} {i : Nat} {w : Str} {c : Con} (hw : W8[i]? = some w) (hc : cs[i]? = some c) : (ren cs)[i]? = some (renW w c) := by
  unfold ren
  rw [List.getElem?_zipWith, hw, hc]
theorem ren_ok {F : List Str} {cs : List Con} (G : TabK F cs) : TabG F (ren cs) := by
  refine ⟨?_, fun c hc => ?_, fun c hc => ?_, ?_, G.fl, G.ok⟩
  · unfold ren
    rw [zip_words]
    exact w8_nd.sublist (List.take_sublist _ _)
  · obtain ⟨w, hw, c0, _, rfl⟩ := zip_mem hc
    exact w8_ok w hw
  · obtain ⟨w, hw, c0, h0, rfl⟩ := zip_mem hc
    exact G.cons.row c0 h0
  · rw [ren_len]
    have := G.len
    omega
/-! ### the list that is due -/
def allV (cs : List Con) (F : List Str) (m : Nat) : List PV := F.flatMap fun f => rawV cs 4 f m
theorem all_nd {cs : List Con} {F : List Str} (nd : (cs.map Con.w).Nodup) (nf : F.Nodup) (m : Nat) : (allV cs F m).Nodup := by
  unfold allV
  refine List.pairwise_flatMap.mpr ⟨fun f _ => raw_nd nd 4 f m, nf.imp fun {f g} e x hx y hy q => ?_⟩
  obtain ⟨c, hc, rfl, r, rfl⟩ := raw_fam hx
  obtain ⟨d, hd, rfl, s, rfl⟩ := raw_fam hy
  have ew : c.w = d.w := PV.str.inj (List.cons.inj (PV.tup.inj q)).1
  exact e (by rw [con_eq nd hc hd ew])
theorem bnd_le : ∀ m, 1 ≤ m → m ≤ 4 → bnd m ≤ 8192 := fun m h1 h4 => by
  rcases (show m = 1 ∨ m = 2 ∨ m = 3 ∨ m = 4 by omega) with rfl | rfl | rfl | rfl <;> decide
theorem all_len {cs : List Con} {F : List Str} (c8 : cs.length ≤ 8) (p2 : ∀ c ∈ cs, c.ps.length ≤ 2) (fl : F.length ≤ 4) {m : Nat} (m1 : 1 ≤ m) (m4 : m ≤ 4) : (allV cs F m).length ≤ 32768 := by
  refine Nat.le_trans (flatMap_len (c := 8192) fun f _ => Nat.le_trans (raw_len c8 p2 4 f m m1 m4) (bnd_le m m1 m4)) ?_
  omega
structure DueOk (cs : List Con) (P due : List PV) : Prop where
  srt : Srt (cnts cs) due
  mem : ∀ x, x ∈ due ↔ x ∈ P ∧ Good cs x = true
  len : due.length ≤ P.length
theorem due_nil (cs : List Con) : DueOk cs [] [] := ⟨.nil, fun x => by simp, Nat.le_refl _⟩
theorem due_no {cs : List Con} {P due : List PV} {x : PV} (D : DueOk cs P due) (g : Good cs x = false) : DueOk cs (P ++ [x]) due := by
  refine ⟨D.srt, fun z => ?_, by rw [List.length_append]; have := D.len; omega⟩
  rw [D.mem, List.mem_append, List.mem_singleton]
  constructor
  · exact fun ⟨a, b⟩ => ⟨.inl a, b⟩
  · rintro ⟨a | rfl, b⟩
    · exact ⟨a, b⟩
    · rw [g] at b; cases b
theorem due_in {cs : List Con} {P due : List PV} {x : PV} (D : DueOk cs P due) (wP : ∀ y ∈ P, Wf (cnts cs) y) (wx : Wf (cnts cs) x) (nx : x ∉ P) (g : Good cs x = true) : DueOk cs (P ++ [x]) (due.take (plc (cnts cs) due x) ++ [x] ++ due.drop (plc (cnts cs) due x)) := by
  have hk := plc_le (cnts cs) due x
  refine ⟨?_, fun z => ?_, ?_⟩
  · rw [List.append_assoc]
    exact ins_srt wx D.srt fun y hy => ⟨wP y ((D.mem y).mp hy).1, fun e => nx (e ▸ ((D.mem y).mp hy).1)⟩
  · generalize plc (cnts cs) due x = k
    have t : z ∈ due ↔ z ∈ due.take k ∨ z ∈ due.drop k := by rw [← List.mem_append, List.take_append_drop]
    rw [List.mem_append, List.mem_append, List.mem_singleton, List.mem_append, List.mem_singleton]
    constructor
    · rintro ((h | rfl) | h)
      · obtain ⟨a, b⟩ := (D.mem z).mp (t.mpr (.inl h))
        exact ⟨.inl a, b⟩
      · exact ⟨.inr rfl, g⟩
      · obtain ⟨a, b⟩ := (D.mem z).mp (t.mpr (.inr h))
        exact ⟨.inl a, b⟩
    · rintro ⟨a | rfl, b⟩
      · rcases t.mp ((D.mem z).mpr ⟨a, b⟩) with h | h
        · exact .inl (.inl h)
        · exact .inr h
      · exact .inl (.inr rfl)
  · have := D.len
    simp only [List.length_append, List.length_take, List.length_drop, List.length_singleton]
    omega
theorem due_end {F : List Str} {cs : List Con} {due : List PV} {m : Nat} (G : TabG F cs) (m1 : 1 ≤ m) (m4 : m ≤ 4) (D : DueOk cs (allV cs F m) due) : due = (rowsV cs m).getD m [] := by
  have R := rows_ok G.nd m
  refine srt_eq D.srt (R.srt m) fun x => ?_
  rw [D.mem]
  constructor
  · rintro ⟨hx, g⟩
    obtain ⟨f, hf, hx⟩ := List.mem_flatMap.mp hx
    obtain ⟨wf, hz⟩ := raw_mem G.nd 4 f m x hx
    exact R.all m (by rw [rowsV_len]; omega) x wf hz g
  · intro hx
    obtain ⟨wf, hz⟩ := R.wf m x hx
    have g := R.ok m x hx
    refine ⟨?_, g⟩
    unfold Good at g
    obtain ⟨y, hy⟩ := Option.isSome_iff_exists.mp g
    have hr := raw_all G.nd 4 hy wf (by omega)
    rw [hz] at hr
    obtain ⟨c, hc, e, _⟩ := raw_fam hr
    exact List.mem_flatMap.mpr ⟨y.1, e ▸ (G.row c hc).2, hr⟩
theorem nd_notin {α : Type} {P l : List α} {j : Nat} {x : α} (nd : (P ++ l).Nodup) (h : l[j]? = some x) : x ∉ P ++ l.take j := by
  have t : (P ++ l.take (j + 1)).Nodup := nd.sublist (List.Sublist.append_left (List.take_sublist _ _) P)
  rw [take_snoc h, ← List.append_assoc] at t
  exact fun hx => (List.nodup_append.mp t).2.2 x hx x (List.mem_singleton_self x) rfl
theorem all_step {cs : List Con} {F : List Str} {m i : Nat} {f : Str} (h : F[i]? = some f) : allV cs (F.take (i + 1)) m = allV cs (F.take i) m ++ rawV cs 4 f m := by
  unfold allV
  rw [take_snoc h, List.flatMap_append, List.flatMap_cons, List.flatMap_nil, List.append_nil]
theorem all_wf {cs : List Con} {F : List Str} {m : Nat} (nd : (cs.map Con.w).Nodup) : ∀ x ∈ allV cs F m, Wf (cnts cs) x ∧ vsz x = m := fun x hx => by
  obtain ⟨f, _, hx⟩ := List.mem_flatMap.mp hx
  exact raw_mem nd 4 f m x hx
/-! ### what is known -/
structure KnW (d c : Addr) (tv : V) (kl : Addr) (mk : List PV) (F : List Str) (cs : List Con) (ts : List PV) (H : Hp) : Prop where
  dr : Dr H d c
  it : Is H tv (tabPV mk F cs)
  kn : ∃ vs, H kl = some (.lst vs) ∧ IsL H vs ts
  nd : kl ≠ d
  nc : kl ≠ c
section
variable {d c kl : Addr} {tv : V} {mk : List PV} {F : List Str} {cs : List Con} {ts : List PV} {H H' : Hp}
theorem KnW.ex (x : Ex d c H H') (W : KnW d c tv kl mk F cs ts H) (D : Dr H' d c) : KnW d c tv kl mk F cs ts H' := by
  obtain ⟨vs, e, i⟩ := W.kn
  exact ⟨D, W.it.ex x W.dr, ⟨vs, x.but _ _ W.nd W.nc e, IsL.ex x W.dr i⟩, W.nd, W.nc⟩
theorem KnW.same (s : Same H H') (W : KnW d c tv kl mk F cs ts H) : KnW d c tv kl mk F cs ts H' := by
  obtain ⟨vs, e, i⟩ := W.kn
  exact ⟨W.dr.same s, W.it.same s, ⟨vs, s _ _ e, i.same s⟩, W.nd, W.nc⟩
end
/-- a value of the table, so deep at most -/
def KnV (cs : List Con) (n : Nat) (t : PV) : Prop := Wf (cnts cs) t ∧ dep t ≤ n
theorem kn_make {cs : List Con} {c : Con} (nd : (cs.map Con.w).Nodup) (hc : c ∈ cs) {ts : List PV} {n : Nat} (hl : ts.length = c.ps.length) (h : ∀ t ∈ ts, KnV cs n t) : KnV cs (n + 2) (.tup (.str c.w :: ts)) := by
  refine ⟨wf_tup.mpr ⟨by rw [look_cnt nd hc, hl], WfL_mem fun t ht => (h t ht).1⟩, ?_⟩
  rw [dep_cons]
  have : depL ts ≤ n := depL_le fun t ht => (h t ht).2
  omega
end
end Kx
namespace Kx
open PySem PySem.Spec PyProof.Rows L2
section
variable {P : Program} {w : World} {K : PySem.W.Frag} {mg : Str → Option Value} {base : Heap}
set_option pp.maxSteps 1500
def spLaw {K : PySem.W.Frag} (TT : List (Addr × Str)) : Sp := fun vs H Q _ => ∃ (a : Addr) (ns : List Int), vs = [.ref a] ∧ SqL K H a (ns.map V.int) ∧ ns.length ≤ 63 ∧ LamX.Tabs TT H ∧ ∀ H', Q (.bl true) H'
theorem ok_law {TT : List (Addr × Str)} (T : Txt K mg) (G_law_state : FnOk P w K mg base CX0 1 T.a_law_state T.d_law_state ["script"] (spState K)) (G_law_table : FnOk P w K mg base CX0 3 T.a_law_table T.d_law_table ["state"] spTable) (G_law_draw : FnOk P w K mg base CX0 1 T.a_law_draw T.d_law_draw ["state", "many"] spDraw) (G_law_raw : FnOk P w K mg base CX0 5 T.a_law_raw T.d_law_raw ["table", "family", "many"] (spRaw 4)) (G_law_index : FnOk P w K mg base CX0 24 T.a_law_index T.d_law_index ["table", "value"] (spLIdx 20)) (G_law_before : FnOk P w K mg base CX0 42 T.a_law_before T.d_law_before ["table", "one", "other"] (spLBefore 20)) (G_values_of : FnOk P w K mg base CX0 55 T.a_values_of T.d_values_of ["table", "total"] (spValuesOf TT)) (G_law_pick : FnOk P w K mg base CX0 2 T.a_law_pick T.d_law_pick ["state", "row"] (spPick K)) (G_before : FnOk P w K mg base CX0 82 T.a_before T.d_before ["table", "one", "other"] spBefore) : FnOk P w K mg base CX0 90 T.a_law T.d_law ["script"] (spLaw (K := K) TT) := by
  refine T.F_law.ok sc_law (fun vs H Q E h => ?_) (fun cdv A outer s H vs Q E hr h => ?_)
  · obtain ⟨a, ns, rfl, _⟩ := h; rfl
  · obtain ⟨a, ns, rfl, hS, h63, hT, q⟩ := h
    have hr_law_state : Room 1 _ := hr.mono (by decide)
    have hr_law_table : Room 3 _ := hr.mono (by decide)
    have hr_law_draw : Room 1 _ := hr.mono (by decide)
    have hr_law_raw : Room 5 _ := hr.mono (by decide)
    have hr_law_index : Room 24 _ := hr.mono (by decide)
    have hr_law_before : Room 42 _ := hr.mono (by decide)
    have hr_values_of : Room 55 _ := hr.mono (by decide)
    have hr_law_pick : Room 2 _ := hr.mono (by decide)
    have hr_before : Room 82 _ := hr.mono (by decide)
    refine ⟨_, (pss_cons (ps_set (i := 1) sc_law.nd rfl (Or.inr rfl) (pe_call G_law_state hr_law_state rfl T.m_law_state T.F_law_state.kp T.b_law_state .nil pass0 (pa_cons (pv 0) pa_nil)))
    (pss_cons (ps_set (i := 2) sc_law.nd rfl (Or.inr rfl) (pe_call G_law_table hr_law_table rfl T.m_law_table T.F_law_table.kp T.b_law_table .nil pass0 (pa_cons (pv 1) pa_nil)))
    (pss_cons (ps_set (i := 3) sc_law.nd rfl (Or.inr rfl) (pe_lst (pa_cons pe_str (pa_cons pe_str (pa_cons pe_str (pa_cons pe_str (pa_cons pe_str (pa_cons pe_str (pa_cons pe_str (pa_cons pe_str pa_nil))))))))))
    (pss_cons (ps_set (i := 4) sc_law.nd rfl (Or.inr rfl) (pe_slice sl_tupA (pe_ix ix_tup (pv 2) pe_int (fun _ _ => rfl)) po_none (po_some pe_int)))
    (Evl.pss_cut (ps_set (i := 2) sc_law.nd rfl (Or.inr rfl) (pe_op op_catT (pe_slice sl_tupA (pv 2) po_none (po_some pe_int)) (pe_tup (pa_cons (pe_callTy call_tuple_of (by rfl) T.z_tuple (by decide +kernel) (pa_cons (pe_lc (own := [("k", 16)]) (g := (gName 16)) (tt := tYes) rfl sc_law.nd (pi_range1 (by rfl) T.z_range (pa_cons (pe_callB call_len_seq (by rfl) T.z_len (by decide +kernel) (pa_cons (pv 4) pa_nil)) pa_nil)) (blkOk_by (own := [("k", 16)]) (N := ["script", "state", "table", "words", "rows", "many", "due", "family", "value", "one", "place", "known", "turn", "row", "other", "flag", "k", "part"]) (sc := defScope s_law) (by decide +kernel)) (fun _ _ _ _ _ => (pg_name (i := 16) sc_law.nd rfl (Or.inl rfl))) (fun _ _ _ _ _ => pts_nil) (fun _ _ _ _ _ => (pe_op (catTK (K := K)) (pe_tup (pa_cons (pe_ix (ixLK (K := K)) (pv 3) (pv 16) (fun _ _ => rfl)) pa_nil)) (pe_slice (slAK (K := K)) (pe_ix (ixTK (K := K)) (pv 4) (pv 16) (fun _ _ => rfl)) (po_some pe_int) po_none)))) pa_nil)) pa_nil))))
    (pss_cons (ps_set (i := 5) sc_law.nd rfl (Or.inl rfl) (pe_op op_add pe_int (pe_call G_law_draw hr_law_draw rfl T.m_law_draw T.F_law_draw.kp T.b_law_draw .nil pass0 (pa_cons (pv 1) (pa_cons pe_int pa_nil)))))
    (pss_cons (ps_set (i := 6) sc_law.nd rfl (Or.inl rfl) (pe_lst pa_nil))
    (Evl.pss_cut (ps_for PassesOwn.never rfl (pi_tup (pe_ix ix_tup (pv 2) pe_int (fun _ _ => rfl))) (pg_name (i := 7) sc_law.nd rfl (Or.inl rfl))
    (pss_one (ps_for PassesOwn.never rfl (pi_list (pe_call G_law_raw hr_law_raw rfl T.m_law_raw T.F_law_raw.kp T.b_law_raw .nil pass0 (pa_cons (pv 2) (pa_cons (pv 7) (pa_cons (pv 5) pa_nil))))) (pg_name (i := 8) sc_law.nd rfl (Or.inr rfl))
    (pss_one (ps_if (pt_cmpR op_notN (pe_call G_law_index hr_law_index rfl T.m_law_index T.F_law_index.kp T.b_law_index .nil pass0 (pa_cons (pv 2) (pa_cons (pv 8) pa_nil))) pe_non (nomark _)) (pss_cons (ps_set (i := 10) sc_law.nd rfl (Or.inl rfl) (pe_callB call_len_seq (by rfl) T.z_len (by decide +kernel) (pa_cons (pe_lc (own := [("one", 9)]) (g := (gName 9)) rfl sc_law.nd (pi_list (pv 6)) (blkOk_by (own := [("one", 9)]) (N := ["script", "state", "table", "words", "rows", "many", "due", "family", "value", "one", "place", "known", "turn", "row", "other", "flag", "k", "part"]) (sc := defScope s_law) (by decide +kernel)) (fun _ _ _ _ _ => (pg_name (i := 9) sc_law.nd rfl (Or.inl rfl))) (fun _ _ _ _ _ => pts_one (pt_val (pe_call G_law_before hr_law_before rfl T.m_law_before T.F_law_before.kp T.b_law_before .nil pass0 (pa_cons (pv 2) (pa_cons (pv 9) (pa_cons (pv 8) pa_nil)))))) (fun _ _ _ _ _ => (pv 9))) pa_nil)))
    (pss_one (ps_expr (pe_bm PySem.F.plainAttrs_list PySem.F.slot_list_insert PySem.F.type_list_insert mt_insert (pv 6) (pa_cons (pv 10) (pa_cons (pv 8) pa_nil)))))) pss_nil)))))
    (pss_cons (ps_if (pt_cmpR (neP (u200 hr)) (pe_call G_values_of hr_values_of rfl T.m_values_of T.F_values_of.kp T.b_values_of .nil pass0 (pa_cons (pv 2) (pa_cons (pv 5) pa_nil))) (pv 6) (nomark _)) (pss_one (ps_ret pe_bl)) pss_nil)
    (pss_cons (ps_set (i := 11) sc_law.nd rfl (Or.inr rfl) (pe_lst pa_nil))
    (Evl.pss_cut (ps_for PassesOwn.never rfl (pi_range1 (by rfl) T.z_range (pa_cons pe_int pa_nil)) (pg_name (i := 12) sc_law.nd rfl (Or.inl rfl))
    (pss_cons (ps_set (i := 13) sc_law.nd rfl (Or.inl rfl) (pe_call G_law_pick hr_law_pick rfl T.m_law_pick T.F_law_pick.kp T.b_law_pick .nil pass0 (pa_cons (pv 1) (pa_cons (pe_ix ix_tup (pv 2) pe_int (fun _ _ => rfl)) pa_nil))))
    (pss_one (ps_if (pt_cut (PW.pt (pw_or (pt_cmpR op_gt (pe_callB call_len_seq (by rfl) T.z_len (by decide +kernel) (pa_cons (pv 11) pa_nil)) pe_int (nomark _)) (pw_or1 (pt_cmpR op_eq (pe_callB call_len_seq (by rfl) T.z_len (by decide +kernel) (pa_cons (pe_ix ix_tup (pv 13) pe_int (fun _ _ => rfl)) pa_nil)) pe_int (nomark _)))))) (pss_one (ps_expr (pe_bm PySem.F.plainAttrs_list PySem.F.slot_list_append PySem.F.type_list_append mt_append (pv 11) (pa_cons (pe_op op_catT (pe_tup (pa_cons (pe_ix ix_tup (pv 13) pe_int (fun _ _ => rfl)) pa_nil)) (pe_callTy call_tuple_of (by rfl) T.z_tuple (by decide +kernel) (pa_cons (pe_lc (own := [("part", 17)]) (g := (gName 17)) (tt := tYes) rfl sc_law.nd (pi_tup (pe_ix ix_tup (pv 13) pe_int (fun _ _ => rfl))) (blkOk_by (own := [("part", 17)]) (N := ["script", "state", "table", "words", "rows", "many", "due", "family", "value", "one", "place", "known", "turn", "row", "other", "flag", "k", "part"]) (sc := defScope s_law) (by decide +kernel)) (fun _ _ _ _ _ => (pg_name (i := 17) sc_law.nd rfl (Or.inl rfl))) (fun _ _ _ _ _ => pts_nil) (fun _ _ _ _ _ => (pe_call G_law_pick hr_law_pick rfl T.m_law_pick T.F_law_pick.kp T.b_law_pick .nil pass0 (pa_cons (pv 1) (pa_cons (pv 11) pa_nil))))) pa_nil))) pa_nil)))) pss_nil))))
    (pss_cons (ps_for PassesOwn.never rfl (pi_list (pv 11)) (pg_name (i := 9) sc_law.nd rfl (Or.inl rfl))
    (pss_one (ps_for PassesOwn.never rfl (pi_list (pv 11)) (pg_name (i := 14) sc_law.nd rfl (Or.inl rfl))
    (pss_cons (ps_set (i := 15) sc_law.nd rfl (Or.inl rfl) (pe_call G_before hr_before rfl T.m_before T.F_before.kp T.b_before .nil pass0 (pa_cons (pv 2) (pa_cons (pv 9) (pa_cons (pv 14) pa_nil)))))
    (pss_one (ps_if (PW.pt (pw_or (pt_not (pt_val (pe_callB call_isi (by rfl) T.z_isinstance (by decide +kernel) (pa_cons (pv 15) (pa_cons (pe_bltn rfl T.z_bool (by decide +kernel) (show RelV (V.ty "bool") (Value.type "bool") from rfl)) pa_nil))))) (pw_or1 (pt_cmpR op_ne (pv 15) (pe_call G_law_before hr_law_before rfl T.m_law_before T.F_law_before.kp T.b_law_before .nil pass0 (pa_cons (pv 2) (pa_cons (pv 9) (pa_cons (pv 14) pa_nil)))) (nomark _))))) (pss_one (ps_ret pe_bl)) pss_nil))))))
    (pss_one (ps_ret pe_bl)))))))))))))), ?_⟩
    refine ⟨_, rfl, a, ns, rfl, hS, h63, fun d c H1 s1 D1 => ?_⟩
    refine ⟨_, rfl, d, c, rfl, D1, fun tv H2 mk F cs iT G x2 D2 => ?_⟩
    have T2 := tabs_ex x2 D1 (hT.ext s1)
    obtain ⟨ta, v0, v1, fa, ca, fvs, cvs, rfl, eta, efa, iF, eca, iC⟩ := tab_inv iT
    refine ⟨(by show 8 ≤ sizeLine; decide), fun wl hwl => ?_⟩
    have s3 := same_upd hwl (.lst (W8.map V.str))
    have D3 := D2.same s3
    have T3 := T2.ext s3
    have ewl : (upd H2 wl (.lst (W8.map V.str))) wl = some (.lst (W8.map V.str)) := upd_same
    refine ⟨_, rfl, ta, _, _, _, rfl, rfl, .inl (.inl (s3 _ _ eta)), atI_nat (j := 3) rfl, 8, rfl, ?_⟩
    refine go_slA (s3 _ _ eca) (iC.same s3) fun ra0 H4 s4 iR => ?_
    rw [cut8, ← List.map_take] at iR
    obtain ⟨ra, rvs, rfl, era, iR⟩ := iR.tup_inv
    have s34 := s3.trans s4
    refine ⟨fun σ H5 => ∃ tb, σ = [some (.ref a), some (.ref d), some (.ref tb), some (.ref wl), some (.ref ra), none, none, none, none, none, none, none, none, none, none, none, none, none] ∧ LamX.Tabs TT H5 ∧ Dr H5 d c ∧ Is H5 (.ref tb) (tabPV mk F (ren cs)), ?_, ?_⟩
    · obtain ⟨_, tvs, e0, eta4, iL4⟩ := (iT.same s34).tup_inv
      cases e0
      refine ⟨_, rfl, 3, rfl, ?_⟩
      refine go_slA eta4 iL4 fun ub H5 s5 iU => ?_
      obtain ⟨ub, uvs, rfl, eub, iU⟩ := iU.tup_inv
      have s35 := s34.trans s5
      have iR5 := iR.same s5
      have lR := iR.len
      rw [List.length_map, List.length_take] at lR
      have l12 := G.len.2
      refine ⟨_, rfl, ra, rvs, rfl, .inr (.inl (.inl (s5 _ _ era))), _, rfl, by omega, by omega, fun D hD => ?_⟩
      refine lc_range (lo := 0) (n := (rvs.length : Int).toNat) (fun i H6 => ∃ xs, Same H5 H6 ∧ H6 D = some (.lst xs) ∧ IsL H6 xs (((ren cs).take i).map conPV)) ?_ ?_ ?_
      · exact ⟨[], same_upd hD _, upd_same, .nil⟩
      · rintro i H6 hi ⟨xs, s6, eD, iX⟩
        have hi' : i < rvs.length := by simpa using hi
        obtain ⟨cc, hc, ic⟩ := con_get iR5 (List.getElem?_eq_getElem hi')
        have i8 : i < 8 := by omega
        have hc' : cs[i]? = some cc := by rw [List.getElem?_take_of_lt i8] at hc; exact hc
        have ew : W8[i]? = some (W8[i]'i8) := List.getElem?_eq_getElem _
        have er := ren_get ew hc'
        generalize W8[i]'i8 = nw at ew er
        have s36 := s35.trans s6
        have ewl6 := (s4.trans (s5.trans s6)) _ _ ewl
        refine ⟨rfl, yes_if ⟨_, rfl, _, rfl, wl, _, _, .str nw, rfl, rfl, SqL.of ewl6, ?_, (by show 1 ≤ sizeLine; decide), fun t1 ht1 => ?_⟩⟩
        · rw [Int.zero_add]
          exact atI_nat (j := i) (by rw [List.getElem?_map, ew]; rfl)
        have v1 := same_upd ht1 (.tup [.str nw])
        have okn : sok nw = true := w8_ok nw (List.mem_of_getElem? ew)
        obtain ⟨_, ccv, ecc, ecx, iL5⟩ := (ic.same (s6.trans v1)).tup_inv
        refine ⟨_, rfl, _, rfl, ra, _, _, rvs[i], rfl, rfl, .inl (.inl ((s5.trans (s6.trans v1)) _ _ era)), ?_, 1, rfl, ?_⟩
        · rw [Int.zero_add]
          exact atI_nat (j := i) (List.getElem?_eq_getElem hi')
        rw [ecc]
        dsimp only [tNoPart]
        refine go_slA ecx iL5 fun us H7 s7 iS => ?_
        obtain ⟨us, usv, rfl, eus, iS⟩ := iS.tup_inv
        refine go_catT (s7 _ _ upd_same) eus (.cons (.str _ okn) .nil) iS (by simp) (by show 1 + (cutP [PV.str cc.w, .tup (cc.ps.map prPV), .str cc.fam, cc.ix] (some 1) none).length ≤ 900; show 1 + 3 ≤ 900; decide) fun v H8 s8 iv => ?_
        have s68 := (v1.trans s7).trans s8
        have lX := iX.len
        rw [List.length_map, List.length_take] at lX
        refine ⟨xs, s68 _ _ eD, small1000 (by omega), xs ++ [v], Kx.Same.own (s6.trans s68) hD _, upd_same, ?_⟩
        rw [take_snoc er, List.map_append]
        exact IsL.wr (s68 _ _ eD) ((iX.same s68).append (.cons iv .nil))
      · rintro H6 ⟨xs, s6, eD, iX⟩
        have en : ((rvs.length : Int)).toNat = rvs.length := by simp
        rw [en, List.take_of_length_le (by rw [ren_len]; omega)] at iX
        refine ⟨D, xs, rfl, .inl ⟨SqL.of eD, fun tl htl => ?_⟩⟩
        have v1 := same_upd htl (.tup xs)
        refine ⟨(by show 1 ≤ sizeLine; decide), fun t2 ht2 => ?_⟩
        have v2 := same_upd ht2 (.tup [.ref tl])
        have v12 := v1.trans v2
        have s37 := (s35.trans s6).trans v12
        refine go_catT ((s6.trans v12) _ _ eub) upd_same (iU.same (s6.trans v12)) (.cons (.tup (v2 _ _ upd_same) (iX.same v12)) .nil) (by intro h; cases h) (by show 3 + 1 ≤ 900; decide) fun v H8 s8 iv => ?_
        obtain ⟨tb, _, rfl, _, _⟩ := id iv.tup_inv
        exact ⟨tb, rfl, (T2.ext s37).ext s8, (D2.same s37).same s8, iv⟩
    · rintro σ H5 ⟨tb, rfl, T5, D5, iT5⟩
      have Gr := ren_ok G
      have rl8 : (ren cs).length ≤ 8 := by rw [ren_len]; omega
      refine ⟨_, rfl, d, c, 4, rfl, D5, by decide, by decide, fun r H6 r0 r1 x6 D6 => ⟨_, _, rfl, rfl, ?_⟩⟩
      obtain ⟨k, rfl⟩ : ∃ k : Nat, r = (k : Int) := ⟨r.toNat, by omega⟩
      have ek : (1 : Int) + (k : Int) = ((k + 1 : Nat) : Int) := by omega
      have iT6 := iT5.ex x6 D5
      have T6 := tabs_ex x6 D5 T5
      clear iR era s34 hwl s3 ewl iC eca iF efa eta iT
      generalize hcs : ren cs = cs' at *
      refine ⟨(by show 0 ≤ sizeLine; decide), fun dl hdl => ?_⟩
      have s7 := same_upd hdl (.lst [])
      refine ⟨fun σ H8 => ∃ (y7 y8 y9 y10 : Option V) (dvs : List V), σ = [some (.ref a), some (.ref d), some (.ref tb), some (.ref wl), some (.ref ra), some (.int (1 + (k : Int))), some (.ref dl), y7, y8, y9, y10, none, none, none, none, none, none, none] ∧ LamX.Tabs TT H8 ∧ Dr H8 d c ∧ Is H8 (.ref tb) (tabPV mk F cs') ∧ H8 dl = some (.lst dvs) ∧ IsL H8 dvs ((rowsV cs' (k + 1)).getD (k + 1) []), ?_, ?_⟩
      · obtain ⟨w0, w1, fa', ca', fvs', cvs', eta5, efa5, iF5, eca5, iC5⟩ := tab_at iT6
        have lF := iF5.len
        rw [List.length_map] at lF
        refine ⟨_, rfl, tb, _, _, _, rfl, rfl, .inl (.inl (s7 _ _ eta5)), atI_nat (j := 2) rfl, fa', rfl, ⟨_, .inl (.inl (s7 _ _ efa5))⟩, ?_⟩
        refine for_tup (K := K) (a := fa') (xs := fvs') (fun i σ H8 => ∃ (y7 y8 y9 y10 : Option V) (dvs : List V) (due : List PV), σ = [some (.ref a), some (.ref d), some (.ref tb), some (.ref wl), some (.ref ra), some (.int (1 + (k : Int))), some (.ref dl), y7, y8, y9, y10, none, none, none, none, none, none, none] ∧ Same H6 H8 ∧ H8 dl = some (.lst dvs) ∧ IsL H8 dvs due ∧ DueOk cs' (allV cs' (F.take i) (k + 1)) due) ?_ ?_ ?_ ?_
        · exact ⟨none, none, none, none, [], [], rfl, s7, upd_same, .nil, due_nil _⟩
        · exact fun i σ H8 _ ⟨_, _, _, _, _, _, _, s8, _⟩ => .inl (.inl (s8 _ _ efa5))
        · rintro i x σ H8 hx ⟨y7, y8, y9, y10, dvs, due, rfl, s8, edl, iD, DO⟩
          obtain ⟨tt, et, it⟩ := iF5.get hx
          rw [List.getElem?_map] at et
          obtain ⟨f, hf, rfl⟩ := Option.map_eq_some_iff.mp et
          cases it.str_inv
          have lenA : (allV cs' (F.take (i + 1)) (k + 1)).length ≤ 32768 := all_len rl8 (fun cc hc => (Gr.row cc hc).1.len) (by rw [List.length_take]; have := Gr.fl.2; omega) (by omega) (by omega)
          have ndA : (allV cs' (F.take (i + 1)) (k + 1)).Nodup := all_nd Gr.nd (G.nd.sublist (List.take_sublist _ _)) _
          rw [all_step hf] at lenA ndA
          refine ⟨_, rfl, _, rfl, _, rfl, .ref tb, mk, F, cs', f, k + 1, by rw [← ek]; rfl, iT6.same s8, Gr, rl8, by omega, by omega, by omega, fun p H9 ws s9 np ep iW => ⟨p, rfl, ⟨_, SqL.of ep⟩, ?_⟩⟩
          have npd : p ≠ dl := fun e => by rw [e, edl] at np; cases np
          have lW := iW.len
          refine for_list (K := K) (a := p) (xs := ws) (fun j σ H10 => ∃ (y8 y9 y10 : Option V) (dvs : List V) (due : List PV), σ = [some (.ref a), some (.ref d), some (.ref tb), some (.ref wl), some (.ref ra), some (.int (1 + (k : Int))), some (.ref dl), some (.str f), y8, y9, y10, none, none, none, none, none, none, none] ∧ Same H6 H10 ∧ H10 p = some (.lst ws) ∧ IsL H10 ws (rawV cs' 4 f (k + 1)) ∧ H10 dl = some (.lst dvs) ∧ IsL H10 dvs due ∧ DueOk cs' (allV cs' (F.take i) (k + 1) ++ (rawV cs' 4 f (k + 1)).take j) due) ?_ ?_ ?_ ?_
          · exact ⟨y8, y9, y10, dvs, due, rfl, s8.trans s9, ep, iW, s9 _ _ edl, iD.same s9, by simpa using DO⟩
          · exact fun j σ H10 _ ⟨_, _, _, _, _, _, _, e, _⟩ => SqL.of e
          · rintro j x σ H10 hx2 ⟨y8, y9, y10, dvs, due, rfl, s10, ep10, iW10, edl, iD, DO⟩
            obtain ⟨t, et2, it⟩ := iW10.get hx2
            have tm := List.mem_of_getElem? et2
            obtain ⟨wf, vz⟩ := raw_mem Gr.nd 4 f (k + 1) t tm
            have dv := dep_vsz wf
            have nin := nd_notin ndA et2
            have wfP : ∀ y ∈ allV cs' (F.take i) (k + 1) ++ (rawV cs' 4 f (k + 1)).take j, Wf (cnts cs') y ∧ vsz y = k + 1 := fun y hy => by
              rcases List.mem_append.mp hy with h | h
              · exact all_wf Gr.nd y h
              · exact raw_mem Gr.nd 4 f (k + 1) y (List.mem_of_mem_take h)
            have ld := DO.len
            rw [List.length_append, List.length_take] at ld
            rw [List.length_append] at lenA
            have ldv := iD.len
            obtain ⟨cc, hcc, _, r, rfl⟩ := raw_fam tm
            refine ⟨_, rfl, _, rfl, .ref tb, x, mk, F, cs', _, rfl, iT6.same s10, Gr, it, wf, by omega, by omega, fun rr H11 s11 k11 => ⟨rfl, _, rfl, ?_⟩⟩
            have s611 := s10.trans s11
            have edl11 := s11 _ _ edl
            have iD11 := iD.same s11
            have it11 := it.same s11
            cases hid : idxOf cs' (.tup (.str cc.w :: r)) with
            | none =>
              rw [hid] at k11
              rw [show rr = .non from k11]
              have g : Good cs' (.tup (.str cc.w :: r)) = false := by unfold Good; rw [hid]; rfl
              refine iteF ⟨_, _, _, dvs, due, rfl, s611, s11 _ _ ep10, iW10.same s11, edl11, iD11, ?_⟩
              rw [take_snoc et2, ← List.append_assoc]
              exact due_no DO g
            | some y =>
              rw [hid] at k11
              obtain ⟨ra6, _, rfl, _, _⟩ := Is.tup_inv (show Is H11 rr (.tup [.str y.1, y.2]) from k11)
              have g : Good cs' (.tup (.str cc.w :: r)) = true := by unfold Good; rw [hid]; rfl
              refine iteT ⟨_, rfl, dl, rfl, ⟨_, SqL.of edl11⟩, fun D hD => ?_⟩
              refine lc_pickL (K := K) (a := dl) (xs := dvs) ordS (fun y => klt (cnts cs') y (.tup (.str cc.w :: r))) (fun H v y => Is H v y) (fun H v y => Is H v y) (fun H' s => SqL.of (s _ _ edl11)) (isL_pair (F := id) (by rw [List.map_id]; exact iD11)) (fun s h => h.same s) (fun s h => h.same s) (fun e h => h.wr e) hD (by omega) (fun z u H12 Q' Z hz hu s12 y1 y0 => ?_) (fun H12 w12 s12 eD p12 => ?_)
              · obtain ⟨wu, vu⟩ := wfP u ((DO.mem u).mp hu).1
                have du := dep_vsz wu
                have s612 := s611.trans s12
                refine ⟨rfl, _, rfl, _, rfl, _, rfl, .ref tb, z, x, mk, F, cs', u, _, rfl, iT6.same s612, Gr, hz, it11.same s12, wu, wf, by omega, by omega, by omega, fun H13 s13 => ?_⟩
                exact ⟨_, rfl, ite2 (fun c1 => ⟨_, rfl, y1 c1 _ _ s13 (hz.same s13)⟩) (fun c1 => y0 (by simpa using c1) _ s13)⟩
              · refine ⟨D, w12, rfl, .inl (SqL.of eD), ?_⟩
                have edl12 := s12 _ _ edl11
                have iD12 := iD11.same s12
                have l12 := Paired.length p12
                refine ⟨_, rfl, .inl ⟨rfl, _, SqL.of edl12⟩, _, rfl, _, rfl, dl, dvs, _, x, rfl, rfl, edl12, smallB (by omega), by omega, (by have lf := List.length_filter_le (fun y => klt (cnts cs') y (.tup (.str cc.w :: r))) due; have : (2 : Int) ^ 63 = 9223372036854775808 := rfl; omega), ?_⟩
                have it12 := it11.same s12
                have e12 : w12.length = plc (cnts cs') due (.tup (.str cc.w :: r)) := l12
                refine ⟨_, _, _, _, due.take (plc (cnts cs') due (.tup (.str cc.w :: r))) ++ [.tup (.str cc.w :: r)] ++ due.drop (plc (cnts cs') due (.tup (.str cc.w :: r))), rfl, Kx.Same.own (s611.trans s12) hdl _, by rw [upd_ne npd]; exact s12 _ _ (s11 _ _ ep10), IsL.wr edl12 ((iW10.same s11).same s12), upd_same, ?_, ?_⟩
                · refine IsL.wr edl12 ?_
                  rw [← e12]
                  exact ((iD12.take _).append (.cons it12 .nil)).append (iD12.drop _)
                · rw [take_snoc et2, ← List.append_assoc]
                  exact due_in DO (fun y hy => (wfP y hy).1) wf nin g
          · rintro σ H10 ⟨y8, y9, y10, dvs, due, rfl, s10, ep10, iW10, edl, iD, DO⟩
            rw [lW, List.take_length, ← all_step hf] at DO
            exact ⟨_, _, _, _, dvs, due, rfl, s10, edl, iD, DO⟩
        · rintro σ H8 ⟨y7, y8, y9, y10, dvs, due, rfl, s8, edl, iD, DO⟩
          rw [lF, List.take_length] at DO
          rw [due_end Gr (by omega) (by omega) DO] at iD
          exact ⟨_, _, _, _, dvs, rfl, T6.ext s8, D6.same s8, iT6.same s8, edl, iD⟩
      · rintro σ H8 ⟨y7, y8, y9, y10, dvs, rfl, T8, D8, iT8, edl, iDue⟩
        have RO := rows_ok Gr.nd (k + 1)
        have dwf : ∀ t ∈ (rowsV cs' (k + 1)).getD (k + 1) [], Wf (cnts cs') t ∧ vsz t = k + 1 := RO.wf (k + 1)
        refine ⟨_, rfl, _, rfl, .ref tb, mk, F, cs', k + 1, by rw [← ek]; rfl, T8, iT8, Gr, rl8, by omega, by omega, fun p H9 ws x9 ep iW => ⟨_, rfl, ?_⟩⟩
        refine ne_same ep (x9.li edl) iW (iDue.sx x9) (noOL_all fun t ht => tm_no (wf_tm (dwf t ht).1)) (depL_le fun t ht => by obtain ⟨w1, z1⟩ := dwf t ht; have := dep_vsz w1; omega) ⟨_, rfl, iteF ?_⟩
        have iT9 := iT8.sx x9
        have D9 := Dr.sx x9 D8
        refine ⟨(by show 0 ≤ sizeLine; decide), fun kl hkl => ?_⟩
        have s10 := same_upd hkl (.lst [])
        obtain ⟨kd, kc⟩ := D9.free hkl
        have W10 : KnW d c (.ref tb) kl mk F cs' [] (upd H9 kl (.lst [])) := ⟨D9.same s10, iT9.same s10, ⟨[], upd_same, .nil⟩, kd, kc⟩
        generalize upd H9 kl (.lst []) = H10 at W10
        clear s10 hkl ep x9 iW T8 iT8 edl iDue D8 s7 hdl
        refine ⟨fun σ H11 => ∃ (y12 y13 : Option V) (ts : List PV), σ = [some (.ref a), some (.ref d), some (.ref tb), some (.ref wl), some (.ref ra), some (.int (1 + (k : Int))), some (.ref dl), y7, y8, y9, y10, some (.ref kl), y12, y13, none, none, none, none] ∧ KnW d c (.ref tb) kl mk F cs' ts H11 ∧ (∀ t ∈ ts, KnV cs' 16 t) ∧ ts.length ≤ 8, ?_, ?_⟩
        · refine ⟨8, rfl, by decide, by decide, ?_⟩
          refine for_range (n := 8) (fun i σ H11 => ∃ (y12 y13 : Option V) (ts : List PV), σ = [some (.ref a), some (.ref d), some (.ref tb), some (.ref wl), some (.ref ra), some (.int (1 + (k : Int))), some (.ref dl), y7, y8, y9, y10, some (.ref kl), y12, y13, none, none, none, none] ∧ KnW d c (.ref tb) kl mk F cs' ts H11 ∧ (∀ t ∈ ts, KnV cs' (2 * i) t) ∧ ts.length ≤ i) ?_ ?_ ?_
          · exact ⟨none, none, [], rfl, W10, (fun t h => by cases h), Nat.le_refl _⟩
          · rintro i σ H4 hi ⟨y12, y13, ts, rfl, W4, kg, ll⟩
            obtain ⟨w0, w1, fa, ca, fvs, cvs, ea, ef, fL, ec, cL⟩ := tab_at W4.it
            have cl := cL.len
            rw [List.length_map] at cl
            obtain ⟨nca, ncb⟩ := W4.dr.off ec
            have cs1 := Gr.len.1
            refine ⟨_, rfl, _, rfl, tb, _, _, _, rfl, rfl, .inl (.inl ea), atI_nat (j := 3) rfl, d, c, ca, cvs, rfl, W4.dr, .inr (.inl (.inl ec)), nca, ncb, by omega, by omega, fun x H5 hx x5 D5 => ?_⟩
            have W5 := W4.ex x5 D5
            obtain ⟨cc, hcc, ic4⟩ := con_mem cL hx
            have ic := ic4.ex x5 W4.dr
            obtain ⟨rr, pa, iv, pvs, rfl, er, ep, pL, iiv, k0, k1⟩ := con_inv ic
            have pl := pL.len
            rw [List.length_map] at pl
            obtain ⟨vs, ekl, iV⟩ := W5.kn
            have vl := iV.len
            have c3 : cc.ps.length ≤ 2 := (Gr.row cc hcc).1.len
            refine ⟨fun b H6 => H6 = H5 ∧ (b = true → vs ≠ [] ∨ pvs = []), ?_, ?_⟩
            · refine ⟨_, rfl, kl, vs, rfl, .inl (SqL.of ekl), _, _, rfl, rfl, _, rfl, ite2 (fun c1 => ⟨rfl, fun _ => .inl ?_⟩) (fun c1 => ⟨_, rfl, rr, _, _, _, rfl, rfl, .inl (.inl er), atI_nat (j := 1) rfl, pa, _, rfl, .inr (.inl (.inl ep)), rfl, _, rfl, rfl, fun hb => .inr ?_⟩)⟩
              · intro e
                rw [e] at c1
                simp at c1
              · have e0 : (pvs.length : Int) = 0 := by
                  have := of_decide_eq_true hb
                  exact V.int.inj this
                exact List.eq_nil_of_length_eq_zero (by omega)
            · rintro b H6 ⟨rfl, hb⟩
              refine ite2 (fun c1 => ?_) (fun _ => ?_)
              · have hv := hb c1
                refine ⟨_, rfl, .inl ⟨rfl, _, SqL.of ekl⟩, _, rfl, rr, _, _, _, rfl, rfl, .inl (.inl er), atI_nat (j := 0) rfl, (by show 1 ≤ sizeLine; decide), fun q1 hq1 => ?_⟩
                have u1 := same_upd hq1 (.tup [.str cc.w])
                refine ⟨_, rfl, rr, _, _, _, rfl, rfl, .inl (.inl (u1 _ _ er)), atI_nat (j := 1) rfl, pa, rfl, ⟨_, .inl (.inl (u1 _ _ ep))⟩, fun D hD => ?_⟩
                have Wu := W5.same u1
                obtain ⟨nDd, nDc⟩ := Wu.dr.free hD
                have eq1 : (upd H6 q1 (.tup [.str cc.w])) q1 = some (.tup [.str cc.w]) := upd_same
                generalize hHu : upd H6 q1 (.tup [.str cc.w]) = Hu at *
                have nDk : kl ≠ D := ne_of_none (u1 _ _ ekl) hD
                have epu := u1 _ _ ep
                have eklu := u1 _ _ ekl
                have iVu := iV.same u1
                refine lc_tup (K := K) (a := pa) (xs := pvs) (fun j H9 => Ex d c Hu H9 ∧ Dr H9 d c ∧ ∃ ws us, H9 D = some (.lst ws) ∧ IsL H9 ws us ∧ (∀ u ∈ us, KnV cs' (2 * i) u) ∧ us.length = j) ?_ ?_ ?_ ?_
                · exact ⟨.of (same_upd hD _), Wu.dr.same (same_upd hD _), [], [], upd_same, .nil, (fun u h => by cases h), rfl⟩
                · exact fun j H9 _ ⟨x9, _⟩ => .inl (.inl (x9.keep Wu.dr epu fun _ z => by cases z))
                · rintro j x H9 hx ⟨x9, D9, ws, us, eD, hW, ug, ul⟩
                  have hne : vs ≠ [] := hv.resolve_right fun e => by rw [e] at hx; simp at hx
                  have v1 : 1 ≤ vs.length := by cases vs with | nil => exact absurd rfl hne | cons _ _ => simp
                  have ekl9 := x9.but _ _ kd kc eklu
                  refine ⟨rfl, yes_if ⟨_, rfl, _, rfl, d, c, kl, vs, rfl, D9, .inl ekl9, kd, kc, v1, by omega, fun y H10 hy x10 D10 => ?_⟩⟩
                  obtain ⟨t, ht, it⟩ := isL_mem iVu hy
                  have eD10 := x10.but _ _ nDd nDc eD
                  have it10 := ((it.ex x9 Wu.dr).ex x10 D9)
                  have j3 : j < pvs.length := (List.getElem?_eq_some_iff.mp hx).1
                  have wl := hW.len
                  refine ⟨ws, eD10, small1000 (by omega), (x9.trans x10).own hD _, D10.own nDd nDc, ws ++ [y], us ++ [t], upd_same, IsL.wr eD10 ((IsL.ex x10 D9 hW).append (.cons it10 .nil)), ?_, by rw [List.length_append, ul]; rfl⟩
                  intro u hu2
                  rcases List.mem_append.mp hu2 with h | h
                  · exact ug u h
                  · rw [List.mem_singleton.mp h]; exact kg t ht
                · rintro H9 ⟨x9, D9, ws, us, eD, hW, ug, ul⟩
                  refine ⟨D, ws, rfl, .inl ⟨SqL.of eD, fun l hl => ?_⟩⟩
                  have u2 := same_upd hl (.tup ws)
                  have eq9 := x9.keep Wu.dr eq1 fun _ z => by cases z
                  refine go_catT (u2 _ _ eq9) upd_same (.cons (.str _ k0) .nil) (hW.same u2) (by simp) (by simp only [List.length_cons, List.length_nil]; omega) fun v H10 s10 iv10 => ?_
                  have W9 := Wu.ex x9 D9
                  have W10 := W9.same (u2.trans s10)
                  obtain ⟨vs', ekl', iV'⟩ := W10.kn
                  have vl' := iV'.len
                  refine ⟨kl, vs', v, rfl, rfl, ekl', small1000 (by omega), ?_⟩
                  refine ⟨_, _, ts ++ [.tup (.str cc.w :: us)], rfl, ⟨W10.dr.own kd kc, Is.wr ekl' W10.it, ⟨_, upd_same, IsL.wr ekl' (iV'.append (.cons iv10 .nil))⟩, kd, kc⟩, ?_, ?_⟩
                  · intro t ht
                    rcases List.mem_append.mp ht with h | h
                    · exact ⟨(kg t h).1, Nat.le_trans (kg t h).2 (by omega)⟩
                    · rw [List.mem_singleton.mp h]
                      exact kn_make Gr.nd hcc (by omega) ug
                  · rw [List.length_append]; simp only [List.length_cons, List.length_nil]; omega
              · exact ⟨_, _, ts, rfl, W5, fun t ht => ⟨(kg t ht).1, Nat.le_trans (kg t ht).2 (by omega)⟩, by omega⟩
          · rintro σ H4 ⟨y12, y13, ts, rfl, W4, kg, ll⟩
            exact ⟨y12, y13, ts, rfl, W4, kg, ll⟩
        · rintro σ H11 ⟨y12, y13, ts, rfl, W11, kg, l8⟩
          obtain ⟨vs, ekl, iV⟩ := W11.kn
          have vl := iV.len
          have iT := W11.it
          clear W11 W10 D9 iT9
          refine ⟨_, rfl, kl, rfl, ⟨_, SqL.of ekl⟩, ?_⟩
          refine for_list (K := K) (a := kl) (xs := vs) (fun i σ H => ∃ (y9 y14 y15 : Option V), σ = [some (.ref a), some (.ref d), some (.ref tb), some (.ref wl), some (.ref ra), some (.int (1 + (k : Int))), some (.ref dl), y7, y8, y9, y10, some (.ref kl), y12, y13, y14, y15, none, none] ∧ Same H11 H) ?_ ?_ ?_ ?_
          · exact ⟨y9, none, none, rfl, .refl _⟩
          · exact fun i σ H _ ⟨_, _, _, _, s⟩ => SqL.of (s _ _ ekl)
          · rintro i x σ H12 hx ⟨y9, y14, y15, rfl, s12⟩
            obtain ⟨t, et, it⟩ := iV.get hx
            obtain ⟨wt, dt⟩ := kg t (List.mem_of_getElem? et)
            refine ⟨_, rfl, kl, rfl, ⟨_, SqL.of (s12 _ _ ekl)⟩, ?_⟩
            refine for_list (K := K) (a := kl) (xs := vs) (fun i σ H => ∃ (y14 y15 : Option V), σ = [some (.ref a), some (.ref d), some (.ref tb), some (.ref wl), some (.ref ra), some (.int (1 + (k : Int))), some (.ref dl), y7, y8, some x, y10, some (.ref kl), y12, y13, y14, y15, none, none] ∧ Same H11 H) ?_ ?_ ?_ ?_
            · exact ⟨y14, y15, rfl, s12⟩
            · exact fun i σ H _ ⟨_, _, _, s⟩ => SqL.of (s _ _ ekl)
            · rintro j y σ H13 hy ⟨y14, y15, rfl, s13⟩
              obtain ⟨u, eu, iu⟩ := iV.get hy
              obtain ⟨wu, du⟩ := kg u (List.mem_of_getElem? eu)
              refine ⟨_, rfl, _, rfl, _, rfl, .ref tb, x, y, mk, F, cs', t, u, rfl, iT.same s13, Gr, it.same s13, iu.same s13, wt, wu, by omega, by omega, fun H14 s14 => ?_⟩
              have s1114 := s13.trans s14
              refine ⟨_, rfl, _, _, .type "bool", .type "bool", true, rfl, .ty _, .base (by constructor), by simp [PySem.W.kitOne], _, rfl, ?_⟩
              refine iteF ⟨_, rfl, ?_⟩
              refine ⟨_, rfl, _, rfl, _, rfl, .ref tb, x, y, mk, F, cs', t, u, rfl, iT.same s1114, Gr, it.same s1114, iu.same s1114, wt, wu, by omega, by omega, by omega, fun H15 s15 => ?_⟩
              refine ⟨rfl, _, rfl, ?_⟩
              rw [show (!decide (V.bl (klt (cnts cs') t u) = V.bl (klt (cnts cs') t u))) = false by simp]
              exact iteF ⟨_, _, rfl, s1114.trans s15⟩
            · rintro σ H13 ⟨y14, y15, rfl, s13⟩
              exact ⟨_, _, _, rfl, s13⟩
          · rintro σ H12 ⟨y9, y14, y15, rfl, s12⟩
            exact q H12
end
end Kx
namespace Kx
open PySem PySem.Spec PyProof.Rows L2
section
variable {P : Program} {w : World} {K : PySem.W.Frag} {mg : Str → Option Value} {base : Heap}
/-! ### all depths -/
theorem no_left {f : Addr} {fd : FuncData} {ps : List Str} {k : Nat} {sp : Sp} (no : ∀ vs H Q E, ¬ sp vs H Q E) : FnOk P w K mg base CX0 k f fd ps sp :=
  ⟨fun vs H Q E h => absurd h (no vs H Q E), fun A outer s H args us vs Q E _ _ _ _ h => absurd h (no vs H Q E)⟩
theorem all_folded (T : Txt K mg) (k : Nat) : ∀ n, FnOk P w K mg base CX0 (n + k + 2) T.a_folded_ T.d_folded_ ["tree", "reckon", "kept"] (spFold_ P w K mg base T.c_Kept k n)
  | 0 => no_left fun vs H Q E ⟨_, t, _, _, _, _, _, _, _, _, _, _, _, _, _, _, _, _, _, _, h, _⟩ => by have := dep_pos (.tup t); omega
  | n + 1 => by
    have r := ok_folded_ T (n := n) (k := k) (all_folded T k n) (ok_Kept_pair_of T) (ok_Kept_keep T)
    exact FnOk.mono r (by omega)
theorem all_put (T : Txt K mg) : ∀ n, FnOk P w K mg base CX0 (n + 1) T.a_put T.d_put ["term", "assignment"] (spPut n)
  | 0 => no_left fun vs H Q E ⟨_, _, _, t, _, _, _, _, _, _, h, _⟩ => by have := dep_pos t; omega
  | n + 1 => ok_put T (all_put T n)
theorem all_lput (T : Txt K mg) : ∀ n, FnOk P w K mg base CX0 (n + 1) T.a_law_put T.d_law_put ["term", "trees"] (spLPut n)
  | 0 => no_left fun vs H Q E ⟨_, _, _, t, _, _, _, _, _, _, _, h, _⟩ => by have := dep_pos t; omega
  | n + 1 => ok_law_put T (all_lput T n)
theorem all_fits (T : Txt K mg) : ∀ n, FnOk P w K mg base CX0 (n + 1) T.a_fits T.d_fits ["pattern", "term", "found"] (spFit n)
  | 0 => no_left fun vs H Q E ⟨_, _, _, _, p, _, _, _, _, _, _, _, _, _, _, h, _⟩ => by have := dep_pos p; omega
  | n + 1 => ok_fits T (all_fits T n)
theorem all_lsize (T : Txt K mg) : ∀ n, FnOk P w K mg base CX0 (n + 1) T.a_law_size T.d_law_size ["value"] (spLSize n)
  | 0 => no_left fun vs H Q E ⟨_, t, _, _, _, _, h, _⟩ => by have := dep_pos (.tup t); omega
  | n + 1 => ok_law_size T (all_lsize T n)
theorem all_idx (T : Txt K mg) : ∀ n, FnOk P w K mg base CX0 (n + 4) T.a_law_index T.d_law_index ["table", "value"] (spLIdx n)
  | 0 => no_left fun vs H Q E ⟨_, _, _, _, _, t, _, _, _, _, _, h, _⟩ => by have := dep_pos (.tup t); omega
  | n + 1 => ok_law_index T (all_idx T n) (ok_law_fit T) (all_lput T 3)
theorem all_size (T : Txt K mg) : ∀ n, FnOk P w K mg base CX0 (n + 1) T.a_size T.d_size ["term"] (spSizeT n)
  | 0 => no_left fun vs H Q E ⟨_, _, t, _, _, _, h, _⟩ => by have := dep_pos t; omega
  | n + 1 => ok_size T (all_size T n)
theorem all_order (T : Txt K mg) : ∀ n, FnOk P w K mg base CX0 (n + 61) T.a_order T.d_order ["makers", "one", "other"] (spOrder n)
  | 0 => no_left fun vs H Q E ⟨_, _, _, _, t, _, _, _, _, _, _, _, _, _, h, _⟩ => by have := dep_pos t; omega
  | n + 1 => ok_order T (all_size T 60) (all_order T n)
theorem all_part (T : Txt K mg) : ∀ n, FnOk P w K mg base CX0 (n + 1) T.a_part_rows T.d_part_rows ["rows", "parts", "total"] (spPart n)
  | 0 => no_left fun vs H Q E ⟨_, _, _, _, _, _, _, _, _, _, _, h, _⟩ => by omega
  | n + 1 => ok_part_rows T (all_part T n)
theorem all_lbefore (T : Txt K mg) : ∀ n, FnOk P w K mg base CX0 (n + 21) T.a_law_before T.d_law_before ["table", "one", "other"] (spLBefore n)
  | 0 => no_left fun vs H Q E ⟨_, _, _, _, _, _, t, _, _, _, _, _, _, _, _, h, _⟩ => by have := dep_pos t; omega
  | n + 1 => ok_law_before T (all_lsize T 20) (all_lbefore T n)
theorem all_raw (T : Txt K mg) : ∀ n, FnOk P w K mg base CX0 (n + 1) T.a_law_raw T.d_law_raw ["table", "family", "many"] (spRaw n)
  | 0 => no_left fun vs H Q E ⟨_, _, _, _, _, m, _, _, _, _, h, h2, _⟩ => by omega
  | n + 1 => ok_law_raw T (ok_law_constructors T) (all_raw T n)
theorem the_fitted (T : Txt K mg) : FnOk P w K mg base CX0 5 T.a_fitted T.d_fitted ["patterns", "terms"] (spFitted 3) := ok_fitted T (all_fits T 3)
theorem the_trees (T : Txt K mg) : FnOk P w K mg base CX0 6 T.a_trees_for T.d_trees_for ["asked", "kinds"] (spTrees 3) := ok_trees_for T (the_fitted T)
theorem the_made (T : Txt K mg) : FnOk P w K mg base CX0 8 T.a_made_kind T.d_made_kind ["constructor", "kinds"] spMade := ok_made_kind T (the_trees T) (FnOk.mono (all_put T 3) (by decide))
theorem the_folded (T : Txt K mg) (k : Nat) : FnOk P w K mg base CX0 (20 + k + 3) T.a_folded T.d_folded ["tree", "reckon"] (spFolded P w K mg base k 20) := ok_folded T (all_folded T k 20) (ok_Kept_init T)
end
end Kx
/-! The end: the program's top leaves the defs where the text says; the tables of the defs that make lambdas are empty. -/
namespace Kx
open PySem PySem.Spec PyProof.Rows L2
/-- what the head tells of a def's code object and its table -/
def TabOf (mg : Str → Option Value) (h : Heap) (x : Str) : Prop := ∃ a o fd c P, mg x = some (.ref a) ∧ h.get? a = some o ∧ o.data = .func fd ∧ fd.code = .ref c ∧ h.IsCode c P #[] ∧ h.TableAt c P #[]
theorem tab_of {K : PySem.W.Frag} {mg : Str → Option Value} {h : Heap} {x : Str} {f c P : Addr} {o : Obj} {fd : FuncData} {e : Value} {dd : Option Addr} {vs : Array Value} {sl : Array (Option Value)} (X : K.In h) (t : TabOf mg h x) (hx : mg x = some (.ref f)) (l : K.lookup f = some o) (ho : o.data = .func fd) (hc : fd.code = .ref c)
    (tc : K.lookup c = some ⟨e, dd, .fields vs, sl⟩) (p : vs[11]? = some (.ref P)) : h.get? P = some { cls := .none, data := .fields #[] } ∧ PySem.W.CodeHd h c P := by
  obtain ⟨a', o', fd', c', P', h1, h2, h3, h4, h5, h6⟩ := t
  rw [hx] at h1
  cases h1
  rw [X _ _ l] at h2
  cases h2
  rw [ho] at h3
  cases h3
  rw [hc] at h4
  cases h4
  have hd := PySem.W.CodeHd.of h5 h6
  obtain ⟨⟨oc, vc, e1, _, e3, e4⟩, hP⟩ := h6
  rw [X _ _ tc] at e1
  cases e1
  cases e3
  rw [p] at e4
  cases e4
  exact ⟨hP, hd⟩
theorem all_mk {l : PySem.W.OpenLaw} {w : World} {K : PySem.W.Frag} {h : Heap} {mg : Str → Option Value} {fa f0 f1 f2 f3 f4 f5 f6 f7 f8 f9 f10 f11 f12 f13 f14 f15 f16 f17 f18 f19 f20 f21 f22 f23 f24 f25 f26 f27 f28 f29 f30 : Addr} (X : K.In h) (G : h.Ns mainGlobals mg) (hfa : mg "law" = some (.ref fa))
    {od0 an0 od1 an1 od2 an2 od3 an3 od4 an4 od5 an5 od6 an6 od7 an7 od8 an8 od9 an9 od10 an10 od11 an11 od12 an12 od13 an13 od14 an14 od15 an15 od16 an16 od17 an17 od18 an18 od19 an19 od20 an20 od21 an21 od22 an22 od23 an23 od24 an24 od25 an25 od26 an26 od27 an27 od28 an28 od29 an29 od30 an30 : Option Addr} {sl0 sl1 sl2 sl3 sl4 sl5 sl6 sl7 sl8 sl9 sl10 sl11 sl12 sl13 sl14 sl15 sl16 sl17 sl18 sl19 sl20 sl21 sl22 sl23 sl24 sl25 sl26 sl27 sl28 sl29 sl30 : Array (Option Value)} {oc0 kV0 dc0 pm0 cd0 ct0 oc1 kV1 dc1 pm1 cd1 ct1 oc2 kV2 dc2 pm2 cd2 ct2 oc3 kV3 dc3 pm3 cd3 ct3 oc4 kV4 dc4 pm4 cd4 ct4 oc5 kV5 dc5 pm5 cd5 ct5 oc6 kV6 dc6 pm6 cd6 ct6 oc7 kV7 dc7 pm7 cd7 ct7 oc8 kV8 dc8 pm8 cd8 ct8 oc9 kV9 dc9 pm9 cd9 ct9 oc10 kV10 dc10 pm10 cd10 ct10 oc11 kV11 dc11 pm11 cd11 ct11 oc12 kV12 dc12 pm12 cd12 ct12 oc13 kV13 dc13 pm13 cd13 ct13 oc14 kV14 dc14 pm14 cd14 ct14 oc15 kV15 dc15 pm15 cd15 ct15 oc16 kV16 dc16 pm16 cd16 ct16 oc17 kV17 dc17 pm17 cd17 ct17 oc18 kV18 dc18 pm18 cd18 ct18 oc19 kV19 dc19 pm19 cd19 ct19 oc20 kV20 dc20 pm20 cd20 ct20 oc21 kV21 dc21 pm21 cd21 ct21 oc22 kV22 dc22 pm22 cd22 ct22 oc23 kV23 dc23 pm23 cd23 ct23 oc24 kV24 dc24 pm24 cd24 ct24 oc25 kV25 dc25 pm25 cd25 ct25 oc26 kV26 dc26 pm26 cd26 ct26 oc27 kV27 dc27 pm27 cd27 ct27 oc28 kV28 dc28 pm28 cd28 ct28 oc29 kV29 dc29 pm29 cd29 ct29 oc30 kV30 dc30 pm30 cd30 ct30 : Value}
    {C0 : Addr} (aC0 : PySem.W.nsIn K mainGlobals "Kept" = some (some (.ref C0))) (pg0 : PySem.W.plainGet K C0 Str.empty = true) (hd0 : PySem.W.hasDictIn K C0 = true) (po0 : PySem.W.plainOver K C0 = true) (sa0 : PySem.W.findIn K (.ref C0) "__setattr__" = some (some (.builtin "object.__setattr__"))) (mk0 : PySem.W.makesIn K C0 = true) (kc0 : PySem.W.keepIn K (.ref C0) = true) (nx0_0 : PySem.W.findIn K (.ref C0) "rows" = some none)
    {ti0 : Tok} (gi0 : PySem.W.nsIn K mainGlobals "MOST_KEPT" = some (some (.int 32 ti0)))
    (a0 : PySem.W.findIn K (.ref C0) "__init__" = some (some (.ref f0))) (i0 : PySem.W.isFn K (.ref f0) = true) (l0 : K.lookup f0 = some ⟨oc0, od0, .func (PySem.W.fnOf "__init__" "Kept.__init__" (defArgs s_Kept_init) (defBody s_Kept_init) (defScope s_Kept_init) .none kV0 dc0 pm0 an0 cd0 ct0), sl0⟩) (c0 : PySem.W.codeIn K cd0 "Kept.__init__" = true) (k0 : PySem.W.keepIn K (.ref f0) = true)
    (a1 : PySem.W.findIn K (.ref C0) "pair_of" = some (some (.ref f1))) (i1 : PySem.W.isFn K (.ref f1) = true) (l1 : K.lookup f1 = some ⟨oc1, od1, .func (PySem.W.fnOf "pair_of" "Kept.pair_of" (defArgs s_Kept_pair_of) (defBody s_Kept_pair_of) (defScope s_Kept_pair_of) .none kV1 dc1 pm1 an1 cd1 ct1), sl1⟩) (c1 : PySem.W.codeIn K cd1 "Kept.pair_of" = true) (k1 : PySem.W.keepIn K (.ref f1) = true)
    (a2 : PySem.W.findIn K (.ref C0) "keep" = some (some (.ref f2))) (i2 : PySem.W.isFn K (.ref f2) = true) (l2 : K.lookup f2 = some ⟨oc2, od2, .func (PySem.W.fnOf "keep" "Kept.keep" (defArgs s_Kept_keep) (defBody s_Kept_keep) (defScope s_Kept_keep) .none kV2 dc2 pm2 an2 cd2 ct2), sl2⟩) (c2 : PySem.W.codeIn K cd2 "Kept.keep" = true) (k2 : PySem.W.keepIn K (.ref f2) = true)
    (a3 : PySem.W.nsIn K mainGlobals "folded" = some (some (.ref f3))) (l3 : K.lookup f3 = some ⟨oc3, od3, .func (PySem.W.fnOf "folded" "folded" (defArgs s_folded) (defBody s_folded) (defScope s_folded) .none kV3 dc3 pm3 an3 cd3 ct3), sl3⟩) (c3 : PySem.W.codeIn K cd3 "folded" = true) (k3 : PySem.W.keepIn K (.ref f3) = true)
    (a4 : PySem.W.nsIn K mainGlobals "_folded" = some (some (.ref f4))) (l4 : K.lookup f4 = some ⟨oc4, od4, .func (PySem.W.fnOf "_folded" "_folded" (defArgs s_folded_) (defBody s_folded_) (defScope s_folded_) .none kV4 dc4 pm4 an4 cd4 ct4), sl4⟩) (c4 : PySem.W.codeIn K cd4 "_folded" = true) (k4 : PySem.W.keepIn K (.ref f4) = true)
    (a5 : PySem.W.nsIn K mainGlobals "size" = some (some (.ref f5))) (l5 : K.lookup f5 = some ⟨oc5, od5, .func (PySem.W.fnOf "size" "size" (defArgs s_size) (defBody s_size) (defScope s_size) .none kV5 dc5 pm5 an5 cd5 ct5), sl5⟩) (c5 : PySem.W.codeIn K cd5 "size" = true) (k5 : PySem.W.keepIn K (.ref f5) = true)
    (a6 : PySem.W.nsIn K mainGlobals "order" = some (some (.ref f6))) (l6 : K.lookup f6 = some ⟨oc6, od6, .func (PySem.W.fnOf "order" "order" (defArgs s_order) (defBody s_order) (defScope s_order) .none kV6 dc6 pm6 an6 cd6 ct6), sl6⟩) (c6 : PySem.W.codeIn K cd6 "order" = true) (k6 : PySem.W.keepIn K (.ref f6) = true)
    (a7 : PySem.W.nsIn K mainGlobals "part_rows" = some (some (.ref f7))) (l7 : K.lookup f7 = some ⟨oc7, od7, .func (PySem.W.fnOf "part_rows" "part_rows" (defArgs s_part_rows) (defBody s_part_rows) (defScope s_part_rows) .none kV7 dc7 pm7 an7 cd7 ct7), sl7⟩) (c7 : PySem.W.codeIn K cd7 "part_rows" = true) (k7 : PySem.W.keepIn K (.ref f7) = true)
    (a8 : PySem.W.nsIn K mainGlobals "put" = some (some (.ref f8))) (l8 : K.lookup f8 = some ⟨oc8, od8, .func (PySem.W.fnOf "put" "put" (defArgs s_put) (defBody s_put) (defScope s_put) .none kV8 dc8 pm8 an8 cd8 ct8), sl8⟩) (c8 : PySem.W.codeIn K cd8 "put" = true) (k8 : PySem.W.keepIn K (.ref f8) = true)
    (a9 : PySem.W.nsIn K mainGlobals "fitted" = some (some (.ref f9))) (l9 : K.lookup f9 = some ⟨oc9, od9, .func (PySem.W.fnOf "fitted" "fitted" (defArgs s_fitted) (defBody s_fitted) (defScope s_fitted) .none kV9 dc9 pm9 an9 cd9 ct9), sl9⟩) (c9 : PySem.W.codeIn K cd9 "fitted" = true) (k9 : PySem.W.keepIn K (.ref f9) = true)
    (a10 : PySem.W.nsIn K mainGlobals "_fits" = some (some (.ref f10))) (l10 : K.lookup f10 = some ⟨oc10, od10, .func (PySem.W.fnOf "_fits" "_fits" (defArgs s_fits) (defBody s_fits) (defScope s_fits) .none kV10 dc10 pm10 an10 cd10 ct10), sl10⟩) (c10 : PySem.W.codeIn K cd10 "_fits" = true) (k10 : PySem.W.keepIn K (.ref f10) = true)
    (a11 : PySem.W.nsIn K mainGlobals "_counts" = some (some (.ref f11))) (l11 : K.lookup f11 = some ⟨oc11, od11, .func (PySem.W.fnOf "_counts" "_counts" (defArgs s_counts) (defBody s_counts) (defScope s_counts) .none kV11 dc11 pm11 an11 cd11 ct11), sl11⟩) (c11 : PySem.W.codeIn K cd11 "_counts" = true) (k11 : PySem.W.keepIn K (.ref f11) = true)
    (a12 : PySem.W.nsIn K mainGlobals "index_of" = some (some (.ref f12))) (l12 : K.lookup f12 = some ⟨oc12, od12, .func (PySem.W.fnOf "index_of" "index_of" (defArgs s_index_of) (defBody s_index_of) (defScope s_index_of) .none kV12 dc12 pm12 an12 cd12 ct12), sl12⟩) (c12 : PySem.W.codeIn K cd12 "index_of" = true) (k12 : PySem.W.keepIn K (.ref f12) = true)
    (a13 : PySem.W.nsIn K mainGlobals "made_kind" = some (some (.ref f13))) (l13 : K.lookup f13 = some ⟨oc13, od13, .func (PySem.W.fnOf "made_kind" "made_kind" (defArgs s_made_kind) (defBody s_made_kind) (defScope s_made_kind) .none kV13 dc13 pm13 an13 cd13 ct13), sl13⟩) (c13 : PySem.W.codeIn K cd13 "made_kind" = true) (k13 : PySem.W.keepIn K (.ref f13) = true)
    (a14 : PySem.W.nsIn K mainGlobals "trees_for" = some (some (.ref f14))) (l14 : K.lookup f14 = some ⟨oc14, od14, .func (PySem.W.fnOf "trees_for" "trees_for" (defArgs s_trees_for) (defBody s_trees_for) (defScope s_trees_for) .none kV14 dc14 pm14 an14 cd14 ct14), sl14⟩) (c14 : PySem.W.codeIn K cd14 "trees_for" = true) (k14 : PySem.W.keepIn K (.ref f14) = true)
    (a15 : PySem.W.nsIn K mainGlobals "before" = some (some (.ref f15))) (l15 : K.lookup f15 = some ⟨oc15, od15, .func (PySem.W.fnOf "before" "before" (defArgs s_before) (defBody s_before) (defScope s_before) .none kV15 dc15 pm15 an15 cd15 ct15), sl15⟩) (c15 : PySem.W.codeIn K cd15 "before" = true) (k15 : PySem.W.keepIn K (.ref f15) = true)
    (a16 : PySem.W.nsIn K mainGlobals "values_of" = some (some (.ref f16))) (l16 : K.lookup f16 = some ⟨oc16, od16, .func (PySem.W.fnOf "values_of" "values_of" (defArgs s_values_of) (defBody s_values_of) (defScope s_values_of) .none kV16 dc16 pm16 an16 cd16 ct16), sl16⟩) (c16 : PySem.W.codeIn K cd16 "values_of" = true) (k16 : PySem.W.keepIn K (.ref f16) = true)
    (a17 : PySem.W.nsIn K mainGlobals "_values_of_size" = some (some (.ref f17))) (l17 : K.lookup f17 = some ⟨oc17, od17, .func (PySem.W.fnOf "_values_of_size" "_values_of_size" (defArgs s_values_of_size) (defBody s_values_of_size) (defScope s_values_of_size) .none kV17 dc17 pm17 an17 cd17 ct17), sl17⟩) (c17 : PySem.W.codeIn K cd17 "_values_of_size" = true) (k17 : PySem.W.keepIn K (.ref f17) = true)
    (a18 : PySem.W.nsIn K mainGlobals "_law_state" = some (some (.ref f18))) (l18 : K.lookup f18 = some ⟨oc18, od18, .func (PySem.W.fnOf "_law_state" "_law_state" (defArgs s_law_state) (defBody s_law_state) (defScope s_law_state) .none kV18 dc18 pm18 an18 cd18 ct18), sl18⟩) (c18 : PySem.W.codeIn K cd18 "_law_state" = true) (k18 : PySem.W.keepIn K (.ref f18) = true)
    (a19 : PySem.W.nsIn K mainGlobals "_law_draw" = some (some (.ref f19))) (l19 : K.lookup f19 = some ⟨oc19, od19, .func (PySem.W.fnOf "_law_draw" "_law_draw" (defArgs s_law_draw) (defBody s_law_draw) (defScope s_law_draw) .none kV19 dc19 pm19 an19 cd19 ct19), sl19⟩) (c19 : PySem.W.codeIn K cd19 "_law_draw" = true) (k19 : PySem.W.keepIn K (.ref f19) = true)
    (a20 : PySem.W.nsIn K mainGlobals "_law_pick" = some (some (.ref f20))) (l20 : K.lookup f20 = some ⟨oc20, od20, .func (PySem.W.fnOf "_law_pick" "_law_pick" (defArgs s_law_pick) (defBody s_law_pick) (defScope s_law_pick) .none kV20 dc20 pm20 an20 cd20 ct20), sl20⟩) (c20 : PySem.W.codeIn K cd20 "_law_pick" = true) (k20 : PySem.W.keepIn K (.ref f20) = true)
    (a21 : PySem.W.nsIn K mainGlobals "_law_shape" = some (some (.ref f21))) (l21 : K.lookup f21 = some ⟨oc21, od21, .func (PySem.W.fnOf "_law_shape" "_law_shape" (defArgs s_law_shape) (defBody s_law_shape) (defScope s_law_shape) .none kV21 dc21 pm21 an21 cd21 ct21), sl21⟩) (c21 : PySem.W.codeIn K cd21 "_law_shape" = true) (k21 : PySem.W.keepIn K (.ref f21) = true)
    (a22 : PySem.W.nsIn K mainGlobals "_law_table" = some (some (.ref f22))) (l22 : K.lookup f22 = some ⟨oc22, od22, .func (PySem.W.fnOf "_law_table" "_law_table" (defArgs s_law_table) (defBody s_law_table) (defScope s_law_table) .none kV22 dc22 pm22 an22 cd22 ct22), sl22⟩) (c22 : PySem.W.codeIn K cd22 "_law_table" = true) (k22 : PySem.W.keepIn K (.ref f22) = true)
    (a23 : PySem.W.nsIn K mainGlobals "_law_constructors" = some (some (.ref f23))) (l23 : K.lookup f23 = some ⟨oc23, od23, .func (PySem.W.fnOf "_law_constructors" "_law_constructors" (defArgs s_law_constructors) (defBody s_law_constructors) (defScope s_law_constructors) .none kV23 dc23 pm23 an23 cd23 ct23), sl23⟩) (c23 : PySem.W.codeIn K cd23 "_law_constructors" = true) (k23 : PySem.W.keepIn K (.ref f23) = true)
    (a24 : PySem.W.nsIn K mainGlobals "_law_fit" = some (some (.ref f24))) (l24 : K.lookup f24 = some ⟨oc24, od24, .func (PySem.W.fnOf "_law_fit" "_law_fit" (defArgs s_law_fit) (defBody s_law_fit) (defScope s_law_fit) .none kV24 dc24 pm24 an24 cd24 ct24), sl24⟩) (c24 : PySem.W.codeIn K cd24 "_law_fit" = true) (k24 : PySem.W.keepIn K (.ref f24) = true)
    (a25 : PySem.W.nsIn K mainGlobals "_law_put" = some (some (.ref f25))) (l25 : K.lookup f25 = some ⟨oc25, od25, .func (PySem.W.fnOf "_law_put" "_law_put" (defArgs s_law_put) (defBody s_law_put) (defScope s_law_put) .none kV25 dc25 pm25 an25 cd25 ct25), sl25⟩) (c25 : PySem.W.codeIn K cd25 "_law_put" = true) (k25 : PySem.W.keepIn K (.ref f25) = true)
    (a26 : PySem.W.nsIn K mainGlobals "_law_index" = some (some (.ref f26))) (l26 : K.lookup f26 = some ⟨oc26, od26, .func (PySem.W.fnOf "_law_index" "_law_index" (defArgs s_law_index) (defBody s_law_index) (defScope s_law_index) .none kV26 dc26 pm26 an26 cd26 ct26), sl26⟩) (c26 : PySem.W.codeIn K cd26 "_law_index" = true) (k26 : PySem.W.keepIn K (.ref f26) = true)
    (a27 : PySem.W.nsIn K mainGlobals "_law_size" = some (some (.ref f27))) (l27 : K.lookup f27 = some ⟨oc27, od27, .func (PySem.W.fnOf "_law_size" "_law_size" (defArgs s_law_size) (defBody s_law_size) (defScope s_law_size) .none kV27 dc27 pm27 an27 cd27 ct27), sl27⟩) (c27 : PySem.W.codeIn K cd27 "_law_size" = true) (k27 : PySem.W.keepIn K (.ref f27) = true)
    (a28 : PySem.W.nsIn K mainGlobals "_law_before" = some (some (.ref f28))) (l28 : K.lookup f28 = some ⟨oc28, od28, .func (PySem.W.fnOf "_law_before" "_law_before" (defArgs s_law_before) (defBody s_law_before) (defScope s_law_before) .none kV28 dc28 pm28 an28 cd28 ct28), sl28⟩) (c28 : PySem.W.codeIn K cd28 "_law_before" = true) (k28 : PySem.W.keepIn K (.ref f28) = true)
    (a29 : PySem.W.nsIn K mainGlobals "_law_raw" = some (some (.ref f29))) (l29 : K.lookup f29 = some ⟨oc29, od29, .func (PySem.W.fnOf "_law_raw" "_law_raw" (defArgs s_law_raw) (defBody s_law_raw) (defScope s_law_raw) .none kV29 dc29 pm29 an29 cd29 ct29), sl29⟩) (c29 : PySem.W.codeIn K cd29 "_law_raw" = true) (k29 : PySem.W.keepIn K (.ref f29) = true)
    (a30 : PySem.W.nsIn K mainGlobals "law" = some (some (.ref f30))) (l30 : K.lookup f30 = some ⟨oc30, od30, .func (PySem.W.fnOf "law" "law" (defArgs s_law) (defBody s_law) (defScope s_law) .none kV30 dc30 pm30 an30 cd30 ct30), sl30⟩) (c30 : PySem.W.codeIn K cd30 "law" = true) (k30 : PySem.W.keepIn K (.ref f30) = true)
    (z0 : PySem.W.nsIn K mainGlobals "reversed" = some none)
    (z1 : PySem.W.nsIn K mainGlobals "isinstance" = some none)
    (z2 : PySem.W.nsIn K mainGlobals "str" = some none)
    (z3 : PySem.W.nsIn K mainGlobals "zip" = some none)
    (z4 : PySem.W.nsIn K mainGlobals "range" = some none)
    (z5 : PySem.W.nsIn K mainGlobals "tuple" = some none)
    (z6 : PySem.W.nsIn K mainGlobals "len" = some none)
    (z7 : PySem.W.nsIn K mainGlobals "int" = some none)
    (z8 : PySem.W.nsIn K mainGlobals "abs" = some none)
    (z9 : PySem.W.nsIn K mainGlobals "sum" = some none)
    (z10 : PySem.W.nsIn K mainGlobals "bool" = some none)
    {cc12 P12 : Addr} {et12 : Value} {dt12 : Option Addr} {vt12 : Array Value} {st12 : Array (Option Value)} (e12 : cd12 = .ref cc12) (t12 : K.lookup cc12 = some ⟨et12, dt12, .fields vt12, st12⟩) (p12 : vt12[11]? = some (.ref P12)) (n12 : K.lookup P12 = none) (tb12 : TabOf mg h "index_of")
    : LamX.LawAtS l w K CX0 90 63 "script" mg fa h := by
  have e := hfa.symm.trans (PySem.W.mg_of X G a30)
  cases e
  let T : Txt K mg := {
    c_Kept := C0, cl_Kept := ⟨pg0, hd0, po0, sa0⟩, mg_Kept := PySem.W.mg_of X G aC0,
    no_Kept_rows := nx0_0,
    mk_Kept := ⟨mk0, a0, i0, kc0⟩,
    t_MOST_KEPT := ti0, g_MOST_KEPT := PySem.W.mg_of X G gi0,
    a_Kept_init := f0, d_Kept_init := _, F_Kept_init := fun_mk (st := s_Kept_init) l0 c0 k0, b_Kept_init := (fun_mk (st := s_Kept_init) l0 c0 k0).binds (ps := ["self"]) (fun _ _ _ _ _ _ us hl => match us, hl with | [_], _ => rfl), me_Kept_init := ⟨a0, i0, k0⟩,
    a_Kept_pair_of := f1, d_Kept_pair_of := _, F_Kept_pair_of := fun_mk (st := s_Kept_pair_of) l1 c1 k1, b_Kept_pair_of := (fun_mk (st := s_Kept_pair_of) l1 c1 k1).binds (ps := ["self", "tree"]) (fun _ _ _ _ _ _ us hl => match us, hl with | [_, _], _ => rfl), me_Kept_pair_of := ⟨a1, i1, k1⟩,
    a_Kept_keep := f2, d_Kept_keep := _, F_Kept_keep := fun_mk (st := s_Kept_keep) l2 c2 k2, b_Kept_keep := (fun_mk (st := s_Kept_keep) l2 c2 k2).binds (ps := ["self", "tree", "result"]) (fun _ _ _ _ _ _ us hl => match us, hl with | [_, _, _], _ => rfl), me_Kept_keep := ⟨a2, i2, k2⟩,
    a_folded := f3, d_folded := _, F_folded := fun_mk (st := s_folded) l3 c3 k3, b_folded := (fun_mk (st := s_folded) l3 c3 k3).binds (ps := ["tree", "reckon"]) (fun _ _ _ _ _ _ us hl => match us, hl with | [_, _], _ => rfl), m_folded := PySem.W.mg_of X G a3,
    a_folded_ := f4, d_folded_ := _, F_folded_ := fun_mk (st := s_folded_) l4 c4 k4, b_folded_ := (fun_mk (st := s_folded_) l4 c4 k4).binds (ps := ["tree", "reckon", "kept"]) (fun _ _ _ _ _ _ us hl => match us, hl with | [_, _, _], _ => rfl), m_folded_ := PySem.W.mg_of X G a4,
    a_size := f5, d_size := _, F_size := fun_mk (st := s_size) l5 c5 k5, b_size := (fun_mk (st := s_size) l5 c5 k5).binds (ps := ["term"]) (fun _ _ _ _ _ _ us hl => match us, hl with | [_], _ => rfl), m_size := PySem.W.mg_of X G a5,
    a_order := f6, d_order := _, F_order := fun_mk (st := s_order) l6 c6 k6, b_order := (fun_mk (st := s_order) l6 c6 k6).binds (ps := ["makers", "one", "other"]) (fun _ _ _ _ _ _ us hl => match us, hl with | [_, _, _], _ => rfl), m_order := PySem.W.mg_of X G a6,
    a_part_rows := f7, d_part_rows := _, F_part_rows := fun_mk (st := s_part_rows) l7 c7 k7, b_part_rows := (fun_mk (st := s_part_rows) l7 c7 k7).binds (ps := ["rows", "parts", "total"]) (fun _ _ _ _ _ _ us hl => match us, hl with | [_, _, _], _ => rfl), m_part_rows := PySem.W.mg_of X G a7,
    a_put := f8, d_put := _, F_put := fun_mk (st := s_put) l8 c8 k8, b_put := (fun_mk (st := s_put) l8 c8 k8).binds (ps := ["term", "assignment"]) (fun _ _ _ _ _ _ us hl => match us, hl with | [_, _], _ => rfl), m_put := PySem.W.mg_of X G a8,
    a_fitted := f9, d_fitted := _, F_fitted := fun_mk (st := s_fitted) l9 c9 k9, b_fitted := (fun_mk (st := s_fitted) l9 c9 k9).binds (ps := ["patterns", "terms"]) (fun _ _ _ _ _ _ us hl => match us, hl with | [_, _], _ => rfl), m_fitted := PySem.W.mg_of X G a9,
    a_fits := f10, d_fits := _, F_fits := fun_mk (st := s_fits) l10 c10 k10, b_fits := (fun_mk (st := s_fits) l10 c10 k10).binds (ps := ["pattern", "term", "found"]) (fun _ _ _ _ _ _ us hl => match us, hl with | [_, _, _], _ => rfl), m_fits := PySem.W.mg_of X G a10,
    a_counts := f11, d_counts := _, F_counts := fun_mk (st := s_counts) l11 c11 k11, b_counts := (fun_mk (st := s_counts) l11 c11 k11).binds (ps := ["table"]) (fun _ _ _ _ _ _ us hl => match us, hl with | [_], _ => rfl), m_counts := PySem.W.mg_of X G a11,
    a_index_of := f12, d_index_of := _, F_index_of := fun_mk (st := s_index_of) l12 c12 k12, b_index_of := (fun_mk (st := s_index_of) l12 c12 k12).binds (ps := ["table", "value"]) (fun _ _ _ _ _ _ us hl => match us, hl with | [_, _], _ => rfl), m_index_of := PySem.W.mg_of X G a12,
    a_made_kind := f13, d_made_kind := _, F_made_kind := fun_mk (st := s_made_kind) l13 c13 k13, b_made_kind := (fun_mk (st := s_made_kind) l13 c13 k13).binds (ps := ["constructor", "kinds"]) (fun _ _ _ _ _ _ us hl => match us, hl with | [_, _], _ => rfl), m_made_kind := PySem.W.mg_of X G a13,
    a_trees_for := f14, d_trees_for := _, F_trees_for := fun_mk (st := s_trees_for) l14 c14 k14, b_trees_for := (fun_mk (st := s_trees_for) l14 c14 k14).binds (ps := ["asked", "kinds"]) (fun _ _ _ _ _ _ us hl => match us, hl with | [_, _], _ => rfl), m_trees_for := PySem.W.mg_of X G a14,
    a_before := f15, d_before := _, F_before := fun_mk (st := s_before) l15 c15 k15, b_before := (fun_mk (st := s_before) l15 c15 k15).binds (ps := ["table", "one", "other"]) (fun _ _ _ _ _ _ us hl => match us, hl with | [_, _, _], _ => rfl), m_before := PySem.W.mg_of X G a15,
    a_values_of := f16, d_values_of := _, F_values_of := fun_mk (st := s_values_of) l16 c16 k16, b_values_of := (fun_mk (st := s_values_of) l16 c16 k16).binds (ps := ["table", "total"]) (fun _ _ _ _ _ _ us hl => match us, hl with | [_, _], _ => rfl), m_values_of := PySem.W.mg_of X G a16,
    a_values_of_size := f17, d_values_of_size := _, F_values_of_size := fun_mk (st := s_values_of_size) l17 c17 k17, b_values_of_size := (fun_mk (st := s_values_of_size) l17 c17 k17).binds (ps := ["table", "rows", "total"]) (fun _ _ _ _ _ _ us hl => match us, hl with | [_, _, _], _ => rfl), m_values_of_size := PySem.W.mg_of X G a17,
    a_law_state := f18, d_law_state := _, F_law_state := fun_mk (st := s_law_state) l18 c18 k18, b_law_state := (fun_mk (st := s_law_state) l18 c18 k18).binds (ps := ["script"]) (fun _ _ _ _ _ _ us hl => match us, hl with | [_], _ => rfl), m_law_state := PySem.W.mg_of X G a18,
    a_law_draw := f19, d_law_draw := _, F_law_draw := fun_mk (st := s_law_draw) l19 c19 k19, b_law_draw := (fun_mk (st := s_law_draw) l19 c19 k19).binds (ps := ["state", "many"]) (fun _ _ _ _ _ _ us hl => match us, hl with | [_, _], _ => rfl), m_law_draw := PySem.W.mg_of X G a19,
    a_law_pick := f20, d_law_pick := _, F_law_pick := fun_mk (st := s_law_pick) l20 c20 k20, b_law_pick := (fun_mk (st := s_law_pick) l20 c20 k20).binds (ps := ["state", "row"]) (fun _ _ _ _ _ _ us hl => match us, hl with | [_, _], _ => rfl), m_law_pick := PySem.W.mg_of X G a20,
    a_law_shape := f21, d_law_shape := _, F_law_shape := fun_mk (st := s_law_shape) l21 c21 k21, b_law_shape := (fun_mk (st := s_law_shape) l21 c21 k21).binds (ps := ["kind", "own", "other", "third"]) (fun _ _ _ _ _ _ us hl => match us, hl with | [_, _, _, _], _ => rfl), m_law_shape := PySem.W.mg_of X G a21,
    a_law_table := f22, d_law_table := _, F_law_table := fun_mk (st := s_law_table) l22 c22 k22, b_law_table := (fun_mk (st := s_law_table) l22 c22 k22).binds (ps := ["state"]) (fun _ _ _ _ _ _ us hl => match us, hl with | [_], _ => rfl), m_law_table := PySem.W.mg_of X G a22,
    a_law_constructors := f23, d_law_constructors := _, F_law_constructors := fun_mk (st := s_law_constructors) l23 c23 k23, b_law_constructors := (fun_mk (st := s_law_constructors) l23 c23 k23).binds (ps := ["table", "family"]) (fun _ _ _ _ _ _ us hl => match us, hl with | [_, _], _ => rfl), m_law_constructors := PySem.W.mg_of X G a23,
    a_law_fit := f24, d_law_fit := _, F_law_fit := fun_mk (st := s_law_fit) l24 c24 k24, b_law_fit := (fun_mk (st := s_law_fit) l24 c24 k24).binds (ps := ["patterns", "trees"]) (fun _ _ _ _ _ _ us hl => match us, hl with | [_, _], _ => rfl), m_law_fit := PySem.W.mg_of X G a24,
    a_law_put := f25, d_law_put := _, F_law_put := fun_mk (st := s_law_put) l25 c25 k25, b_law_put := (fun_mk (st := s_law_put) l25 c25 k25).binds (ps := ["term", "trees"]) (fun _ _ _ _ _ _ us hl => match us, hl with | [_, _], _ => rfl), m_law_put := PySem.W.mg_of X G a25,
    a_law_index := f26, d_law_index := _, F_law_index := fun_mk (st := s_law_index) l26 c26 k26, b_law_index := (fun_mk (st := s_law_index) l26 c26 k26).binds (ps := ["table", "value"]) (fun _ _ _ _ _ _ us hl => match us, hl with | [_, _], _ => rfl), m_law_index := PySem.W.mg_of X G a26,
    a_law_size := f27, d_law_size := _, F_law_size := fun_mk (st := s_law_size) l27 c27 k27, b_law_size := (fun_mk (st := s_law_size) l27 c27 k27).binds (ps := ["value"]) (fun _ _ _ _ _ _ us hl => match us, hl with | [_], _ => rfl), m_law_size := PySem.W.mg_of X G a27,
    a_law_before := f28, d_law_before := _, F_law_before := fun_mk (st := s_law_before) l28 c28 k28, b_law_before := (fun_mk (st := s_law_before) l28 c28 k28).binds (ps := ["table", "one", "other"]) (fun _ _ _ _ _ _ us hl => match us, hl with | [_, _, _], _ => rfl), m_law_before := PySem.W.mg_of X G a28,
    a_law_raw := f29, d_law_raw := _, F_law_raw := fun_mk (st := s_law_raw) l29 c29 k29, b_law_raw := (fun_mk (st := s_law_raw) l29 c29 k29).binds (ps := ["table", "family", "many"]) (fun _ _ _ _ _ _ us hl => match us, hl with | [_, _, _], _ => rfl), m_law_raw := PySem.W.mg_of X G a29,
    a_law := fa, d_law := _, F_law := fun_mk (st := s_law) l30 c30 k30, b_law := (fun_mk (st := s_law) l30 c30 k30).binds (ps := ["script"]) (fun _ _ _ _ _ _ us hl => match us, hl with | [_], _ => rfl), m_law := PySem.W.mg_of X G a30,
    z_reversed := PySem.W.mg_none_of X G z0,
    z_isinstance := PySem.W.mg_none_of X G z1,
    z_str := PySem.W.mg_none_of X G z2,
    z_zip := PySem.W.mg_none_of X G z3,
    z_range := PySem.W.mg_none_of X G z4,
    z_tuple := PySem.W.mg_none_of X G z5,
    z_len := PySem.W.mg_none_of X G z6,
    z_int := PySem.W.mg_none_of X G z7,
    z_abs := PySem.W.mg_none_of X G z8,
    z_sum := PySem.W.mg_none_of X G z9,
    z_bool := PySem.W.mg_none_of X G z10 }
  subst e12
  obtain ⟨hp12, hc12⟩ := tab_of X tb12 (PySem.W.mg_of X G a12) l12 rfl rfl t12 p12
  refine ⟨PySem.W.fnOf "law" "law" (defArgs s_law) (defBody s_law) (defScope s_law) .none kV30 dc30 pm30 an30 cd30 ct30, [(cc12, P12)], spLaw (K := K) [(P12, lamq "index_of")], ?_, ?_, ?_, fun _ _ => .of_eq rfl, fun H a ns few _ ht seq => ⟨a, ns, rfl, seq, few, fun p hp => ?_, fun _ => rfl⟩, fun base _ _ hB => ?_⟩
  · intro p hp
    simp only [List.mem_cons, List.not_mem_nil, or_false] at hp
    rcases hp with rfl
    · exact hp12
  · intro p hp
    simp only [List.mem_cons, List.not_mem_nil, or_false] at hp
    rcases hp with rfl
    · exact n12
  · intro p hp
    simp only [List.mem_cons, List.not_mem_nil, or_false] at hp
    rcases hp with rfl
    · exact hc12
  · have z : H P12 = some (.tbl #[]) := ht (cc12, P12) (by simp)
    have z12 := z
    simp only [List.mem_cons, List.not_mem_nil, or_false] at hp
    rcases hp with rfl
    · exact LamX.TabS.nil z12
  have B12 : LamX.TabB base mg cc12 P12 := hB (cc12, P12) (by simp)
  have F12 : FunC K "index_of" "index_of" s_index_of T.a_index_of T.d_index_of cc12 := ⟨_, _, _, _, _, _, _, _, rfl, l12, c12⟩
  have I12 : (P12, lamq "index_of") ∈ ([(P12, lamq "index_of")] : List (Addr × Str)) := by simp
  have U12 : ∀ p ∈ ([(P12, lamq "index_of")] : List (Addr × Str)), p.1 = P12 → p.2 = lamq "index_of" := by
    intro p hp e
    simp only [List.mem_cons, List.not_mem_nil, or_false] at hp
    rcases hp with rfl
    · rfl
  have d1 := ok_law_draw (P := l.prog) (w := w) (base := base) T
  have pk := ok_law_pick T d1
  have id1 := ok_index_of (n := 20) T F12 B12 I12 U12 (the_made (P := l.prog) (w := w) (base := base) T) (the_folded (P := l.prog) (w := w) (base := base) T 9)
  exact ok_law T (ok_law_state T) (ok_law_table T d1 pk (ok_law_shape T)) d1 (all_raw T 4) (all_idx T 20) (FnOk.mono (all_lbefore T 20) (by decide)) (ok_values_of T (ok_values_of_size T (all_part T 3) (FnOk.mono id1 (by decide)))) pk (ok_before T (ok_counts T) (all_order T 20))
theorem law_walk {l : PySem.W.OpenLaw} {q : Program} {loose : List Str} {XP : (Str → Option Value) → Heap → Prop} {YP : World → Heap → Prop} {r : DefRec} {K : Params → PySem.W.Frag}
    (h63 : l.most = some 63) (hno : r.params.defaults = []) (r12 : ((recsOf q).any fun e => e.name == ("index_of" : Str)) = true) (hK : ∀ (w : World) (h : Heap), YP w h → (K w.params).In h)
    (ok : ∀ (w : World) (mg : Str → Option Value) (fa : Addr) (h : Heap), (K w.params).In h → h.Ns mainGlobals mg → mg r.name = some (.ref fa) → TabOf mg h "index_of" → LamX.LawAtS l w (K w.params) CX0 90 63 "script" mg fa h) :
    PySem.W.WalkO q loose XP YP l.row.toRowW r [] (fun f vs => PySem.call f vs) := by
  refine Att.attach_callB h63 hno fun w s0 s1 mg mb fa o pm cd doc a vs ns G Y ho hd hcd hmg hobj hints hlen hbits hg => ?_
  have KX := hK w _ Y
  have tab : ∀ x : Str, ((recsOf q).any fun e => e.name == x) = true → TabOf mg s1.heap x := fun x hx => by
    obtain ⟨e, he, en⟩ := List.any_eq_true.mp hx
    have := G.T.tab e he
    rw [beq_iff_eq.mp en] at this
    exact this
  obtain ⟨fd, cs, sp, hT, nT, C, hb, hsp, hF⟩ := ok w mg fa _ KX G.T.g hmg (tab _ r12)
  exact LamX.law_callTs KX G.T.g G.T.b G.T.builtins G.T.nolimit hg hT nT C G.T.bmain hobj hints (Nat.le_trans hlen (by decide)) ⟨rfl, by decide, by decide⟩ hF hb (fun H hH hS => hsp H a ns hlen hbits hH hS) fun H e s' z => z
end Kx
open PySem PySem.W PyProof.Rows
set_option maxRecDepth 100000 in
set_option maxHeartbeats 0 in
theorem PySem.Challenge.cw_exactkinds_k12_order_of_values_holds : PySem.Challenge.rw_exactkinds_k12_order_of_values.Holds := by
  w_on; o_law; k_head; (case hw => w_witness2)
  k_fill
  refine Kx.law_walk (l := PySem.Challenge.rw_exactkinds_k12_order_of_values) rfl rfl ?rec12 (fun _ _ Y => PySem.W.km_in_of Y) ?walked
  case rec12 => decide +kernel
  case walked =>
    intro w mg fa h inK names hmg tb12
    refine' Kx.all_mk inK names hmg ?aC0 ?pg0 ?hd0 ?po0 ?sa0 ?mk0 ?kc0 ?nx0_0 ?gi0 ?a0 ?i0 ?l0 ?c0 ?k0 ?a1 ?i1 ?l1 ?c1 ?k1 ?a2 ?i2 ?l2 ?c2 ?k2 ?a3 ?l3 ?c3 ?k3 ?a4 ?l4 ?c4 ?k4 ?a5 ?l5 ?c5 ?k5 ?a6 ?l6 ?c6 ?k6 ?a7 ?l7 ?c7 ?k7 ?a8 ?l8 ?c8 ?k8 ?a9 ?l9 ?c9 ?k9 ?a10 ?l10 ?c10 ?k10 ?a11 ?l11 ?c11 ?k11 ?a12 ?l12 ?c12 ?k12 ?a13 ?l13 ?c13 ?k13 ?a14 ?l14 ?c14 ?k14 ?a15 ?l15 ?c15 ?k15 ?a16 ?l16 ?c16 ?k16 ?a17 ?l17 ?c17 ?k17 ?a18 ?l18 ?c18 ?k18 ?a19 ?l19 ?c19 ?k19 ?a20 ?l20 ?c20 ?k20 ?a21 ?l21 ?c21 ?k21 ?a22 ?l22 ?c22 ?k22 ?a23 ?l23 ?c23 ?k23 ?a24 ?l24 ?c24 ?k24 ?a25 ?l25 ?c25 ?k25 ?a26 ?l26 ?c26 ?k26 ?a27 ?l27 ?c27 ?k27 ?a28 ?l28 ?c28 ?k28 ?a29 ?l29 ?c29 ?k29 ?a30 ?l30 ?c30 ?k30 ?z0 ?z1 ?z2 ?z3 ?z4 ?z5 ?z6 ?z7 ?z8 ?z9 ?z10 ?e12 ?t12 ?p12 ?n12 tb12
    (case aC0 => k_is)
    (case pg0 => k_is)
    (case hd0 => k_is)
    (case po0 => k_is)
    (case sa0 => k_is)
    (case mk0 => k_is)
    (case kc0 => k_is)
    (case nx0_0 => k_is)
    (case gi0 => k_is)
    (case a0 => k_is)
    (case i0 => k_is)
    (case l0 => k_is)
    (case c0 => k_is)
    (case k0 => k_is)
    (case a1 => k_is)
    (case i1 => k_is)
    (case l1 => k_is)
    (case c1 => k_is)
    (case k1 => k_is)
    (case a2 => k_is)
    (case i2 => k_is)
    (case l2 => k_is)
    (case c2 => k_is)
    (case k2 => k_is)
    (case a3 => k_is)
    (case l3 => k_is)
    (case c3 => k_is)
    (case k3 => k_is)
    (case a4 => k_is)
    (case l4 => k_is)
    (case c4 => k_is)
    (case k4 => k_is)
    (case a5 => k_is)
    (case l5 => k_is)
    (case c5 => k_is)
    (case k5 => k_is)
    (case a6 => k_is)
    (case l6 => k_is)
    (case c6 => k_is)
    (case k6 => k_is)
    (case a7 => k_is)
    (case l7 => k_is)
    (case c7 => k_is)
    (case k7 => k_is)
    (case a8 => k_is)
    (case l8 => k_is)
    (case c8 => k_is)
    (case k8 => k_is)
    (case a9 => k_is)
    (case l9 => k_is)
    (case c9 => k_is)
    (case k9 => k_is)
    (case a10 => k_is)
    (case l10 => k_is)
    (case c10 => k_is)
    (case k10 => k_is)
    (case a11 => k_is)
    (case l11 => k_is)
    (case c11 => k_is)
    (case k11 => k_is)
    (case a12 => k_is)
    (case l12 => k_is)
    (case c12 => k_is)
    (case k12 => k_is)
    (case a13 => k_is)
    (case l13 => k_is)
    (case c13 => k_is)
    (case k13 => k_is)
    (case a14 => k_is)
    (case l14 => k_is)
    (case c14 => k_is)
    (case k14 => k_is)
    (case a15 => k_is)
    (case l15 => k_is)
    (case c15 => k_is)
    (case k15 => k_is)
    (case a16 => k_is)
    (case l16 => k_is)
    (case c16 => k_is)
    (case k16 => k_is)
    (case a17 => k_is)
    (case l17 => k_is)
    (case c17 => k_is)
    (case k17 => k_is)
    (case a18 => k_is)
    (case l18 => k_is)
    (case c18 => k_is)
    (case k18 => k_is)
    (case a19 => k_is)
    (case l19 => k_is)
    (case c19 => k_is)
    (case k19 => k_is)
    (case a20 => k_is)
    (case l20 => k_is)
    (case c20 => k_is)
    (case k20 => k_is)
    (case a21 => k_is)
    (case l21 => k_is)
    (case c21 => k_is)
    (case k21 => k_is)
    (case a22 => k_is)
    (case l22 => k_is)
    (case c22 => k_is)
    (case k22 => k_is)
    (case a23 => k_is)
    (case l23 => k_is)
    (case c23 => k_is)
    (case k23 => k_is)
    (case a24 => k_is)
    (case l24 => k_is)
    (case c24 => k_is)
    (case k24 => k_is)
    (case a25 => k_is)
    (case l25 => k_is)
    (case c25 => k_is)
    (case k25 => k_is)
    (case a26 => k_is)
    (case l26 => k_is)
    (case c26 => k_is)
    (case k26 => k_is)
    (case a27 => k_is)
    (case l27 => k_is)
    (case c27 => k_is)
    (case k27 => k_is)
    (case a28 => k_is)
    (case l28 => k_is)
    (case c28 => k_is)
    (case k28 => k_is)
    (case a29 => k_is)
    (case l29 => k_is)
    (case c29 => k_is)
    (case k29 => k_is)
    (case a30 => k_is)
    (case l30 => k_is)
    (case c30 => k_is)
    (case k30 => k_is)
    (case z0 => k_is)
    (case z1 => k_is)
    (case z2 => k_is)
    (case z3 => k_is)
    (case z4 => k_is)
    (case z5 => k_is)
    (case z6 => k_is)
    (case z7 => k_is)
    (case z8 => k_is)
    (case z9 => k_is)
    (case z10 => k_is)
    (case e12 => exact rfl)
    (case t12 => k_is)
    (case p12 => exact rfl)
    (case n12 => kernel_rfl)

