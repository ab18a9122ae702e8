import PyProof.Rows.All
import Wide.All
import OpenK.AllK
import Wide.FinOn
import HandS.ForMost
import HandS.IsInst
import HandS.Conv
import HandS.TupAny
import HandS.Evl
import HandS.SetKeys
import HandS.Rev
import HandS.ForDict
import HandS.New
import HandS.Dict
import HandS.DictComp
import HandS.Zip
import HandS.More
import HandS.Walk
import HandS.Set
import HandS.Strs
import PyProof.EqAt
import PyProof.EqKinds
import HandS.Style
import HandS.Words
import KE.KDictPairs
import KE.GoesMore
import HandS.SetTxt0
import HandS.SetFor
import KE.DataCmp
import PySem.Challenge.RW_exactkinds_k30_groups_and_clauses
set_option Elab.async false
set_option linter.all false
set_option maxRecDepth 100000
namespace Kx
open PySem PySem.Spec PyProof.Rows L2
def top (i : Nat) : Stmt := PySem.Challenge.pw_exactkinds_k30_groups_and_clauses.main.body.getD i (.Pass ⟨0, 0, 0, 0⟩)
abbrev s_names_of : Stmt := top 1
abbrev s_nodes_of : Stmt := top 3
abbrev s_function_of : Stmt := top 4
abbrev s_calls_of : Stmt := top 5
abbrev s_group_of : Stmt := top 6
abbrev s_reached_from : Stmt := top 7
abbrev s_names_in : Stmt := top 8
abbrev s_taken : Stmt := top 9
abbrev s_takes : Stmt := top 10
abbrev s_clause_for : Stmt := top 11
abbrev s_law_state : Stmt := top 13
abbrev s_law_draw : Stmt := top 14
abbrev s_law_pick : Stmt := top 15
abbrev s_law_graph_pattern : Stmt := top 16
abbrev s_law_graph_body : Stmt := top 17
abbrev s_law_graph_program : Stmt := top 18
abbrev s_law_names : Stmt := top 19
abbrev s_law_calls : Stmt := top 20
abbrev s_law_next : Stmt := top 21
abbrev s_law_reached : Stmt := top 22
abbrev s_law_group : Stmt := top 23
abbrev s_law_taken : Stmt := top 24
abbrev s_law_value : Stmt := top 25
abbrev s_law_like : Stmt := top 26
abbrev s_law_first : Stmt := top 27
abbrev s_law_function_right : Stmt := top 28
abbrev s_law : Stmt := top 29
theorem sc_names_of : FnScope ["term", "found", "todo", "here"] ["term"] (defScope s_names_of) := ⟨rfl, rfl, rfl, by decide +kernel, rfl, by decide +kernel, by decide +kernel⟩
theorem sc_nodes_of : FnScope ["body", "found", "todo", "here"] ["body"] (defScope s_nodes_of) := ⟨rfl, rfl, rfl, by decide +kernel, rfl, by decide +kernel, by decide +kernel⟩
theorem sc_function_of : FnScope ["program", "word", "function"] ["program", "word"] (defScope s_function_of) := ⟨rfl, rfl, rfl, by decide +kernel, rfl, by decide +kernel, by decide +kernel⟩
theorem sc_calls_of : FnScope ["program", "word", "words", "found", "_", "body", "node", "function"] ["program", "word"] (defScope s_calls_of) := ⟨rfl, rfl, rfl, by decide +kernel, rfl, by decide +kernel, by decide +kernel⟩
theorem sc_group_of : FnScope ["program", "word", "reached", "group", "function", "other"] ["program", "word"] (defScope s_group_of) := ⟨rfl, rfl, rfl, by decide +kernel, rfl, by decide +kernel, by decide +kernel⟩
theorem sc_reached_from : FnScope ["program", "word", "found", "at", "other"] ["program", "word"] (defScope s_reached_from) := ⟨rfl, rfl, rfl, by decide +kernel, rfl, by decide +kernel, by decide +kernel⟩
theorem sc_names_in : FnScope ["pattern"] ["pattern"] (defScope s_names_in) := ⟨rfl, rfl, rfl, by decide +kernel, rfl, by decide +kernel, by decide +kernel⟩
theorem sc_taken : FnScope ["patterns", "values", "found", "pattern", "value"] ["patterns", "values"] (defScope s_taken) := ⟨rfl, rfl, rfl, by decide +kernel, rfl, by decide +kernel, by decide +kernel⟩
theorem sc_takes : FnScope ["pattern", "value", "found", "inner", "part"] ["pattern", "value", "found"] (defScope s_takes) := ⟨rfl, rfl, rfl, by decide +kernel, rfl, by decide +kernel, by decide +kernel⟩
theorem sc_clause_for : FnScope ["function", "values", "place", "patterns", "_"] ["function", "values"] (defScope s_clause_for) := ⟨rfl, rfl, rfl, by decide +kernel, rfl, by decide +kernel, by decide +kernel⟩
theorem sc_law_state : FnScope ["script", "seed", "cell"] ["script"] (defScope s_law_state) := ⟨rfl, rfl, rfl, by decide +kernel, rfl, by decide +kernel, by decide +kernel⟩
theorem sc_law_draw : FnScope ["state", "many", "cells", "value", "mixed"] ["state", "many"] (defScope s_law_draw) := ⟨rfl, rfl, rfl, by decide +kernel, rfl, by decide +kernel, by decide +kernel⟩
theorem sc_law_pick : FnScope ["state", "row"] ["state", "row"] (defScope s_law_pick) := ⟨rfl, rfl, rfl, by decide +kernel, rfl, by decide +kernel, by decide +kernel⟩
theorem sc_law_graph_pattern : FnScope ["state", "mark", "kind"] ["state", "mark"] (defScope s_law_graph_pattern) := ⟨rfl, rfl, rfl, by decide +kernel, rfl, by decide +kernel, by decide +kernel⟩
theorem sc_law_graph_body : FnScope ["state", "places", "words", "names", "deep", "kind", "word", "args", "k"] ["state", "places", "words", "names", "deep"] (defScope s_law_graph_body) := ⟨rfl, rfl, rfl, by decide +kernel, rfl, by decide +kernel, by decide +kernel⟩
theorem sc_law_graph_program : FnScope ["state", "many", "words", "places", "k", "size", "functions", "place", "clauses", "turn", "patterns", "names", "pattern", "called", "params", "j"] ["state"] (defScope s_law_graph_program) := ⟨rfl, rfl, rfl, by decide +kernel, rfl, by decide +kernel, by decide +kernel⟩
theorem sc_law_names : FnScope ["term", "found", "part", "name"] ["term"] (defScope s_law_names) := ⟨rfl, rfl, rfl, by decide +kernel, rfl, by decide +kernel, by decide +kernel⟩
theorem sc_law_calls : FnScope ["program", "body", "found", "parts", "words", "part", "row"] ["program", "body"] (defScope s_law_calls) := ⟨rfl, rfl, rfl, by decide +kernel, rfl, by decide +kernel, by decide +kernel⟩
theorem sc_law_next : FnScope ["program", "word", "row", "found", "patterns", "body", "one", "call"] ["program", "word"] (defScope s_law_next) := ⟨rfl, rfl, rfl, by decide +kernel, rfl, by decide +kernel, by decide +kernel⟩
theorem sc_law_reached : FnScope ["program", "word", "found", "front", "other"] ["program", "word"] (defScope s_law_reached) := ⟨rfl, rfl, rfl, by decide +kernel, rfl, by decide +kernel, by decide +kernel⟩
theorem sc_law_group : FnScope ["program", "word", "found", "other"] ["program", "word"] (defScope s_law_group) := ⟨rfl, rfl, rfl, by decide +kernel, rfl, by decide +kernel, by decide +kernel⟩
theorem sc_law_taken : FnScope ["patterns", "values", "found", "pairs", "pattern", "value", "k"] ["patterns", "values"] (defScope s_law_taken) := ⟨rfl, rfl, rfl, by decide +kernel, rfl, by decide +kernel, by decide +kernel⟩
theorem sc_law_value : FnScope ["state", "deep", "kind"] ["state", "deep"] (defScope s_law_value) := ⟨rfl, rfl, rfl, by decide +kernel, rfl, by decide +kernel, by decide +kernel⟩
theorem sc_law_like : FnScope ["state", "pattern", "part"] ["state", "pattern"] (defScope s_law_like) := ⟨rfl, rfl, rfl, by decide +kernel, rfl, by decide +kernel, by decide +kernel⟩
theorem sc_law_first : FnScope ["row", "values", "k"] ["row", "values"] (defScope s_law_first) := ⟨rfl, rfl, rfl, by decide +kernel, rfl, by decide +kernel, by decide +kernel⟩
theorem sc_law_function_right : FnScope ["state", "program", "row", "values", "patterns", "body", "param", "pattern"] ["state", "program", "row"] (defScope s_law_function_right) := ⟨rfl, rfl, rfl, by decide +kernel, rfl, by decide +kernel, by decide +kernel⟩
theorem sc_law : FnScope ["script", "state", "turn", "program", "row"] ["script"] (defScope s_law) := ⟨rfl, rfl, rfl, by decide +kernel, rfl, by decide +kernel, by decide +kernel⟩
structure Txt (K : PySem.W.Frag) (mg : Str → Option Value) where
  a_names_of : Addr
  d_names_of : FuncData
  F_names_of : Fun K "names_of" "names_of" s_names_of a_names_of d_names_of
  b_names_of : Binds K d_names_of ["term"] []
  m_names_of : mg "names_of" = some (.ref a_names_of)
  a_nodes_of : Addr
  d_nodes_of : FuncData
  F_nodes_of : Fun K "_nodes_of" "_nodes_of" s_nodes_of a_nodes_of d_nodes_of
  b_nodes_of : Binds K d_nodes_of ["body"] []
  m_nodes_of : mg "_nodes_of" = some (.ref a_nodes_of)
  a_function_of : Addr
  d_function_of : FuncData
  F_function_of : Fun K "function_of" "function_of" s_function_of a_function_of d_function_of
  b_function_of : Binds K d_function_of ["program", "word"] []
  m_function_of : mg "function_of" = some (.ref a_function_of)
  a_calls_of : Addr
  d_calls_of : FuncData
  F_calls_of : Fun K "calls_of" "calls_of" s_calls_of a_calls_of d_calls_of
  b_calls_of : Binds K d_calls_of ["program", "word"] []
  m_calls_of : mg "calls_of" = some (.ref a_calls_of)
  a_group_of : Addr
  d_group_of : FuncData
  F_group_of : Fun K "group_of" "group_of" s_group_of a_group_of d_group_of
  b_group_of : Binds K d_group_of ["program", "word"] []
  m_group_of : mg "group_of" = some (.ref a_group_of)
  a_reached_from : Addr
  d_reached_from : FuncData
  F_reached_from : Fun K "_reached_from" "_reached_from" s_reached_from a_reached_from d_reached_from
  b_reached_from : Binds K d_reached_from ["program", "word"] []
  m_reached_from : mg "_reached_from" = some (.ref a_reached_from)
  a_names_in : Addr
  d_names_in : FuncData
  F_names_in : Fun K "names_in" "names_in" s_names_in a_names_in d_names_in
  b_names_in : Binds K d_names_in ["pattern"] []
  m_names_in : mg "names_in" = some (.ref a_names_in)
  a_taken : Addr
  d_taken : FuncData
  F_taken : Fun K "taken" "taken" s_taken a_taken d_taken
  b_taken : Binds K d_taken ["patterns", "values"] []
  m_taken : mg "taken" = some (.ref a_taken)
  a_takes : Addr
  d_takes : FuncData
  F_takes : Fun K "_takes" "_takes" s_takes a_takes d_takes
  b_takes : Binds K d_takes ["pattern", "value", "found"] []
  m_takes : mg "_takes" = some (.ref a_takes)
  a_clause_for : Addr
  d_clause_for : FuncData
  F_clause_for : Fun K "clause_for" "clause_for" s_clause_for a_clause_for d_clause_for
  b_clause_for : Binds K d_clause_for ["function", "values"] []
  m_clause_for : mg "clause_for" = some (.ref a_clause_for)
  a_law_state : Addr
  d_law_state : FuncData
  F_law_state : Fun K "_law_state" "_law_state" s_law_state a_law_state d_law_state
  b_law_state : Binds K d_law_state ["script"] []
  m_law_state : mg "_law_state" = some (.ref a_law_state)
  a_law_draw : Addr
  d_law_draw : FuncData
  F_law_draw : Fun K "_law_draw" "_law_draw" s_law_draw a_law_draw d_law_draw
  b_law_draw : Binds K d_law_draw ["state", "many"] []
  m_law_draw : mg "_law_draw" = some (.ref a_law_draw)
  a_law_pick : Addr
  d_law_pick : FuncData
  F_law_pick : Fun K "_law_pick" "_law_pick" s_law_pick a_law_pick d_law_pick
  b_law_pick : Binds K d_law_pick ["state", "row"] []
  m_law_pick : mg "_law_pick" = some (.ref a_law_pick)
  a_law_graph_pattern : Addr
  d_law_graph_pattern : FuncData
  F_law_graph_pattern : Fun K "_law_graph_pattern" "_law_graph_pattern" s_law_graph_pattern a_law_graph_pattern d_law_graph_pattern
  b_law_graph_pattern : Binds K d_law_graph_pattern ["state", "mark"] []
  m_law_graph_pattern : mg "_law_graph_pattern" = some (.ref a_law_graph_pattern)
  a_law_graph_body : Addr
  d_law_graph_body : FuncData
  F_law_graph_body : Fun K "_law_graph_body" "_law_graph_body" s_law_graph_body a_law_graph_body d_law_graph_body
  b_law_graph_body : Binds K d_law_graph_body ["state", "places", "words", "names", "deep"] []
  m_law_graph_body : mg "_law_graph_body" = some (.ref a_law_graph_body)
  a_law_graph_program : Addr
  d_law_graph_program : FuncData
  F_law_graph_program : Fun K "_law_graph_program" "_law_graph_program" s_law_graph_program a_law_graph_program d_law_graph_program
  b_law_graph_program : Binds K d_law_graph_program ["state"] []
  m_law_graph_program : mg "_law_graph_program" = some (.ref a_law_graph_program)
  a_law_names : Addr
  d_law_names : FuncData
  F_law_names : Fun K "_law_names" "_law_names" s_law_names a_law_names d_law_names
  b_law_names : Binds K d_law_names ["term"] []
  m_law_names : mg "_law_names" = some (.ref a_law_names)
  a_law_calls : Addr
  d_law_calls : FuncData
  F_law_calls : Fun K "_law_calls" "_law_calls" s_law_calls a_law_calls d_law_calls
  b_law_calls : Binds K d_law_calls ["program", "body"] []
  m_law_calls : mg "_law_calls" = some (.ref a_law_calls)
  a_law_next : Addr
  d_law_next : FuncData
  F_law_next : Fun K "_law_next" "_law_next" s_law_next a_law_next d_law_next
  b_law_next : Binds K d_law_next ["program", "word"] []
  m_law_next : mg "_law_next" = some (.ref a_law_next)
  a_law_reached : Addr
  d_law_reached : FuncData
  F_law_reached : Fun K "_law_reached" "_law_reached" s_law_reached a_law_reached d_law_reached
  b_law_reached : Binds K d_law_reached ["program", "word"] []
  m_law_reached : mg "_law_reached" = some (.ref a_law_reached)
  a_law_group : Addr
  d_law_group : FuncData
  F_law_group : Fun K "_law_group" "_law_group" s_law_group a_law_group d_law_group
  b_law_group : Binds K d_law_group ["program", "word"] []
  m_law_group : mg "_law_group" = some (.ref a_law_group)
  a_law_taken : Addr
  d_law_taken : FuncData
  F_law_taken : Fun K "_law_taken" "_law_taken" s_law_taken a_law_taken d_law_taken
  b_law_taken : Binds K d_law_taken ["patterns", "values"] []
  m_law_taken : mg "_law_taken" = some (.ref a_law_taken)
  a_law_value : Addr
  d_law_value : FuncData
  F_law_value : Fun K "_law_value" "_law_value" s_law_value a_law_value d_law_value
  b_law_value : Binds K d_law_value ["state", "deep"] []
  m_law_value : mg "_law_value" = some (.ref a_law_value)
  a_law_like : Addr
  d_law_like : FuncData
  F_law_like : Fun K "_law_like" "_law_like" s_law_like a_law_like d_law_like
  b_law_like : Binds K d_law_like ["state", "pattern"] []
  m_law_like : mg "_law_like" = some (.ref a_law_like)
  a_law_first : Addr
  d_law_first : FuncData
  F_law_first : Fun K "_law_first" "_law_first" s_law_first a_law_first d_law_first
  b_law_first : Binds K d_law_first ["row", "values"] []
  m_law_first : mg "_law_first" = some (.ref a_law_first)
  a_law_function_right : Addr
  d_law_function_right : FuncData
  F_law_function_right : Fun K "_law_function_right" "_law_function_right" s_law_function_right a_law_function_right d_law_function_right
  b_law_function_right : Binds K d_law_function_right ["state", "program", "row"] []
  m_law_function_right : mg "_law_function_right" = some (.ref a_law_function_right)
  a_law : Addr
  d_law : FuncData
  F_law : Fun K "law" "law" s_law a_law d_law
  b_law : Binds K d_law ["script"] []
  m_law : mg "law" = some (.ref a_law)
  z_isinstance : mg "isinstance" = none
  z_tuple : mg "tuple" = none
  z_sorted : mg "sorted" = none
  z_list : mg "list" = none
  z_len : mg "len" = none
  z_zip : mg "zip" = none
  z_str : mg "str" = none
  z_enumerate : mg "enumerate" = none
  z_int : mg "int" = none
  z_abs : mg "abs" = none
  z_range : mg "range" = none
  z_set : mg "set" = none
end Kx
set_option maxHeartbeats 2000000
/-! Rules of our own over the layer: see the remarks. -/
namespace Kx
open PySem PySem.Spec PyProof.Rows L2
/-! ### rules with the written part named (for the blocks of comprehensions) -/
section
variable {X : Cx} {K : PySem.W.Frag}
theorem inSeqK (h : X.K = K := by rfl) : OpR X (compareOp .In) (rIn K false) := by subst h; exact op_in_seq
theorem notInSeqK (h : X.K = K := by rfl) : OpR X (compareOp .NotIn) (rIn K true) := by subst h; exact op_notIn_seq
theorem ixLK (h : X.K = K := by rfl) : IxR X (rIxL K) := by subst h; exact ix_list
theorem ixTK (h : X.K = K := by rfl) : IxR X (rIxT K) := by subst h; exact ix_tup
end
/-! ### l.extend(t), t a tuple -/
def rExtT (K : PySem.W.Frag) : V → List V → Hp → VK → Prop := fun x vs H Q => ∃ l b xs zs, x = .ref l ∧ vs = [.ref b] ∧ H l = some (.lst xs) ∧ (∃ o : Obj, H b = some (.frz o (.tup zs)) ∧ o.dict = none ∧ o.slots = #[]) ∧ xs.length + zs.length ≤ sizeLine ∧ Q .non (upd H l (.lst (xs ++ zs)))
section
variable {X : Cx}
theorem mt_extT : MtR X "list.extend" (rExtT X.K) := by
  intro pins s σ H x vs v us Q I rx rv hyp
  obtain ⟨l, b, xs, zs, rfl, rfl, hH, ⟨o, hB, hd, hsl⟩, hz, fin⟩ := hyp
  cases rx
  obtain ⟨u, rfl, ru⟩ := rv.one
  cases ru
  obtain ⟨z, its, n, r, hl, e⟩ := I.lstM hH
  obtain ⟨e2, z2, its2, r2, hT⟩ := (show ObjOk X.prog X.w H s.heap b (.frz o (.tup zs)) from I.hok b _ hB)
  obtain ⟨o2, e3, hc2, n2, hd2⟩ := hT
  rw [e2] at e3
  cases e3
  obtain ⟨oc, od, dt, sl⟩ := o
  simp only at hc2 hd2 hd hsl
  subst hc2 hd2 hd hsl
  have w1 : its.length = xs.length := r.length.symm
  have w2 : its2.length = zs.length := r2.length.symm
  have size2 : its.toArray.size + its2.toArray.size ≤ sizeLine := by
    simp only [List.size_toArray, w1, w2]; exact hz
  have few : ¬ (!its.toArray.isEmpty && Builtin.List.listTooLong (its.toArray.size + its2.toArray.size)) = true := by
    rw [notLongL size2, Bool.and_false]; simp
  refine call_meets F.slot_list_extend ⟨_, e, rfl⟩ F.entry_list_extend (F.args_list_extend_2 _ _)
    (AutoSeq1.list_extend_list_tuple_0 l its.toArray n b its2.toArray n2 few (Nat.le_trans (Nat.le_add_right _ _) size2) (Nat.le_succ_of_le size2)) ⟨e, e2, ?_⟩
  refine ⟨.non, _, I.lset (its' := its ++ its2) hH e (by simp) (r.append r2) ?_, rfl, fin⟩
  simp only [List.length_append]; exact hz
end
/-! ### t[:0:-1]: a tuple backwards without its first item -/
section
variable {prog : Program} {w : World} {A : Around} {E : Value → Shared → Prop} {s : Shared}
theorem back_pick {α : Type} : ∀ l : List α, (List.range l.length).filterMap (fun m => l[l.length - 1 - m]?) = l.reverse := by
  intro l
  have h : ∀ k, k ≤ l.length → (List.range k).filterMap (fun m => l[l.length - 1 - m]?) = (l.drop (l.length - k)).reverse := by
    intro k
    induction k with
    | zero => intro _; simp
    | succ k ih =>
      intro hk
      rw [List.range_succ, List.filterMap_append, ih (by omega)]
      have e : l.drop (l.length - (k + 1)) = l[l.length - (k + 1)]'(by omega) :: l.drop (l.length - k) := by
        rw [List.drop_eq_getElem_cons (by omega)]
        congr 2
        omega
      rw [e, List.reverse_cons]
      congr 1
      have e2 : l[l.length - 1 - k]? = some (l[l.length - (k + 1)]'(by omega)) := by
        rw [← List.getElem?_eq_getElem]
        congr 1
        omega
      simp [e2]
  have := h l.length (Nat.le_refl _)
  simpa using this
theorem back_pick1 (xs : List Value) (h1 : 1 ≤ xs.length) : (List.range (xs.length - 1)).filterMap (fun (m : Nat) => xs[(((xs.length - 1 : Nat) : Int) + (m : Int) * (-1)).toNat]?) = (xs.drop 1).reverse := by
  have h := back_pick (xs.drop 1)
  rw [List.length_drop] at h
  rw [← h]
  have key : ∀ k, k ≤ xs.length - 1 → (List.range k).filterMap (fun (m : Nat) => xs[(((xs.length - 1 : Nat) : Int) + (m : Int) * (-1)).toNat]?) = (List.range k).filterMap (fun m => (xs.drop 1)[xs.length - 1 - 1 - m]?) := by
    intro k
    induction k with
    | zero => intro _; rfl
    | succ k ih =>
      intro hk
      rw [List.range_succ, List.filterMap_append, List.filterMap_append, ih (by omega)]
      congr 1
      have e : (((xs.length - 1 : Nat) : Int) + (k : Int) * (-1)).toNat = 1 + (xs.length - 1 - 1 - k) := by omega
      simp only [List.filterMap_cons, List.filterMap_nil, e, List.getElem?_drop]
  exact key _ (Nat.le_refl _)
theorem back_adjust (n : Nat) (h : 1 ≤ n) : Builtin.Slice.sliceAdjust none (some 0) (-1) (n : Int) = (((n - 1 : Nat) : Int), 0) := by
  unfold Builtin.Slice.sliceAdjust
  simp only [show ((-1 : Int) < 0) from by omega, if_true]
  refine Prod.ext ?_ ?_
  · show (n : Int) - 1 = _; omega
  · show (if (0 : Int) < 0 then max ((0 : Int) + (n : Int)) (-1) else min (0 : Int) ((n : Int) - 1)) = 0
    rw [if_neg (by omega)]; omega
theorem back_places (n : Nat) : Builtin.Slice.slicePlaces ((n : Nat) : Int) 0 (-1) = n := by
  unfold Builtin.Slice.slicePlaces
  simp only [show ¬ ((-1 : Int) > 0) from by omega, if_false, Int.neg_neg, Int.ediv_one]
  split <;> omega
theorem back_applied {sl : Addr} {vl vu vs : Value} {n : Nat} {Q : Int × Int × Nat → Shared → Prop} (h1 : 1 ≤ n) (hs : s.heap.IsSliceOf sl vl vu vs) (pl : IsPart vl none) (pu : IsPart vu (some 0)) (ps : IsPart vs (some (-1)))
    (h : Q (((n - 1 : Nat) : Int), -1, n - 1) s) : wpAny (model prog w) A (Builtin.Slice.sliceApplied (.ref sl) (pure (n : Int))) Q E s := by
  obtain ⟨os, ho, hc, hd⟩ := id hs
  unfold Builtin.Slice.sliceApplied Builtin.Slice.sliceFields
  refine wpAny_bind (wpAny_bind (wpAny_field ho hd (x := vl) rfl (wpAny_bind (wpAny_field ho hd (x := vu) rfl (wpAny_bind (wpAny_field ho hd (x := vs) rfl (wpAny_pure ?_)))))))
  refine wpAny_bind (HT.slicePart_ ps ?_)
  show wpAny _ _ (if ((-1 : Int) == 0) = true then _ else _) _ _ s
  rw [if_neg (by decide)]
  refine wpAny_bind (HT.slicePart_ pl (wpAny_bind (HT.slicePart_ pu (wpAny_bind (wpAny_pure ?_)))))
  show wpAny _ _ (match Builtin.Slice.sliceAdjust none (some 0) (-1) (n : Int) with | (lo, hi) => pure (lo, (-1 : Int), Builtin.Slice.slicePlaces lo hi (-1))) _ _ s
  rw [back_adjust n h1]
  show wpAny _ _ (pure (((n - 1 : Nat) : Int), (-1 : Int), Builtin.Slice.slicePlaces ((n - 1 : Nat) : Int) 0 (-1))) _ _ s
  rw [back_places]
  exact wpAny_pure h
theorem getItem_back {t sl : Addr} {items : Array Value} {vl vu vs : Value} {Q : Value → Shared → Prop} (h1 : 1 ≤ items.size) (ht : IsTup s.heap t items) (hs : s.heap.IsSliceOf sl vl vu vs) (pl : IsPart vl none) (pu : IsPart vu (some 0)) (ps : IsPart vs (some (-1)))
    (h : Q (.ref s.heap.objs.size) { s with heap := s.heap.push { cls := .type "tuple", data := .seq ((items.toList.drop 1).reverse).toArray } })
    (hsz : items.size ≤ sizeLine) : wpAny (model prog w) A (getItem (.ref t) (.ref sl)) Q E s := by
  have fits : sizeOk (.seq ((items.toList.drop 1).reverse).toArray) := by
    show ((items.toList.drop 1).reverse).toArray.size ≤ sizeLine
    simp only [List.size_toArray, List.length_reverse, List.length_drop, Array.length_toList]
    omega
  obtain ⟨os, ho, hc, hd⟩ := id hs
  have ty : s.TypeIs (.ref sl) "slice" := ⟨os, ho, hc⟩
  unfold getItem
  try with_reducible refine wpAny_holding ?_
  first | refine wpAny_bind (wpAny_pure ?_) | skip
  refine wpAny_bind (wpAny_sequenceKey ht.typeIs (by decide) ?_)
  refine wpAny_bind (wpAny_callSpecial?_slot (name := Str.ofString "__getitem__") ht.typeIs PyProof.Rows.slot_tuple_getitem
    (wpAny_call_entry PyProof.Rows.slot_tuple_getitem ht.typeIs F.entry_tuple_getitem ?_ (F.args_tuple_getitem_2 _ _)))
  show wpAny _ _ (Builtin.Tuple.tupleItemsOf (.ref t) >>= _) _ _ s
  refine wpAny_bind (tupleItemsOf_ ht ?_)
  refine wpAny_bind (wpAny_typeOf ty ?_)
  rw [if_pos (by decide)]
  refine wpAny_bind (back_applied (n := items.size) h1 hs pl pu ps ?_)
  have no : ¬ ((((items.size - 1 : Nat) : Int) == 0 && (-1 : Int) == 1 && (items.size - 1) == items.size) = true) := by simp
  show wpAny _ _ (if (((items.size - 1 : Nat) : Int) == 0 && (-1 : Int) == 1 && (items.size - 1) == items.size) = true then _ else _) _ _ s
  have e := back_pick1 items.toList (by simpa using h1)
  simp only [Array.length_toList, Array.getElem?_toList] at e
  rw [if_neg no, e]
  first
    | exact wpAny_bind (m := Builtin.Tuple.tupleExact _) (wpAny_newObj_type (wpAny_pure ⟨_, rfl, wpAny_pure h⟩) fits)
    | exact wpAny_bind (m := Builtin.Tuple.tupleExact _) (wpAny_newObj_type (wpAny_bind (wpAny_pure (wpAny_pure ⟨_, rfl, wpAny_pure h⟩))) fits)
    | exact wpAny_bind (wpAny_bind (m := Builtin.Tuple.tupleExact _) (wpAny_newObj_type (wpAny_pure (wpAny_pure ⟨_, rfl, wpAny_pure h⟩)) fits))
    | exact wpAny_bind (wpAny_bind (m := Builtin.Tuple.tupleExact _) (wpAny_newObj_type (wpAny_pure ⟨_, rfl, wpAny_pure h⟩) fits))
end
/-- what t[:0:-1] asks: t is not empty; the new tuple is told as an object that stands as it is -/
def tBackT (K : PySem.W.Frag) (te : TE) : TE := fun σ H Q => te σ H fun x H1 => ∃ a xs, x = .ref a ∧ SqT K H1 a xs ∧ xs ≠ [] ∧ ∀ p (o : Obj), H1 p = none → o.dict = none → o.slots = #[] → Q (.ref p) (upd H1 p (.frz o (.tup (xs.drop 1).reverse)))
section
variable {X : Cx}
theorem pe_cutback {e : Expr} {te : TE} {j k : Nat} {p0 p1 p2 p3 pos : Pos} (he : PE X e te) : PE X (.Subscript e (.Slice none (some (.Constant (.int 0) j p0)) (some (.UnaryOp .USub (.Constant (.int 1) k p1) p2)) p3) pos) (tBackT X.K te) := by
  refine ⟨fun pins s σ H Q I h => ?_⟩
  refine Subscript_ (thn (he.run pins s σ H _ I h) fun v s1 ⟨x, H1, I1, r1, q1⟩ => ?_)
  obtain ⟨a, xs, ex, hx, hne, fin⟩ := q1
  subst ex
  cases r1
  have hst : PO X (some (.UnaryOp .USub (.Constant (.int 1) k p1) p2)) (tPart (tUn (rU fun i => .int (-i)) (tC (.int 1)))) := po_some (pe_un un_neg pe_int)
  have hup : PO X (some (.Constant (.int 0) j p0)) (tPart (tC (.int 0))) := po_some pe_int
  refine wpAny_Slice (thn (po_none.run pins s1 σ H1 (fun o H2 => o = none ∧ H2 = H1) I1 ⟨rfl, rfl⟩) fun vl s2 ⟨l, H2, I2, pl, el, e2⟩ => ?_)
  subst el e2
  refine thn (hup.run pins s2 σ H2 (fun o H3 => o = some 0 ∧ H3 = H2) I2 ⟨0, rfl, rfl, rfl⟩) fun vu s3 ⟨u, H3, I3, pu, eu, e3⟩ => ?_
  subst eu e3
  refine thn (hst.run pins s3 σ H3 (fun o H4 => o = some (-1) ∧ H4 = H3) I3 ⟨1, rfl, -1, rfl, rfl, rfl⟩) fun vs s4 ⟨o, H4, I4, ps, eo, e4⟩ => ?_
  subst eo e4
  have I5 : Inv X pins σ H4 { s4 with heap := s4.heap.push { cls := .type "slice", data := .fields #[vl, vu, vs] } } := I4.kept (t' := s4.toks) fun b ob q => Heap.get?_push_of_some _ q
  obtain ⟨its, r, ht, hz⟩ := I5.tuple hx
  have hlen : its.length = xs.length := r.length.symm
  have h1 : 1 ≤ xs.length := by cases xs with | nil => exact absurd rfl hne | cons _ _ => simp
  show wpAny (model X.prog X.w) X.A (subscriptTail e (.Slice none (some (.Constant (.int 0) j p0)) (some (.UnaryOp .USub (.Constant (.int 1) k p1) p2)) p3) (.ref a) (.ref s4.heap.objs.size)) (EP X pins σ Q) X.xe { s4 with heap := s4.heap.push { cls := .type "slice", data := .fields #[vl, vu, vs] } }
  refine tail_any (ops := [.ref a, .ref s4.heap.objs.size]) ht.typeIs (PyProof.Rows.slot_tuple_getitem.lookup) ?_ (by with_unfolding_all rfl)
  refine getItem_back (by rw [List.size_toArray, hlen]; exact h1) ht (Heap.IsSliceOf.new _ vl vu vs) pl pu ps ?_ (by rw [List.size_toArray, hlen]; exact hz)
  refine ⟨.ref _, _, I5.laid (t' := s4.toks) (o := .frz { cls := .type "tuple", data := .seq ((its.drop 1).reverse).toArray } (.tup (xs.drop 1).reverse)) (fun b ob q => Heap.get?_push_of_some _ q) (Nat.le_refl _) ?_, rfl, fin _ _ (I5.hok.fresh (Nat.le_refl _)) rfl rfl⟩
  refine ⟨Heap.get?_push_size _ rfl, ?_, _, (r.drop 1).reverse, IsTup.new _ _⟩
  rw [List.length_reverse, List.length_drop]
  exact Nat.le_trans (Nat.sub_le _ _) hz
/-! ### tuple(l) of a list, told as an object that stands as it is -/
theorem call_tupleF : CallR X (.type "tuple") (fun xs H Q => ∃ p ys, xs = [.ref p] ∧ SqL X.K H p ys ∧ ∀ l (o : Obj), H l = none → o.dict = none → o.slots = #[] → Q (.ref l) (upd H l (.frz o (.tup ys)))) := by
  intro pins s σ H xs us Q I r hyp
  obtain ⟨p, ys, rfl, hq, fin⟩ := hyp
  obtain ⟨u, rfl, rx⟩ := vals1 r
  cases rx
  obtain ⟨its, r', pl, hz⟩ := I.list hq
  have w1 : its.length = ys.length := r'.length.symm
  refine call_tuple_list pl.isList (fun h' kp => ?_) (by rw [List.size_toArray, w1]; exact hz)
  have J : Inv X pins σ H { s with heap := h' } := I.kept (t' := s.toks) kp
  have J2 : Inv X pins σ (upd H h'.objs.size (.frz { cls := .type "tuple", data := .seq its.toArray } (.tup ys))) { s with heap := h'.push { cls := .type "tuple", data := .seq its.toArray } } :=
    J.laid (t' := s.toks) (fun b o e => Heap.get?_push_of_some _ e) (Nat.le_refl _) ⟨Heap.get?_push_size _ rfl, hz, its, r', IsTup.new _ _⟩
  exact ⟨.ref h'.objs.size, _, J2, rfl, fin _ _ (J.hok.fresh (Nat.le_refl _)) rfl rfl⟩
/-! ### dict(t) of a tuple of pairs -/
theorem pairs_list {pins : List (Addr × Obj)} {σ : L2.St} {H : Hp} {s : Shared} (I : Inv X pins σ H s) : ∀ {ps : List Addr} {kvs : List (Key × V)}, Paired (fun p kv => SqT X.K H p [kV kv.1, kv.2]) ps kvs →
    ∃ (prs : List (Key × Value)) (psv : List (Value × Value)), KV kvs prs ∧ prs.length = ps.length ∧ psv.length = ps.length ∧ ∀ (j : Nat) (u v : Value), psv[j]? = some (u, v) → ∃ b k, ps[j]? = some b ∧ prs[j]? = some (k, v) ∧ IsTup s.heap b #[u, v] ∧ keyIs k u = true
  | _, _, .nil => ⟨[], [], .nil, rfl, rfl, fun j u v e => by simp at e⟩
  | _, _, .cons (a := p) (b := kv) h t => by
    obtain ⟨prs, psv, r, l1, l2, hp⟩ := pairs_list I t
    obtain ⟨its, rv, ht, _⟩ := I.tuple h
    obtain ⟨u, y, ei, ru, ry⟩ := vals2 rv
    subst ei
    refine ⟨(kv.1, y) :: prs, (u, y) :: psv, .cons ⟨rfl, ry⟩ r, by simp [l1], by simp [l2], fun j u' v' e => ?_⟩
    cases j with
    | zero =>
      cases (Option.some.inj e)
      exact ⟨p, kv.1, rfl, rfl, ht, kV_is (P := X.prog) (w := X.w) ru⟩
    | succ j => exact hp j u' v' (by simpa using e)
theorem call_dictT (hcalm : X.calm = true) : CallR X (.type "dict") (fun xs H Q => ∃ (a : Addr) (o : Obj) (ps : List Addr) (kvs : List (Key × V)), xs = [.ref a] ∧ H a = some (.frz o (.tup (ps.map V.ref))) ∧ o.dict = none ∧ Paired (fun p kv => SqT X.K H p [kV kv.1, kv.2]) ps kvs ∧
    ∀ p, H p = none → Q (.ref p) (upd H p (.dK (mergeK [] kvs)))) := by
  intro pins s σ H xs us Q I r hyp
  obtain ⟨a, o, ps, kvs, ex, hq, hd, hp, fin⟩ := hyp
  subst ex
  obtain ⟨u, eu, rx⟩ := vals1 r
  subst eu
  cases rx
  obtain ⟨e2, hz, its, rv, hT⟩ := (show ObjOk X.prog X.w H s.heap a (.frz o (.tup (ps.map V.ref))) from I.hok a _ hq)
  obtain ⟨o2, e3, hc2, n2, hd2⟩ := hT
  rw [e2] at e3
  cases e3
  have ei := refs_at rv
  subst ei
  rw [List.length_map] at hz
  obtain ⟨prs, psv, rel, l1, l2, hpr⟩ := pairs_list I hp
  have items : PairItems s.heap (ps.map Value.ref).toArray (fun j => ps.getD j 0) psv := by
    refine ⟨by simp [l2], fun j k v e => ?_⟩
    obtain ⟨b, k', e1, _, e4, _⟩ := hpr j k v e
    refine ⟨by simp [e1], ?_⟩
    have eb : ps.getD j 0 = b := by simp [List.getD, e1]
    show PairAt s.heap (ps.getD j 0) k v
    rw [eb]
    exact .inl e4
  refine PySem.call_dict_pairs (knd := mixKind X.prog X.w) (kvs := prs) (PairArg.tuple a (ps.map Value.ref).toArray (fun j => ps.getD j 0) psv) (I.ok.hd hcalm) ⟨⟨o, n2, e2, hc2, hd, hd2⟩, items⟩ ⟨by rw [l1, l2], fun i key v e => ?_⟩ (by rw [l2]; exact hz) fun h' tk hd' k => ?_
  · obtain ⟨b, k', _, e5, _, e6⟩ := hpr i key v e
    exact ⟨k', e5, e6⟩
  · have hm : (s.heap.objs.size == sysModules) = false := beq_eq_false_iff_ne.mpr (Nat.ne_of_gt I.big)
    have few : (mergeK [] kvs).length ≤ sizeLine := by
      have z := length_mergeK kvs []
      rw [List.length_nil, Nat.zero_add, rel.length, l1] at z
      exact Nat.le_trans z hz
    exact ⟨.ref s.heap.objs.size, _, I.laid (t' := tk) (fun b o q => k b o (by simp) q) (Nat.le_refl _) (show ObjOk X.prog X.w _ _ _ (.dK (mergeK [] kvs)) from ⟨few, hm, merged [] prs, KV.merge rel .nil, hd'⟩), rfl, fin _ (I.hok.fresh (Nat.le_refl _))⟩
end
end Kx
namespace Kx
open PySem PySem.Spec PyProof.Rows L2
/-- a block cut behind its first statement: what holds there is named -/
theorem pss_cutK {X : Cx} {st : Stmt} {rest : List Stmt} {t u : TS} (h1 : PS X st t) (h2 : PSs X rest u) :
    PSs X (st :: rest) (fun D σ H => ∃ Mid : L2.St → Hp → Prop, t { D with nx := Mid } σ H ∧ ∀ σ' H', Mid σ' H' → u D σ' H') := Evl.pss_cut h1 h2
end Kx
namespace Kx
open PySem PySem.Spec PyProof.Rows L2
section
variable {X : Cx}
/-- a test, an expression, with a word behind it: what follows is shown once -/
theorem pt_cut {e : Expr} {t : TT} (h : PT X e t) : PT X e (fun σ H Q => ∃ M : Bool → Hp → Prop, t σ H M ∧ ∀ b H1, M b H1 → Q b H1) :=
  ⟨fun pins s σ H Q I ⟨M, hm, k⟩ => thn (h.run pins s σ H M I hm) fun b s1 ⟨H1, I1, q⟩ => ⟨H1, I1, k b H1 q⟩⟩
theorem pe_cut {e : Expr} {t : TE} (h : PE X e t) : PE X e (fun σ H Q => ∃ M : VK, t σ H M ∧ ∀ v H1, M v H1 → Q v H1) :=
  ⟨fun pins s σ H Q I ⟨M, hm, k⟩ => thn (h.run pins s σ H M I hm) fun b s1 ⟨v, H1, I1, r, q⟩ => ⟨v, H1, I1, r, k v H1 q⟩⟩
end
end Kx
namespace Kx
open PySem PySem.Spec PyProof.Rows L2
/-- a comprehension without a test: its element is asked -/
theorem yes_if {σ : L2.St} {H : Hp} {A B : Hp → Prop} (h : A H) : tYes σ H (fun b H3 => if b = true then A H3 else B H3) := by
  have e : (if true = true then A H else B H) := iteT h
  exact e
end Kx
set_option maxHeartbeats 1000000
/-! for i, x in enumerate(t): a tuple. -/
namespace Kx
open PySem PySem.Spec PyProof.Rows L2
open AutoSeq1 (wpAny_loadPart')
theorem enum_made (t : Addr) (its : Array Value) (n : Nat) (dd : Option Addr) (sl : Array (Option Value)) :
    Meets (Builtin.«enumerate.__new__» ⟨[.type "enumerate", .ref t], []⟩) (fun _ R s => s.heap.get? t = some { cls := .type "tuple", dict := dd, data := .seq its n, slots := sl } ∧
      R (.ok (.ret (.ref (s.heap.push { cls := .type "tuple_iterator", data := .fields #[.ref t, .int 0 0] }).objs.size)))
        { s with heap := (s.heap.push { cls := .type "tuple_iterator", data := .fields #[.ref t, .int 0 0] }).push { cls := .type "enumerate", data := .fields #[.none, .bool false, .ref s.heap.objs.size, rawInt 0, .none, .none] } }) :=
  .of_wp fun prog w A R s h => by
    obtain ⟨hp, g, d, tk, os⟩ := s
    obtain ⟨ht, q⟩ := h
    have sub := sub_enumerate
    have T : Heap.IsTuple (Shared.heap ⟨hp, g, d, tk, os⟩) t its := ⟨_, ht, rfl, n, rfl⟩
    wp_walk using wpAny_loadPart' ht
    refine wpAny_stack_any fun _ => wpAny_pure ?_
    split
    · rename_i c _ _ _ _ _
      cases (c == Value.type "enumerate") <;> (wp_walk using wpAny_loadPart' ht, wpAny_pyIter_tuple T; exact ⟨_, rfl, q⟩)
    · wp_walk using wpAny_loadPart' ht, wpAny_pyIter_tuple T
      exact ⟨_, rfl, q⟩
theorem call_enumT {prog : Program} {w : World} {A : Around} {E : Value → Shared → Prop} {s : Shared} {t : Addr} {its : Array Value} {Q : Value → Shared → Prop} (ht : s.heap.IsTuple t its)
    (q : ∀ g, IsEnum g (s.heap.objs.size + 1) s.heap.objs.size 0 .none → g.IsTupleIter s.heap.objs.size t 0 → (∀ b o, s.heap.get? b = some o → g.get? b = some o) → Q (.ref (s.heap.objs.size + 1)) { s with heap := g }) :
    wpAny (model prog w) A (call (.type "enumerate") [.ref t]) Q E s := by
  obtain ⟨⟨c, dd, da, sl⟩, e, ec, n, ed⟩ := ht
  change c = .type "tuple" at ec
  change da = .seq its n at ed
  subst ec ed
  refine callType_new F.called_enumerate (by decide) (F.typeCall_enumerate_1 _) (F.newCall_enumerate_1 _) (fun x => F.args_object_init_2 x _) F.entry_enumerate_new (enum_made t its n dd sl) ⟨e, ?_⟩
  have z : (s.heap.push { cls := .type "tuple_iterator", data := .fields #[.ref t, .int 0 0] }).objs.size = s.heap.objs.size + 1 := Heap.size_push ..
  show _ ∧ _
  rw [z]
  have f : IsEnum ((s.heap.push { cls := .type "tuple_iterator", data := .fields #[.ref t, .int 0 0] }).push { cls := .type "enumerate", data := .fields #[.none, .bool false, .ref s.heap.objs.size, rawInt 0, .none, .none] }) (s.heap.objs.size + 1) s.heap.objs.size 0 .none := by
    rw [← z]
    exact Heap.get?_push_size _ rfl
  exact ⟨⟨_, f, rfl⟩, q _ f ⟨_, Heap.get?_push_of_some _ (Heap.get?_push_size _ rfl), rfl, rfl⟩ fun b o x => Heap.get?_push_of_some _ (Heap.get?_push_of_some _ x)⟩
/-- the tuple at a, each item in a new pair -/
def IteT (K : PySem.W.Frag) (a : Addr) : It :=
  ⟨fun i H => ∃ (xs : List V) (x : V), SqT K H a xs ∧ xs[i]? = some x, fun i H v H' => ∃ t x, v = .ref t ∧ H t = none ∧ H' = upd H t (.tup [.int (i : Nat), x]) ∧ ∀ xs, SqT K H a xs → xs[i]? = some x, fun i H => ∃ xs : List V, SqT K H a xs ∧ i = xs.length⟩
theorem turn_enumT {P : Program} {w : World} {K : PySem.W.Frag} {elts : List Expr} {kk : Nat} {tpos : Pos} {a e j : Addr} (na : a ≠ j) (ne : e ≠ j) (nea : e ≠ a) :
    Turn P w K (.Tuple elts kk tpos) (IteT K a) [e, j] e (fun i h => (∃ old, IsEnum h e j ((i : Nat) : Int) old) ∧ h.IsTupleIter j a i) where
  mem := List.mem_cons_self ..
  obj := by
    rintro i h ⟨⟨old, h1⟩, ⟨o, h2, _, d2⟩⟩ c hc
    simp only [List.mem_cons, List.not_mem_nil, or_false] at hc
    rcases hc with rfl | rfl
    · exact ⟨_, h1, fun v q => nomatch q⟩
    · exact ⟨o, h2, fun v q => by rw [d2] at q; cases q⟩
  keep := by
    rintro i h h' ⟨⟨old, h1⟩, h2⟩ k
    exact ⟨⟨old, k e (by simp) _ h1⟩, h2.at fun o q => k j (by simp) o q⟩
  item := by
    intro X hP hw hK hc i pins s σ H E I hf st hg
    subst hP hw hK
    obtain ⟨⟨old, h1⟩, h2⟩ := st
    obtain ⟨xs, x, hq, hx⟩ := hg
    obtain ⟨its, rv, p, _⟩ := I.tuple hq
    obtain ⟨u, hu, ru⟩ := rv.get hx
    have hh : X.A.handled = none := I.ok.hd hc
    have b1 : i < its.toArray.size := by simpa using (List.getElem?_eq_some_iff.mp hu).1
    have el : e < s.heap.objs.size := Heap.lt_size h1
    have nf : e ∉ [j, a] := by simp only [List.mem_cons, List.not_mem_nil, or_false, not_or]; exact ⟨ne, nea⟩
    refine wpAny_pyNext_enum_itemD (Draws.tuple (A := X.A.in1) hh j a na its.toArray) h1 ⟨h2, p⟩ b1 ne nf fun v g tk e1 g1 g2 gT gs gk => ?_
    have q1 : v = u := by simpa [hu] using e1.symm
    subst q1
    refine ⟨_, rfl, wpAny_letOwnedTupleGo_enum (s := { s with heap := g, toks := tk + 1 }) g1 fun g' k1 sb => ?_⟩
    have out : ∀ c, c ≠ e → g'.get? c = g.get? c := fun c n => sb.2 c n
    have nw : g'.get? s.heap.objs.size = some { cls := .type "tuple", data := .seq #[.int i tk, v] } := (out _ (Nat.ne_of_gt el)).trans gT
    have made : ObjOk X.prog X.w (upd H s.heap.objs.size (.tup [.int (i : Nat), x])) g' s.heap.objs.size (.tup [.int (i : Nat), x]) := ⟨by show 2 ≤ sizeLine; decide, [.int i tk, v], .cons ⟨_, rfl⟩ (.cons ru .nil), ⟨_, nw, rfl, _, rfl⟩⟩
    have J := I.turnedNew (t' := tk + 1) (ch := [e, j]) (fun c o n y => by
      simp only [List.mem_cons, List.not_mem_nil, or_false, not_or] at n
      exact (out c n.1).trans (gk c o n.1 n.2 y)) hf (Nat.le_refl _) made
    refine ⟨.ref s.heap.objs.size, _, J, rfl, ⟨_, x, rfl, I.hok.fresh (Nat.le_refl _), rfl, fun l hl => by rw [I.tuple_inj hl hq]; exact hx⟩, ⟨⟨v, ?_⟩, ?_⟩, fun c hcm => ?_⟩
    · have ei : ((i + 1 : Nat) : Int) = (i : Int) + 1 := by omega
      rw [ei]; exact k1
    · exact g2.1.at fun o q => (out _ ne.symm).trans q
    · have lt : c < s.heap.objs.size := by
        simp only [List.mem_cons, List.not_mem_nil, or_false] at hcm
        rcases hcm with q | q
        · rw [q]; exact el
        · rw [q]; obtain ⟨_, y, _⟩ := h2; exact Heap.lt_size y
      rw [upd_ne (Nat.ne_of_lt lt)]
      exact (hf c hcm).1
  done := by
    intro X hP hw hK hc i pins s σ H E I hf st hg
    subst hP hw hK
    obtain ⟨⟨old, h1⟩, h2⟩ := st
    obtain ⟨xs, hq, l1⟩ := hg
    obtain ⟨its, rv, p, _⟩ := I.tuple hq
    have hh : X.A.handled = none := I.ok.hd hc
    have m1 : i = its.toArray.size := by rw [List.size_toArray, ← rv.length]; exact l1
    subst m1
    obtain ⟨f0, f1, f2, f3, f4, f5⟩ := hf j (by simp)
    refine wpAny_pyNext_enum_endD (Draws.tuple (A := X.A.in1) hh j a na its.toArray) h1 ⟨h2, p⟩ fun g eb => ⟨rfl, I.turned (t' := s.toks) (fun b o hb q => eb b o hb q) f0 f1 f3 f4 f5⟩
  self := fun A i s Q E st h => let ⟨⟨_, y⟩, _⟩ := st; wpAny_pyIter_enum y h
def iEnumT (K : PySem.W.Frag) (ta : TA) : TI := fun σ H R => ta σ H fun vs H1 => ∃ a xs, vs = [.ref a] ∧ SqT K H1 a xs ∧ R (IteT K a) H1
theorem pi_enumT {X : Cx} {e : Expr} {ta : TA} {p pos tpos : Pos} {elts : List Expr} {kk : Nat} (hg : Gl X "enumerate") (hm : X.mg "enumerate" = none) (ha : PA X [e] ta) (hs : starEach [e] X.env = [(false, eval e X.env)] := by rfl) :
    PI X (.Tuple elts kk tpos) (.Call (.Name "enumerate" p) [e] [] pos) (iEnumT X.K ta) := by
  refine ⟨fun pins s σ H R I h => Call_ (ld_blt I hg hm boot_enumerate (PyProof.Rows.callWith_type1 (thn (ha.run pos pins s σ H _ I h) fun us s1 ⟨vs, H1, J, rel, a, xs, ex, hx, q⟩ => ?_) hs rfl))⟩
  subst ex
  obtain ⟨u, rfl, r1⟩ := vals1 rel
  cases r1
  obtain ⟨its, _, p1, _⟩ := J.tuple hx
  have la : a < s1.heap.objs.size := by obtain ⟨o, ho, _⟩ := id p1; exact Heap.lt_size ho
  refine call_enumT p1 fun g y1 y2 kp => wpAny_pyIter_enum y1 ?_
  have J2 : Inv X pins σ H1 { s1 with heap := g } := J.kept (t' := s1.toks) kp
  refine ⟨s1.heap.objs.size + 1, [s1.heap.objs.size + 1, s1.heap.objs.size], _, _, H1, rfl, J2, turn_enumT (a := a) (e := s1.heap.objs.size + 1) (j := s1.heap.objs.size) (Nat.ne_of_lt la) (Nat.succ_ne_self _) (Nat.ne_of_gt (Nat.lt_succ_of_lt la)), ⟨⟨.none, y1⟩, y2⟩, fun c hc => ?_, q⟩
  have le : s1.heap.objs.size ≤ c := by
    rcases List.mem_cons.mp hc with e | e
    · rw [e]; exact Nat.le_succ _
    · rw [List.mem_singleton.mp e]; exact Nat.le_refl _
  exact J.fpOk le (J.hok.fresh le)
/-- the loop over it -/
theorem for_enumT {K : PySem.W.Frag} {a : Addr} {xs : List V} {g : TG} {tb : TS} {D : Ends} {σ : L2.St} {H : Hp} (Pv : Nat → L2.St → Hp → Prop) (h0 : Pv 0 σ H) (hq : ∀ i σ H, Pv i σ H → SqT K H a xs)
    (hs : ∀ (i : Nat) (x : V) (t : Addr) (σ : L2.St) (H : Hp), xs[i]? = some x → Pv i σ H → H t = none → g (.ref t) σ (upd H t (.tup [.int (i : Nat), x])) fun σ2 H2 => tb { D with nx := Pv (i + 1), ct := Pv (i + 1), bk := D.nx } σ2 H2) (hd : ∀ σ H, Pv xs.length σ H → D.nx σ H) :
    ∃ W : Nat → Nat → L2.St → Hp → Prop, (∃ m, W 0 m σ H) ∧ ∀ i m σ H, W i m σ H →
      ((IteT K a).stop i H ∧ D.nx σ H) ∨ ((IteT K a).go i H ∧ ∃ N : L2.St → Hp → Prop, (∀ σ' H', N σ' H' → ∃ m', m' < m ∧ W (i + 1) m' σ' H') ∧ ∀ v H', (IteT K a).yld i H v H' → g v σ H' fun σ2 H2 => tb { D with nx := N, ct := N, bk := D.nx } σ2 H2) := by
  refine ⟨fun i m σ H => m = xs.length - i ∧ i ≤ xs.length ∧ Pv i σ H, ⟨_, rfl, Nat.zero_le _, h0⟩, fun i m σ H w => ?_⟩
  obtain ⟨rfl, le, pv⟩ := w
  have qx := hq i σ H pv
  rcases Nat.lt_or_ge i xs.length with lt | ge
  · have ex : xs[i]? = some xs[i] := List.getElem?_eq_getElem lt
    refine .inr ⟨⟨xs, _, qx, ex⟩, Pv (i + 1), fun σ' H' p' => ⟨xs.length - (i + 1), by omega, rfl, lt, p'⟩, ?_⟩
    rintro v H' ⟨t, x, rfl, nt, rfl, kx⟩
    exact hs i x t σ H (kx xs qx) pv nt
  · have e : i = xs.length := Nat.le_antisymm le ge
    exact .inl ⟨⟨xs, qx, e⟩, hd σ H (e ▸ pv)⟩
end Kx
set_option maxHeartbeats 1000000
/-! set(xs) of texts, sorted(set(xs)), len(set(xs)). -/
namespace Kx
open PySem PySem.Spec PyProof.Rows L2
/-- a set's payload that can be walked: its places rise, and it is laid as the text says or drawn -/
structure Lain (w : World) (D : Froz.SD) : Prop where
  ris : Ris D.2.2.place.toList
  led : w.params.followText "set-order" = true ∨ D.2.2.led = true
theorem lain_plain {w : World} {es : Array (Int × Value)} {n : Nat} {t : SetTable} (L : Lain w (es, n, t)) (b : Bool) : Lain w (es, n, { t with plain := b }) := ⟨L.1, L.2⟩
theorem lain_tail {w : World} {n : Nat} {es : Array (Int × Value)} {t : SetTable} {b : Bool} (L : Lain w (es, n, t)) : Lain w (Froz.tailTx n es t b) := by
  unfold Froz.tailTx
  by_cases c : (!b && t.tooFull) = true
  · rw [if_pos c]
    exact ⟨relayAll_ris t es _, L.led.imp id fun z => (relayAll_led t es _).trans z⟩
  · rw [if_neg c]
    exact ⟨L.1, L.2⟩
theorem lain_add {w : World} {D : Froz.SD} (h : Int) (v : Value) (L : Lain w D) : Lain w (Froz.addTx h v D) := by
  unfold Froz.addTx
  have r := layNew_ris D.2.2 D.1 h v L.ris
  have l := layNew_led D.2.2 D.1 h v
  have M : Lain w ((layNew D.2.2 D.1 h v).1, D.2.1, (layNew D.2.2 D.1 h v).2.1) := ⟨r, L.led.imp id fun z => l.trans z⟩
  refine lain_tail ?_
  by_cases c : (layNew D.2.2 D.1 h v).2.1.plain = true
  · rw [if_pos c]; exact lain_plain M false
  · rw [if_neg c]; exact ⟨M.1, M.2⟩
/-- the set at a holds the texts zs, each once -/
def SetZ (P : Program) (w : World) (h : Heap) (a : Addr) (zs : List Str) : Prop := ∃ D, h.get? a = some (Froz.sObj "set" D) ∧ Froz.TxOk P w D zs ∧ Lain w D ∧ zs.Nodup
section
variable {P : Program} {w : World} {A : Around} {E : Value → Shared → Prop} {s : Shared}
theorem SetZ.at {h h' : Heap} {a : Addr} {zs : List Str} (Z : SetZ P w h a zs) (k : ∀ o, h.get? a = some o → h'.get? a = some o) : SetZ P w h' a zs := by
  obtain ⟨D, e, r⟩ := Z
  exact ⟨D, k _ e, r⟩
/-- a text more -/
def put1 (zs : List Str) (z : Str) : List Str := if z ∈ zs then zs else z :: zs
theorem put1_mem {zs : List Str} {z y : Str} : y ∈ put1 zs z ↔ y = z ∨ y ∈ zs := by
  unfold put1
  by_cases c : z ∈ zs
  · rw [if_pos c]
    constructor
    · exact .inr
    · rintro (rfl | h)
      · exact c
      · exact h
  · rw [if_neg c]; exact List.mem_cons
theorem put1_len (zs : List Str) (z : Str) : (put1 zs z).length ≤ zs.length + 1 := by
  unfold put1
  split
  · omega
  · simp
theorem setZ_add {a : Addr} {zs : List Str} {z : Str} {u : Tok} {Q : Bool → Shared → Prop} (Z : SetZ P w s.heap a zs) (room : zs.length + 1 < scanBound)
    (q : ∀ b g, Heap.SameBut a s.heap g → SetZ P w g a (put1 zs z) → Q b { s with heap := g }) : wpAny (model P w) A (setAddHashed a (.str z u) (hashStr w z)) Q E s := by
  obtain ⟨D, e, T, L, nd⟩ := id Z
  by_cases c : z ∈ zs
  · obtain ⟨es, n, t⟩ := D
    have hm : ∃ x ∈ es.toList, (strKind P w).is z x.2 = true := (T.mem z).mp c
    have hel : ElemsOf (strKind P w) es.toList := T.el
    have hs : es.size = zs.length := T.sz
    have hf : t.fits es.size = true := T.fit
    have hd : (Froz.sObj "set" (es, n, t)).data = .set es n t := rfl
    have hk : (strKind P w).is z (.str z u) = true := Froz.is_str z u
    have hb : es.size < scanBound := by omega
    unfold setAddHashed setAddHashedIn
    refine wpAny_holding (wpAny_bind (wpAny_setState_of e hd hf ?_))
    dsimp only
    rw [byScan_of rfl hb hel, if_pos rfl]
    unfold setAddByScan
    refine wpAny_bind (wpAny_bind (wpAny_rule (wpAny_bind (wpAny_setScan_of (knd := strKind P w) (k := z) hk e hd hf hel ?_))))
    cases hr : List.findIdx? (fun x => (strKind P w).is z x.2) es.toList with
    | none =>
      obtain ⟨x, hx, px⟩ := hm
      have := List.findIdx?_eq_none_iff.mp hr x hx
      rw [px] at this
      cases this
    | some j =>
      refine wpAny_pure (wpAny_pure ?_)
      have e1 : put1 zs z = zs := if_pos c
      exact q _ s.heap (Heap.SameBut.refl a s.heap) (by rw [e1]; exact Z)
  · refine Froz.add_x e T c room (q _ _ (Heap.SameBut.update s.heap a _) ⟨_, Froz.get_upd _ e rfl, ?_, lain_add _ _ L, ?_⟩)
    · have e1 : put1 zs z = z :: zs := if_neg c
      rw [e1]; exact Froz.add_ok u T
    · have e1 : put1 zs z = z :: zs := if_neg c
      rw [e1]; exact List.nodup_cons.mpr ⟨c, nd⟩
/-- the texts of a list, each once -/
def distinct (ws : List Str) : List Str := ws.foldl put1 []
theorem distinct_mem {y : Str} : ∀ (ws zs : List Str), y ∈ ws.foldl put1 zs ↔ y ∈ zs ∨ y ∈ ws
  | [], zs => by simp
  | x :: r, zs => by
    rw [List.foldl_cons, distinct_mem r, put1_mem, List.mem_cons]
    constructor
    · rintro ((h | h) | h)
      · exact .inr (.inl h)
      · exact .inl h
      · exact .inr (.inr h)
    · rintro (h | h | h)
      · exact .inl (.inr h)
      · exact .inl (.inl h)
      · exact .inr h
theorem distinct_len : ∀ (ws zs : List Str), (ws.foldl put1 zs).length ≤ zs.length + ws.length
  | [], zs => by simp
  | x :: r, zs => by
    have a := distinct_len r (put1 zs x)
    have b := put1_len zs x
    rw [List.foldl_cons, List.length_cons]
    omega
theorem setZ_loop {I : Addr} {fp wr : List Addr} {G : Array GenState → Array GenState → Prop} {n : Nat} {Pv : Nat → Value → Prop} {St : Nat → Shared → Prop} {R : Result → Shared → Prop} {a : Addr} {ws : List Str}
    (W : WalksS P w A.in1 I fp wr G n Pv St) (out : a ∉ fp) (hn : n = ws.length) (few : ws.length + 1 < scanBound) (hv : ∀ i v, Pv i v → ∃ z u, ws[i]? = some z ∧ v = .str z u) :
    ∀ (m i : Nat) (s : Shared), m + i = n → St i s → SetZ P w s.heap a (distinct (ws.take i)) → (∀ s', Moved (a :: wr) G s s' → SetZ P w s'.heap a (distinct ws) → R (.ok (.ret .none)) s') →
      codeAny (model P w) A (.builtin "set.update.loop" ⟨[.ref a, .ref I], []⟩) R s
  | 0, i, s, hi, st, Z, q => by
    have ei : i = n := by omega
    subst ei
    have all : ws.take i = ws := List.take_of_length_le (by omega)
    rw [all] at Z
    refine codeAny_builtin F.entry_set_update_loop ?_
    rw [Around.under_plainId F.plain_set_update_loop _]
    show wpAny _ A.in1 (pyNext (.ref I) >>= _) _ _ _
    exact wpAny_bind (W.done s _ _ st fun s' m => wpAny_pure (q s' (m.mono fun b h => List.mem_cons_of_mem _ h) (Z.at fun o e => m.heap a o (fun h => out (W.sub _ h)) e)))
  | m + 1, i, s, hi, st, Z, q => by
    refine codeAny_builtin F.entry_set_update_loop ?_
    rw [Around.under_plainId F.plain_set_update_loop _]
    show wpAny _ A.in1 (pyNext (.ref I) >>= _) _ _ _
    refine wpAny_bind (W.item i s _ _ (by omega) st fun v s1 pv st1 mv => ?_)
    obtain ⟨z, u, ez, rfl⟩ := hv i v pv
    have Z1 := Z.at (h' := s1.heap) fun o e => mv.heap a o (fun h => out (W.sub _ h)) e
    show wpAny _ A.in1 (holding [Value.str z u] (setAdd a (.str z u)) >>= _) _ _ _
    refine wpAny_bind (wpAny_holding ?_)
    unfold setAdd
    refine wpAny_holding (wpAny_bind ((strKind P w).pyHash (Froz.is_str z u) ?_))
    have l1 := distinct_len (ws.take i) []
    rw [List.length_take] at l1
    refine setZ_add (s := { s1 with toks := s1.toks + 1 }) Z1 (by unfold distinct; simp only [List.length_nil] at l1; omega) fun b g sb Z2 => ?_
    have Z3 : SetZ P w g a (distinct (ws.take (i + 1))) := by
      have e2 : ws.take (i + 1) = ws.take i ++ [z] := by
        rw [List.take_add_one, ez]
        rfl
      rw [e2]
      unfold distinct
      rw [List.foldl_append]
      exact Z2
    refine wpAny_pure ⟨plainId_quiet F.plain_set_update_loop _, setZ_loop W out hn few hv m (i + 1) _ (by omega) (W.frame _ s1 _ _ st1 (Nat.le_succ _) fun b' hb o e => ?_) Z3 fun s2 m2 Z4 => q s2 (Moved.trans W.gtrans ((mv.mono fun b' h => List.mem_cons_of_mem _ h).then_heap (Nat.le_succ _) fun b' o hb e => ?_) m2) Z4⟩
    · exact (sb.2 b' fun h => out (by rw [← h]; exact hb)).trans e
    · exact (sb.2 b' fun h => hb (by rw [h]; exact List.mem_cons_self ..)).trans e
/-- a new set's object -/
def bareSet (w : World) : Obj := { cls := .type "set", dict := none, data := .set #[] 0 (.fresh 0 0 (!w.params.followText "set-order")) }
theorem bare_at {h : Heap} {a : Addr} (e : h.get? a = some (bareSet w)) : SetZ P w h a [] := by
  refine ⟨(#[], 0, .fresh 0 0 (!w.params.followText "set-order")), e, Froz.TxOk.nil rfl, ⟨List.Pairwise.nil, ?_⟩, List.nodup_nil⟩
  show _ ∨ (!w.params.followText "set-order") = true
  cases w.params.followText "set-order"
  · exact .inr rfl
  · exact .inl rfl
end
end Kx
/-! set(xs), sorted of it, its length. -/
namespace Kx
open PySem PySem.Spec PyProof.Rows L2
section
variable {P : Program} {w : World} {A : Around} {E : Value → Shared → Prop} {s : Shared}
theorem init_strs {b : Heap} {l : Addr} {its : Array Value} {ws : List Str} {R : Result → Shared → Prop} {n : Nat} {dd : Option Addr} {sl : Array (Option Value)} (calm : A.handled = none) (few : ws.length + 1 < scanBound) (r : StrsAre its.toList ws)
    (eb : s.heap.get? l = some { cls := .type "list", dict := dd, data := .seq its n, slots := sl }) (k : ∀ g tk, SetZ P w g s.heap.objs.size (distinct ws) → (∀ b o, s.heap.get? b = some o → g.get? b = some o) → R (.ok (.ret .none)) { s with heap := g, toks := tk }) :
    codeAny (model P w) A (.builtin "set.update.loop" ⟨[.ref s.heap.objs.size, .ref (s.heap.objs.size + 1)], []⟩) R
      { s with heap := (s.heap.push (bareSet w)).push { cls := .type "list_iterator", data := .fields #[.ref l, .int 0 0] } } := by
  have ll : l < s.heap.objs.size := Heap.lt_size eb
  have z1 : (s.heap.push (bareSet w)).objs.size = s.heap.objs.size + 1 := Heap.size_push ..
  have nl : l ≠ s.heap.objs.size + 1 := Nat.ne_of_lt (Nat.lt_succ_of_lt ll)
  have out : s.heap.objs.size ∉ [s.heap.objs.size + 1, l] := fun h => by
    rcases List.mem_cons.mp h with h | h
    · exact absurd h (Nat.ne_of_lt (Nat.lt_succ_self _))
    · exact absurd (List.mem_singleton.mp h) (Nat.ne_of_gt ll)
  have ln : its.size = ws.length := by
    have := StrsAre.length r
    rw [Array.length_toList] at this
    exact this
  have at0 : ((s.heap.push (bareSet w)).push { cls := .type "list_iterator", data := .fields #[.ref l, .int 0 0] }).get? (s.heap.objs.size + 1) = some { cls := .type "list_iterator", data := .fields #[.ref l, .int 0 0] } := by
    rw [← z1]
    exact Heap.get?_push_size _ rfl
  have it0 : Heap.IsListIter ((s.heap.push (bareSet w)).push { cls := .type "list_iterator", data := .fields #[.ref l, .int 0 0] }) (s.heap.objs.size + 1) l 0 := ⟨_, at0, rfl, rfl⟩
  have li0 : Heap.IsList ((s.heap.push (bareSet w)).push { cls := .type "list_iterator", data := .fields #[.ref l, .int 0 0] }) l its := ⟨_, Heap.get?_push_of_some _ (Heap.get?_push_of_some _ eb), rfl, n, rfl⟩
  refine setZ_loop (A := A) ((Walks.list (prog := P) (w := w) (A := A.in1) (by simp [calm]) (s.heap.objs.size + 1) l nl its).toS) out ln few (fun i v ev => ?_) its.size 0 _ (by omega) ⟨it0, li0⟩ (bare_at (Heap.get?_push_of_some _ (Heap.get?_push_size _ rfl))) fun s' mv Z => ?_
  · obtain ⟨u, e⟩ := SS.strs_at r i v (by rw [Array.getElem?_toList]; exact ev)
    have hi : i < ws.length := by rw [← ln]; exact (Array.getElem?_eq_some_iff.mp ev).1
    refine ⟨ws[i], u, List.getElem?_eq_getElem hi, ?_⟩
    rw [e, List.getD_eq_getElem?_getD, List.getElem?_eq_getElem hi] <;> rfl
  · have g0 : s'.gens = s.gens := mv.gens
    have d0 : s'.drawn = s.drawn := mv.drawn
    have o0 : s'.os = s.os := mv.os
    have e : s' = { s with heap := s'.heap, toks := s'.toks } := by
      obtain ⟨h', g', d', t', o'⟩ := s'
      dsimp only at g0 d0 o0
      subst g0 d0 o0
      rfl
    rw [e]
    refine k s'.heap s'.toks Z fun b o eo => mv.heap b o (fun h => ?_) (Heap.get?_push_of_some _ (Heap.get?_push_of_some _ eo))
    have lt := Heap.lt_size eo
    rcases List.mem_cons.mp h with h | h
    · exact absurd h (Nat.ne_of_lt lt)
    · exact absurd (List.mem_singleton.mp h) (Nat.ne_of_lt (Nat.lt_succ_of_lt lt))
end
section
variable {P : Program} {w : World} {A : Around} {E : Value → Shared → Prop} {s : Shared}
set_option maxHeartbeats 3200000 in
theorem call_setZ {l : Addr} {its : Array Value} {ws : List Str} {Q : Value → Shared → Prop} (calm : A.handled = none) (few : ws.length + 1 < scanBound) (r : StrsAre its.toList ws) (hl : s.heap.IsList l its)
    (q : ∀ g tk, SetZ P w g s.heap.objs.size (distinct ws) → (∀ b o, s.heap.get? b = some o → g.get? b = some o) → Q (.ref s.heap.objs.size) { s with heap := g, toks := tk }) : wpAny (model P w) A (call (.type "set") [.ref l]) Q E s := by
  obtain ⟨⟨oc, dd, od, sl⟩, e, ec, n, ed⟩ := hl
  change oc = .type "list" at ec
  change od = .seq its n at ed
  subst ec ed
  obtain ⟨c0, tl, mro⟩ := F.called_set.mro
  have made := F.called_set.made
  have self := F.called_set.sub
  have nty := F.called_set.notType
  have may := F.called_set.canCreate
  have tc := F.typeCall_set_1 (.ref l)
  refine wpAny_call (codeAny_of_tree ?_)
  show wpAny _ _ (callAny (.type "set") _) _ _ _
  refine wpAny_pure ⟨Code.quiet_builtin _ (by decide +kernel), codeAny_builtin F.entry_type_call ?_⟩
  rw [Around.under_plain (weight_type_call_type "set" [.ref l] []) rfl]
  repeat (any_goals (first | assumption | wp_step))
  refine codeAny_mono (code_set_led1 (.ref l) (E := E) (Q₁ := fun v s1 => v = .ref s.heap.objs.size ∧ s1 = { s with heap := s.heap.push (bareSet w) }) ⟨rfl, rfl⟩) fun x s1 hx => ?_
  match x, hx with
  | .error _, hx => exact hx
  | .ok (.ret v), hx =>
    obtain ⟨rfl, rfl⟩ := hx
    have ty : Shared.TypeIs { s with heap := s.heap.push (bareSet w) } (.ref s.heap.objs.size) "set" := ⟨_, Heap.get?_push_size _ rfl, rfl⟩
    have il := F.called_set.init.lookup
    have ib := F.called_set.init.bind (.ref s.heap.objs.size)
    repeat (any_goals (first | assumption | wp_step))
    refine codeAny_mono (codeAny_call_builtin (R := wants (fun v s2 => v = .none ∧ ∃ g tk, s2 = { s with heap := g, toks := tk } ∧ SetZ P w g s.heap.objs.size (distinct ws) ∧ (∀ b o, s.heap.get? b = some o → g.get? b = some o)) E)
      F.called_set.init.plain F.entry_set_init (check_set_init_1 ty ?_)) fun y s2 hy => ?_
    · have s1 := F.sub_list_set
      have s2 := F.sub_list_frozenset
      have nd : (Value.type "list" == Value.type "dict") = false := by decide
      have e1 : (s.heap.push (bareSet w)).get? l = some { cls := .type "list", dict := dd, data := .seq its n, slots := sl } := Heap.get?_push_of_some _ e
      have l1 : (s.heap.push (bareSet w)).IsList l its := ⟨_, e1, rfl, n, rfl⟩
      have z1 : (s.heap.push (bareSet w)).objs.size = s.heap.objs.size + 1 := Heap.size_push ..
      unfold Builtin.«set.__init__» noKeywords Builtin.Frozenset.updateFrom
      generalize hI : pyIter = IT
      wp_walk
      subst hI
      refine wpAny_pyIter_list l1 ?_
      refine wpAny_bind (wpAny_runValue ?_)
      rw [z1]
      refine init_strs (s := s) (n := n) (dd := dd) (sl := sl) (b := s.heap) ?_ few r e fun g tk Z kp => ?_
      · simp [calm]
      · refine wpAny_pure ?_
        show wpAny _ _ (ret Value.none) _ _ _
        exact wpAny_pure ⟨rfl, g, tk, rfl, Z, kp⟩
    · match y, hy with
      | .error _, hy => exact hy
      | .ok (.ret v), hy =>
        obtain ⟨rfl, g, tk, rfl, Z, kp⟩ := hy
        repeat (any_goals (first | assumption | wp_step))
        exact q g tk Z kp
      | .ok .next, hy => exact hy.elim
      | .ok (.brk), hy => exact hy.elim
      | .ok (.cont), hy => exact hy.elim
  | .ok .next, hx => exact hx.elim
  | .ok (.brk), hx => exact hx.elim
  | .ok (.cont), hx => exact hx.elim
end
end Kx
set_option maxHeartbeats 1000000
/-! the rules. -/
namespace Kx
open PySem PySem.Spec PyProof.Rows L2
/-- the set of the texts zs at a -/
def ZO (P : Program) (w : World) (a : Addr) (zs : List Str) : HO := .ext fun h => SetZ P w h a zs
theorem perm_all : ∀ {zs ks : List Str}, zs.Nodup → (∀ z ∈ zs, z ∈ ks) → ks.length ≤ zs.length → ks.Perm zs
  | [], ks, _, _, l => by
    have : ks = [] := List.eq_nil_of_length_eq_zero (by simpa using l)
    rw [this]
  | z :: r, ks, nd, sub, l => by
    obtain ⟨n1, n2⟩ := List.nodup_cons.mp nd
    have zk := sub z (List.mem_cons_self ..)
    have le := List.length_erase_of_mem zk
    have lp := List.length_pos_of_mem zk
    refine (List.perm_cons_erase zk).trans (List.Perm.cons z (perm_all n2 (fun y hy => ?_) ?_))
    · exact (List.mem_erase_of_ne fun e => n1 (by rw [← e]; exact hy)).mpr (sub y (List.mem_cons_of_mem _ hy))
    · rw [List.length_cons] at l; omega
theorem texts_of {P : Program} {w : World} : ∀ (l : List Value), (∀ v ∈ l, ∃ z u, v = Value.str z u) → ∃ ks, StrsAre l ks ∧ ∀ z, z ∈ ks ↔ ∃ v ∈ l, (strKind P w).is z v = true
  | [], _ => ⟨[], .nil, fun z => by simp⟩
  | v :: l, h => by
    obtain ⟨z, u, rfl⟩ := h v (List.mem_cons_self ..)
    obtain ⟨ks, r, m⟩ := texts_of l fun x hx => h x (List.mem_cons_of_mem _ hx)
    refine ⟨z :: ks, .cons z u r, fun y => ?_⟩
    have iy : (strKind P w).is y (.str z u) = true ↔ y = z := ⟨fun e => (strKind P w).inj (.str z u) y z e (Froz.is_str z u), fun e => by rw [e]; exact Froz.is_str z u⟩
    constructor
    · intro hy
      rcases List.mem_cons.mp hy with e | e
      · exact ⟨_, List.mem_cons_self .., iy.mpr e⟩
      · obtain ⟨x, hx, ix⟩ := (m y).mp e
        exact ⟨x, List.mem_cons_of_mem _ hx, ix⟩
    · rintro ⟨x, hx, ix⟩
      rcases List.mem_cons.mp hx with e | e
      · rw [e] at ix
        exact List.mem_cons.mpr (.inl (iy.mp ix))
      · exact List.mem_cons_of_mem _ ((m y).mpr ⟨x, e, ix⟩)
section
variable {X : Cx}
theorem strs_vals : ∀ {ys : List Str} {us : List Value}, Vals (ys.map V.str) us → StrsAre us ys
  | [], _, .nil => .nil
  | y :: ys, _, .cons r t => by
    obtain ⟨k, rfl⟩ := r
    exact .cons y k (strs_vals t)
def rSetZ (P : Program) (w : World) (K : PySem.W.Frag) : List V → Hp → VK → Prop := fun xs H Q => ∃ (l : Addr) (ws : List Str), xs = [.ref l] ∧ SqL K H l (ws.map V.str) ∧ ws.length ≤ 1000 ∧
  ∀ p zs, H p = none → zs.Nodup → (∀ z, z ∈ zs ↔ z ∈ ws) → zs.length ≤ ws.length → Q (.ref p) (upd H p (ZO P w p zs))
theorem cr_setZ (hc : X.calm = true) : CallR X (.type "set") (rSetZ X.prog X.w X.K) := by
  intro pins s σ H xs us Q I r h
  obtain ⟨l, ws, rfl, hS, few, q⟩ := h
  obtain ⟨its, rv, pl, _⟩ := I.list hS
  rw [Vals.ref1 r]
  refine call_setZ (ws := ws) (I.ok.hd hc) (by unfold scanBound; omega) (by simpa using strs_vals rv) pl.isList fun g tk Z kp => ?_
  have Z0 := Z
  obtain ⟨D, e, T, L, nd⟩ := Z
  have J : Inv X pins σ (upd H s.heap.objs.size (ZO X.prog X.w s.heap.objs.size (distinct ws))) { s with heap := g, toks := tk } :=
    I.laid (t' := tk) kp (Nat.le_refl _) ⟨Z0, ⟨_, e⟩, fun h1 h2 p k => SetZ.at p k⟩
  refine ⟨.ref s.heap.objs.size, _, J, rfl, q _ _ (I.hok.fresh (Nat.le_refl _)) nd (fun z => ?_) ?_⟩
  · unfold distinct
    rw [distinct_mem]
    simp
  · have := distinct_len ws []
    unfold distinct
    simpa using this
theorem setZ_get {pins : List (Addr × Obj)} {σ : L2.St} {H : Hp} {s : Shared} {a : Addr} {zs : List Str} (I : Inv X pins σ H s) (e : H a = some (ZO X.prog X.w a zs)) : SetZ X.prog X.w s.heap a zs := (I.hok a _ e).1
def rSortZ (P : Program) (w : World) : List V → Hp → VK → Prop := fun vs H Q => ∃ (a : Addr) (zs : List Str), vs = [.ref a] ∧ H a = some (ZO P w a zs) ∧ zs.length < 64 ∧
  ∀ (ys : List Str) (p : Addr), ys.Perm zs → sortedS ys = true → H p = none → Q (.ref p) (upd H p (.lst (ys.map V.str)))
theorem cr_sortZ (hc : X.calm = true) : CallR X (.builtin "sorted") (rSortZ X.prog X.w) := by
  intro pins s σ H vs us Q I r h
  obtain ⟨a, zs, rfl, ha, h64, q⟩ := h
  obtain ⟨⟨es, ep, t⟩, e, T, L, nd⟩ := setZ_get I ha
  have sz : es.size = zs.length := T.sz
  rw [Vals.ref1 r]
  refine Calls.call_function_entry PyProof.Rows.kind_sorted PyProof.Rows.plain_sorted PyProof.Rows.entry_sorted (PyProof.Rows.args_sorted1 _) ?_
  unfold Builtin.«sorted»
  refine wpAny_bind (m := checkCount "sorted" 1 1 _) (wpAny_pure ?_)
  refine wpAny_bind (collect_set (A := X.A.in1) (I.ok.hd hc) ⟨_, e, rfl, rfl⟩ T.fit (by show es.size < scanBound; unfold scanBound; omega) L.ris L.led fun s1 out kp _ g1 o1 pm => ?_)
  have good : ∀ v ∈ out, ∃ z u, v = Value.str z u := fun v hv => by
    obtain ⟨x, hx, rfl⟩ := List.mem_map.mp (pm.mem_iff.mp hv)
    obtain ⟨⟨k, ek, _⟩, _⟩ := T.el x hx
    obtain ⟨u, ev⟩ := Value.isStrOf_shape (x := k) (v := x.2) ek
    exact ⟨k, u, ev⟩
  obtain ⟨ks, rk, mk⟩ := texts_of (P := X.prog) (w := X.w) out good
  have lo : out.length = zs.length := by rw [pm.length_eq, List.length_map, Array.length_toList]; exact sz
  have lk : ks.length = out.length := (StrsAre.length rk).symm
  have pk : ks.Perm zs := perm_all nd (fun z hz => by
    obtain ⟨x, hx, ix⟩ := (T.mem z).mp hz
    exact (mk z).mpr ⟨x.2, pm.mem_iff.mpr (List.mem_map.mpr ⟨x, hx, rfl⟩), ix⟩) (by omega)
  have e1 : s1 = { s with heap := s1.heap, gens := s1.gens, drawn := s1.drawn, toks := s1.toks } := by
    cases s1
    cases s
    cases o1
    rfl
  refine wpAny_bind (wpAny_newList ?_ (by rw [lo, sizeLine_eq]; omega))
  have at1 : (s1.heap.push (seqObj "list" out.toArray 0)).get? s1.heap.objs.size = some (seqObj "list" out.toArray 0) := Heap.get?_push_size _ rfl
  refine wpAny_bind (wpAny_holding (wpAny_call_entry slot_list_sort ⟨_, at1, rfl⟩ entry_list_sort
    (list_sort_treeK strKind_oneLt (s := { s1 with heap := s1.heap.push (seqObj "list" out.toArray 0) }) at1 rk.keysOf (fun x y rest eq => keyKind_strs (by rw [← eq]; exact rk)) (by rw [lo]; exact h64) fun st hp hs => ⟨_, rfl, ?_⟩) (args_list_sort _)))
  obtain ⟨ys, y1, y2, y3⟩ := sorted_out_str rk hp hs
  obtain ⟨n2, at2⟩ := sortedHeap_at (vs := out) (out := (arrOf st).map (·.2)) at1
  have ly : (ys.map V.str).length ≤ sizeLine := by
    rw [List.length_map, y2.length_eq, lk, lo]
    exact Nat.le_trans (Nat.le_of_lt h64) (by decide)
  have le : s.heap.objs.size ≤ s1.heap.objs.size := by assumption
  have hn : H s1.heap.objs.size = none := I.hok.fresh le
  have kp2 : ∀ b o, s.heap.get? b = some o → (sortedHeap (s1.heap.push (seqObj "list" out.toArray 0)) s1.heap.objs.size out ((arrOf st).map (·.2))).get? b = some o := fun b o eb => by
    have z := kp b o eb
    have lt := Heap.lt_size z
    rw [sortedHeap_old (Nat.ne_of_lt lt) (by rw [size_push']; exact Nat.lt_succ_of_lt lt)]
    exact Heap.get?_push_of_some _ z
  have J : Inv X pins σ (upd H s1.heap.objs.size (.lst (ys.map V.str))) { s1 with heap := sortedHeap (s1.heap.push (seqObj "list" out.toArray 0)) s1.heap.objs.size out ((arrOf st).map (·.2)) } := by
    have J0 : Inv X pins σ (upd H s1.heap.objs.size (.lst (ys.map V.str))) { s with heap := sortedHeap (s1.heap.push (seqObj "list" out.toArray 0)) s1.heap.objs.size out ((arrOf st).map (·.2)), gens := s1.gens, drawn := s1.drawn, toks := s1.toks } :=
      I.call (ch := []) (Un.laid kp2 le hn) (I.hok.laid kp2 le ⟨ly, ((arrOf st).map (·.2)).toList, n2, vals_of_strs y1, by rw [Array.toArray_toList]; exact at2⟩) (by rw [g1]; exact I.bare) (fun _ z => nomatch z)
    rw [e1]
    exact J0
  exact wpAny_pure ⟨_, rfl, .ref s1.heap.objs.size, _, J, rfl, q ys _ (y2.trans pk) y3 hn⟩
/-- a part of a tuple, told as an object that stands as it is -/
def rSlF (K : PySem.W.Frag) : V → Option Int → Option Int → Hp → VK → Prop := fun x lo hi H Q => ∃ a xs, x = .ref a ∧ SqT K H a xs ∧
  ¬ (HT.sIx xs.length 0 lo = 0 ∧ HT.sIx xs.length xs.length hi = xs.length) ∧ ∀ p (o : Obj), H p = none → o.dict = none → o.slots = #[] → Q (.ref p) (upd H p (.frz o (.tup (cutV xs lo hi))))
theorem sl_tupF : SlR X (rSlF X.K) := by
  intro pins s σ H x v vl vu lo hi sl Q I rx hs pl pu h
  obtain ⟨a, xs, rfl, e, no, q⟩ := h
  cases rx
  obtain ⟨its, r, ht, hz⟩ := I.tuple e
  have ln : its.toArray.size = xs.length := by rw [List.size_toArray]; exact r.length.symm
  refine ⟨"tuple", _, PyProof.Rows.slot_tuple_getitem.lookup, ht.typeIs, HT.getItem_tuple_cut ht hs pl pu (by rw [ln]; exact no) ?_ (by rw [ln]; exact hz)⟩
  rw [ln]
  refine ⟨.ref s.heap.objs.size, _, I.laid (t' := s.toks) (o := .frz { cls := .type "tuple", data := .seq ((its.drop (HT.sIx xs.length 0 lo)).take (HT.sIx xs.length xs.length hi - HT.sIx xs.length 0 lo)).toArray } (.tup (cutV xs lo hi))) (fun b ob q => Heap.get?_push_of_some _ q) (Nat.le_refl _) ?_, rfl, q _ _ (I.hok.fresh (Nat.le_refl _)) rfl rfl⟩
  exact ⟨Heap.get?_push_size _ rfl, Nat.le_trans (cutV_length xs lo hi) hz, _, (r.drop (HT.sIx xs.length 0 lo)).take (HT.sIx xs.length xs.length hi - HT.sIx xs.length 0 lo), IsTup.new _ _⟩
/-- tuple(xs), inside a comprehension -/
def rTupOf (K : PySem.W.Frag) : List V → Hp → VK → Prop := fun xs H Q => ∃ p ys, xs = [V.ref p] ∧ ((SqL K H p ys ∧ ∀ (l : Addr), H l = none → Q (V.ref l) (upd H l (HO.tup ys))) ∨ SqT K H p ys ∧ Q (V.ref p) H)
theorem tupOfK {K : PySem.W.Frag} (h : X.K = K := by rfl) : CallR X (.type "tuple") (rTupOf K) := by
  subst h
  exact call_tuple_of
end
end Kx
/-! The mathematics: data, terms, names, nodes, what patterns take, calls. -/
namespace Kx
open PySem PySem.Spec PyProof.Rows L2
inductive PV where
  | str (z : Str)
  | int (i : Int)
  | tup (xs : List PV)
mutual
/-- how deep it is -/
def dep : PV → Nat
  | .str _ => 1
  | .int _ => 1
  | .tup ts => 1 + depL ts
def depL : List PV → Nat
  | [] => 0
  | t :: r => max (dep t) (depL r)
end
theorem dep_pos : ∀ t : PV, 1 ≤ dep t
  | .str _ => by simp [dep]
  | .int _ => by simp [dep]
  | .tup ts => by simp [dep]
theorem depL_mem : ∀ {l : List PV} {t : PV}, t ∈ l → dep t ≤ depL l
  | a :: r, t, h => by
    rcases List.mem_cons.mp h with rfl | h
    · simp only [depL]; omega
    · have := depL_mem h
      simp only [depL]; omega
theorem depL_le {l : List PV} {c : Nat} (h : ∀ t ∈ l, dep t ≤ c) : depL l ≤ c := by
  induction l with
  | nil => simp [depL]
  | cons a r ih =>
    have h1 := h a (List.mem_cons_self ..)
    have h2 := ih fun t ht => h t (List.mem_cons_of_mem _ ht)
    simp only [depL]; omega
mutual
/-- how many things it has -/
def cnt : PV → Nat
  | .str _ => 1
  | .int _ => 1
  | .tup ts => 1 + cntL ts
def cntL : List PV → Nat
  | [] => 0
  | t :: r => cnt t + cntL r
end
theorem cnt_pos : ∀ t : PV, 1 ≤ cnt t
  | .str _ => by simp [cnt]
  | .int _ => by simp [cnt]
  | .tup ts => by simp [cnt]
theorem cntL_mem : ∀ {l : List PV} {t : PV}, t ∈ l → cnt t ≤ cntL l
  | a :: r, t, h => by
    rcases List.mem_cons.mp h with rfl | h
    · simp [cntL]
    · have := cntL_mem h
      simp only [cntL]; omega
theorem cntL_len : ∀ l : List PV, l.length ≤ cntL l
  | [] => by simp [cntL]
  | a :: r => by
    have := cntL_len r
    have := cnt_pos a
    simp only [cntL, List.length_cons]; omega
theorem cntL_append : ∀ a b : List PV, cntL (a ++ b) = cntL a + cntL b
  | [], b => by simp [cntL]
  | x :: r, b => by
    have := cntL_append r b
    simp only [List.cons_append, cntL, this]; omega
theorem cntL_reverse : ∀ a : List PV, cntL a.reverse = cntL a
  | [] => rfl
  | x :: r => by
    have := cntL_reverse r
    simp only [List.reverse_cons, cntL_append, cntL, this]; omega
/-! ### names -/
def add1 (f : List Str) (x : Str) : List Str := if x ∈ f then f else f ++ [x]
def dd (f ys : List Str) : List Str := ys.foldl add1 f
def addN (f ys : List Str) : List Str := f ++ ys.filter fun y => decide (y ∉ f)
theorem dd_snoc (f ys : List Str) (x : Str) : dd f (ys ++ [x]) = add1 (dd f ys) x := by simp [dd]
theorem dd_append (f a b : List Str) : dd f (a ++ b) = dd (dd f a) b := by simp [dd]
theorem snoc_induct {α : Type} {P : List α → Prop} (h0 : P []) (h1 : ∀ l x, P l → P (l ++ [x])) (l : List α) : P l := by
  have : ∀ r : List α, P r.reverse := by
    intro r
    induction r with
    | nil => exact h0
    | cons x r ih => rw [List.reverse_cons]; exact h1 _ _ ih
  have := this l.reverse
  rwa [List.reverse_reverse] at this
theorem dd_eq (f ys : List Str) : dd f ys = addN f (dd [] ys) := by
  refine snoc_induct (P := fun ys => dd f ys = addN f (dd [] ys)) ?_ ?_ ys
  · simp [dd, addN]
  · intro l x ih
    rw [dd_snoc, dd_snoc, ih]
    by_cases hx : x ∈ dd [] l
    · have h1 : x ∈ addN f (dd [] l) := by
        by_cases hf : x ∈ f
        · exact List.mem_append_left _ hf
        · exact List.mem_append_right _ (List.mem_filter.mpr ⟨hx, by simp [hf]⟩)
      simp only [add1, if_pos hx, if_pos h1]
    · by_cases hf : x ∈ f
      · have h1 : x ∈ addN f (dd [] l) := List.mem_append_left _ hf
        rw [add1, if_pos h1, add1, if_neg hx]
        simp [addN, List.filter_append, hf]
      · have h1 : x ∉ addN f (dd [] l) := by
          intro h
          rcases List.mem_append.mp h with h | h
          · exact hf h
          · exact hx (List.mem_filter.mp h).1
        rw [add1, if_neg h1, add1, if_neg hx]
        simp [addN, List.filter_append, hf, List.append_assoc]
mutual
/-- the names as they stand, from the left -/
def lv : PV → List Str
  | .str z => [z]
  | .int _ => []
  | .tup [] => []
  | .tup (_ :: r) => lvL r
def lvL : List PV → List Str
  | [] => []
  | t :: r => lv t ++ lvL r
end
theorem lvL_append : ∀ a b : List PV, lvL (a ++ b) = lvL a ++ lvL b
  | [], b => by simp [lvL]
  | x :: r, b => by simp only [List.cons_append, lvL, lvL_append r b, List.append_assoc]
/-- each name once -/
def nms (t : PV) : List Str := dd [] (lv t)
def nmsL (f : List Str) (l : List PV) : List Str := l.foldl (fun f t => addN f (nms t)) f
theorem nmsL_eq : ∀ (l : List PV) (f : List Str), nmsL f l = dd f (lvL l)
  | [], f => rfl
  | t :: r, f => by
    show nmsL (addN f (nms t)) r = _
    rw [nmsL_eq r, nms, ← dd_eq]
    simp only [lvL, dd_append]
theorem nms_tup (x : PV) (r : List PV) : nms (.tup (x :: r)) = nmsL [] r := by
  rw [nmsL_eq]; rfl
theorem add1_len (f : List Str) (x : Str) : (add1 f x).length ≤ f.length + 1 := by
  unfold add1; split <;> simp
theorem dd_len : ∀ (ys f : List Str), (dd f ys).length ≤ f.length + ys.length
  | [], f => Nat.le_refl _
  | y :: r, f => by
    have h1 := dd_len r (add1 f y)
    have h2 := add1_len f y
    show (dd (add1 f y) r).length ≤ _
    rw [List.length_cons]; omega
mutual
theorem lv_len : ∀ t : PV, (lv t).length ≤ cnt t
  | .str _ => by simp [lv, cnt]
  | .int _ => by simp [lv]
  | .tup [] => by simp [lv]
  | .tup (x :: r) => by
    have := lvL_len r
    simp only [lv, cnt, cntL]; omega
theorem lvL_len : ∀ l : List PV, (lvL l).length ≤ cntL l
  | [] => by simp [lvL]
  | t :: r => by
    have := lv_len t
    have := lvL_len r
    simp only [lvL, cntL, List.length_append]; omega
end
theorem nms_len (t : PV) : (nms t).length ≤ cnt t := by
  have := dd_len (lv t) []
  have := lv_len t
  simp only [nms]; simp at *; omega
theorem addN_len (f ys : List Str) : (addN f ys).length ≤ f.length + ys.length := by
  have := List.length_filter_le (fun y => decide (y ∉ f)) ys
  simp only [addN, List.length_append]; omega
mutual
/-- the shape of a term: a text, or a tuple of a text and terms -/
def Tm : PV → Prop
  | .str _ => True
  | .int _ => False
  | .tup [] => False
  | .tup (.int _ :: _) => False
  | .tup (.tup _ :: _) => False
  | .tup (.str _ :: r) => TmL r
def TmL : List PV → Prop
  | [] => True
  | t :: r => Tm t ∧ TmL r
end
theorem TmL_mem : ∀ {l : List PV}, (∀ t ∈ l, Tm t) → TmL l
  | [], _ => trivial
  | t :: r, h => ⟨h t (List.mem_cons_self ..), TmL_mem fun x hx => h x (List.mem_cons_of_mem _ hx)⟩
theorem mem_TmL : ∀ {l : List PV}, TmL l → ∀ t ∈ l, Tm t
  | a :: r, h, t, ht => by
    rcases List.mem_cons.mp ht with rfl | ht
    · exact h.1
    · exact mem_TmL h.2 t ht
theorem cnt_cons (w : Str) (ts : List PV) : cnt (.tup (.str w :: ts)) = 2 + cntL ts := by simp only [cnt, cntL]; omega
theorem dep_cons (w : Str) (ts : List PV) : dep (.tup (.str w :: ts)) = 1 + max 1 (depL ts) := by simp only [dep, depL]
mutual
/-- the words of its nodes -/
def nw : PV → List Str
  | .str _ => []
  | .int _ => []
  | .tup [] => []
  | .tup (.int _ :: _) => []
  | .tup (.tup _ :: _) => []
  | .tup (.str w :: r) => w :: nwL r
def nwL : List PV → List Str
  | [] => []
  | t :: r => nw t ++ nwL r
end
theorem nwL_append : ∀ a b : List PV, nwL (a ++ b) = nwL a ++ nwL b
  | [], b => by simp [nwL]
  | x :: a, b => by simp only [List.cons_append, nwL, nwL_append a b, List.append_assoc]
theorem nwL_mem {z : Str} : ∀ {l : List PV}, z ∈ nwL l ↔ ∃ t ∈ l, z ∈ nw t
  | [] => by simp [nwL]
  | a :: r => by simp only [nwL, List.mem_append, nwL_mem (l := r), List.mem_cons, exists_eq_or_imp]
mutual
theorem nw_len : ∀ t : PV, (nw t).length ≤ cnt t
  | .str _ => by simp [nw]
  | .int _ => by simp [nw]
  | .tup [] => by simp [nw]
  | .tup (.int _ :: _) => by simp [nw]
  | .tup (.tup _ :: _) => by simp [nw]
  | .tup (.str w :: r) => by
    have := nwL_len r
    simp only [nw, cnt, cntL, List.length_cons]; omega
theorem nwL_len : ∀ l : List PV, (nwL l).length ≤ cntL l
  | [] => by simp [nwL]
  | t :: r => by
    have := nw_len t
    have := nwL_len r
    simp only [nwL, cntL, List.length_append]; omega
end
/-- the makers and how many parts each has -/
def KA : List (Str × Nat) := [("K0", 0), ("K1", 1), ("K2", 2), ("K3", 1)]
mutual
/-- a term over the makers -/
def Ap : PV → Prop
  | .str _ => True
  | .int _ => False
  | .tup [] => False
  | .tup (.int _ :: _) => False
  | .tup (.tup _ :: _) => False
  | .tup (.str w :: r) => (w, r.length) ∈ KA ∧ ApL r
def ApL : List PV → Prop
  | [] => True
  | t :: r => Ap t ∧ ApL r
end
theorem ApL_mem : ∀ {l : List PV}, (∀ t ∈ l, Ap t) → ApL l
  | [], _ => trivial
  | t :: r, h => ⟨h t (List.mem_cons_self ..), ApL_mem fun x hx => h x (List.mem_cons_of_mem _ hx)⟩
theorem mem_ApL : ∀ {l : List PV}, ApL l → ∀ t ∈ l, Ap t
  | a :: r, h, t, ht => by
    rcases List.mem_cons.mp ht with rfl | ht
    · exact h.1
    · exact mem_ApL h.2 t ht
mutual
theorem ap_tm : ∀ {t : PV}, Ap t → Tm t
  | .str _, _ => trivial
  | .int _, h => h.elim
  | .tup [], h => h.elim
  | .tup (.int _ :: _), h => h.elim
  | .tup (.tup _ :: _), h => h.elim
  | .tup (.str w :: r), h => apL_tm h.2
theorem apL_tm : ∀ {l : List PV}, ApL l → TmL l
  | [], _ => trivial
  | t :: r, h => ⟨ap_tm h.1, apL_tm h.2⟩
end
theorem KA_len {w : Str} {n m : Nat} (h : (w, n) ∈ KA) (g : (w, m) ∈ KA) : n = m := by
  have key : ∀ p ∈ KA, ∀ q ∈ KA, p.1 = q.1 → p.2 = q.2 := by decide +kernel
  exact key _ h _ g rfl
theorem KA_two {w : Str} {n : Nat} (h : (w, n) ∈ KA) : n ≤ 2 := by
  have key : ∀ p ∈ KA, p.2 ≤ 2 := by decide +kernel
  exact key _ h
/-! ### what a pattern takes -/
abbrev AL := List (Str × PV)
def get (al : AL) (z : Str) : Option PV := (al.find? fun kv => kv.1 == z).map (·.2)
mutual
def mt : PV → PV → Option AL
  | .str z, v => some [(z, v)]
  | .tup (.str w :: ps), .tup (.str u :: vs) => if w = u then mtL ps vs else none
  | _, _ => none
def mtL : List PV → List PV → Option AL
  | p :: ps, v :: vs => match mt p v with
    | none => none
    | some a => match mtL ps vs with
      | none => none
      | some b => some (a ++ b)
  | _, _ => some []
end
/-! ### functions -/
structure Cl where
  ps : List PV
  body : PV
structure Fn where
  w : Str
  np : Nat
  at_ : Int
  cls : List Cl
def clPV (c : Cl) : PV := .tup [.tup c.ps, c.body]
def fnPV (f : Fn) : PV := .tup [.str f.w, .tup (List.replicate f.np (.tup [.str "Fa", .str "a"])), .str "Fa", .str "a", .int f.at_, .tup (f.cls.map clPV)]
def progPV (fs : List Fn) : PV := .tup [.str "program", .tup (fs.map fnPV)]
def PatG (t : PV) : Prop := Ap t ∧ dep t ≤ 3 ∧ cnt t ≤ 10
structure ClG (np : Nat) (c : Cl) : Prop where
  len : c.ps.length = np
  pat : ∀ p ∈ c.ps, PatG p
  nms : (lvL c.ps).Nodup
  body : Tm c.body ∧ dep c.body ≤ 5 ∧ cnt c.body ≤ 62
structure FnG (f : Fn) : Prop where
  np : 1 ≤ f.np ∧ f.np ≤ 2
  few : f.cls.length ≤ 2
  cl : ∀ c ∈ f.cls, ClG f.np c
structure ProgG (fs : List Fn) : Prop where
  nd : (fs.map Fn.w).Nodup
  len : 1 ≤ fs.length ∧ fs.length ≤ 4
  fn : ∀ f ∈ fs, FnG f
  oth : ("other" : Str) ∉ fs.map Fn.w
/-- z calls y -/
def Call (fs : List Fn) (z y : Str) : Prop := y ∈ fs.map Fn.w ∧ ∃ f ∈ fs, f.w = z ∧ ∃ c ∈ f.cls, y ∈ nw c.body
inductive Reach (fs : List Fn) (z : Str) : Str → Prop
  | one {y : Str} (h : Call fs z y) : Reach fs z y
  | more {y x : Str} (h : Reach fs z y) (g : Call fs y x) : Reach fs z x
theorem reach_in {fs : List Fn} {z : Str} {S : List Str} (h0 : ∀ y, Call fs z y → y ∈ S) (h1 : ∀ x ∈ S, ∀ y, Call fs x y → y ∈ S) : ∀ {y : Str}, Reach fs z y → y ∈ S
  | _, .one h => h0 _ h
  | _, .more h g => h1 _ (reach_in h0 h1 h) _ g
theorem reach_word {fs : List Fn} {z y : Str} (h : Reach fs z y) : y ∈ fs.map Fn.w := by
  cases h with
  | one h => exact h.1
  | more _ g => exact g.1
theorem nodup_len : ∀ {l W : List Str}, l.Nodup → (∀ z ∈ l, z ∈ W) → l.length ≤ W.length
  | [], _, _, _ => Nat.zero_le _
  | z :: r, W, h, s => by
    obtain ⟨n1, n2⟩ := List.nodup_cons.mp h
    have zW := s z (List.mem_cons_self ..)
    have ih := nodup_len (l := r) (W := W.erase z) n2 fun y hy => (List.mem_erase_of_ne (fun e => n1 (by rw [← e]; exact hy))).mpr (s y (List.mem_cons_of_mem _ hy))
    rw [List.length_erase_of_mem zW] at ih
    have := List.length_pos_of_mem zW
    rw [List.length_cons]; omega
/-! ### the order of texts -/
theorem rising_pair : ∀ (l : List Str) (p : Str), risingS p l = true → (p :: l).Pairwise fun a b => a.cps.toList ≤ b.cps.toList
  | [], p, _ => List.pairwise_singleton ..
  | x :: r, p, h => by
    have h' : (!ltCps x.cps.toList p.cps.toList && risingS x r) = true := h
    rw [Bool.and_eq_true, ltCps_eq] at h'
    have ih := rising_pair r x h'.2
    have px : p.cps.toList ≤ x.cps.toList := by
      have := h'.1
      simpa using this
    refine List.pairwise_cons.mpr ⟨fun y hy => ?_, ih⟩
    rcases List.mem_cons.mp hy with rfl | hy
    · exact px
    · exact List.le_trans px ((List.pairwise_cons.mp ih).1 y hy)
theorem sorted_pair : ∀ (l : List Str), sortedS l = true → l.Pairwise fun a b => a.cps.toList ≤ b.cps.toList
  | [], _ => .nil
  | x :: r, h => rising_pair r x h
theorem str_ext {a b : Str} (h : a.cps.toList = b.cps.toList) : a = b := by
  cases a; cases b
  congr 1
  exact Array.toList_inj.mp h
theorem sorted_one {ys zs : List Str} (p : ys.Perm zs) (s1 : sortedS ys = true) (s2 : sortedS zs = true) : ys = zs :=
  List.Perm.eq_of_pairwise (fun _ _ _ _ h1 h2 => str_ext (List.le_antisymm h1 h2)) (sorted_pair ys s1) (sorted_pair zs s2) p
/-- two sorted lists of the same texts, each once -/
theorem sorted_same {ys zs : List Str} (n1 : ys.Nodup) (n2 : zs.Nodup) (s1 : sortedS ys = true) (s2 : sortedS zs = true) (h : ∀ z, z ∈ ys ↔ z ∈ zs) : ys = zs :=
  sorted_one (perm_all n2 (fun z hz => (h z).mpr hz) (nodup_len n1 fun z hz => (h z).mp hz)) s1 s2
end Kx
/-! The heap: what stands for a tree; the promises of the defs. -/
namespace Kx
open PySem PySem.Spec PyProof.Rows L2
/-- all its signs are signs -/
abbrev sok (z : Str) : Bool := PyData.strOk z
mutual
/-- the value v stands for the tree -/
inductive Is (H : Hp) : V → PV → Prop
  | str (z : Str) (ok : sok z = true) : Is H (.str z) (.str z)
  | int (i : Int) : Is H (.int i) (.int i)
  | tup {a : Addr} {vs : List V} {ts : List PV} (e : H a = some (.tup vs)) (h : IsL H vs ts) : Is H (.ref a) (.tup ts)
inductive IsL (H : Hp) : List V → List PV → Prop
  | nil : IsL H [] []
  | cons {v : V} {vs : List V} {t : PV} {ts : List PV} (h : Is H v t) (r : IsL H vs ts) : IsL H (v :: vs) (t :: ts)
end
/-- all tuples stand -/
def Tk (H H' : Hp) : Prop := ∀ a vs, H a = some (.tup vs) → H' a = some (.tup vs)
theorem Tk.of {H H' : Hp} (s : Same H H') : Tk H H' := fun a vs e => s _ _ e
theorem Tk.refl (H : Hp) : Tk H H := fun _ _ e => e
theorem Tk.trans {H H1 H2 : Hp} (x : Tk H H1) (y : Tk H1 H2) : Tk H H2 := fun a vs e => y _ _ (x _ _ e)
mutual
theorem Is.tk {H H' : Hp} (x : Tk H H') : ∀ {v : V} {t : PV}, Is H v t → Is H' v t
  | _, _, .str z k => .str z k
  | _, _, .int i => .int i
  | _, _, .tup e h => .tup (x _ _ e) (IsL.tk x h)
theorem IsL.tk {H H' : Hp} (x : Tk H H') : ∀ {v : List V} {t : List PV}, IsL H v t → IsL H' v t
  | _, _, .nil => .nil
  | _, _, .cons h r => .cons (Is.tk x h) (IsL.tk x r)
end
theorem Is.same {H H' : Hp} (x : Same H H') {v : V} {t : PV} (h : Is H v t) : Is H' v t := h.tk (.of x)
theorem IsL.same {H H' : Hp} (x : Same H H') {v : List V} {t : List PV} (h : IsL H v t) : IsL H' v t := h.tk (.of x)
theorem same_upd {H : Hp} {p : Addr} (h : H p = none) (o : HO) : Same H (upd H p o) := fun b u e => by rw [upd_ne (ne_of_none e h)]; exact e
theorem IsL.len {H : Hp} : ∀ {v : List V} {t : List PV}, IsL H v t → v.length = t.length
  | _, _, .nil => rfl
  | _, _, .cons _ r => by simp [IsL.len r]
theorem IsL.get {H : Hp} : ∀ {v : List V} {t : List PV}, IsL H v t → ∀ {i : Nat} {x : V}, v[i]? = some x → ∃ y, t[i]? = some y ∧ Is H x y
  | _, _, .nil, i, x, h => by simp at h
  | _, _, .cons h r, 0, x, e => by cases (Option.some.inj e); exact ⟨_, rfl, h⟩
  | _, _, .cons h r, i + 1, x, e => IsL.get r (by simpa using e)
theorem IsL.append {H : Hp} : ∀ {v : List V} {t : List PV} {v' : List V} {t' : List PV}, IsL H v t → IsL H v' t' → IsL H (v ++ v') (t ++ t')
  | _, _, _, _, .nil, h => h
  | _, _, _, _, .cons a r, h => .cons a (r.append h)
theorem IsL.take {H : Hp} : ∀ (n : Nat) {v : List V} {t : List PV}, IsL H v t → IsL H (v.take n) (t.take n)
  | 0, _, _, _ => .nil
  | n + 1, _, _, .nil => .nil
  | n + 1, _, _, .cons a r => .cons a (r.take n)
theorem IsL.drop {H : Hp} : ∀ (n : Nat) {v : List V} {t : List PV}, IsL H v t → IsL H (v.drop n) (t.drop n)
  | 0, _, _, h => h
  | n + 1, _, _, .nil => .nil
  | n + 1, _, _, .cons a r => r.drop n
theorem IsL.reverse {H : Hp} : ∀ {v : List V} {t : List PV}, IsL H v t → IsL H v.reverse t.reverse
  | _, _, .nil => .nil
  | _, _, .cons a r => by simp only [List.reverse_cons]; exact r.reverse.append (.cons a .nil)
theorem IsL.snoc_inv {H : Hp} {v : List V} {t : List PV} {x : V} (h : IsL H v t) (e : v[v.length - 1]? = some x) (hn : v ≠ []) : ∃ ts y, t = ts ++ [y] ∧ Is H x y ∧ IsL H v.dropLast ts := by
  have hl := h.len
  have hv : 0 < v.length := by cases v with | nil => exact absurd rfl hn | cons _ _ => simp
  obtain ⟨y, e2, hy⟩ := h.get e
  refine ⟨t.take (t.length - 1), y, ?_, hy, ?_⟩
  · have : t.length - 1 < t.length := by omega
    have e3 : t[t.length - 1]'this = y := by
      rw [hl, List.getElem?_eq_getElem this] at e2
      exact Option.some.inj e2
    have h2 := List.take_append_drop (t.length - 1) t
    have h3 : t.drop (t.length - 1) = [y] := by
      rw [List.drop_eq_getElem_cons this, e3, List.drop_eq_nil_of_le (by omega)]
    rw [h3] at h2
    exact h2.symm
  · rw [List.dropLast_eq_take, hl]
    exact h.take _
theorem Is.str_inv {H : Hp} {v : V} {z : Str} (h : Is H v (.str z)) : v = .str z := by cases h; rfl
theorem Is.tup_inv {H : Hp} {v : V} {ts : List PV} (h : Is H v (.tup ts)) : ∃ a vs, v = .ref a ∧ H a = some (.tup vs) ∧ IsL H vs ts := by
  cases h with
  | tup e h => exact ⟨_, _, rfl, e, h⟩
/-! ### isinstance -/
def tyOf : PV → Value → Prop := fun t u => match t with
  | .str _ => u = .type "str"
  | .tup _ => u = .type "tuple"
  | .int _ => u = .type "int"
theorem Is.ty {K : PySem.W.Frag} {H : Hp} {v : V} {t : PV} (h : Is H v t) : ∃ u, TyX K H v u ∧ tyOf t u := by
  cases h with
  | str z _ => exact ⟨_, .base (.str z), rfl⟩
  | int i => exact ⟨_, .base (.int i), rfl⟩
  | tup e h => exact ⟨_, .base (.tup e), rfl⟩
def isStr : PV → Bool
  | .str _ => true
  | _ => false
def isTup : PV → Bool
  | .tup _ => true
  | _ => false
theorem kit_str {K : PySem.W.Frag} {t : PV} {u : Value} (h : tyOf t u) : PySem.W.kitOne K u (.type "str") = some (isStr t) := by
  cases t with
  | str z => cases h; exact kit_ty (show kitB "str" "str" = some true by decide +kernel)
  | tup ts => cases h; exact kit_ty (show kitB "tuple" "str" = some false by decide +kernel)
  | int i => cases h; exact kit_ty (show kitB "int" "str" = some false by decide +kernel)
theorem kit_tup {K : PySem.W.Frag} {t : PV} {u : Value} (h : tyOf t u) : PySem.W.kitOne K u (.type "tuple") = some (isTup t) := by
  cases t with
  | str z => cases h; exact kit_ty (show kitB "str" "tuple" = some false by decide +kernel)
  | tup ts => cases h; exact kit_ty (show kitB "tuple" "tuple" = some true by decide +kernel)
  | int i => cases h; exact kit_ty (show kitB "int" "tuple" = some false by decide +kernel)
/-- what isinstance asks of such a value -/
theorem isi_str {K : PySem.W.Frag} {H : Hp} {v : V} {t : PV} {Q : VK} (h : Is H v t) (q : Q (.bl (isStr t)) H) : rIsi K [v, .ty "str"] H Q := by
  obtain ⟨u, a, b⟩ := h.ty (K := K)
  exact ⟨_, _, u, _, _, rfl, .ty _, a, kit_str b, q⟩
theorem isi_tup {K : PySem.W.Frag} {H : Hp} {v : V} {t : PV} {Q : VK} (h : Is H v t) (q : Q (.bl (isTup t)) H) : rIsi K [v, .ty "tuple"] H Q := by
  obtain ⟨u, a, b⟩ := h.ty (K := K)
  exact ⟨_, _, u, _, _, rfl, .ty _, a, kit_tup b, q⟩
theorem Paired.imp {α β : Type} {F G : α → β → Prop} : ∀ {l : List α} {m : List β}, Paired F l m → (∀ a b, F a b → G a b) → Paired G l m
  | _, _, .nil, _ => .nil
  | _, _, .cons h t, f => .cons (f _ _ h) (Paired.imp t f)
theorem Same.own {l : Addr} {H H1 : Hp} (x : Same H H1) (hl : H l = none) (o : HO) : Same H (upd H1 l o) := fun b u h => by rw [upd_ne (ne_of_none h hl)]; exact x b u h
end Kx
/-! Read as data; != of the same data. -/
namespace Kx
open PySem PySem.Spec PyProof.Rows L2
mutual
def toD : PV → PyData
  | .str z => .str z
  | .int i => .int i
  | .tup l => .tuple (toDL l)
def toDL : List PV → List PyData
  | [] => []
  | t :: r => toD t :: toDL r
end
mutual
theorem eqvD : ∀ a : PV, PyData.eqv (toD a) (toD a) = true
  | .str x => by simp [toD, PyData.eqv]
  | .int x => by simp [toD, PyData.eqv]
  | .tup xs => by simp only [toD, PyData.eqv]; exact eqvDL xs
theorem eqvDL : ∀ a : List PV, PyData.eqvAll (toDL a) (toDL a) = true
  | [] => by simp [toDL, PyData.eqvAll]
  | x :: r => by simp only [toDL, PyData.eqvAll, eqvD x, eqvDL r, Bool.and_self]
end
mutual
theorem deepD : ∀ t : PV, (toD t).depth ≤ dep t
  | .str _ => by simp [toD, PyData.depth]
  | .int _ => by simp [toD, PyData.depth]
  | .tup ts => by
    have := deepDL ts
    simp only [toD, PyData.depth, dep]; omega
theorem deepDL : ∀ l : List PV, PyData.depthAll (toDL l) ≤ depL l
  | [] => by simp [toDL, PyData.depthAll]
  | t :: r => by
    have a := deepD t
    have b := deepDL r
    simp only [toDL, PyData.depthAll, depL]; omega
end
mutual
theorem Is.lay {H : Hp} : ∀ {v : V} {t : PV}, Is H v t → (toD t).canLay0 = true
  | _, _, .str z k => by simp only [toD, PyData.canLay0]; exact k
  | _, _, .int _ => rfl
  | _, _, .tup e h => by simp only [toD, PyData.canLay0]; exact IsL.lay h
theorem IsL.lay {H : Hp} : ∀ {v : List V} {t : List PV}, IsL H v t → PyData.canLayAll0 (toDL t) = true
  | _, _, .nil => by simp [toDL, PyData.canLayAll0]
  | _, _, .cons h r => by simp only [toDL, PyData.canLayAll0, Is.lay h, IsL.lay r, Bool.and_self]
end
mutual
theorem Is.dp {K : PySem.W.Frag} {H : Hp} : ∀ {v : V} {t : PV}, Is H v t → Dp K H v (toD t)
  | _, _, .str z k => by simp only [toD]; exact .str z
  | _, _, .int i => by simp only [toD]; exact .int i
  | _, _, .tup e i => by simp only [toD]; exact .tup (.inl (.inl e)) (IsL.dp i)
theorem IsL.dp {K : PySem.W.Frag} {H : Hp} : ∀ {v : List V} {t : List PV}, IsL H v t → DpAll K H v (toDL t)
  | _, _, .nil => by simp only [toDL]; exact .nil
  | _, _, .cons a r => by simp only [toDL]; exact .cons (Is.dp a) (IsL.dp r)
end
section
variable {X : Cx}
theorem u200 {A : Around} {k : Nat} (r : Room k A) : A.units + 200 < cLine := by have := r.un; omega
def rNeP (K : PySem.W.Frag) : R2 := fun x y H Q => ∃ d e, Dp K H x d ∧ Dp K H y e ∧ d.canLay0 = true ∧ e.canLay0 = true ∧ d.depth ≤ 190 ∧ Q (.bl (!PyData.eqv d e)) H
theorem neP {K : PySem.W.Frag} (hu : X.A.units + 200 < cLine) (hK : X.K = K := by rfl) : OpR X (compareOp .NotEq) (rNeP K) := by
  subst hK
  intro pins s σ H x y v u Q I rx ry h
  obtain ⟨d, e, hd, he, sd, se, l, q⟩ := h
  obtain ⟨as, r1⟩ := Dp.reads I d x v hd rx
  obtain ⟨bs, r2⟩ := Dp.reads I e y u he ry
  exact SeqAt.compareNe_reads r1 r2 sd se (by omega) ⟨.bl _, H, I, rfl, q⟩
end
/-- the same data on both sides -/
theorem ne_same {K : PySem.W.Frag} {H : Hp} {v u : V} {t : PV} {Q : VK} (a : Is H v t) (b : Is H u t) (d : dep t ≤ 190) (q : Q (.bl false) H) : rNeP K v u H Q :=
  ⟨_, _, a.dp, b.dp, a.lay, b.lay, Nat.le_trans (deepD t) d, by rw [eqvD]; exact q⟩
theorem strs_is {H : Hp} : ∀ {zs : List Str}, (∀ z ∈ zs, sok z = true) → IsL H (zs.map V.str) (zs.map PV.str)
  | [], _ => .nil
  | z :: r, h => .cons (.str z (h z (List.mem_cons_self ..))) (strs_is fun x hx => h x (List.mem_cons_of_mem _ hx))
/-- a list of data on both sides -/
theorem ne_lists {K : PySem.W.Frag} {H : Hp} {a b : Addr} {vs us : List V} {ts : List PV} {Q : VK} (e1 : SqL K H a vs) (e2 : SqL K H b us) (i1 : IsL H vs ts) (i2 : IsL H us ts) (d : depL ts ≤ 180) (q : Q (.bl false) H) : rNeP K (.ref a) (.ref b) H Q :=
  ⟨.list (toDL ts), .list (toDL ts), .lst e1 i1.dp, .lst e2 i2.dp, by simp only [PyData.canLay0]; exact i1.lay, by simp only [PyData.canLay0]; exact i2.lay, by have := deepDL ts; simp only [PyData.depth]; omega, by
    simp only [PyData.eqv, eqvDL]; exact q⟩
end Kx
namespace Kx
open PySem PySem.Spec PyProof.Rows L2
section
variable {P : Program} {w : World} {K : PySem.W.Frag} {mg : Str → Option Value} {base : Heap}
/-- all but the lists at d and c stands; those are lists still -/
structure Ex (d c : Addr) (H H' : Hp) : Prop where
  but : ∀ b o, b ≠ d → b ≠ c → H b = some o → H' b = some o
  l1 : (∃ xs, H d = some (.lst xs)) → ∃ xs, H' d = some (.lst xs)
  l2 : (∃ xs, H c = some (.lst xs)) → ∃ xs, H' c = some (.lst xs)
theorem Ex.refl (d c : Addr) (H : Hp) : Ex d c H H := ⟨fun _ _ _ _ h => h, id, id⟩
theorem Ex.trans {d c : Addr} {H H1 H2 : Hp} (a : Ex d c H H1) (b : Ex d c H1 H2) : Ex d c H H2 := ⟨fun x o n1 n2 h => b.but x o n1 n2 (a.but x o n1 n2 h), fun h => b.l1 (a.l1 h), fun h => b.l2 (a.l2 h)⟩
theorem Ex.of {d c : Addr} {H H' : Hp} (s : Same H H') : Ex d c H H' := ⟨fun b o _ _ h => s b o h, fun ⟨xs, h⟩ => ⟨xs, s _ _ h⟩, fun ⟨xs, h⟩ => ⟨xs, s _ _ h⟩⟩
theorem Ex.set1 {d c : Addr} {H : Hp} (xs : List V) : Ex d c H (upd H d (.lst xs)) := ⟨fun b o n _ h => by rw [upd_ne n]; exact h, fun _ => ⟨xs, upd_same⟩, fun ⟨ys, h⟩ => by
  by_cases q : c = d
  · subst q; exact ⟨xs, upd_same⟩
  · exact ⟨ys, by rw [upd_ne q]; exact h⟩⟩
theorem Ex.set2 {d c : Addr} {H : Hp} (xs : List V) : Ex d c H (upd H c (.lst xs)) := ⟨fun b o _ n h => by rw [upd_ne n]; exact h, fun ⟨ys, h⟩ => (by
  by_cases q : d = c
  · subst q; exact ⟨xs, upd_same⟩
  · exact ⟨ys, by rw [upd_ne q]; exact h⟩), fun _ => ⟨xs, upd_same⟩⟩
theorem Ex.own {d c l : Addr} {H H1 : Hp} (x : Ex d c H H1) (hl : H l = none) (o : HO) : Ex d c H (upd H1 l o) :=
  ⟨fun b u n n2 h => by rw [upd_ne (ne_of_none h hl)]; exact x.but b u n n2 h, fun ⟨xs, e⟩ => by rw [upd_ne (ne_of_none e hl)]; exact x.l1 ⟨xs, e⟩, fun ⟨xs, e⟩ => by rw [upd_ne (ne_of_none e hl)]; exact x.l2 ⟨xs, e⟩⟩
/-- the state of the draws: a list of the cells and the seed -/
def Dr (H : Hp) (d c : Addr) : Prop := ∃ (ns : List Int) (m : Int), H d = some (.lst [.ref c, .int m]) ∧ H c = some (.lst (ns.map V.int)) ∧ c ≠ d ∧ (∀ n ∈ ns, 0 ≤ n) ∧ 0 ≤ m ∧ m < 2147483648 ∧ ns.length ≤ 63
theorem Dr.lst {H : Hp} {d c : Addr} (h : Dr H d c) : (∃ xs, H d = some (.lst xs)) ∧ ∃ xs, H c = some (.lst xs) := by
  obtain ⟨ns, m, e, e2, _⟩ := h
  exact ⟨⟨_, e⟩, _, e2⟩
theorem Dr.same {H H' : Hp} {d c : Addr} (s : Same H H') (h : Dr H d c) : Dr H' d c := by
  obtain ⟨ns, m, e, e2, r⟩ := h
  exact ⟨ns, m, s _ _ e, s _ _ e2, r⟩
theorem Dr.own {H : Hp} {d c l : Addr} {o : HO} (h : Dr H d c) (n1 : l ≠ d) (n2 : l ≠ c) : Dr (upd H l o) d c := by
  obtain ⟨ns, m, e, e2, r⟩ := h
  exact ⟨ns, m, by rw [upd_ne n1.symm]; exact e, by rw [upd_ne n2.symm]; exact e2, r⟩
theorem Dr.free {H : Hp} {d c l : Addr} (h : Dr H d c) (n : H l = none) : l ≠ d ∧ l ≠ c := by
  obtain ⟨ns, m, e, e2, r⟩ := h
  exact ⟨(ne_of_none e n).symm, (ne_of_none e2 n).symm⟩
/-- what is no list stands -/
theorem Ex.keep {d c b : Addr} {H H' : Hp} {o : HO} (x : Ex d c H H') (h : Dr H d c) (e : H b = some o) (n : ∀ xs, o ≠ .lst xs) : H' b = some o := by
  obtain ⟨⟨xs, h1⟩, ys, h2⟩ := h.lst
  refine x.but b o (fun q => ?_) (fun q => ?_) e
  · subst q; rw [h1] at e; exact n xs (Option.some.inj e).symm
  · subst q; rw [h2] at e; exact n ys (Option.some.inj e).symm
theorem Ex.tk {d c : Addr} {H H' : Hp} (x : Ex d c H H') (h : Dr H d c) : Tk H H' := fun a vs e => x.keep h e fun xs q => by cases q
theorem Is.ex {d c : Addr} {H H' : Hp} (x : Ex d c H H') (h : Dr H d c) {v : V} {t : PV} (i : Is H v t) : Is H' v t := i.tk (x.tk h)
theorem IsL.ex {d c : Addr} {H H' : Hp} (x : Ex d c H H') (h : Dr H d c) {v : List V} {t : List PV} (i : IsL H v t) : IsL H' v t := i.tk (x.tk h)
def spState (K : PySem.W.Frag) : Sp := fun vs H Q _ => ∃ (a : Addr) (ns : List Int), vs = [.ref a] ∧ SqL K H a (ns.map V.int) ∧ ns.length ≤ 63 ∧ ∀ d c H', Same H H' → Dr H' d c → Q (.ref d) H'
def spDraw : Sp := fun vs H Q _ => ∃ (d c : Addr) (n : Int), vs = [.ref d, .int n] ∧ Dr H d c ∧ 1 ≤ n ∧ n ≤ 1000 ∧ ∀ (r : Int) H', 0 ≤ r → r < n → Ex d c H H' → Dr H' d c → Q (.int r) H'
def spPick (K : PySem.W.Frag) : Sp := fun vs H Q _ => ∃ (d c p : Addr) (xs : List V), vs = [.ref d, .ref p] ∧ Dr H d c ∧ (H p = some (.lst xs) ∨ SqT K H p xs) ∧ p ≠ d ∧ p ≠ c ∧ 1 ≤ xs.length ∧ xs.length ≤ 1000 ∧ ∀ (x : V) H', x ∈ xs → Ex d c H H' → Dr H' d c → Q x H'
theorem fmb (a : Int) {b : Int} (hb : 0 < b) : 0 ≤ a.fmod b ∧ a.fmod b < b := ⟨Int.fmod_nonneg_of_pos a hb, Int.fmod_lt_of_pos a hb⟩
theorem at_int {ns : List Int} {i : Int} (h0 : 0 ≤ i) (h : i < ns.length) : ∃ x : Int, atI (ns.map V.int) i = some (.int x) := by
  have hk : i.toNat < ns.length := by omega
  have q : atI (ns.map V.int) ((i.toNat : Nat) : Int) = some (.int ns[i.toNat]) := atI_nat (by rw [List.getElem?_map, List.getElem?_eq_getElem hk] <;> rfl)
  rw [show ((i.toNat : Nat) : Int) = i by omega] at q
  exact ⟨_, q⟩
theorem ok_law_state (T : Txt K mg)  : FnOk P w K mg base CX0 1 T.a_law_state T.d_law_state ["script"] (spState K) := by
  refine T.F_law_state.ok sc_law_state (fun vs H Q E h => ?_) (fun cdv A outer s H vs Q E hr h => ?_)
  · obtain ⟨a, ns, rfl, _⟩ := h; rfl
  · obtain ⟨a, ns, rfl, hS, hl, q⟩ := h
    refine ⟨_, (pss_cons (ps_set (i := 1) sc_law_state.nd rfl (Or.inl rfl) pe_int)
    (pss_cons (ps_for PassesOwn.never rfl (pi_list (pv 0)) (pg_name (i := 2) sc_law_state.nd rfl (Or.inl rfl))
    (pss_one (ps_set (i := 1) sc_law_state.nd rfl (Or.inl rfl) (pe_op op_modN (pe_callTy call_int1 (by rfl) T.z_int (by decide +kernel) (pa_cons (pe_op op_add (pe_op op_mul (pv 1) pe_int) (pv 2)) pa_nil)) pe_int))))
    (pss_one (ps_ret (pe_lst (pa_cons (pe_lc (own := [("cell", 2)]) (g := (gName 2)) (tt := tYes) rfl sc_law_state.nd (pi_list (pv 0)) (blkOk_by (own := [("cell", 2)]) (N := ["script", "seed", "cell"]) (sc := defScope s_law_state) (by decide +kernel)) (fun _ _ _ _ _ => (pg_name (i := 2) sc_law_state.nd rfl (Or.inl rfl))) (fun _ _ _ _ _ => pts_nil) (fun _ _ _ _ _ => (pe_callB call_abs (by rfl) T.z_abs (by decide +kernel) (pa_cons (pe_callTy call_int1 (by rfl) T.z_int (by decide +kernel) (pa_cons (pv 2) pa_nil)) pa_nil)))) (pa_cons (pe_op op_add (pv 1) pe_int) pa_nil))))))), ?_⟩
    refine ⟨_, rfl, a, rfl, ⟨_, hS⟩, for_list (K := K) (a := a) (xs := ns.map V.int) (fun i σ H2 => ∃ m y, σ = [some (.ref a), some (.int m), y] ∧ H2 = H ∧ 0 ≤ m ∧ m < 1000003) ⟨7, none, rfl, rfl, by omega, by omega⟩ (fun i σ H2 _ ⟨_, _, _, e, _⟩ => by rw [e]; exact hS) ?_ ?_⟩
    · rintro i x σ H2 hx ⟨m, y, rfl, rfl, m0, m1⟩
      obtain ⟨n, _, rfl⟩ := List.mem_map.mp (List.mem_of_getElem? hx)
      obtain ⟨b0, b1⟩ := fmb (m * 31 + n) (b := 1000003) (by decide)
      exact ⟨_, rfl, _, _, rfl, rfl, .inl ⟨by omega, by omega⟩, _, rfl, _, _, rfl, rfl, .inl ⟨_, rfl, _, _, rfl, rfl, (by show (1000003 : Int) ≠ 0; decide), _, _, rfl, rfl, b0, b1⟩⟩
    · rintro σ H2 ⟨m, y, rfl, rfl, m0, m1⟩
      refine ⟨_, rfl, a, rfl, ⟨_, hS⟩, fun D hD => ?_⟩
      refine lc_list (K := K) (a := a) (xs := ns.map V.int) (fun i H3 => ∃ ms : List Int, H3 = upd H2 D (.lst (ms.map V.int)) ∧ ms.length = i ∧ ∀ n ∈ ms, 0 ≤ n) ⟨[], rfl, rfl, fun _ h => by cases h⟩ (fun i H3 _ ⟨ms, e, _⟩ => ?_) ?_ ?_
      · rw [e]; exact (same_upd hD _).seq hS
      · rintro i x H3 hx ⟨ms, rfl, hlen, hpos⟩
        have hi := (List.getElem?_eq_some_iff.mp hx).1
        rw [List.length_map] at hi
        obtain ⟨n, _, rfl⟩ := List.mem_map.mp (List.mem_of_getElem? hx)
        refine ⟨rfl, yes_if ⟨_, rfl, .inl ⟨_, rfl, _, rfl, ms.map V.int, upd_same, ?_, ms ++ [if n < 0 then -n else n], ?_, ?_, ?_⟩⟩⟩
        · rw [List.length_map]; exact small1000 (by omega)
        · rw [upd_upd, List.map_append]; rfl
        · rw [List.length_append, hlen]; rfl
        · intro z hz
          rcases List.mem_append.mp hz with hz | hz
          · exact hpos z hz
          · rw [List.mem_singleton.mp hz]; split <;> omega
      · rintro H3 ⟨ms, rfl, hlen, hpos⟩
        rw [List.length_map] at hlen
        refine ⟨_, rfl, _, _, rfl, rfl, (by show 2 ≤ sizeLine; decide), fun d hd => ?_⟩
        have n1 : D ≠ d := ne_of_none upd_same hd
        exact q d D _ ((same_upd hD _).trans (same_upd hd _)) ⟨ms, m + 1, upd_same, by rw [upd_ne n1, upd_same], n1, hpos, by omega, by omega, by omega⟩
theorem ok_law_draw (T : Txt K mg)  : FnOk P w K mg base CX0 1 T.a_law_draw T.d_law_draw ["state", "many"] spDraw := by
  refine T.F_law_draw.ok sc_law_draw (fun vs H Q E h => ?_) (fun cdv A outer s H vs Q E hr h => ?_)
  · obtain ⟨d, c, n, rfl, _⟩ := h; rfl
  · obtain ⟨d, c, n, rfl, hD, h1, h2, q⟩ := h
    have nz : n ≠ 0 := by omega
    refine ⟨_, (pss_cons (ps_set (i := 2) sc_law_draw.nd rfl (Or.inl rfl) (pe_ix ix_list (pv 0) pe_int (fun _ _ => rfl)))
    (Evl.pss_cut (ps_while PassesOwn.never (PW.pt (pw_and (pt_cmpR op_gt (pe_callB call_len_seq (by rfl) T.z_len (by decide +kernel) (pa_cons (pv 2) pa_nil)) pe_int (nomark _)) (pw_and1 (pt_cmpR op_eq (pe_ix ix_list (pv 2) pe_int (fun _ _ => rfl)) pe_int (nomark _)))))
    (pss_one (ps_expr (pe_bm PySem.F.plainAttrs_list PySem.F.slot_list_pop PySem.F.type_list_pop mt_popAt (pv 2) (pa_cons pe_int pa_nil)))))
    (pss_cons (ps_if (pt_cmpR op_gt (pe_callB call_len_seq (by rfl) T.z_len (by decide +kernel) (pa_cons (pv 2) pa_nil)) pe_int (nomark _)) (pss_cons (ps_set (i := 3) sc_law_draw.nd rfl (Or.inl rfl) (pe_ix ix_list (pv 2) pe_int (fun _ _ => rfl)))
    (pss_cons (ps_asg (pe_op op_fdivN (pv 3) (pv 1)) (pg_sub (pv 2) pe_int set_list))
    (pss_one (ps_ret (pe_op op_modN (pe_callTy call_int1 (by rfl) T.z_int (by decide +kernel) (pa_cons (pv 3) pa_nil)) (pv 1)))))) pss_nil)
    (pss_cons (ps_set (i := 4) sc_law_draw.nd rfl (Or.inl rfl) (pe_op op_modN (pe_callTy call_int1 (by rfl) T.z_int (by decide +kernel) (pa_cons (pe_op op_add (pe_op op_mul (pe_ix ix_list (pv 0) pe_int (fun _ _ => rfl)) pe_int) pe_int) pa_nil)) pe_int))
    (pss_cons (ps_asg (pv 4) (pg_sub (pv 0) pe_int set_list))
    (pss_one (ps_ret (pe_op op_modN (pe_callTy call_int1 (by rfl) T.z_int (by decide +kernel) (pa_cons (pe_op op_fdivN (pv 4) pe_int) pa_nil)) (pv 1))))))))), ?_⟩
    obtain ⟨ns, m, e, e2, hn, hpos, m0, m1, hl⟩ := id hD
    refine ⟨_, rfl, d, _, _, _, rfl, rfl, SqL.of e, rfl, ?_⟩
    refine ⟨fun σ H2 => ∃ ms : List Int, σ = [some (.ref d), some (.int n), some (.ref c), none, none] ∧ H2 d = some (.lst [.ref c, .int m]) ∧ H2 c = some (.lst (ms.map V.int)) ∧ ms.length ≤ 63 ∧ (∀ z ∈ ms, 0 ≤ z) ∧ Ex d c H H2, ?_, ?_⟩
    · refine ⟨fun k σ H2 => ∃ ms : List Int, σ = [some (.ref d), some (.int n), some (.ref c), none, none] ∧ H2 d = some (.lst [.ref c, .int m]) ∧ H2 c = some (.lst (ms.map V.int)) ∧ ms.length = k ∧ k ≤ 63 ∧ (∀ z ∈ ms, 0 ≤ z) ∧ Ex d c H H2, ⟨ns.length, ns, rfl, e, e2, rfl, hl, hpos, .refl _ _ _⟩, ?_⟩
      rintro k σ H2 ⟨ms, rfl, f1, f2, hk, k63, hp, hx⟩
      refine ⟨_, rfl, c, _, rfl, .inl (SqL.of f2), _, _, rfl, rfl, _, rfl, ite2 (fun cz => ?_) (fun _ => iteF ⟨ms, rfl, f1, f2, by omega, hp, hx⟩)⟩
      cases ms with
      | nil => cases cz
      | cons x ms =>
      refine ⟨_, rfl, c, _, _, V.int x, rfl, rfl, SqL.of f2, atI_nat (j := 0) rfl, rfl, _, rfl, ite2 (fun c0 => ?_) (fun _ => ⟨_, rfl, f1, f2, by omega, hp, hx⟩)⟩
      refine ⟨fun σ' H' => ∃ ms' : List Int, σ' = [some (.ref d), some (.int n), some (.ref c), none, none] ∧ H' d = some (.lst [.ref c, .int m]) ∧ H' c = some (.lst (ms'.map V.int)) ∧ ms'.length < k ∧ k ≤ 63 ∧ (∀ z ∈ ms', 0 ≤ z) ∧ Ex d c H H', fun σ' H' ⟨ms', r1, r2, r3, r4, r5, r6, r7⟩ => ⟨ms'.length, r4, ms', r1, r2, r3, rfl, by omega, r6, r7⟩, ?_⟩
      have z0 : ixN ((x :: ms).map V.int).length 0 = some 0 := Evl.ixN_nat (j := 0) (by rw [List.length_map, List.length_cons]; omega)
      refine ⟨_, rfl, .inl ⟨rfl, _, SqL.of f2⟩, c, _, 0, 0, _, rfl, rfl, f2, by decide, by decide, (ixN_seq z0).1, rfl, ms, rfl, by rw [upd_ne hn.symm]; exact f1, by rw [upd_same]; rfl, by rw [List.length_cons] at hk; omega, k63, fun z hz => hp z (List.mem_cons_of_mem _ hz), hx.trans (.set2 _)⟩
    · rintro σ H2 ⟨ms, rfl, f1, f2, k63, hp, hx⟩
      refine ⟨_, rfl, c, _, rfl, .inl (SqL.of f2), _, _, rfl, rfl, _, rfl, ite2 (fun cz => ?_) (fun _ => ?_)⟩
      · cases ms with
        | nil => cases cz
        | cons x ms =>
        have x0 := hp x (List.mem_cons_self ..)
        have z0 : ixN ((x :: ms).map V.int).length 0 = some 0 := Evl.ixN_nat (j := 0) (by rw [List.length_map, List.length_cons]; omega)
        refine ⟨_, rfl, c, _, _, V.int x, rfl, rfl, SqL.of f2, atI_nat (j := 0) rfl, _, rfl, _, rfl, _, _, rfl, rfl, ⟨nz, by omega⟩, _, rfl, c, _, _, 0, rfl, rfl, f2, z0, _, rfl, .inl ⟨_, rfl, _, rfl, _, _, rfl, rfl, nz, ?_⟩⟩
        obtain ⟨b0, b1⟩ := fmb x (b := n) (by omega)
        refine q _ _ b0 b1 (hx.trans (.set2 _)) ⟨x.fdiv n :: ms, m, by rw [upd_ne hn.symm]; exact f1, upd_same, hn, fun z hz => ?_, m0, m1, k63⟩
        rcases List.mem_cons.mp hz with rfl | hz
        · exact Int.fdiv_nonneg x0 (by omega)
        · exact hp z (List.mem_cons_of_mem _ hz)
      · obtain ⟨b0, b1⟩ := fmb (m * 48271 + 12345) (b := 2147483647) (by decide)
        refine ⟨_, rfl, d, _, _, _, rfl, rfl, SqL.of f1, rfl, _, _, rfl, rfl, .inl ⟨by omega, by omega⟩, _, _, rfl, rfl, .inl ⟨_, rfl, _, _, rfl, rfl, (by show (2147483647 : Int) ≠ 0; decide), _, rfl, _, rfl, d, _, _, 1, rfl, rfl, f1, rfl, ?_⟩⟩
        refine ⟨_, rfl, _, _, rfl, rfl, ⟨by decide, by decide⟩, .inl ⟨_, rfl, _, rfl, _, _, rfl, rfl, nz, ?_⟩⟩
        obtain ⟨c0, c1⟩ := fmb (((m * 48271 + 12345).fmod 2147483647).fdiv 64) (b := n) (by omega)
        exact q _ _ c0 c1 (hx.trans (.set1 _)) ⟨ms, _, upd_same, by rw [upd_ne hn]; exact f2, hn, hp, b0, by omega, k63⟩
theorem ok_law_pick (T : Txt K mg) (G_law_draw : FnOk P w K mg base CX0 1 T.a_law_draw T.d_law_draw ["state", "many"] spDraw) : FnOk P w K mg base CX0 2 T.a_law_pick T.d_law_pick ["state", "row"] (spPick K) := by
  refine T.F_law_pick.ok sc_law_pick (fun vs H Q E h => ?_) (fun cdv A outer s H vs Q E hr h => ?_)
  · obtain ⟨d, c, p, xs, rfl, _⟩ := h; rfl
  · obtain ⟨d, c, p, xs, rfl, hD, hP, hn, hn2, h1, h2, q⟩ := h
    have hr_law_draw := hr
    refine ⟨_, (pss_one (ps_ret (pe_ix ix_seq (pv 1) (pe_call G_law_draw hr_law_draw rfl T.m_law_draw T.F_law_draw.kp T.b_law_draw .nil pass0 (pa_cons (pv 0) (pa_cons (pe_callB call_len_seq (by rfl) T.z_len (by decide +kernel) (pa_cons (pv 1) pa_nil)) pa_nil))) (fun _ _ => rfl)))), ?_⟩
    have seqs : ∀ H', Ex d c H H' → H' p = some (.lst xs) ∨ SqT K H' p xs := fun H' x => by
      rcases hP with e | (e | ⟨o, e⟩) | e
      · exact .inl (x.but _ _ hn hn2 e)
      · exact .inr (.inl (.inl (x.but _ _ hn hn2 e)))
      · exact .inr (.inl (.inr ⟨o, x.but _ _ hn hn2 e⟩))
      · exact .inr (.inr e)
    refine ⟨_, rfl, _, rfl, _, rfl, p, xs, rfl, hP.imp SqL.of id, d, c, _, rfl, hD, by omega, by omega, fun r H' r0 r1 hx hD' => ?_⟩
    have hk : r.toNat < xs.length := by omega
    have hat : atI xs r = some (xs[r.toNat]) := by
      have z : atI xs ((r.toNat : Nat) : Int) = some (xs[r.toNat]) := atI_nat (List.getElem?_eq_getElem hk)
      rwa [show ((r.toNat : Nat) : Int) = r by omega] at z
    have fin := q (xs[r.toNat]) H' (List.getElem_mem hk) hx hD'
    rcases seqs H' hx with e | e
    · exact .inl ⟨p, _, _, _, rfl, rfl, SqL.of e, hat, fin⟩
    · exact .inr (.inl ⟨p, _, _, _, rfl, rfl, e, hat, fin⟩)
end
end Kx
namespace Kx
open PySem PySem.Spec PyProof.Rows L2
section
variable {P : Program} {w : World} {K : PySem.W.Frag} {mg : Str → Option Value} {base : Heap}
/-! ### data that is written down -/
def MkE (σ : L2.St) (H0 : Hp) (te : TE) (t : PV) : Prop := ∀ (H : Hp) (Q : VK), Same H0 H → (∀ v H', Same H H' → Is H' v t → Q v H') → te σ H Q
def MkA (σ : L2.St) (H0 : Hp) (ta : TA) (ts : List PV) : Prop := ∀ (H : Hp) (Q : List V → Hp → Prop), Same H0 H → (∀ vs H', Same H H' → IsL H' vs ts → Q vs H') → ta σ H Q
theorem mk_var {σ : L2.St} {H0 : Hp} {i : Nat} {v : V} {t : PV} (e : σ[i]? = some (some v)) (h : Is H0 v t) : MkE σ H0 (tVar i) t := fun H Q s q => ⟨v, e, q v H (.refl _) (h.same s)⟩
theorem mk_str {σ : L2.St} {H0 : Hp} {z : Str} (h : sok z = true) : MkE σ H0 (tC (.str z)) (.str z) := fun H Q s q => q _ H (.refl _) (.str z h)
theorem mk_nil {σ : L2.St} {H0 : Hp} : MkA σ H0 tNil [] := fun H Q s q => q [] H (.refl _) .nil
theorem mk_cons {σ : L2.St} {H0 : Hp} {te : TE} {ta : TA} {t : PV} {ts : List PV} (a : MkE σ H0 te t) (b : MkA σ H0 ta ts) : MkA σ H0 (tCons te ta) (t :: ts) := fun H Q s q =>
  a H _ s fun v H1 s1 i1 => b H1 _ (s.trans s1) fun vs H2 s2 i2 => q _ H2 (s1.trans s2) (.cons (i1.same s2) i2)
theorem mk_tup {σ : L2.St} {H0 : Hp} {ta : TA} {ts : List PV} (a : MkA σ H0 ta ts) (hl : ts.length ≤ 1000) : MkE σ H0 (tTup ta) (.tup ts) := fun H Q s q =>
  a H _ s fun vs H1 s1 i1 => ⟨Nat.le_of_lt (small1000 (by rw [i1.len]; exact hl)), fun p hp => q _ _ (s1.trans (same_upd hp _)) (.tup upd_same (i1.same (same_upd hp _)))⟩
theorem mk_go {σ : L2.St} {H : Hp} {te : TE} {t : PV} {Q : VK} (m : MkE σ H te t) (q : ∀ v H', Same H H' → Is H' v t → Q v H') : te σ H Q := m H Q (.refl _) q
theorem go_asg {σ : L2.St} {H : Hp} {te : TE} {t : PV} {g : TG} {rest : TS} {D : Ends} (m : MkE σ H te t) (q : ∀ v H1, Same H H1 → Is H1 v t → g v σ H1 fun σ2 H2 => rest D σ2 H2) : tSeq (tAsg te g) rest D σ H := m H _ (.refl _) q
theorem go_kind {i : Nat} {σ : L2.St} {H : Hp} {te : TE} {rest : TS} {D : Ends} {k j : Int} (e : σ[i]? = some (some (.int k))) (y : k = j → te σ H D.rt) (n : k ≠ j → rest D σ H) : tSeq (tIfS (tTest (tOp rEq (tVar i) (tC (.int j)))) (tRet te) tNext) rest D σ H := by
  refine ⟨_, e, rfl, _, rfl, ?_⟩
  rw [dec_int]
  by_cases h : k = j
  · have : (k == j) = true := by simpa using h
    rw [this]; exact iteT (y h)
  · have : (k == j) = false := by simpa using h
    rw [this]; exact iteF (n h)
theorem mk_list {σ : L2.St} {H0 H : Hp} {ta : TA} {ts : List PV} {Q : VK} (a : MkA σ H0 ta ts) (s : Same H0 H) (hl : ts.length ≤ 1000) (q : ∀ l vs H', H l = none → Same H H' → H' l = some (.lst vs) → IsL H' vs ts → Q (.ref l) H') : tLst ta σ H Q :=
  a H _ s fun vs H1 s1 i1 => ⟨Nat.le_of_lt (small1000 (by rw [i1.len]; exact hl)), fun p hp => q p vs _ (s1.free hp) (s1.trans (same_upd hp _)) upd_same (i1.same (same_upd hp _))⟩
theorem mk_add {σ : L2.St} {H0 : Hp} {i : Nat} {m n : Str} (e : σ[i]? = some (some (.str m))) (h : sok (m ++ n) = true) (l : m.length + n.length ≤ sizeLine) : MkE σ H0 (tOp (fun x y H Q => ∃ i j, x = .str i ∧ y = .str j ∧ i.length + j.length ≤ sizeLine ∧ Q (.str (i ++ j)) H) (tVar i) (tC (.str n))) (.str (m ++ n)) := fun H Q s q =>
  ⟨_, e, _, _, rfl, rfl, l, q _ H (.refl _) (.str _ h)⟩
/-- the two names with a mark -/
def marks (m : Str) : List Str := [m ++ "0", m ++ "1"]
def patOf (m : Str) (k : Int) : PV :=
  if k = 0 then .str (m ++ "0") else
  if k = 1 then .tup [.str "K0"] else
  if k = 5 then .tup [.str "K3", .str (m ++ "0")] else
  if k = 6 then .tup [.str "K1", .tup [.str "K3", .str (m ++ "0")]] else
  if k = 2 then .tup [.str "K2", .str (m ++ "0"), .str (m ++ "1")] else
  if k = 3 then .tup [.str "K1", .tup [.str "K1", .str (m ++ "0")]] else
  .tup [.str "K1", .str (m ++ "0")]
theorem marks_ne {m : Str} (h : m = "x" ∨ m = "y") : m ++ "0" ≠ m ++ "1" := by
  rcases h with rfl | rfl <;> decide +kernel
theorem pat_good {m : Str} (h : m = "x" ∨ m = "y") (k : Int) : PatG (patOf m k) ∧ (lv (patOf m k)).Nodup ∧ ∀ z ∈ lv (patOf m k), z ∈ marks m := by
  have ne := marks_ne h
  have k0 : (("K0" : Str), 0) ∈ KA := by decide +kernel
  have k1 : (("K1" : Str), 1) ∈ KA := by decide +kernel
  have k2 : (("K2" : Str), 2) ∈ KA := by decide +kernel
  have k3 : (("K3" : Str), 1) ∈ KA := by decide +kernel
  have key : ∀ (c : Prop) [Decidable c] (a b : PV), (PatG a ∧ (lv a).Nodup ∧ ∀ z ∈ lv a, z ∈ marks m) → (PatG b ∧ (lv b).Nodup ∧ ∀ z ∈ lv b, z ∈ marks m) → (PatG (if c then a else b) ∧ (lv (if c then a else b)).Nodup ∧ ∀ z ∈ lv (if c then a else b), z ∈ marks m) := fun c _ a b x y => by split <;> assumption
  unfold patOf
  repeat' refine key _ _ _ ?_ ?_
  all_goals refine ⟨⟨?_, ?_, ?_⟩, ?_, ?_⟩
  all_goals first
    | (simp [Ap, ApL, k0, k1, k2, k3]; done)
    | (simp [dep, depL]; done)
    | (simp [cnt, cntL]; done)
    | (simp [lv, lvL, marks, ne]; done)
def spPat : Sp := fun vs H Q _ => ∃ (d c : Addr) (m : Str), vs = [.ref d, .str m] ∧ (m = "x" ∨ m = "y") ∧ Dr H d c ∧ ∀ v t H', Ex d c H H' → Dr H' d c → Is H' v t → PatG t ∧ (lv t).Nodup ∧ (∀ z ∈ lv t, z ∈ marks m) → Q v H'
theorem ok_law_graph_pattern (T : Txt K mg) (G_law_draw : FnOk P w K mg base CX0 1 T.a_law_draw T.d_law_draw ["state", "many"] spDraw) : FnOk P w K mg base CX0 2 T.a_law_graph_pattern T.d_law_graph_pattern ["state", "mark"] spPat := by
  refine T.F_law_graph_pattern.ok sc_law_graph_pattern (fun vs H Q E h => ?_) (fun cdv A outer s H vs Q E hr h => ?_)
  · obtain ⟨d, c, m, rfl, _⟩ := h; rfl
  · obtain ⟨d, c, m, rfl, hm, hD, q⟩ := h
    have hr_law_draw := hr
    refine ⟨_, (pss_cons (ps_set (i := 2) sc_law_graph_pattern.nd rfl (Or.inl rfl) (pe_call G_law_draw hr_law_draw rfl T.m_law_draw T.F_law_draw.kp T.b_law_draw .nil pass0 (pa_cons (pv 0) (pa_cons pe_int pa_nil))))
    (pss_cons (ps_if (pt_cmpR op_eq (pv 2) pe_int (nomark _)) (pss_one (ps_ret (pe_op op_add_str (pv 1) pe_str))) pss_nil)
    (pss_cons (ps_if (pt_cmpR op_eq (pv 2) pe_int (nomark _)) (pss_one (ps_ret (pe_tup (pa_cons pe_str pa_nil)))) pss_nil)
    (pss_cons (ps_if (pt_cmpR op_eq (pv 2) pe_int (nomark _)) (pss_one (ps_ret (pe_tup (pa_cons pe_str (pa_cons (pe_op op_add_str (pv 1) pe_str) pa_nil))))) pss_nil)
    (pss_cons (ps_if (pt_cmpR op_eq (pv 2) pe_int (nomark _)) (pss_one (ps_ret (pe_tup (pa_cons pe_str (pa_cons (pe_tup (pa_cons pe_str (pa_cons (pe_op op_add_str (pv 1) pe_str) pa_nil))) pa_nil))))) pss_nil)
    (pss_cons (ps_if (pt_cmpR op_eq (pv 2) pe_int (nomark _)) (pss_one (ps_ret (pe_tup (pa_cons pe_str (pa_cons (pe_op op_add_str (pv 1) pe_str) (pa_cons (pe_op op_add_str (pv 1) pe_str) pa_nil)))))) pss_nil)
    (pss_cons (ps_if (pt_cmpR op_eq (pv 2) pe_int (nomark _)) (pss_one (ps_ret (pe_tup (pa_cons pe_str (pa_cons (pe_tup (pa_cons pe_str (pa_cons (pe_op op_add_str (pv 1) pe_str) pa_nil))) pa_nil))))) pss_nil)
    (pss_one (ps_ret (pe_tup (pa_cons pe_str (pa_cons (pe_op op_add_str (pv 1) pe_str) pa_nil)))))))))))), ?_⟩
    refine ⟨_, rfl, d, c, 7, rfl, hD, by decide, by decide, fun k H1 k0 k7 x1 D1 => ?_⟩
    have o0 : sok (m ++ "0") = true := by rcases hm with rfl | rfl <;> decide +kernel
    have o1 : sok (m ++ "1") = true := by rcases hm with rfl | rfl <;> decide +kernel
    have l0 : m.length + ("0" : Str).length ≤ sizeLine := by rcases hm with rfl | rfl <;> decide +kernel
    have l1 : m.length + ("1" : Str).length ≤ sizeLine := by rcases hm with rfl | rfl <;> decide +kernel
    have fin : ∀ {te : TE} {σ : L2.St} {t : PV}, patOf m k = t → MkE σ H1 te t → te σ H1 Q := fun {te σ t} e mk => mk_go mk fun v H2 s2 i2 =>
      q v t H2 (x1.trans (.of s2)) (D1.same s2) i2 (e ▸ pat_good hm k)
    have cut : ∀ {i : Nat} {σ : L2.St} {te : TE} {rest : TS} {D : Ends} {j : Int}, σ[i]? = some (some (.int k)) → (k = j → te σ H1 D.rt) → (k ≠ j → rest D σ H1) → tSeq (tIfS (tTest (tOp rEq (tVar i) (tC (.int j)))) (tRet te) tNext) rest D σ H1 := fun e y n => go_kind e y n
    refine cut rfl (fun h0 => fin (t := .str (m ++ "0")) (by unfold patOf; rw [if_pos h0]) (mk_add rfl o0 l0)) fun h0 => ?_
    refine cut rfl (fun h1 => fin (t := .tup [.str "K0"]) (by unfold patOf; rw [if_neg h0, if_pos h1]) ?_) fun h1 => ?_
    · (repeat (first | exact mk_nil | refine mk_cons ?_ ?_ | refine mk_tup ?_ (by simp) | exact mk_str (by decide +kernel) | (refine mk_var rfl ?_; assumption)))
    refine cut rfl (fun h5 => fin (t := .tup [.str "K3", .str (m ++ "0")]) (by unfold patOf; rw [if_neg h0, if_neg h1, if_pos h5]) ?_) fun h5 => ?_
    · (repeat (first | exact mk_nil | exact mk_add rfl o0 l0 | exact mk_add rfl o1 l1 | refine mk_cons ?_ ?_ | refine mk_tup ?_ (by simp) | exact mk_str (by decide +kernel)))
    refine cut rfl (fun h6 => fin (t := .tup [.str "K1", .tup [.str "K3", .str (m ++ "0")]]) (by unfold patOf; rw [if_neg h0, if_neg h1, if_neg h5, if_pos h6]) ?_) fun h6 => ?_
    · (repeat (first | exact mk_nil | exact mk_add rfl o0 l0 | exact mk_add rfl o1 l1 | refine mk_cons ?_ ?_ | refine mk_tup ?_ (by simp) | exact mk_str (by decide +kernel)))
    refine cut rfl (fun h2 => fin (t := .tup [.str "K2", .str (m ++ "0"), .str (m ++ "1")]) (by unfold patOf; rw [if_neg h0, if_neg h1, if_neg h5, if_neg h6, if_pos h2]) ?_) fun h2 => ?_
    · (repeat (first | exact mk_nil | exact mk_add rfl o0 l0 | exact mk_add rfl o1 l1 | refine mk_cons ?_ ?_ | refine mk_tup ?_ (by simp) | exact mk_str (by decide +kernel)))
    refine cut rfl (fun h3 => fin (t := .tup [.str "K1", .tup [.str "K1", .str (m ++ "0")]]) (by unfold patOf; rw [if_neg h0, if_neg h1, if_neg h5, if_neg h6, if_neg h2, if_pos h3]) ?_) fun h3 => ?_
    · (repeat (first | exact mk_nil | exact mk_add rfl o0 l0 | exact mk_add rfl o1 l1 | refine mk_cons ?_ ?_ | refine mk_tup ?_ (by simp) | exact mk_str (by decide +kernel)))
    refine fin (t := .tup [.str "K1", .str (m ++ "0")]) (by unfold patOf; rw [if_neg h0, if_neg h1, if_neg h5, if_neg h6, if_neg h2, if_neg h3]) ?_
    (repeat (first | exact mk_nil | exact mk_add rfl o0 l0 | exact mk_add rfl o1 l1 | refine mk_cons ?_ ?_ | refine mk_tup ?_ (by simp) | exact mk_str (by decide +kernel)))
end
end Kx
namespace Kx
open PySem PySem.Spec PyProof.Rows L2
section
variable {P : Program} {w : World} {K : PySem.W.Frag} {mg : Str → Option Value} {base : Heap}
theorem go_catT {H : Hp} {a b : Addr} {xs ys : List V} {ts us : List PV} {Q : VK} (ea : H a = some (.tup xs)) (eb : H b = some (.tup ys)) (ix : IsL H xs ts) (iy : IsL H ys us) (ne : ts ≠ []) (l : ts.length + us.length ≤ 900)
    (q : ∀ u H', Same H H' → Is H' u (.tup (ts ++ us)) → Q u H') : rCatT K (.ref a) (.ref b) H Q := by
  have lx := ix.len
  have ly := iy.len
  refine ⟨a, b, xs, ys, rfl, rfl, .inl (.inl ea), .inl (.inl eb), fun z => ne ?_, Nat.le_of_lt (small1000 (by omega)), fun z => ?_, fun _ p hp => ?_⟩
  · rw [z] at lx
    exact List.eq_nil_of_length_eq_zero lx.symm
  · rw [z] at ly
    have : us = [] := List.eq_nil_of_length_eq_zero ly.symm
    rw [this, List.append_nil] at q
    exact q _ H (.refl _) (.tup ea ix)
  · have s := same_upd hp (.tup (xs ++ ys))
    exact q _ _ s (.tup upd_same ((ix.append iy).same s))
theorem Tk.wr {H : Hp} {a : Addr} {xs : List V} (e : ∃ ys, H a = some (.lst ys)) : Tk H (upd H a (.lst xs)) := fun b vs h => by
  obtain ⟨ys, e⟩ := e
  by_cases q : b = a
  · subst q; rw [e] at h; cases h
  · rw [upd_ne q]; exact h
/-- what a body is made of -/
structure BdG (d c pl wl nl : Addr) (kvs : List (Key × V)) (ws ns : List Str) (H : Hp) : Prop where
  dr : Dr H d c
  ep : H pl = some (.dK kvs)
  pw : ∀ w ∈ ws, ∃ (q : Addr) (sz : Nat) (a : Int), valV kvs (Sum.inr w) = some (.ref q) ∧ H q = some (.tup [.int sz, .int a]) ∧ 1 ≤ sz ∧ sz ≤ 2
  ew : H wl = some (.lst (ws.map V.str))
  en : H nl = some (.lst (ns.map V.str))
  w1 : 1 ≤ ws.length ∧ ws.length ≤ 4
  n1 : ns.length ≤ 40
  ok : (∀ z ∈ ws, sok z = true) ∧ ∀ z ∈ ns, sok z = true
  nw : wl ≠ d ∧ wl ≠ c
  nn : nl ≠ d ∧ nl ≠ c
theorem BdG.ex {d c pl wl nl : Addr} {kvs : List (Key × V)} {ws ns : List Str} {H H' : Hp} (x : Ex d c H H') (D : Dr H' d c) (B : BdG d c pl wl nl kvs ws ns H) : BdG d c pl wl nl kvs ws ns H' :=
  ⟨D, x.keep B.dr B.ep (fun _ z => by cases z), fun w hw => (by
    obtain ⟨q, sz, a, e1, e2, r⟩ := B.pw w hw
    exact ⟨q, sz, a, e1, x.tk B.dr _ _ e2, r⟩), x.but _ _ B.nw.1 B.nw.2 B.ew, x.but _ _ B.nn.1 B.nn.2 B.en, B.w1, B.n1, B.ok, B.nw, B.nn⟩
theorem BdG.same {d c pl wl nl : Addr} {kvs : List (Key × V)} {ws ns : List Str} {H H' : Hp} (s : Same H H') (B : BdG d c pl wl nl kvs ws ns H) : BdG d c pl wl nl kvs ws ns H' := B.ex (.of s) (B.dr.same s)
/-- a new list's own change -/
theorem BdG.own {d c pl wl nl l : Addr} {kvs : List (Key × V)} {ws ns : List Str} {H H0 : Hp} {o : HO} (B : BdG d c pl wl nl kvs ws ns H) (B0 : BdG d c pl wl nl kvs ws ns H0) (n : H0 l = none) : BdG d c pl wl nl kvs ws ns (upd H l o) := by
  have f := fun {b : Addr} {o : HO} (e : H0 b = some o) => (ne_of_none e n : b ≠ l)
  obtain ⟨f1, f2⟩ := B0.dr.free n
  refine ⟨B.dr.own f1 f2, by rw [upd_ne (f B0.ep)]; exact B.ep, fun w hw => ?_, by rw [upd_ne (f B0.ew)]; exact B.ew, by rw [upd_ne (f B0.en)]; exact B.en, B.w1, B.n1, B.ok, B.nw, B.nn⟩
  obtain ⟨q, sz, a, e1, e2, r⟩ := B.pw w hw
  obtain ⟨q', sz', a', e1', e2', _⟩ := B0.pw w hw
  have : q = q' := by rw [e1] at e1'; cases e1'; rfl
  subst this
  exact ⟨q, sz, a, e1, by rw [upd_ne (f e2')]; exact e2, r⟩
def bsz : Nat → Nat
  | 0 => 2
  | k + 1 => 2 + 2 * bsz k
theorem bsz_two : ∀ k, 2 ≤ bsz k
  | 0 => Nat.le_refl 2
  | k + 1 => by show 2 ≤ 2 + 2 * bsz k; omega
def spBody (n : Nat) : Sp := fun vs H Q _ => ∃ (d c pl wl nl : Addr) (kvs : List (Key × V)) (ws ns : List Str) (k : Nat), vs = [.ref d, .ref pl, .ref wl, .ref nl, .int k] ∧ BdG d c pl wl nl kvs ws ns H ∧ k < n ∧ k ≤ 3 ∧
  ∀ v t H', Ex d c H H' → Dr H' d c → Is H' v t → Tm t → dep t ≤ k + 2 → cnt t ≤ bsz k → Q v H'
theorem cntL_le {l : List PV} {m : Nat} (h : ∀ t ∈ l, cnt t ≤ m) : cntL l ≤ l.length * m := by
  induction l with
  | nil => simp [cntL]
  | cons a r ih =>
    have h1 := h a (List.mem_cons_self ..)
    have h2 := ih fun t ht => h t (List.mem_cons_of_mem _ ht)
    simp only [cntL, List.length_cons, Nat.add_mul]; omega
theorem ok_law_graph_body {n : Nat} (T : Txt K mg) (G_law_draw : FnOk P w K mg base CX0 1 T.a_law_draw T.d_law_draw ["state", "many"] spDraw) (G_law_pick : FnOk P w K mg base CX0 2 T.a_law_pick T.d_law_pick ["state", "row"] (spPick K)) (G_law_graph_body : FnOk P w K mg base CX0 (n+2) T.a_law_graph_body T.d_law_graph_body ["state", "places", "words", "names", "deep"] (spBody n)) : FnOk P w K mg base CX0 (n+3) T.a_law_graph_body T.d_law_graph_body ["state", "places", "words", "names", "deep"] (spBody (n+1)) := by
  refine T.F_law_graph_body.ok sc_law_graph_body (fun vs H Q E h => ?_) (fun cdv A outer s H vs Q E hr h => ?_)
  · obtain ⟨d, c, pl, wl, nl, kvs, ws, ns, k, rfl, _⟩ := h; rfl
  · obtain ⟨d, c, pl, wl, nl, kvs, ws, ns, k, rfl, B, hk, k3, q⟩ := h
    have hr_law_draw := hr.mono (show 1 ≤ n + 2 by omega)
    have hr_law_pick := hr.mono (show 2 ≤ n + 2 by omega)
    have hr_law_graph_body := hr
    have hu := hu_of hr
    refine ⟨_, (pss_cons (ps_set (i := 5) sc_law_graph_body.nd rfl (Or.inl rfl) (pe_call G_law_draw hr_law_draw rfl T.m_law_draw T.F_law_draw.kp T.b_law_draw .nil pass0 (pa_cons (pv 0) (pa_cons pe_int pa_nil))))
    (pss_cons (ps_if (pt_cut (PW.pt (pw_or (pt_cmpR op_eq (pv 4) pe_int (nomark _)) (pw_or1 (pt_cmpR op_eq (pv 5) pe_int (nomark _)))))) (pss_cons (ps_if (pt_cmpR op_gt (pe_callB call_len_seq (by rfl) T.z_len (by decide +kernel) (pa_cons (pv 3) pa_nil)) pe_int (nomark _)) (pss_one (ps_ret (pe_call G_law_pick hr_law_pick rfl T.m_law_pick T.F_law_pick.kp T.b_law_pick .nil pass0 (pa_cons (pv 0) (pa_cons (pv 3) pa_nil))))) pss_nil)
    (pss_one (ps_ret (pe_tup (pa_cons pe_str pa_nil))))) pss_nil)
    (pss_cons (ps_if (pt_cmpR op_eq (pv 5) pe_int (nomark _)) (pss_one (ps_ret (pe_tup (pa_cons (pe_ix ix_list (pe_lst (pa_cons pe_str (pa_cons pe_str pa_nil))) (pe_call G_law_draw hr_law_draw rfl T.m_law_draw T.F_law_draw.kp T.b_law_draw .nil pass0 (pa_cons (pv 0) (pa_cons pe_int pa_nil))) (fun _ _ => rfl)) (pa_cons (pe_call G_law_graph_body hr_law_graph_body rfl T.m_law_graph_body T.F_law_graph_body.kp T.b_law_graph_body .nil pass0 (pa_cons (pv 0) (pa_cons (pv 1) (pa_cons (pv 2) (pa_cons (pv 3) (pa_cons (pe_op op_sub (pv 4) pe_int) pa_nil)))))) pa_nil))))) pss_nil)
    (pss_cons (ps_set (i := 6) sc_law_graph_body.nd rfl (Or.inl rfl) (pe_call G_law_pick hr_law_pick rfl T.m_law_pick T.F_law_pick.kp T.b_law_pick .nil pass0 (pa_cons (pv 0) (pa_cons (pv 2) pa_nil))))
    (pss_cons (ps_set (i := 7) sc_law_graph_body.nd rfl (Or.inl rfl) (pe_lst pa_nil))
    (pss_cons (ps_for PassesOwn.never rfl (pi_range1 (by rfl) T.z_range (pa_cons (pe_ix ix_tup (pe_dget hu (pv 1) (pv 6) (fun _ _ => rfl)) pe_int (fun _ _ => rfl)) pa_nil)) (pg_name (i := 8) sc_law_graph_body.nd rfl (Or.inl rfl))
    (pss_one (ps_if (pt_cut (PW.pt (pw_and (pt_cmpR op_eq (pv 8) (pe_ix ix_tup (pe_dget hu (pv 1) (pv 6) (fun _ _ => rfl)) pe_int (fun _ _ => rfl)) (nomark _)) (pw_and (pt_cmpR op_gt (pe_callB call_len_seq (by rfl) T.z_len (by decide +kernel) (pa_cons (pv 3) pa_nil)) pe_int (nomark _)) (pw_and1 (pt_cmpR op_gt (pe_call G_law_draw hr_law_draw rfl T.m_law_draw T.F_law_draw.kp T.b_law_draw .nil pass0 (pa_cons (pv 0) (pa_cons pe_int pa_nil))) pe_int (nomark _))))))) (pss_one (ps_expr (pe_bm PySem.F.plainAttrs_list PySem.F.slot_list_append PySem.F.type_list_append mt_append (pv 7) (pa_cons (pe_call G_law_pick hr_law_pick rfl T.m_law_pick T.F_law_pick.kp T.b_law_pick .nil pass0 (pa_cons (pv 0) (pa_cons (pv 3) pa_nil))) pa_nil)))) (pss_one (ps_expr (pe_bm PySem.F.plainAttrs_list PySem.F.slot_list_append PySem.F.type_list_append mt_append (pv 7) (pa_cons (pe_call G_law_graph_body hr_law_graph_body rfl T.m_law_graph_body T.F_law_graph_body.kp T.b_law_graph_body .nil pass0 (pa_cons (pv 0) (pa_cons (pv 1) (pa_cons (pv 2) (pa_cons (pv 3) (pa_cons (pe_op op_sub (pv 4) pe_int) pa_nil)))))) pa_nil)))))))
    (pss_one (ps_ret (pe_op op_catT (pe_tup (pa_cons (pv 6) pa_nil)) (pe_callTy call_tuple_of (by rfl) T.z_tuple (by decide +kernel) (pa_cons (pv 7) pa_nil))))))))))), ?_⟩
    refine ⟨_, rfl, d, c, 4, rfl, B.dr, by decide, by decide, fun kd H1 kd0 kd4 x1 D1 => ?_⟩
    have B1 := B.ex x1 D1
    have b2 := bsz_two k
    refine ⟨fun b H2 => H2 = H1 ∧ (b = false → 1 ≤ k), ?_, ?_⟩
    · refine ⟨_, rfl, rfl, _, rfl, ite2 (fun c1 => ⟨rfl, fun z => by cases z⟩) (fun c1 => ⟨_, rfl, rfl, _, rfl, rfl, fun _ => ?_⟩)⟩
      have : ¬ ((k : Int) = 0) := fun e => c1 (by rw [e]; exact decide_eq_true rfl)
      omega
    rintro b H2 ⟨rfl, hb⟩
    cases b with
    | true =>
      refine iteT ?_
      refine ⟨_, rfl, nl, _, rfl, .inl (SqL.of B1.en), _, _, rfl, rfl, _, rfl, ite2 (fun c1 => ?_) (fun c1 => ?_)⟩
      · have n1 : 1 ≤ ns.length := by
          cases ns with
          | nil => simp at c1
          | cons _ _ => simp
        have n10 := B1.n1
        refine ⟨_, rfl, _, rfl, d, c, nl, _, rfl, B1.dr, .inl B1.en, B1.nn.1, B1.nn.2, by rw [List.length_map]; exact n1, by rw [List.length_map]; omega, fun x H3 hx x3 D3 => ?_⟩
        obtain ⟨z, hz, rfl⟩ := List.mem_map.mp hx
        exact q _ (.str z) H3 (x1.trans x3) D3 (.str z (B1.ok.2 z hz)) trivial (by simp [dep]) (by simp only [cnt]; omega)
      · refine ⟨(by show 1 ≤ sizeLine; decide), fun p hp => ?_⟩
        have s := same_upd hp (.tup [.str "K0"])
        exact q _ (.tup [.str "K0"]) _ (x1.trans (.of s)) (B1.dr.same s) (.tup upd_same (.cons (.str _ (by decide +kernel)) .nil)) trivial (by simp [dep, depL]) (by simp only [cnt, cntL]; omega)
    | false =>
    refine iteF ?_
    obtain ⟨k, rfl⟩ : ∃ m, k = m + 1 := ⟨k - 1, by have := hb rfl; omega⟩
    have b2 := bsz_two k
    have eb : bsz (k + 1) = 2 + 2 * bsz k := rfl
    have ek : ((k + 1 : Nat) : Int) - 1 = (k : Int) := by omega
    refine ⟨_, rfl, rfl, _, rfl, ite2 (fun c1 => ?_) (fun c1 => ?_)⟩
    · refine ⟨(by show 2 ≤ sizeLine; decide), fun L hL => ?_⟩
      have s2 := same_upd hL (.lst [.str "K1", .str "K3"])
      have B2 := B1.same s2
      have nL := B1.dr.free hL
      refine ⟨_, rfl, d, c, 2, rfl, B2.dr, by decide, by decide, fun r H3 r0 r2 x3 D3 => ?_⟩
      have B3 := B2.ex x3 D3
      have eL : H3 L = some (.lst [.str "K1", .str "K3"]) := x3.but _ _ nL.1 nL.2 upd_same
      obtain ⟨z, hz, ez⟩ : ∃ z : Str, sok z = true ∧ atI [V.str "K1", V.str "K3"] r = some (.str z) := by
        have : r = 0 ∨ r = 1 := by omega
        rcases this with rfl | rfl
        · exact ⟨"K1", by decide +kernel, atI_nat (j := 0) rfl⟩
        · exact ⟨"K3", by decide +kernel, atI_nat (j := 1) rfl⟩
      refine ⟨L, _, _, _, rfl, rfl, SqL.of eL, ez, ?_⟩
      refine ⟨_, rfl, _, rfl, _, rfl, _, rfl, _, rfl, _, _, rfl, rfl, d, c, pl, wl, nl, kvs, ws, ns, k, (by show [V.ref d, V.ref pl, V.ref wl, V.ref nl, V.int (((k + 1 : Nat) : Int) - 1)] = _; rw [ek]), B3, by omega, by omega, fun v t H4 x4 D4 i4 tm4 dp4 ct4 => ⟨(by show 2 ≤ sizeLine; decide), fun p hp => ?_⟩⟩
      have s5 := same_upd hp (.tup [.str z, v])
      refine q _ (.tup [.str z, t]) _ ((((x1.trans (.of s2)).trans x3).trans x4).trans (.of s5)) (D4.same s5) (.tup upd_same (.cons (.str _ hz) (.cons (i4.same s5) .nil))) ⟨tm4, trivial⟩ ?_ ?_
      · rw [dep_cons]; simp only [depL]; omega
      · rw [cnt_cons]; simp only [cntL]; omega
    have w4 := B1.w1
    refine ⟨_, rfl, _, rfl, d, c, wl, _, rfl, B1.dr, .inl B1.ew, B1.nw.1, B1.nw.2, by rw [List.length_map]; omega, by rw [List.length_map]; omega, fun x H3 hx x3 D3 => ?_⟩
    obtain ⟨wd, hwd, rfl⟩ := List.mem_map.mp hx
    have B3 := B1.ex x3 D3
    refine ⟨(by show 0 ≤ sizeLine; decide), fun D hD => ?_⟩
    have s4 := same_upd hD (.lst [])
    have B4 := B3.same s4
    obtain ⟨q1, sz, at_, ev, eq1, sz1, sz2⟩ := B4.pw wd hwd
    have nD := B3.dr.free hD
    refine ⟨_, rfl, _, rfl, pl, _, rfl, ev ▸ DGet.k (k := Sum.inr wd) B4.ep, q1, _, _, _, rfl, rfl, .inl (.inl eq1), atI_nat (j := 0) rfl, (sz : Int), rfl, by omega, by omega, ?_⟩
    have okw := B1.ok.1 wd hwd
    refine for_range (n := sz) (fun i σ H5 => ∃ (y8 : Option V) (vs : List V) (ts : List PV), σ = [some (.ref d), some (.ref pl), some (.ref wl), some (.ref nl), some (.int ((k + 1 : Nat) : Int)), some (.int kd), some (.str wd), some (.ref D), y8] ∧ Ex d c H3 H5 ∧ BdG d c pl wl nl kvs ws ns H5 ∧ H5 q1 = some (.tup [.int sz, .int at_]) ∧ H5 D = some (.lst vs) ∧ IsL H5 vs ts ∧ (∀ t ∈ ts, Tm t ∧ dep t ≤ k + 2 ∧ cnt t ≤ bsz k) ∧ ts.length = i) ?_ ?_ ?_
    · exact ⟨none, [], [], rfl, .of s4, B4, eq1, upd_same, .nil, fun t h => (by cases h), rfl⟩
    · rintro i σ H5 hi ⟨y8, vs, ts, rfl, x5, B5, eq5, eD, iL, good, ln⟩
      have lv' := iL.len
      have more : ∀ (x : V) (t : PV) (H6 : Hp), Ex d c H5 H6 → Dr H6 d c → Is H6 x t → Tm t → dep t ≤ k + 2 → cnt t ≤ bsz k → ∀ {y : Option V} {R : L2.St → Hp → Prop}, (∀ σ' H', (∃ (y8 : Option V) (vs : List V) (ts : List PV), σ' = [some (.ref d), some (.ref pl), some (.ref wl), some (.ref nl), some (.int ((k + 1 : Nat) : Int)), some (.int kd), some (.str wd), some (.ref D), y8] ∧ Ex d c H3 H' ∧ BdG d c pl wl nl kvs ws ns H' ∧ H' q1 = some (.tup [.int sz, .int at_]) ∧ H' D = some (.lst vs) ∧ IsL H' vs ts ∧ (∀ t ∈ ts, Tm t ∧ dep t ≤ k + 2 ∧ cnt t ≤ bsz k) ∧ ts.length = i + 1) → R σ' H') →
          ∃ l xs y', V.ref D = .ref l ∧ [x] = [y'] ∧ H6 l = some (.lst xs) ∧ xs.length < sizeLine ∧ R [some (.ref d), some (.ref pl), some (.ref wl), some (.ref nl), some (.int ((k + 1 : Nat) : Int)), some (.int kd), some (.str wd), some (.ref D), y] (upd H6 l (.lst (xs ++ [y']))) := by
        intro x t H6 x6 D6 i6 g1 g2 g3 y R fin
        have B6 := B5.ex x6 D6
        have eD6 : H6 D = some (.lst vs) := x6.but _ _ nD.1 nD.2 eD
        refine ⟨D, vs, x, rfl, rfl, eD6, small1000 (by omega), fin _ _ ⟨y, vs ++ [x], ts ++ [t], rfl, (x5.trans x6).own hD _, B6.own B3 hD, Tk.wr ⟨_, eD6⟩ _ _ (x6.tk B5.dr _ _ eq5), upd_same, IsL.tk (Tk.wr ⟨_, eD6⟩) ((IsL.ex x6 B5.dr iL).append (.cons i6 .nil)), fun t' ht => ?_, by rw [List.length_append, ln]; rfl⟩⟩
        rcases List.mem_append.mp ht with h | h
        · exact good t' h
        · rw [List.mem_singleton.mp h]; exact ⟨g1, g2, g3⟩
      refine ⟨fun b H6 => Ex d c H5 H6 ∧ Dr H6 d c ∧ (b = true → 1 ≤ ns.length), ?_, ?_⟩
      · refine ⟨_, rfl, _, rfl, _, rfl, pl, _, rfl, ev ▸ DGet.k (k := Sum.inr wd) B5.ep, q1, _, _, _, rfl, rfl, .inl (.inl eq5), atI_nat (j := 1) rfl, rfl, _, rfl, ite2 (fun c1 => ?_) (fun c1 => ⟨.refl _ _ _, B5.dr, fun z => by cases z⟩)⟩
        refine ⟨_, rfl, nl, _, rfl, .inl (SqL.of B5.en), _, _, rfl, rfl, _, rfl, ite2 (fun c2 => ?_) (fun c2 => ⟨.refl _ _ _, B5.dr, fun z => by cases z⟩)⟩
        have n1 : 1 ≤ ns.length := by
          cases ns with
          | nil => simp at c2
          | cons _ _ => simp
        exact ⟨_, rfl, d, c, 8, rfl, B5.dr, by decide, by decide, fun r H6 r0 r8 x6 D6 => ⟨_, _, rfl, rfl, _, rfl, x6, D6, fun _ => n1⟩⟩
      · rintro b H6 ⟨x6, D6, hb⟩
        have B6 := B5.ex x6 D6
        cases b with
        | true =>
          have n1 := hb rfl
          have n10 := B6.n1
          refine iteT ⟨_, rfl, .inl ⟨rfl, _, SqL.of (x6.but _ _ nD.1 nD.2 eD)⟩, _, rfl, _, rfl, d, c, nl, _, rfl, D6, .inl B6.en, B6.nn.1, B6.nn.2, by rw [List.length_map]; exact n1, by rw [List.length_map]; omega, fun x H7 hx x7 D7 => ?_⟩
          obtain ⟨z, hz, rfl⟩ := List.mem_map.mp hx
          exact more _ (.str z) H7 (x6.trans x7) D7 (.str z (B6.ok.2 z hz)) trivial (by simp [dep]) (by simp only [cnt]; omega) fun _ _ h => h
        | false =>
          refine iteF ⟨_, rfl, .inl ⟨rfl, _, SqL.of (x6.but _ _ nD.1 nD.2 eD)⟩, _, rfl, _, rfl, _, rfl, _, rfl, _, rfl, _, _, rfl, rfl, d, c, pl, wl, nl, kvs, ws, ns, k, (by show [V.ref d, V.ref pl, V.ref wl, V.ref nl, V.int (((k + 1 : Nat) : Int) - 1)] = _; rw [ek]), B6, by omega, by omega, fun v t H7 x7 D7 i7 tm7 dp7 ct7 => ?_⟩
          exact more v t H7 (x6.trans x7) D7 i7 tm7 dp7 ct7 fun _ _ h => h
    · rintro σ H5 ⟨y8, vs, ts, rfl, x5, B5, eq5, eD, iL, good, ln⟩
      have lv' := iL.len
      refine ⟨_, rfl, (by show 1 ≤ sizeLine; decide), fun p hp => ?_⟩
      have s6 := same_upd hp (.tup [.str wd])
      refine ⟨_, rfl, D, vs, rfl, .inl ⟨SqL.of (s6 _ _ eD), fun l hl => ?_⟩⟩
      have s7 := same_upd hl (.tup vs)
      refine go_catT (s7 _ _ upd_same) upd_same (.cons (.str _ okw) .nil) (iL.same (s6.trans s7)) (by simp) (by simp only [List.length_cons, List.length_nil]; omega) fun u H8 s8 i8 => ?_
      have sx := (s6.trans s7).trans s8
      refine q u (.tup (.str wd :: ts)) H8 (((x1.trans x3).trans x5).trans (.of sx)) (B5.dr.same sx) i8 (TmL_mem fun t ht => (good t ht).1) ?_ ?_
      · have := depL_le fun t ht => (good t ht).2.1
        rw [dep_cons]; omega
      · have h1 := cntL_le fun t ht => (good t ht).2.2
        have h2 : ts.length * bsz k ≤ 2 * bsz k := Nat.mul_le_mul_right _ (by omega)
        rw [cnt_cons]; omega
end
end Kx
namespace Kx
open PySem PySem.Spec PyProof.Rows L2
section
variable {P : Program} {w : World} {K : PySem.W.Frag} {mg : Str → Option Value} {base : Heap}
/-- all but the list at d stands; it is a list still -/
structure El (d : Addr) (H H' : Hp) : Prop where
  but : ∀ b o, b ≠ d → H b = some o → H' b = some o
  lst : (∃ xs, H d = some (.lst xs)) → ∃ xs, H' d = some (.lst xs)
theorem El.refl (d : Addr) (H : Hp) : El d H H := ⟨fun _ _ _ h => h, fun h => h⟩
theorem El.trans {d : Addr} {H H1 H2 : Hp} (a : El d H H1) (b : El d H1 H2) : El d H H2 := ⟨fun c o n h => b.but c o n (a.but c o n h), fun h => b.lst (a.lst h)⟩
theorem El.of {d : Addr} {H H' : Hp} (s : Same H H') : El d H H' := ⟨fun b o _ h => s b o h, fun ⟨xs, h⟩ => ⟨xs, s _ _ h⟩⟩
theorem El.set {d : Addr} {H : Hp} (xs : List V) : El d H (upd H d (.lst xs)) := ⟨fun b o n h => by rw [upd_ne n]; exact h, fun _ => ⟨xs, upd_same⟩⟩
theorem El.tk {d : Addr} {H H' : Hp} (x : El d H H') (e : ∃ xs, H d = some (.lst xs)) : Tk H H' := fun a vs h => x.but a _ (fun q => by
  subst q
  obtain ⟨xs, e⟩ := e
  rw [e] at h
  cases h) h
theorem Is.el {d : Addr} {H H' : Hp} (x : El d H H') (e : ∃ xs, H d = some (.lst xs)) {v : V} {t : PV} (i : Is H v t) : Is H' v t := i.tk (x.tk e)
theorem IsL.el {d : Addr} {H H' : Hp} (x : El d H H') (e : ∃ xs, H d = some (.lst xs)) {v : List V} {t : List PV} (i : IsL H v t) : IsL H' v t := i.tk (x.tk e)
theorem tm_inv : ∀ {ts : List PV}, Tm (.tup ts) → ∃ w r, ts = .str w :: r ∧ TmL r
  | .str w :: r, h => ⟨w, r, rfl, h⟩
theorem cntL_take (l : List PV) (n : Nat) : cntL (l.take n) ≤ cntL l := by
  have := congrArg cntL (List.take_append_drop n l)
  rw [cntL_append] at this
  omega
theorem cut_from (xs : List V) {k : Nat} (h : k ≤ xs.length) : cutV xs (some (k : Int)) none = xs.drop k := by
  unfold cutV
  rw [HT.sIx_nat, HT.sIx_none, Nat.min_eq_left h, List.take_of_length_le (by rw [List.length_drop]; exact Nat.le_refl _)]
theorem cut_to (xs : List V) {k : Nat} (h : k ≤ xs.length) : cutV xs none (some (k : Int)) = xs.take k := by
  unfold cutV
  rw [HT.sIx_nat, HT.sIx_none, Nat.min_eq_left h]
  rfl
theorem slice1 {x : V} {vs : List V} : ¬ (HT.sIx (x :: vs).length 0 (some (1 : Int)) = 0 ∧ HT.sIx (x :: vs).length (x :: vs).length none = (x :: vs).length) := by
  intro e
  have h := e.1
  rw [show (1 : Int) = ((1 : Nat) : Int) from rfl, HT.sIx_nat, List.length_cons] at h
  omega
theorem cut1 {x : V} {vs : List V} : cutV (x :: vs) (some (1 : Int)) none = vs := cut_from (k := 1) (x :: vs) (by rw [List.length_cons]; omega)
def spNames (n : Nat) : Sp := fun vs H Q _ => ∃ v t, vs = [v] ∧ Is H v t ∧ Tm t ∧ cnt t ≤ n ∧ cnt t ≤ 100 ∧ ∀ a H', Same H H' → H' a = some (.lst ((nms t).map V.str)) → Q (.ref a) H'
theorem tm_tup_inv {H : Hp} {v : V} {t : PV} (hI : Is H v t) (hT : Tm t) (c : isStr t = false) : ∃ a w vs ts, v = .ref a ∧ t = .tup (.str w :: ts) ∧ H a = some (.tup (.str w :: vs)) ∧ IsL H vs ts ∧ TmL ts := by
  cases t with
  | str z => cases c
  | int i => exact absurd hT (by simp [Tm])
  | tup l =>
    obtain ⟨a, vs, rfl, ea, hL⟩ := hI.tup_inv
    obtain ⟨w, ts, rfl, h⟩ := tm_inv hT
    cases hL with
    | cons h0 hL =>
      cases h0.str_inv
      exact ⟨a, w, _, ts, rfl, rfl, ea, hL, h⟩
theorem inV_str (z : Str) : ∀ f : List Str, inV (.str z) (f.map V.str) = decide (z ∈ f)
  | [] => rfl
  | x :: r => by
    have ih := inV_str z r
    show ((x == z) || inV (.str z) (r.map V.str)) = _
    rw [ih]
    by_cases h : x = z
    · subst h; simp
    · have h2 : ¬ z = x := fun e => h e.symm
      simp [h, h2]
theorem flat_str : ∀ f : List Str, (f.map V.str).all flatV = true
  | [] => rfl
  | _ :: r => flat_str r
theorem ok_names_of {n : Nat} (T : Txt K mg)  : FnOk P w K mg base CX0 1 T.a_names_of T.d_names_of ["term"] (spNames n) := by
  refine T.F_names_of.ok sc_names_of (fun vs H Q E h => ?_) (fun cdv A outer s H vs Q E hr h => ?_)
  · obtain ⟨v, t, rfl, _⟩ := h; rfl
  · obtain ⟨v, t, rfl, hI, hT, hn, h100, q⟩ := h
    refine ⟨_, (pss_cons (ps_set (i := 1) sc_names_of.nd rfl (Or.inl rfl) (pe_lst pa_nil))
    (pss_cons (ps_set (i := 2) sc_names_of.nd rfl (Or.inl rfl) (pe_lst (pa_cons (pv 0) pa_nil)))
    (pss_cons (ps_while PassesOwn.never (pt_truth (pv 2) (by intro _; rfl))
    (pss_cons (ps_set (i := 3) sc_names_of.nd rfl (Or.inl rfl) (pe_bm0 PySem.F.plainAttrs_list PySem.F.slot_list_pop PySem.F.type_list_pop mt_pop (pv 2)))
    (pss_one (ps_if (pt_val (pe_callB call_isi (by rfl) T.z_isinstance (by decide +kernel) (pa_cons (pv 3) (pa_cons (pe_bltn rfl T.z_tuple (by decide +kernel) (show RelV (V.ty "tuple") (Value.type "tuple") from rfl)) pa_nil)))) (pss_one (ps_expr (pe_bm PySem.F.plainAttrs_list PySem.F.slot_list_extend PySem.F.type_list_extend mt_extT (pv 2) (pa_cons (pe_cutback (pv 3)) pa_nil)))) (pss_one (ps_if (pt_cmpR op_notIn_seq (pv 3) (pv 1) (by rfl)) (pss_one (ps_expr (pe_bm PySem.F.plainAttrs_list PySem.F.slot_list_append PySem.F.type_list_append mt_append (pv 1) (pa_cons (pv 3) pa_nil)))) pss_nil))))))
    (pss_one (ps_ret (pv 1)))))), ?_⟩
    refine ⟨(by show 0 ≤ sizeLine; decide), fun fa hf => ?_⟩
    refine ⟨_, rfl, (by show 1 ≤ sizeLine; decide), fun ta ht => ?_⟩
    have s1 := same_upd hf (.lst [])
    have s2 := same_upd ht (.lst [v])
    have ft : H ta = none := s1.free ht
    have nft : fa ≠ ta := ne_of_none upd_same ht
    refine ⟨fun m σ H2 => ∃ y3 vs ts f, σ = [some v, some (.ref fa), some (.ref ta), y3] ∧ Same H H2 ∧ H2 fa = some (.lst (f.map V.str)) ∧ H2 ta = some (.lst vs) ∧ IsL H2 vs ts ∧ (∀ x ∈ ts, Tm x) ∧ cntL ts = m ∧ f.length + cntL ts ≤ 100 ∧ dd f (lvL ts.reverse) = nms t, ⟨cnt t, ?_⟩, ?_⟩
    · refine ⟨none, [v], [t], [], rfl, s1.trans s2, ?_, upd_same, .cons ((hI.same s1).same s2) .nil, fun x hx => by rw [List.mem_singleton.mp hx]; exact hT, by simp [cntL], ?_, ?_⟩
      · rw [upd_ne nft, upd_same]; rfl
      · simp [cntL]; exact h100
      · simp [lvL, nms]
    · intro m σ H2 ⟨y3, vs, ts, f, es, sm, ef, et, hL, hTs, hm, hb, hd⟩
      subst es
      refine ⟨_, rfl, _, .inl ⟨_, SqL.of et, rfl⟩, ?_⟩
      refine ite2 (fun cv => ?_) (fun cv => ?_)
      case refine_2 =>
        have hv : vs = [] := by cases vs with | nil => rfl | cons _ _ => exact absurd rfl cv
        subst hv
        cases hL
        have e : f = nms t := hd
        rw [e] at ef
        exact ⟨_, rfl, q fa H2 sm ef⟩
      have hne : vs ≠ [] := by intro e; rw [e] at cv; cases cv
      have hlast : vs[vs.length - 1]? = some (vs.getLast hne) := by
        rw [List.getLast_eq_getElem, List.getElem?_eq_getElem]
      obtain ⟨ts', y, ets, hy, hL'⟩ := hL.snoc_inv hlast hne
      have hlen := hL'.len
      have cts : cntL ts = cntL ts' + cnt y := by rw [ets, cntL_append]; simp [cntL]
      have cy := cnt_pos y
      refine ⟨fun σ' H' => ∃ m', m' < m ∧ ∃ y3 vs ts f, σ' = [some v, some (.ref fa), some (.ref ta), y3] ∧ Same H H' ∧ H' fa = some (.lst (f.map V.str)) ∧ H' ta = some (.lst vs) ∧ IsL H' vs ts ∧ (∀ x ∈ ts, Tm x) ∧ cntL ts = m' ∧ f.length + cntL ts ≤ 100 ∧ dd f (lvL ts.reverse) = nms t, fun σ' H' z => z, ?_⟩
      refine ⟨_, rfl, .inl ⟨rfl, _, SqL.of et⟩, ta, vs, _, rfl, rfl, et, hlast, ?_⟩
      have x3 : El ta H2 (upd H2 ta (.lst vs.dropLast)) := .set _
      have sm3 : Same H (upd H2 ta (.lst vs.dropLast)) := Kx.Same.own sm ft _
      have hy3 := hy.el x3 ⟨_, et⟩
      have hL3 := hL'.el x3 ⟨_, et⟩
      have ef3 : (upd H2 ta (.lst vs.dropLast)) fa = some (.lst (f.map V.str)) := by rw [upd_ne nft]; exact ef
      have yT : Tm y := hTs y (by rw [ets]; simp)
      have hTs' : ∀ x ∈ ts', Tm x := fun x hx => hTs x (by rw [ets]; exact List.mem_append_left _ hx)
      obtain ⟨u, ty, kt⟩ := hy3.ty (K := K)
      have lrev : lvL ts.reverse = lv y ++ lvL ts'.reverse := by rw [ets, List.reverse_append]; rfl
      refine ⟨_, rfl, _, _, u, _, _, rfl, .ty _, ty, kit_tup kt, _, rfl, ite2 (fun c => ?_) (fun c => ?_)⟩
      · obtain ⟨a, w, vs2, r, ev, rfl, ea, hL2, hr2⟩ := tm_tup_inv hy3 yT (by cases y with | str z => cases c | int i => rfl | tup l => rfl)
        rw [ev]
        refine ⟨_, rfl, .inl ⟨rfl, _, SqL.of upd_same⟩, _, rfl, a, _, rfl, .inl (.inl ea), by simp, fun p o hp od os => ?_⟩
        have s4 := same_upd hp (.frz o (.tup ((V.str w :: vs2).drop 1).reverse))
        rw [cnt_cons] at cts cy
        have hlen2 := hL2.len
        have cl := cntL_len r
        have cl2 := cntL_len ts'
        refine ⟨ta, p, _, _, rfl, rfl, s4 _ _ upd_same, ⟨o, upd_same, od, os⟩, ?_, ?_⟩
        · rw [List.length_reverse, List.drop_one, List.tail_cons, hlen, hlen2]
          exact Nat.le_of_lt (small1000 (by omega))
        · have x5 : El ta (upd H2 ta (.lst vs.dropLast)) (upd (upd (upd H2 ta (.lst vs.dropLast)) p (.frz o (.tup ((V.str w :: vs2).drop 1).reverse))) ta (.lst (vs.dropLast ++ ((V.str w :: vs2).drop 1).reverse))) := (El.of s4).trans (.set _)
          refine ⟨cntL (ts' ++ r.reverse), ?_, _, _, ts' ++ r.reverse, f, rfl, Kx.Same.own (sm3.trans s4) ft _, ?_, upd_same, (hL3.append hL2.reverse).el x5 ⟨_, upd_same⟩, ?_, rfl, ?_, ?_⟩
          · rw [cntL_append, cntL_reverse]; omega
          · rw [upd_ne nft]; exact s4 _ _ ef3
          · intro x hx
            rcases List.mem_append.mp hx with h | h
            · exact hTs' x h
            · exact mem_TmL hr2 x (List.mem_reverse.mp h)
          · rw [cntL_append, cntL_reverse]; omega
          · rw [← hd, lrev, List.reverse_append, List.reverse_reverse, lvL_append]
            rfl
      · cases y with
        | int i => exact absurd yT (by simp [Tm])
        | tup l => exact absurd rfl c
        | str z =>
        rw [hy.str_inv]
        refine ⟨_, rfl, _, rfl, fa, _, rfl, .inl (SqL.of ef3), rfl, flat_str f, _, rfl, ?_⟩
        rw [inV_str]
        have e1 : dd f (lvL ts.reverse) = dd (add1 f z) (lvL ts'.reverse) := by rw [lrev]; rfl
        have c1 : cnt (.str z) = 1 := by simp [cnt]
        refine ite2 (fun c2 => ?_) (fun c2 => ?_)
        · have nz : z ∉ f := by simpa using c2
          have ea1 : add1 f z = f ++ [z] := by simp [add1, nz]
          refine ⟨_, rfl, .inl ⟨rfl, _, SqL.of ef3⟩, _, rfl, fa, _, _, rfl, rfl, ef3, ?_, ?_⟩
          · rw [List.length_map]; exact small1000 (by omega)
          · have x6 : El fa (upd H2 ta (.lst vs.dropLast)) (upd (upd H2 ta (.lst vs.dropLast)) fa (.lst (f.map V.str ++ [.str z]))) := .set _
            refine ⟨cntL ts', by omega, _, _, ts', f ++ [z], rfl, Kx.Same.own sm3 hf _, ?_, ?_, hL3.el x6 ⟨_, ef3⟩, hTs', rfl, ?_, ?_⟩
            · rw [upd_same, List.map_append]; rfl
            · rw [upd_ne nft.symm, upd_same]
            · rw [List.length_append, List.length_singleton]; omega
            · rw [← hd, e1, ea1]
        · have nz : z ∈ f := by simpa using c2
          have ea1 : add1 f z = f := by simp [add1, nz]
          refine ⟨cntL ts', by omega, _, _, ts', f, rfl, sm3, ef3, upd_same, hL3, hTs', rfl, by omega, ?_⟩
          rw [← hd, e1, ea1]
theorem ok_law_names {n : Nat} (T : Txt K mg) (G_law_names : FnOk P w K mg base CX0 (n+1) T.a_law_names T.d_law_names ["term"] (spNames n)) : FnOk P w K mg base CX0 (n+2) T.a_law_names T.d_law_names ["term"] (spNames (n+1)) := by
  refine T.F_law_names.ok sc_law_names (fun vs H Q E h => ?_) (fun cdv A outer s H vs Q E hr h => ?_)
  · obtain ⟨v, t, rfl, _⟩ := h; rfl
  · obtain ⟨v, t, rfl, hI, hT, hn, h100, q⟩ := h
    have hr_law_names := hr
    refine ⟨_, (pss_cons (ps_if (pt_val (pe_callB call_isi (by rfl) T.z_isinstance (by decide +kernel) (pa_cons (pv 0) (pa_cons (pe_bltn rfl T.z_str (by decide +kernel) (show RelV (V.ty "str") (Value.type "str") from rfl)) pa_nil)))) (pss_one (ps_ret (pe_lst (pa_cons (pv 0) pa_nil)))) pss_nil)
    (pss_cons (ps_set (i := 1) sc_law_names.nd rfl (Or.inr rfl) (pe_lst pa_nil))
    (pss_cons (ps_for PassesOwn.never rfl (pi_tup (pe_slice sl_tup (pv 0) (po_some pe_int) po_none)) (pg_name (i := 2) sc_law_names.nd rfl (Or.inl rfl))
    (pss_one (ps_set (i := 1) sc_law_names.nd rfl (Or.inr rfl) (pe_op op_cat (pv 1) (pe_lc (own := [("name", 3)]) (g := (gName 3)) rfl sc_law_names.nd (pi_list (pe_call G_law_names hr_law_names rfl T.m_law_names T.F_law_names.kp T.b_law_names .nil pass0 (pa_cons (pv 2) pa_nil))) (blkOk_by (own := [("name", 3)]) (N := ["term", "found", "part", "name"]) (sc := defScope s_law_names) (by decide +kernel)) (fun _ _ _ _ _ => (pg_name (i := 3) sc_law_names.nd rfl (Or.inl rfl))) (fun _ _ _ _ _ => pts_one (pt_cmpR (notInSeqK (K := K)) (pv 3) (pv 1) (by rfl))) (fun _ _ _ _ _ => (pv 3)))))))
    (pss_one (ps_ret (pv 1)))))), ?_⟩
    obtain ⟨u, ty, kt⟩ := hI.ty (K := K)
    refine ⟨_, rfl, _, _, u, _, _, rfl, .ty _, ty, kit_str kt, _, rfl, ite2 (fun c => ?_) (fun c => ?_)⟩
    · cases t with
      | int i => cases c
      | tup ts => cases c
      | str z =>
      cases hI.str_inv
      refine ⟨_, rfl, (by show 1 ≤ sizeLine; decide), fun p hp => ?_⟩
      exact q p _ (same_upd hp _) upd_same
    · obtain ⟨a, w, vs, ts, rfl, rfl, ea, hL, hTl⟩ := tm_tup_inv hI hT (Bool.eq_false_iff.mpr c)
      have hlen := hL.len
      rw [cnt_cons] at hn h100
      rw [nms_tup] at q
      refine ⟨(by show 0 ≤ sizeLine; decide), fun f0 hf0 => ?_⟩
      have s0 := same_upd hf0 (.lst [])
      refine ⟨_, rfl, _, rfl, a, _, rfl, .inl (.inl (s0 _ _ ea)), slice1, fun p1 h1 => ?_⟩
      rw [cut1]
      have s1 := same_upd h1 (.tup vs)
      have s01 := s0.trans s1
      refine ⟨p1, rfl, ⟨_, .inl (.inl upd_same)⟩, ?_⟩
      refine for_tup (K := K) (a := p1) (xs := vs) (fun i σ H2 => ∃ fa y2, σ = [some (.ref a), some (.ref fa), y2, none] ∧ Same (upd (upd H f0 (.lst [])) p1 (.tup vs)) H2 ∧ H2 fa = some (.lst ((nmsL [] (ts.take i)).map V.str))) ?_ ?_ ?_ ?_
      · exact ⟨f0, none, rfl, .refl _, by rw [upd_ne (ne_of_none upd_same h1), upd_same]; rfl⟩
      · exact fun i σ H2 _ ⟨_, _, _, sm, _⟩ => .inl (.inl (sm _ _ upd_same))
      · intro i x σ H2 hx ⟨fa, y2, es, sm, ef⟩
        subst es
        obtain ⟨y, ey, hy⟩ := hL.get hx
        have hm := List.mem_of_getElem? ey
        obtain ⟨hi, ey2⟩ := List.getElem?_eq_some_iff.mp ey
        have cy := cntL_mem hm
        have s02 := s01.trans sm
        have yl := nms_len y
        have fl : (nmsL [] (ts.take i)).length ≤ cntL ts := by
          have a1 := dd_len (lvL (ts.take i)) []
          have a2 := lvL_len (ts.take i)
          have a3 := cntL_take ts i
          rw [← nmsL_eq, List.length_nil] at a1
          omega
        refine ⟨_, rfl, _, rfl, x, y, rfl, hy.same s02, mem_TmL hTl y hm, by omega, by omega, fun p H3 s3 ep => ⟨p, rfl, ⟨_, SqL.of ep⟩, fun D hD => ?_⟩⟩
        have ef3 := s3 _ _ ef
        refine lc_list (K := K) (a := p) (xs := (nms y).map V.str) (fun j H4 => Same H3 H4 ∧ H4 D = some (.lst ((((nms y).take j).filter fun z => decide (z ∉ nmsL [] (ts.take i))).map V.str))) ?_ ?_ ?_ ?_
        · exact ⟨same_upd hD _, upd_same⟩
        · exact fun j H4 _ ⟨s4, _⟩ => SqL.of (s4 _ _ ep)
        · intro j x' H4 hx' ⟨s4, eD⟩
          rw [List.getElem?_map] at hx'
          cases hz : (nms y)[j]? with
          | none => rw [hz] at hx'; cases hx'
          | some z =>
          rw [hz] at hx'
          cases (Option.some.inj hx')
          obtain ⟨hj, ez⟩ := List.getElem?_eq_some_iff.mp hz
          have tk : (nms y).take (j + 1) = (nms y).take j ++ [z] := by rw [List.take_succ_eq_append_getElem hj, ez]
          refine ⟨rfl, _, rfl, _, rfl, fa, _, rfl, .inl (SqL.of (s4 _ _ ef3)), rfl, flat_str _, _, rfl, ?_⟩
          rw [inV_str]
          refine ite2 (fun c2 => ?_) (fun c2 => ?_)
          · have nz : z ∉ nmsL [] (ts.take i) := by simpa using c2
            refine ⟨_, rfl, _, eD, ?_, Kx.Same.own s4 hD _, ?_⟩
            · have l1 := List.length_filter_le (fun z => decide (z ∉ nmsL [] (ts.take i))) ((nms y).take j)
              rw [List.length_take] at l1
              rw [List.length_map]
              exact small1000 (by omega)
            · rw [upd_same, tk, List.filter_append, List.map_append]
              simp [nz]
          · have nz : z ∈ nmsL [] (ts.take i) := by simpa using c2
            refine ⟨s4, ?_⟩
            rw [eD, tk, List.filter_append]
            simp [nz]
        · intro H4 ⟨s4, eD⟩
          rw [List.length_map, List.take_length] at eD
          refine ⟨fa, D, _, _, rfl, rfl, s4 _ _ ef3, eD, ?_, fun p2 hp2 => ?_⟩
          · have l1 := List.length_filter_le (fun z => decide (z ∉ nmsL [] (ts.take i))) (nms y)
            rw [List.length_map, List.length_map]
            exact Nat.le_of_lt (small1000 (by omega))
          · have s5 := same_upd hp2 (.lst ((nmsL [] (ts.take i)).map V.str ++ (((nms y).filter fun z => decide (z ∉ nmsL [] (ts.take i))).map V.str)))
            refine ⟨p2, some x, rfl, sm.trans (s3.trans (s4.trans s5)), ?_⟩
            rw [upd_same, List.take_succ_eq_append_getElem hi, ey2]
            have e : nmsL [] (ts.take i ++ [y]) = addN (nmsL [] (ts.take i)) (nms y) := by simp [nmsL]
            rw [e, addN, List.map_append]
      · intro σ H2 ⟨fa, y2, es, sm, ef⟩
        subst es
        rw [hlen, List.take_length] at ef
        exact ⟨_, rfl, q fa H2 (s01.trans sm) ef⟩
def spNamesIn (n : Nat) : Sp := fun vs H Q _ => ∃ v t, vs = [v] ∧ Is H v t ∧ Tm t ∧ cnt t ≤ n ∧ cnt t ≤ 100 ∧ ∀ a H', Same H H' → H' a = some (.tup ((nms t).map V.str)) → Q (.ref a) H'
theorem ok_names_in {n : Nat} (T : Txt K mg) (G_names_of : FnOk P w K mg base CX0 1 T.a_names_of T.d_names_of ["term"] (spNames n)) : FnOk P w K mg base CX0 2 T.a_names_in T.d_names_in ["pattern"] (spNamesIn n) := by
  refine T.F_names_in.ok sc_names_in (fun vs H Q E h => ?_) (fun cdv A outer s H vs Q E hr h => ?_)
  · obtain ⟨v, t, rfl, _⟩ := h; rfl
  · obtain ⟨v, t, rfl, hI, hT, hn, h100, q⟩ := h
    have hr_names_of := hr
    refine ⟨_, (pss_one (ps_ret (pe_callTy call_tuple_of (by rfl) T.z_tuple (by decide +kernel) (pa_cons (pe_call G_names_of hr_names_of rfl T.m_names_of T.F_names_of.kp T.b_names_of .nil pass0 (pa_cons (pv 0) pa_nil)) pa_nil)))), ?_⟩
    refine ⟨_, rfl, v, t, rfl, hI, hT, hn, h100, fun a H1 s1 e => ⟨a, _, rfl, .inl ⟨SqL.of e, fun l hl => ?_⟩⟩⟩
    exact q l _ (s1.trans (same_upd hl _)) upd_same
end
end Kx
namespace Kx
open PySem PySem.Spec PyProof.Rows L2
section
variable {P : Program} {w : World} {K : PySem.W.Frag} {mg : Str → Option Value} {base : Heap}
set_option pp.maxSteps 600
theorem dd_sub {z : Str} : ∀ {ys f : List Str}, z ∈ dd f ys → z ∈ f ∨ z ∈ ys
  | [], f, h => .inl h
  | y :: r, f, h => by
    rcases dd_sub (ys := r) (f := add1 f y) h with h | h
    · unfold add1 at h
      split at h
      · exact .inl h
      · rcases List.mem_append.mp h with h | h
        · exact .inl h
        · exact .inr (List.mem_cons.mpr (.inl (List.mem_singleton.mp h)))
    · exact .inr (List.mem_cons_of_mem _ h)
theorem nms_sub {z : Str} {t : PV} (h : z ∈ nms t) : z ∈ lv t := (dd_sub h).resolve_left (by simp)
mutual
theorem Is.nm {H : Hp} : ∀ {v : V} {t : PV}, Is H v t → ∀ z ∈ lv t, sok z = true
  | _, _, .str y k, z, h => by
    simp only [lv, List.mem_singleton] at h
    rw [h]; exact k
  | _, _, .int _, z, h => by simp [lv] at h
  | _, .tup [], .tup _ _, z, h => by simp [lv] at h
  | _, .tup (_ :: _), .tup _ (.cons _ r), z, h => by
    simp only [lv] at h
    exact IsL.nm r z h
theorem IsL.nm {H : Hp} : ∀ {v : List V} {t : List PV}, IsL H v t → ∀ z ∈ lvL t, sok z = true
  | _, _, .nil, z, h => by simp [lvL] at h
  | _, _, .cons a r, z, h => by
    simp only [lvL, List.mem_append] at h
    rcases h with h | h
    · exact Is.nm a z h
    · exact IsL.nm r z h
end
theorem Ex.free {d c l : Addr} {H H' : Hp} (x : Ex d c H H') (h : Dr H' d c) (e : H' l = none) : H l = none := by
  obtain ⟨n1, n2⟩ := h.free e
  cases q : H l with
  | none => rfl
  | some o => have := x.but l o n1 n2 q; rw [e] at this; cases this
theorem mk_names {i j : Nat} (h : i < 2) (g : j < 2) (n : i ≠ j) {z : Str} (a : z ∈ marks ((["x", "y"] : List Str).getD i "")) (b : z ∈ marks ((["x", "y"] : List Str).getD j "")) : False := by
  have k1 : ∀ z ∈ marks "x", z ∉ marks "y" := by decide +kernel
  have k2 : ∀ z ∈ marks "y", z ∉ marks "x" := by decide +kernel
  have c : (i = 0 ∧ j = 1) ∨ (i = 1 ∧ j = 0) := by omega
  rcases c with ⟨rfl, rfl⟩ | ⟨rfl, rfl⟩
  · exact k1 z a b
  · exact k2 z a b
theorem lvL_snoc (l : List PV) (t : PV) : lvL (l ++ [t]) = lvL l ++ lv t := by rw [lvL_append]; simp [lvL]
/-- the words that the law takes -/
def WS : List (List Str) := [["f0", "f1", "f2", "f3"], ["b9", "a", "Zz", "f"], ["d", "c", "b", "a"], ["f9", "f10", "f2", "f1"]]
structure WG (W : List Str) : Prop where
  nd : W.Nodup
  len : W.length = 4
  ok : ∀ z ∈ W, sok z = true
  oth : ("other" : Str) ∉ W
theorem ws_good {W : List Str} (h : W ∈ WS) : WG W := by
  have k1 : ∀ W ∈ WS, W.Nodup := by decide +kernel
  have k2 : ∀ W ∈ WS, W.length = 4 := by decide +kernel
  have k3 : ∀ W ∈ WS, ∀ z ∈ W, sok z = true := by decide +kernel
  have k4 : ∀ W ∈ WS, ("other" : Str) ∉ W := by decide +kernel
  exact ⟨k1 W h, k2 W h, k3 W h, k4 W h⟩
/-- where the words and the places stand -/
structure Gp (d c wl pl : Addr) (W : List Str) (m : Nat) (kvs : List (Key × V)) (H : Hp) : Prop where
  dr : Dr H d c
  ew : H wl = some (.lst (W.map V.str))
  ep : H pl = some (.dK kvs)
  few : kvs.length ≤ 4
  pw : ∀ w ∈ W.take m, ∃ (q : Addr) (sz : Nat) (a : Int), valV kvs (Sum.inr w) = some (.ref q) ∧ H q = some (.tup [.int sz, .int a]) ∧ 1 ≤ sz ∧ sz ≤ 2
  nw : wl ≠ d ∧ wl ≠ c
section
variable {d c wl pl : Addr} {W : List Str} {m : Nat} {kvs : List (Key × V)} {H H' : Hp}
theorem Gp.ex (x : Ex d c H H') (D : Dr H' d c) (G : Gp d c wl pl W m kvs H) : Gp d c wl pl W m kvs H' :=
  ⟨D, x.but _ _ G.nw.1 G.nw.2 G.ew, x.keep G.dr G.ep (fun _ z => by cases z), G.few, fun w hw => (by
    obtain ⟨q, sz, a, e1, e2, r⟩ := G.pw w hw
    exact ⟨q, sz, a, e1, x.tk G.dr _ _ e2, r⟩), G.nw⟩
theorem Gp.same (s : Same H H') (G : Gp d c wl pl W m kvs H) : Gp d c wl pl W m kvs H' := G.ex (.of s) (G.dr.same s)
theorem Gp.own {l : Addr} {H0 : Hp} {o : HO} (G : Gp d c wl pl W m kvs H) (G0 : Gp d c wl pl W m kvs H0) (n : H0 l = none) : Gp d c wl pl W m kvs (upd H l o) := by
  have f := fun {b : Addr} {o : HO} (e : H0 b = some o) => (ne_of_none e n : b ≠ l)
  obtain ⟨f1, f2⟩ := G0.dr.free n
  refine ⟨G.dr.own f1 f2, by rw [upd_ne (f G0.ew)]; exact G.ew, by rw [upd_ne (f G0.ep)]; exact G.ep, G.few, fun w hw => ?_, G.nw⟩
  obtain ⟨q, sz, a, e1, e2, r⟩ := G.pw w hw
  obtain ⟨q', sz', a', e1', e2', _⟩ := G0.pw w hw
  have : q = q' := by rw [e1] at e1'; cases e1'; rfl
  subst this
  exact ⟨q, sz, a, e1, by rw [upd_ne (f e2')]; exact e2, r⟩
end
def spGraph : Sp := fun vs H Q _ => ∃ d c, vs = [.ref d] ∧ Dr H d c ∧ ∀ v fs H', Ex d c H H' → Dr H' d c → Is H' v (progPV fs) → ProgG fs → Q v H'
theorem ok_law_graph_program (T : Txt K mg) (G_law_draw : FnOk P w K mg base CX0 1 T.a_law_draw T.d_law_draw ["state", "many"] spDraw) (G_law_graph_pattern : FnOk P w K mg base CX0 2 T.a_law_graph_pattern T.d_law_graph_pattern ["state", "mark"] spPat) (G_law_names : FnOk P w K mg base CX0 13 T.a_law_names T.d_law_names ["term"] (spNames 12)) (G_law_graph_body : FnOk P w K mg base CX0 7 T.a_law_graph_body T.d_law_graph_body ["state", "places", "words", "names", "deep"] (spBody 4)) : FnOk P w K mg base CX0 15 T.a_law_graph_program T.d_law_graph_program ["state"] spGraph := by
  refine T.F_law_graph_program.ok sc_law_graph_program (fun vs H Q E h => ?_) (fun cdv A outer s H vs Q E hr h => ?_)
  · obtain ⟨d, c, rfl, _⟩ := h; rfl
  · obtain ⟨d, c, rfl, hD, q⟩ := h
    have hr_law_draw := hr.mono (show 1 ≤ 14 by omega)
    have hr_law_graph_pattern := hr.mono (show 2 ≤ 14 by omega)
    have hr_law_names := hr.mono (show 13 ≤ 14 by omega)
    have hr_law_graph_body := hr.mono (show 7 ≤ 14 by omega)
    have hu := hu_of hr
    refine ⟨_, (pss_cons (ps_set (i := 1) sc_law_graph_program.nd rfl (Or.inl rfl) (pe_op op_add pe_int (pe_call G_law_draw hr_law_draw rfl T.m_law_draw T.F_law_draw.kp T.b_law_draw .nil pass0 (pa_cons (pv 0) (pa_cons pe_int pa_nil)))))
    (Evl.pss_cut (ps_set (i := 2) sc_law_graph_program.nd rfl (Or.inl rfl) (pe_ix ix_list (pe_lst (pa_cons (pe_lst (pa_cons pe_str (pa_cons pe_str (pa_cons pe_str (pa_cons pe_str pa_nil))))) (pa_cons (pe_lst (pa_cons pe_str (pa_cons pe_str (pa_cons pe_str (pa_cons pe_str pa_nil))))) (pa_cons (pe_lst (pa_cons pe_str (pa_cons pe_str (pa_cons pe_str (pa_cons pe_str pa_nil))))) (pa_cons (pe_lst (pa_cons pe_str (pa_cons pe_str (pa_cons pe_str (pa_cons pe_str pa_nil))))) pa_nil))))) (pe_call G_law_draw hr_law_draw rfl T.m_law_draw T.F_law_draw.kp T.b_law_draw .nil pass0 (pa_cons (pv 0) (pa_cons pe_int pa_nil))) (fun _ _ => rfl)))
    (pss_cons (ps_set (i := 3) sc_law_graph_program.nd rfl (Or.inl rfl) pe_dnewK)
    (Evl.pss_cut (ps_for PassesOwn.never rfl (pi_range1 (by rfl) T.z_range (pa_cons (pv 1) pa_nil)) (pg_name (i := 4) sc_law_graph_program.nd rfl (Or.inl rfl))
    (pss_cons (ps_set (i := 5) sc_law_graph_program.nd rfl (Or.inl rfl) (pe_op op_add pe_int (pe_call G_law_draw hr_law_draw rfl T.m_law_draw T.F_law_draw.kp T.b_law_draw .nil pass0 (pa_cons (pv 0) (pa_cons pe_int pa_nil)))))
    (pss_one (ps_dput hu (pv 3) (pe_ix ix_list (pv 2) (pv 4) (fun _ _ => rfl)) (pe_tup (pa_cons (pv 5) (pa_cons (pe_call G_law_draw hr_law_draw rfl T.m_law_draw T.F_law_draw.kp T.b_law_draw .nil pass0 (pa_cons (pv 0) (pa_cons (pv 5) pa_nil))) pa_nil))) rfl))))
    (pss_cons (ps_set (i := 6) sc_law_graph_program.nd rfl (Or.inl rfl) (pe_lst pa_nil))
    (Evl.pss_cut (ps_for PassesOwn.never rfl (pi_range1 (by rfl) T.z_range (pa_cons (pv 1) pa_nil)) (pg_name (i := 4) sc_law_graph_program.nd rfl (Or.inl rfl))
    (pss_cons (ps_asg (pe_dget hu (pv 3) (pe_ix ix_list (pv 2) (pv 4) (fun _ _ => rfl)) (fun _ _ => rfl)) (pg_tup rfl (pgs_cons (pg_name (i := 5) sc_law_graph_program.nd rfl (Or.inl rfl)) (pgs_cons (pg_name (i := 7) sc_law_graph_program.nd rfl (Or.inl rfl)) pgs_nil))))
    (pss_cons (ps_set (i := 8) sc_law_graph_program.nd rfl (Or.inl rfl) (pe_lst pa_nil))
    (Evl.pss_cut (ps_for PassesOwn.never rfl (pi_range1 (by rfl) T.z_range (pa_cons (pe_call G_law_draw hr_law_draw rfl T.m_law_draw T.F_law_draw.kp T.b_law_draw .nil pass0 (pa_cons (pv 0) (pa_cons pe_int pa_nil))) pa_nil)) (pg_name (i := 9) sc_law_graph_program.nd rfl (Or.inl rfl))
    (Evl.pss_cut (ps_set (i := 10) sc_law_graph_program.nd rfl (Or.inl rfl) (pe_callTy call_tuple_of (by rfl) T.z_tuple (by decide +kernel) (pa_cons (pe_lc (own := [("j", 15)]) (g := (gName 15)) (tt := tYes) rfl sc_law_graph_program.nd (pi_range1 (by rfl) T.z_range (pa_cons (pv 5) pa_nil)) (blkOk_by (own := [("j", 15)]) (N := ["state", "many", "words", "places", "k", "size", "functions", "place", "clauses", "turn", "patterns", "names", "pattern", "called", "params", "j"]) (sc := defScope s_law_graph_program) (by decide +kernel)) (fun _ _ _ _ _ => (pg_name (i := 15) sc_law_graph_program.nd rfl (Or.inl rfl))) (fun _ _ _ _ _ => pts_nil) (fun _ _ _ _ _ => (pe_call G_law_graph_pattern hr_law_graph_pattern rfl T.m_law_graph_pattern T.F_law_graph_pattern.kp T.b_law_graph_pattern .nil pass0 (pa_cons (pv 0) (pa_cons (pe_ix (ixLK (K := K)) (pe_lst (pa_cons pe_str (pa_cons pe_str pa_nil))) (pv 15) (fun _ _ => rfl)) pa_nil))))) pa_nil)))
    (pss_cons (ps_set (i := 11) sc_law_graph_program.nd rfl (Or.inl rfl) (pe_lst pa_nil))
    (Evl.pss_cut (ps_for PassesOwn.never rfl (pi_tup (pv 10)) (pg_name (i := 12) sc_law_graph_program.nd rfl (Or.inl rfl))
    (pss_one (ps_set (i := 11) sc_law_graph_program.nd rfl (Or.inl rfl) (pe_op op_cat (pv 11) (pe_call G_law_names hr_law_names rfl T.m_law_names T.F_law_names.kp T.b_law_names .nil pass0 (pa_cons (pv 12) pa_nil))))))
    (Evl.pss_cut (ps_set (i := 13) sc_law_graph_program.nd rfl (Or.inl rfl) (pe_slice sl_list (pv 2) po_none (po_some (pe_ix ix_list (pe_lst (pa_cons (pv 1) (pa_cons (pe_op op_add (pv 4) pe_int) pa_nil))) (pe_call G_law_draw hr_law_draw rfl T.m_law_draw T.F_law_draw.kp T.b_law_draw .nil pass0 (pa_cons (pv 0) (pa_cons pe_int pa_nil))) (fun _ _ => rfl)))))
    (pss_one (ps_expr (pe_bm PySem.F.plainAttrs_list PySem.F.slot_list_append PySem.F.type_list_append mt_append (pv 8) (pa_cons (pe_tup (pa_cons (pv 10) (pa_cons (pe_call G_law_graph_body hr_law_graph_body rfl T.m_law_graph_body T.F_law_graph_body.kp T.b_law_graph_body .nil pass0 (pa_cons (pv 0) (pa_cons (pv 3) (pa_cons (pv 13) (pa_cons (pv 11) (pa_cons (pe_op op_add pe_int (pe_call G_law_draw hr_law_draw rfl T.m_law_draw T.F_law_draw.kp T.b_law_draw .nil pass0 (pa_cons (pv 0) (pa_cons pe_int pa_nil)))) pa_nil)))))) pa_nil))) pa_nil)))))))))
    (Evl.pss_cut (ps_set (i := 14) sc_law_graph_program.nd rfl (Or.inl rfl) (pe_callTy call_tuple_of (by rfl) T.z_tuple (by decide +kernel) (pa_cons (pe_lc (own := [("j", 15)]) (g := (gName 15)) (tt := tYes) rfl sc_law_graph_program.nd (pi_range1 (by rfl) T.z_range (pa_cons (pv 5) pa_nil)) (blkOk_by (own := [("j", 15)]) (N := ["state", "many", "words", "places", "k", "size", "functions", "place", "clauses", "turn", "patterns", "names", "pattern", "called", "params", "j"]) (sc := defScope s_law_graph_program) (by decide +kernel)) (fun _ _ _ _ _ => (pg_name (i := 15) sc_law_graph_program.nd rfl (Or.inl rfl))) (fun _ _ _ _ _ => pts_nil) (fun _ _ _ _ _ => (pe_tup (pa_cons pe_str (pa_cons pe_str pa_nil))))) pa_nil)))
    (pss_one (ps_expr (pe_bm PySem.F.plainAttrs_list PySem.F.slot_list_append PySem.F.type_list_append mt_append (pv 6) (pa_cons (pe_tup (pa_cons (pe_ix ix_list (pv 2) (pv 4) (fun _ _ => rfl)) (pa_cons (pv 14) (pa_cons pe_str (pa_cons pe_str (pa_cons (pv 7) (pa_cons (pe_callTy call_tuple_of (by rfl) T.z_tuple (by decide +kernel) (pa_cons (pv 8) pa_nil)) pa_nil))))))) pa_nil)))))))))
    (pss_one (ps_ret (pe_tup (pa_cons pe_str (pa_cons (pe_callTy call_tuple_of (by rfl) T.z_tuple (by decide +kernel) (pa_cons (pv 6) pa_nil)) pa_nil))))))))))), ?_⟩
    refine ⟨_, rfl, d, c, 4, rfl, hD, by decide, by decide, fun r0 H1 r00 r04 x1 D1 => ⟨_, _, rfl, rfl, ?_⟩⟩
    obtain ⟨m, hm, rfl⟩ : ∃ m : Nat, m < 4 ∧ r0 = (m : Int) := ⟨r0.toNat, by omega, by omega⟩
    have em : (1 : Int) + (m : Int) = ((m + 1 : Nat) : Int) := by omega
    show gName 1 (V.int (1 + (m : Int))) _ _ _
    rw [em]
    refine ⟨fun σ H2 => ∃ wl W, W ∈ WS ∧ σ = [some (.ref d), some (.int ((m + 1 : Nat) : Int)), some (.ref wl), none, none, none, none, none, none, none, none, none, none, none, none, none] ∧ Ex d c H1 H2 ∧ Dr H2 d c ∧ H2 wl = some (.lst (W.map V.str)) ∧ wl ≠ d ∧ wl ≠ c, ?_, ?_⟩
    · refine ⟨(by show 4 ≤ sizeLine; decide), fun l1 h1 => ⟨(by show 4 ≤ sizeLine; decide), fun l2 h2 => ⟨(by show 4 ≤ sizeLine; decide), fun l3 h3 => ⟨(by show 4 ≤ sizeLine; decide), fun l4 h4 => ⟨(by show 4 ≤ sizeLine; decide), fun L hL => ?_⟩⟩⟩⟩⟩
      have s1 := same_upd h1 (.lst [V.str "f0", V.str "f1", V.str "f2", V.str "f3"])
      have s2 := same_upd h2 (.lst [V.str "b9", V.str "a", V.str "Zz", V.str "f"])
      have s3 := same_upd h3 (.lst [V.str "d", V.str "c", V.str "b", V.str "a"])
      have s4 := same_upd h4 (.lst [V.str "f9", V.str "f10", V.str "f2", V.str "f1"])
      have s5 := same_upd hL (.lst [V.ref l1, V.ref l2, V.ref l3, V.ref l4])
      have s := (((s1.trans s2).trans s3).trans s4).trans s5
      have DL := D1.same s
      have all : ∀ {l : Addr} {o : HO}, H1 l = none → l ≠ d ∧ l ≠ c := fun n => D1.free n
      have n2 := s1.free h2
      have n3 := (s1.trans s2).free h3
      have n4 := ((s1.trans s2).trans s3).free h4
      refine ⟨_, rfl, d, c, 4, rfl, DL, by decide, by decide, fun r H2 r0 r4 x2 D2 => ?_⟩
      have fL := (((s1.trans s2).trans s3).trans s4).free hL
      obtain ⟨f1, f2⟩ := D1.free fL
      have pick : ∀ (wl : Addr) (W : List Str), W ∈ WS → H1 wl = none → (upd (upd (upd (upd (upd H1 l1 (.lst [V.str "f0", V.str "f1", V.str "f2", V.str "f3"])) l2 (.lst [V.str "b9", V.str "a", V.str "Zz", V.str "f"])) l3 (.lst [V.str "d", V.str "c", V.str "b", V.str "a"])) l4 (.lst [V.str "f9", V.str "f10", V.str "f2", V.str "f1"])) L (.lst [V.ref l1, V.ref l2, V.ref l3, V.ref l4])) wl = some (.lst (W.map V.str)) → atI [V.ref l1, V.ref l2, V.ref l3, V.ref l4] r = some (.ref wl) →
          rIxL K (.ref L) (.int r) H2 (fun v H3 => ∃ wl' W, W ∈ WS ∧ [some (V.ref d), some (.int ((m + 1 : Nat) : Int)), some v, none, none, none, none, none, none, none, none, none, none, none, none, none] = [some (V.ref d), some (.int ((m + 1 : Nat) : Int)), some (.ref wl'), none, none, none, none, none, none, none, none, none, none, none, none, none] ∧ Ex d c H1 H3 ∧ Dr H3 d c ∧ H3 wl' = some (.lst (W.map V.str)) ∧ wl' ≠ d ∧ wl' ≠ c) := fun wl W hW nn e a => by
        obtain ⟨g1, g2⟩ := D1.free nn
        exact ⟨L, _, _, _, rfl, rfl, SqL.of (x2.but _ _ f1 f2 upd_same), a, wl, W, hW, rfl, (Ex.of s).trans x2, D2, x2.but _ _ g1 g2 e, g1, g2⟩
      have cases4 : r = 0 ∨ r = 1 ∨ r = 2 ∨ r = 3 := by omega
      rcases cases4 with rfl | rfl | rfl | rfl
      · exact pick l1 ["f0", "f1", "f2", "f3"] (.head _) h1 (s5 _ _ (s4 _ _ (s3 _ _ (s2 _ _ upd_same)))) (atI_nat (j := 0) rfl)
      · exact pick l2 ["b9", "a", "Zz", "f"] (.tail _ (.head _)) n2 (s5 _ _ (s4 _ _ (s3 _ _ upd_same))) (atI_nat (j := 1) rfl)
      · exact pick l3 ["d", "c", "b", "a"] (.tail _ (.tail _ (.head _))) n3 (s5 _ _ (s4 _ _ upd_same)) (atI_nat (j := 2) rfl)
      · exact pick l4 ["f9", "f10", "f2", "f1"] (.tail _ (.tail _ (.tail _ (.head _)))) n4 (s5 _ _ upd_same) (atI_nat (j := 3) rfl)
    rintro σ H2 ⟨wl, W, hW, rfl, x2, D2, ew, nw1, nw2⟩
    have wg := ws_good hW
    have wl4 := wg.len
    refine fun pl hpl => ?_
    have s3 := same_upd hpl (.dK [])
    have npl := D2.free hpl
    have get : ∀ {i : Nat}, i < 4 → ∃ z, W[i]? = some z ∧ z ∈ W ∧ (W.map V.str)[i]? = some (.str z) := fun {i} h => by
      have h4 : i < W.length := by omega
      exact ⟨W[i], List.getElem?_eq_getElem h4, List.getElem_mem h4, by rw [List.getElem?_map, List.getElem?_eq_getElem h4] <;> rfl⟩
    have take1 : ∀ {i : Nat} {z : Str}, W[i]? = some z → W.take (i + 1) = W.take i ++ [z] := fun {i z} h => by
      obtain ⟨hi, e⟩ := List.getElem?_eq_some_iff.mp h
      rw [List.take_succ_eq_append_getElem hi, e]
    refine ⟨fun σ H3 => ∃ (y4 y5 : Option V) (kvs : List (Key × V)), σ = [some (.ref d), some (.int ((m + 1 : Nat) : Int)), some (.ref wl), some (.ref pl), y4, y5, none, none, none, none, none, none, none, none, none, none] ∧ Ex d c H1 H3 ∧ Gp d c wl pl W (m + 1) kvs H3, ?_, ?_⟩
    · refine ⟨_, rfl, ((m + 1 : Nat) : Int), rfl, by omega, by omega, ?_⟩
      refine for_range (n := m + 1) (fun i σ H3 => i ≤ m + 1 ∧ ∃ (y4 y5 : Option V) (kvs : List (Key × V)), σ = [some (.ref d), some (.int ((m + 1 : Nat) : Int)), some (.ref wl), some (.ref pl), y4, y5, none, none, none, none, none, none, none, none, none, none] ∧ Ex d c H1 H3 ∧ Gp d c wl pl W i kvs H3 ∧ kvs.length ≤ i) ?_ ?_ ?_
      · exact ⟨Nat.zero_le _, none, none, [], rfl, x2.trans (.of s3), ⟨D2.same s3, s3 _ _ ew, upd_same, Nat.zero_le _, fun w h => by simp at h, nw1, nw2⟩, Nat.le_refl 0⟩
      · rintro i σ H3 hi ⟨_, y4, y5, kvs, rfl, x3, G3, kl⟩
        obtain ⟨z, ez, hz, ev⟩ := get (show i < 4 by omega)
        refine ⟨_, rfl, d, c, 2, rfl, G3.dr, by decide, by decide, fun r H4 r0 r2 x4 D4 => ⟨_, _, rfl, rfl, ?_⟩⟩
        obtain ⟨sz, hsz, rfl⟩ : ∃ sz : Nat, sz < 2 ∧ r = (sz : Int) := ⟨r.toNat, by omega, by omega⟩
        have es : (1 : Int) + (sz : Int) = ((sz + 1 : Nat) : Int) := by omega
        show gName 5 (V.int (1 + (sz : Int))) _ _ _
        rw [es]
        refine ⟨_, rfl, _, rfl, _, rfl, d, c, ((sz + 1 : Nat) : Int), rfl, D4, by omega, by omega, fun r' H5 r0' r2' x5 D5 => ⟨(by show 2 ≤ sizeLine; decide), fun q hq => ?_⟩⟩
        have G5 := (G3.ex x4 D4).ex x5 D5
        have s6 := same_upd hq (.tup [.int ((sz + 1 : Nat) : Int), .int r'])
        have G6 := G5.same s6
        have ev0 : (W.map V.str)[0 + i]? = some (.str z) := by rw [Nat.zero_add]; exact ev
        have npl' : pl ≠ wl := (ne_of G6.ew G6.ep (fun z => nomatch z)).symm
        have nq : q ≠ pl := ne_of (show (upd H5 q (.tup [.int ((sz + 1 : Nat) : Int), .int r'])) q = _ from upd_same) G6.ep (fun z => nomatch z)
        have fpl : H1 pl = none := x2.free D2 hpl
        refine ⟨_, rfl, _, rfl, _, rfl, wl, _, _, _, rfl, rfl, SqL.of G6.ew, atI_nat (j := 0 + i) ev0, pl, _, rfl, DPut.k (k := Sum.inr z) G6.ep (small1000 (by omega)), by omega, _, _, _, rfl, (((x3.trans x4).trans x5).trans (.of s6)).own fpl _, ⟨G6.dr.own npl.1 npl.2, by rw [upd_ne npl'.symm]; exact G6.ew, upd_same, ?_, fun w hw => ?_, nw1, nw2⟩, ?_⟩
        · have := length_putK kvs (Sum.inr z) (V.ref q); omega
        · by_cases e : w = z
          · subst e
            exact ⟨q, sz + 1, r', by rw [valV_put, if_pos rfl], by rw [upd_ne nq, upd_same], by omega, by omega⟩
          · rw [take1 ez] at hw
            have hw2 : w ∈ W.take i := (List.mem_append.mp hw).resolve_right fun h => e (List.mem_singleton.mp h)
            obtain ⟨q2, sz2, a2, e1, e2, r⟩ := G6.pw w hw2
            have nq2 : q2 ≠ pl := ne_of e2 G6.ep (fun z => nomatch z)
            exact ⟨q2, sz2, a2, by rw [valV_put, if_neg (fun h => e (Sum.inr.inj h))]; exact e1, by rw [upd_ne nq2]; exact e2, r⟩
        · have := length_putK kvs (Sum.inr z) (V.ref q); omega
      · rintro σ H3 ⟨_, y4, y5, kvs, rfl, x3, G3, kl⟩
        exact ⟨y4, y5, kvs, rfl, x3, G3⟩
    rintro σ H3 ⟨y4, y5, kvs, rfl, x3, G3⟩
    refine ⟨(by show 0 ≤ sizeLine; decide), fun fl hfl => ?_⟩
    have s4 := same_upd hfl (.lst [])
    have G4 := G3.same s4
    refine ⟨fun σ H5 => ∃ (y4 y5 y7 y8 y9 y10 y11 y12 y13 y14 : Option V) (vs : List V) (fs : List Fn), σ = [some (.ref d), some (.int ((m + 1 : Nat) : Int)), some (.ref wl), some (.ref pl), y4, y5, some (.ref fl), y7, y8, y9, y10, y11, y12, y13, y14, none] ∧ Ex d c H3 H5 ∧ Gp d c wl pl W (m + 1) kvs H5 ∧ H5 fl = some (.lst vs) ∧ IsL H5 vs (fs.map fnPV) ∧ fs.map Fn.w = W.take (m + 1) ∧ ∀ f ∈ fs, FnG f, ?_, ?_⟩
    · refine ⟨_, rfl, ((m + 1 : Nat) : Int), rfl, by omega, by omega, ?_⟩
      refine for_range (n := m + 1) (fun i σ H5 => i ≤ m + 1 ∧ ∃ (y4 y5 y7 y8 y9 y10 y11 y12 y13 y14 : Option V) (vs : List V) (fs : List Fn), σ = [some (.ref d), some (.int ((m + 1 : Nat) : Int)), some (.ref wl), some (.ref pl), y4, y5, some (.ref fl), y7, y8, y9, y10, y11, y12, y13, y14, none] ∧ Ex d c H3 H5 ∧ Gp d c wl pl W (m + 1) kvs H5 ∧ H5 fl = some (.lst vs) ∧ IsL H5 vs (fs.map fnPV) ∧ fs.map Fn.w = W.take i ∧ ∀ f ∈ fs, FnG f) ?_ ?_ ?_
      · exact ⟨Nat.zero_le _, _, _, none, none, none, none, none, none, none, none, [], [], rfl, .of s4, G4, upd_same, .nil, rfl, fun f h => by cases h⟩
      · rintro i σ H5 hi ⟨_, y4, y5, y7, y8, y9, y10, y11, y12, y13, y14, vs, fs, rfl, x5, G5, efl, iF, ew5, fg⟩
        obtain ⟨z, ez, hz, ev⟩ := get (show i < 4 by omega)
        have ev0 : (W.map V.str)[0 + i]? = some (.str z) := by rw [Nat.zero_add]; exact ev
        have zin : z ∈ W.take (m + 1) := List.mem_of_getElem? (show (W.take (m + 1))[i]? = some z by rw [List.getElem?_take_of_lt (by omega)]; exact ez)
        obtain ⟨q, sz, at_, eval, eq, sz1, sz2⟩ := G5.pw z zin
        refine ⟨_, rfl, _, rfl, _, rfl, wl, _, _, _, rfl, rfl, SqL.of G5.ew, atI_nat (j := 0 + i) ev0, pl, _, rfl, eval ▸ DGet.k (k := Sum.inr z) G5.ep, q, _, rfl, .inl (.inl eq), rfl, _, _, rfl, _, _, rfl, rfl, ?_⟩
        refine ⟨(by show 0 ≤ sizeLine; decide), fun cl hcl => ?_⟩
        have s6 := same_upd hcl (.lst [])
        have nfc : fl ≠ cl := ne_of_none efl hcl
        have nfl := G3.dr.free hfl
        have ncl := G5.dr.free hcl
        refine ⟨fun σ H6 => ∃ (y9 y10 y11 y12 y13 : Option V) (us : List V) (cs : List Cl), σ = [some (.ref d), some (.int ((m + 1 : Nat) : Int)), some (.ref wl), some (.ref pl), some (.int (0 + (i : Int))), some (.int (sz : Nat)), some (.ref fl), some (.int at_), some (.ref cl), y9, y10, y11, y12, y13, y14, none] ∧ Ex d c H5 H6 ∧ Gp d c wl pl W (m + 1) kvs H6 ∧ H6 fl = some (.lst vs) ∧ H6 cl = some (.lst us) ∧ IsL H6 us (cs.map clPV) ∧ (∀ x ∈ cs, ClG sz x) ∧ cs.length ≤ 2, ?_, ?_⟩
        · refine ⟨_, rfl, d, c, 3, rfl, (G5.same s6).dr, by decide, by decide, fun r H6 r0 r3 x6 D6 => ?_⟩
          obtain ⟨tn, htn, rfl⟩ : ∃ tn : Nat, tn < 3 ∧ r = (tn : Int) := ⟨r.toNat, by omega, by omega⟩
          have G6 := (G5.same s6).ex x6 D6
          refine ⟨(tn : Int), rfl, by omega, by omega, ?_⟩
          refine for_range (n := tn) (fun t σ H7 => t ≤ tn ∧ ∃ (y9 y10 y11 y12 y13 : Option V) (us : List V) (cs : List Cl), σ = [some (.ref d), some (.int ((m + 1 : Nat) : Int)), some (.ref wl), some (.ref pl), some (.int (0 + (i : Int))), some (.int (sz : Nat)), some (.ref fl), some (.int at_), some (.ref cl), y9, y10, y11, y12, y13, y14, none] ∧ Ex d c H5 H7 ∧ Gp d c wl pl W (m + 1) kvs H7 ∧ H7 fl = some (.lst vs) ∧ H7 cl = some (.lst us) ∧ IsL H7 us (cs.map clPV) ∧ (∀ x ∈ cs, ClG sz x) ∧ cs.length = t) ?_ ?_ ?_
          · exact ⟨Nat.zero_le _, _, _, _, _, _, [], [], rfl, (Ex.of s6).trans x6, G6, x6.but _ _ nfl.1 nfl.2 (s6 _ _ efl), x6.but _ _ ncl.1 ncl.2 upd_same, .nil, (fun x h => by cases h), rfl⟩
          · rintro t σ H7 ht ⟨_, y9, y10, y11, y12, y13, us, cs, rfl, x7, G7, ef7, ec7, iC, cg, lc⟩
            have luc := iC.len
            rw [List.length_map] at luc
            refine ⟨fun σ H8 => ∃ (pa : Addr) (pvs : List V) (ps : List PV), σ = [some (.ref d), some (.int ((m + 1 : Nat) : Int)), some (.ref wl), some (.ref pl), some (.int (0 + (i : Int))), some (.int (sz : Nat)), some (.ref fl), some (.int at_), some (.ref cl), some (.int (0 + (t : Int))), some (.ref pa), y11, y12, y13, y14, none] ∧ Ex d c H7 H8 ∧ Dr H8 d c ∧ H8 pa = some (.tup pvs) ∧ IsL H8 pvs ps ∧ ps.length = sz ∧ (∀ p ∈ ps, PatG p) ∧ (lvL ps).Nodup, ?_, ?_⟩
            · refine ⟨_, rfl, (sz : Int), rfl, by omega, by omega, fun D hD => ?_⟩
              have nD := G7.dr.free hD
              have s8 := same_upd hD (.lst [])
              refine lc_range (n := sz) (fun j H8 => j ≤ sz ∧ ∃ (pvs : List V) (ps : List PV), H8 D = some (.lst pvs) ∧ IsL H8 pvs ps ∧ ps.length = j ∧ Ex d c H7 H8 ∧ Dr H8 d c ∧ (∀ p ∈ ps, PatG p) ∧ (lvL ps).Nodup ∧ ∀ z ∈ lvL ps, ∃ e, e < j ∧ z ∈ marks ((["x", "y"] : List Str).getD e "")) ?_ ?_ ?_
              · exact ⟨Nat.zero_le _, [], [], upd_same, .nil, rfl, .of s8, G7.dr.same s8, (fun p h => by cases h), List.nodup_nil, fun z h => by simp [lvL] at h⟩
              · rintro j H8 hj ⟨_, pvs, ps, eD, iP, lp, x8, D8, pg, nd, mk⟩
                have lpv := iP.len
                refine ⟨rfl, yes_if ⟨_, rfl, (by show 2 ≤ sizeLine; decide), fun L hL => ?_⟩⟩
                have s9 := same_upd hL (.lst [.str "x", .str "y"])
                have j2 : j < 2 := by omega
                obtain ⟨mm, hmm, em, am⟩ : ∃ mm : Str, (mm = "x" ∨ mm = "y") ∧ mm = (["x", "y"] : List Str).getD j "" ∧ [V.str "x", V.str "y"][0 + j]? = some (.str mm) := by
                  have : j = 0 ∨ j = 1 := by omega
                  rcases this with rfl | rfl
                  · exact ⟨"x", .inl rfl, rfl, rfl⟩
                  · exact ⟨"y", .inr rfl, rfl, rfl⟩
                refine ⟨_, rfl, L, _, _, _, rfl, rfl, SqL.of upd_same, atI_nat (j := 0 + j) am, ?_⟩
                refine ⟨d, c, mm, rfl, hmm, D8.same s9, fun v tt H9 x9 D9 i9 ⟨g1, g2, g3⟩ => ?_⟩
                have eD9 : H9 D = some (.lst pvs) := x9.but _ _ nD.1 nD.2 (s9 _ _ eD)
                refine ⟨pvs, eD9, small1000 (by omega), hj, pvs ++ [v], ps ++ [tt], upd_same, IsL.tk (Tk.wr ⟨_, eD9⟩) ((IsL.ex x9 (D8.same s9) (iP.same s9)).append (.cons i9 .nil)), by rw [List.length_append, lp]; rfl, ((x8.trans (.of s9)).trans x9).own hD _, D9.own nD.1 nD.2, fun p hp => ?_, ?_, fun z hz => ?_⟩
                · rcases List.mem_append.mp hp with h | h
                  · exact pg p h
                  · rw [List.mem_singleton.mp h]; exact g1
                · rw [lvL_snoc]
                  refine List.nodup_append.mpr ⟨nd, g2, fun a ha b hb e => ?_⟩
                  subst e
                  obtain ⟨e, he, ha2⟩ := mk a ha
                  have hb2 := g3 a hb
                  rw [em] at hb2
                  exact mk_names (i := e) (j := j) (by omega) j2 (by omega) ha2 hb2
                · rw [lvL_snoc] at hz
                  rcases List.mem_append.mp hz with h | h
                  · obtain ⟨e, he, h2⟩ := mk z h
                    exact ⟨e, by omega, h2⟩
                  · exact ⟨j, by omega, em ▸ g3 z h⟩
              · rintro H8 ⟨_, pvs, ps, eD, iP, lp, x8, D8, pg, nd, mk⟩
                refine ⟨D, pvs, rfl, .inl ⟨SqL.of eD, fun l hl => ?_⟩⟩
                have s9 := same_upd hl (.tup pvs)
                exact ⟨l, pvs, ps, rfl, x8.trans (.of s9), D8.same s9, upd_same, iP.same s9, lp, pg, nd⟩
            rintro σ H8 ⟨pa, pvs, ps, rfl, x8, D8, epa, iP, lp, pg, nd⟩
            have lpv := iP.len
            refine ⟨(by show 0 ≤ sizeLine; decide), fun n0 hn0 => ?_⟩
            have s9 := same_upd hn0 (.lst [])
            refine ⟨fun σ H9 => ∃ (y12 : Option V) (na : Addr) (ns : List Str), σ = [some (.ref d), some (.int ((m + 1 : Nat) : Int)), some (.ref wl), some (.ref pl), some (.int (0 + (i : Int))), some (.int (sz : Nat)), some (.ref fl), some (.int at_), some (.ref cl), some (.int (0 + (t : Int))), some (.ref pa), some (.ref na), y12, y13, y14, none] ∧ Same H8 H9 ∧ H8 na = none ∧ H9 na = some (.lst (ns.map V.str)) ∧ ns.length ≤ 40 ∧ ∀ z ∈ ns, sok z = true, ?_, ?_⟩
            · refine ⟨_, rfl, pa, rfl, ⟨_, .inl (.inl (s9 _ _ epa))⟩, ?_⟩
              refine for_tup (K := K) (a := pa) (xs := pvs) (fun j σ H9 => ∃ (y12 : Option V) (na : Addr) (ns : List Str), σ = [some (.ref d), some (.int ((m + 1 : Nat) : Int)), some (.ref wl), some (.ref pl), some (.int (0 + (i : Int))), some (.int (sz : Nat)), some (.ref fl), some (.int at_), some (.ref cl), some (.int (0 + (t : Int))), some (.ref pa), some (.ref na), y12, y13, y14, none] ∧ Same H8 H9 ∧ H8 na = none ∧ H9 na = some (.lst (ns.map V.str)) ∧ ns.length ≤ 10 * j ∧ ∀ z ∈ ns, sok z = true) ?_ ?_ ?_ ?_
              · exact ⟨y12, n0, [], rfl, s9, hn0, upd_same, Nat.le_refl 0, fun z h => by cases h⟩
              · exact fun j σ H9 _ ⟨_, _, _, _, sm, _⟩ => .inl (.inl (sm _ _ epa))
              · rintro j x σ H9 hx ⟨y12, na, ns, rfl, sm, hna, ena, ln, ok⟩
                obtain ⟨p, ep, ip⟩ := iP.get hx
                have hp := List.mem_of_getElem? ep
                obtain ⟨g1, g2, g3⟩ := pg p hp
                have j2 := (List.getElem?_eq_some_iff.mp hx).1
                refine ⟨_, rfl, _, rfl, x, p, rfl, ip.same sm, ap_tm g1, by omega, by omega, fun b H10 s10 eb => ?_⟩
                have nl := nms_len p
                refine ⟨na, b, _, _, rfl, rfl, s10 _ _ ena, eb, Nat.le_of_lt (small1000 (by rw [List.length_map, List.length_map]; omega)), fun l hl => ?_⟩
                have s11 := same_upd hl (.lst (ns.map V.str ++ (nms p).map V.str))
                refine ⟨some x, l, ns ++ nms p, rfl, (sm.trans s10).trans s11, (sm.trans s10).free hl, by rw [upd_same, List.map_append], by rw [List.length_append]; omega, fun z hz => ?_⟩
                rcases List.mem_append.mp hz with h | h
                · exact ok z h
                · exact ip.nm z (nms_sub h)
              · rintro σ H9 ⟨y12, na, ns, rfl, sm, hna, ena, ln, ok⟩
                exact ⟨y12, na, ns, rfl, sm, hna, ena, by omega, ok⟩
            rintro σ H9 ⟨y12, na, ns, rfl, sm9, hna, ena, lns, nok⟩
            have G8 := G7.ex x8 D8
            have G9 := G8.same sm9
            have nna := G8.dr.free hna
            refine ⟨fun σ H10 => ∃ (ca : Addr) (j : Nat), σ = [some (.ref d), some (.int ((m + 1 : Nat) : Int)), some (.ref wl), some (.ref pl), some (.int (0 + (i : Int))), some (.int (sz : Nat)), some (.ref fl), some (.int at_), some (.ref cl), some (.int (0 + (t : Int))), some (.ref pa), some (.ref na), y12, some (.ref ca), y14, none] ∧ Ex d c H9 H10 ∧ Dr H10 d c ∧ 1 ≤ j ∧ j ≤ m + 1 ∧ H10 ca = some (.lst ((W.take j).map V.str)) ∧ ca ≠ d ∧ ca ≠ c, ?_, ?_⟩
            · refine ⟨_, rfl, _, rfl, _, rfl, _, _, rfl, rfl, (by show 2 ≤ sizeLine; decide), fun L hL => ?_⟩
              have s10 := same_upd hL (.lst [.int ((m + 1 : Nat) : Int), .int (0 + (i : Int) + 1)])
              have nL := G9.dr.free hL
              refine ⟨_, rfl, d, c, 2, rfl, (G9.same s10).dr, by decide, by decide, fun r H10 r0 r2 x10 D10 => ?_⟩
              have G10 := (G9.same s10).ex x10 D10
              have eL : H10 L = some (.lst [.int ((m + 1 : Nat) : Int), .int (0 + (i : Int) + 1)]) := x10.but _ _ nL.1 nL.2 upd_same
              obtain ⟨j, j1, jm, ej⟩ : ∃ j : Nat, 1 ≤ j ∧ j ≤ m + 1 ∧ atI [V.int ((m + 1 : Nat) : Int), V.int (0 + (i : Int) + 1)] r = some (.int (j : Int)) := by
                have : r = 0 ∨ r = 1 := by omega
                rcases this with rfl | rfl
                · exact ⟨m + 1, by omega, by omega, atI_nat (j := 0) rfl⟩
                · refine ⟨i + 1, by omega, by omega, (atI_nat (j := 1) rfl).trans ?_⟩
                  have : (0 + (i : Int) + 1) = ((i + 1 : Nat) : Int) := by omega
                  rw [this]
              refine ⟨L, _, _, _, rfl, rfl, SqL.of eL, ej, _, rfl, wl, _, rfl, SqL.of G10.ew, fun p hp => ?_⟩
              have s11 := same_upd hp (.lst (cutV (W.map V.str) none (some (j : Int))))
              have np := G10.dr.free hp
              exact ⟨p, j, rfl, ((Ex.of s10).trans x10).trans (.of s11), D10.same s11, j1, jm, by rw [upd_same, cut_to (W.map V.str) (by rw [List.length_map]; omega), List.map_take], np.1, np.2⟩
            rintro σ H10 ⟨ca, j, rfl, x10, D10, j1, jm, eca, nc1, nc2⟩
            have G10 := G9.ex x10 D10
            have keepC : ∀ {b : Addr} {o : HO}, b ≠ d → b ≠ c → H7 b = some o → H10 b = some o := fun n1 n2 h => x10.but _ _ n1 n2 (sm9 _ _ (x8.but _ _ n1 n2 h))
            have tk10 : Tk H7 H10 := ((x8.tk G7.dr).trans (.of sm9)).trans (x10.tk G9.dr)
            have ec10 := keepC ncl.1 ncl.2 ec7
            have ef10 := keepC nfl.1 nfl.2 ef7
            have epa10 := x10.tk G9.dr _ _ (sm9 _ _ epa)
            refine ⟨_, rfl, .inl ⟨rfl, _, SqL.of ec10⟩, _, rfl, _, rfl, _, rfl, _, rfl, _, rfl, _, rfl, d, c, 3, rfl, D10, by decide, by decide, fun r H11 r0 r3 x11 D11 => ⟨_, _, rfl, rfl, ?_⟩⟩
            obtain ⟨kk, hkk, rfl⟩ : ∃ kk : Nat, kk < 3 ∧ r = (kk : Int) := ⟨r.toNat, by omega, by omega⟩
            have ekk : (1 : Int) + (kk : Int) = ((kk + 1 : Nat) : Int) := by omega
            have G11 := G10.ex x11 D11
            have lt := List.length_take (i := j) (l := W)
            have B11 : BdG d c pl ca na kvs (W.take j) ns H11 := ⟨D11, G11.ep, fun w hw => G11.pw w (by
              have : W.take j = (W.take (m + 1)).take j := by rw [List.take_take, Nat.min_eq_left jm]
              rw [this] at hw
              exact List.mem_of_mem_take hw), x11.but _ _ nc1 nc2 eca, x11.but _ _ nna.1 nna.2 (x10.but _ _ nna.1 nna.2 ena), ⟨by omega, by omega⟩, lns, ⟨fun z hz => wg.ok z (List.mem_of_mem_take hz), nok⟩, ⟨nc1, nc2⟩, nna⟩
            refine ⟨d, c, pl, ca, na, kvs, W.take j, ns, kk + 1, (by show [V.ref d, V.ref pl, V.ref ca, V.ref na, V.int (1 + (kk : Int))] = _; rw [ekk]), B11, by omega, by omega, fun v tt H12 x12 D12 i12 tm12 dp12 ct12 => ?_⟩
            refine ⟨(by show 2 ≤ sizeLine; decide), fun p hp => ?_⟩
            have s13 := same_upd hp (.tup [.ref pa, v])
            have ec13 := s13 _ _ (x12.but _ _ ncl.1 ncl.2 (x11.but _ _ ncl.1 ncl.2 ec10))
            have ef13 := s13 _ _ (x12.but _ _ nfl.1 nfl.2 (x11.but _ _ nfl.1 nfl.2 ef10))
            have tk12 : Tk H10 H12 := (x11.tk G10.dr).trans (x12.tk D11)
            have tk13 := tk12.trans (.of s13)
            have G13 := (G11.ex x12 D12).same s13
            have xx : Ex d c H7 (upd H12 p (.tup [.ref pa, v])) := (((x8.trans (.of sm9)).trans x10).trans (x11.trans x12)).trans (.of s13)
            refine ⟨cl, us, .ref p, rfl, rfl, ec13, small1000 (by omega), by omega, _, _, _, _, _, us ++ [.ref p], cs ++ [⟨ps, tt⟩], rfl, (x7.trans xx).own hcl _, G13.own G5 hcl, by rw [upd_ne nfc]; exact ef13, upd_same, IsL.tk (Tk.wr ⟨_, ec13⟩) ?_, fun x hx => ?_, by rw [List.length_append, lc]; rfl⟩
            · rw [List.map_append]
              refine (iC.tk (tk10.trans tk13)).append (.cons (.tup upd_same (.cons (.tup (tk13 _ _ epa10) (((iP.same sm9).tk (x10.tk G9.dr)).tk tk13)) (.cons (i12.same s13) .nil))) .nil)
            · rcases List.mem_append.mp hx with h | h
              · exact cg x h
              · rw [List.mem_singleton.mp h]
                have bs : bsz (kk + 1) ≤ 30 := by
                  have : kk = 0 ∨ kk = 1 ∨ kk = 2 := by omega
                  rcases this with rfl | rfl | rfl <;> decide
                exact ⟨lp, pg, nd, tm12, by show dep tt ≤ 5; omega, by show cnt tt ≤ 62; omega⟩
          · rintro σ H7 ⟨_, y9, y10, y11, y12, y13, us, cs, e1, x7, G7, ef7, ec7, iC, cg, lc⟩
            exact ⟨y9, y10, y11, y12, y13, us, cs, e1, x7, G7, ef7, ec7, iC, cg, by omega⟩
        · rintro σ H6 ⟨y9, y10, y11, y12, y13, us, cs, rfl, x6, G6, ef6, ec6, iC, cg, lc⟩
          have luc := iC.len
          rw [List.length_map] at luc
          refine ⟨fun σ H7 => ∃ (pa : Addr) (pvs : List V), σ = [some (.ref d), some (.int ((m + 1 : Nat) : Int)), some (.ref wl), some (.ref pl), some (.int (0 + (i : Int))), some (.int (sz : Nat)), some (.ref fl), some (.int at_), some (.ref cl), y9, y10, y11, y12, y13, some (.ref pa), none] ∧ Same H6 H7 ∧ H7 pa = some (.tup pvs) ∧ IsL H7 pvs (List.replicate sz (.tup [.str "Fa", .str "a"])), ?_, ?_⟩
          · refine ⟨_, rfl, (sz : Int), rfl, by omega, by omega, fun D hD => ?_⟩
            have s8 := same_upd hD (.lst [])
            refine lc_range (n := sz) (fun j H8 => j ≤ sz ∧ ∃ (pvs : List V), H8 D = some (.lst pvs) ∧ IsL H8 pvs (List.replicate j (.tup [.str "Fa", .str "a"])) ∧ Same H6 H8) ?_ ?_ ?_
            · exact ⟨Nat.zero_le _, [], upd_same, .nil, s8⟩
            · rintro j H8 hj ⟨_, pvs, eD, iP, sm⟩
              have lpv := iP.len
              rw [List.length_replicate] at lpv
              refine ⟨rfl, yes_if ⟨(by show 2 ≤ sizeLine; decide), fun p hp => ?_⟩⟩
              have s9 := same_upd hp (.tup [.str "Fa", .str "a"])
              have eD9 := s9 _ _ eD
              refine ⟨pvs, eD9, small1000 (by omega), hj, pvs ++ [.ref p], upd_same, IsL.tk (Tk.wr ⟨_, eD9⟩) ?_, Kx.Same.own (sm.trans s9) hD _⟩
              rw [List.replicate_succ']
              exact (iP.same s9).append (.cons (.tup upd_same (.cons (.str _ (by decide +kernel)) (.cons (.str _ (by decide +kernel)) .nil))) .nil)
            · rintro H8 ⟨_, pvs, eD, iP, sm⟩
              refine ⟨D, pvs, rfl, .inl ⟨SqL.of eD, fun l hl => ?_⟩⟩
              have s9 := same_upd hl (.tup pvs)
              exact ⟨l, pvs, rfl, sm.trans s9, upd_same, iP.same s9⟩
          rintro σ H7 ⟨pa, pvs, rfl, sm, epa, iP⟩
          have ef7 := sm _ _ ef6
          have ec7 := sm _ _ ec6
          have G7 := G6.same sm
          refine ⟨_, rfl, .inl ⟨rfl, _, SqL.of ef7⟩, _, rfl, _, rfl, wl, _, _, _, rfl, rfl, SqL.of G7.ew, atI_nat (j := 0 + i) ev0, _, rfl, _, rfl, _, rfl, cl, us, rfl, .inl ⟨SqL.of ec7, fun l hl => ⟨(by show 6 ≤ sizeLine; decide), fun p hp => ?_⟩⟩⟩
          have s8 := same_upd hl (.tup us)
          have s9 := same_upd hp (.tup [.str z, .ref pa, .str "Fa", .str "a", .int at_, .ref l])
          have s89 := s8.trans s9
          have lvs := iF.len
          rw [List.length_map] at lvs
          have lfs := congrArg List.length ew5
          rw [List.length_map, List.length_take] at lfs
          have ef9 := s89 _ _ ef7
          refine ⟨fl, vs, .ref p, rfl, rfl, ef9, small1000 (by omega), by omega, _, _, _, _, _, _, _, _, _, _, vs ++ [.ref p], fs ++ [⟨z, sz, at_, cs⟩], rfl, (((x5.trans x6).trans (.of sm)).trans (.of s89)).own hfl _, (G7.same s89).own G3 hfl, upd_same, IsL.tk (Tk.wr ⟨_, ef9⟩) ?_, ?_, fun f hf => ?_⟩
          · rw [List.map_append]
            refine (iF.tk ((x6.tk G5.dr).trans (.of (sm.trans s89)))).append (.cons (.tup upd_same (.cons (.str _ (wg.ok z hz)) (.cons (.tup (s89 _ _ epa) (iP.same s89)) (.cons (.str _ (by decide +kernel)) (.cons (.str _ (by decide +kernel)) (.cons (.int _) (.cons (.tup (s9 _ _ upd_same) (iC.same (sm.trans s89))) .nil))))))) .nil)
          · rw [List.map_append, ew5, take1 ez]; rfl
          · rcases List.mem_append.mp hf with h | h
            · exact fg f h
            · rw [List.mem_singleton.mp h]
              exact ⟨⟨sz1, sz2⟩, lc, cg⟩
      · rintro σ H5 ⟨_, y4, y5, y7, y8, y9, y10, y11, y12, y13, y14, vs, fs, r⟩
        exact ⟨y4, y5, y7, y8, y9, y10, y11, y12, y13, y14, vs, fs, r⟩
    rintro σ H5 ⟨y4, y5, y7, y8, y9, y10, y11, y12, y13, y14, vs, fs, rfl, x5, G5, efl, iF, ew5, fg⟩
    have lF := iF.len
    rw [List.length_map] at lF
    have lw := congrArg List.length ew5
    rw [List.length_map, List.length_take, Nat.min_eq_left (by omega)] at lw
    refine ⟨_, rfl, fl, vs, rfl, .inl ⟨SqL.of efl, fun l hl => ⟨(by show 2 ≤ sizeLine; decide), fun p hp => ?_⟩⟩⟩
    have s6 := same_upd hl (.tup vs)
    have s7 := same_upd hp (.tup [.str "program", .ref l])
    have s67 := s6.trans s7
    refine q _ fs _ (((x1.trans x3).trans x5).trans (.of s67)) (G5.dr.same s67) (.tup upd_same (.cons (.str _ (by decide +kernel)) (.cons (.tup (s7 _ _ upd_same) (iF.same s67)) .nil))) ⟨?_, ⟨by omega, by omega⟩, fg, ?_⟩
    · rw [ew5]; exact wg.nd.sublist (List.take_sublist _ _)
    · rw [ew5]; exact fun h => wg.oth (List.mem_of_mem_take h)
end
end Kx
namespace Kx
open PySem PySem.Spec PyProof.Rows L2
section
variable {P : Program} {w : World} {K : PySem.W.Frag} {mg : Str → Option Value} {base : Heap}
set_option pp.maxSteps 1500
/-- x is a node with the word w -/
def Hd (H : Hp) (x : V) (w : Str) : Prop := ∃ a r, x = .ref a ∧ H a = some (.tup (.str w :: r))
theorem Hd.tk {H H' : Hp} (x : Tk H H') {v : V} {w : Str} (h : Hd H v w) : Hd H' v w := by
  obtain ⟨a, r, e, e2⟩ := h
  exact ⟨a, r, e, x _ _ e2⟩
theorem hds_tk {H H' : Hp} (x : Tk H H') {xs : List V} {ws : List Str} (h : Paired (Hd H) xs ws) : Paired (Hd H') xs ws := Paired.imp h fun _ _ z => z.tk x
theorem pair_snoc {α β : Type} {F : α → β → Prop} : ∀ {l : List α} {m : List β} {x : α} {y : β}, Paired F l m → F x y → Paired F (l ++ [x]) (m ++ [y])
  | _, _, _, _, .nil, h => .cons h .nil
  | _, _, _, _, .cons a t, h => .cons a (pair_snoc t h)
theorem pair_len {α β : Type} {F : α → β → Prop} : ∀ {l : List α} {m : List β}, Paired F l m → l.length = m.length
  | _, _, .nil => rfl
  | _, _, .cons _ t => by simp [pair_len t]
theorem Paired.get {α β : Type} {F : α → β → Prop} : ∀ {l : List α} {m : List β}, Paired F l m → ∀ {i : Nat} {x : α}, l[i]? = some x → ∃ y, m[i]? = some y ∧ F x y
  | _, _, .nil, i, x, h => by simp at h
  | _, _, .cons h r, 0, x, e => by cases (Option.some.inj e); exact ⟨_, rfl, h⟩
  | _, _, .cons h r, i + 1, x, e => Paired.get r (by simpa using e)
def spNodes : Sp := fun vs H Q _ => ∃ v t, vs = [v] ∧ Is H v t ∧ Tm t ∧ cnt t ≤ 100 ∧ ∀ a H' xs ws, Same H H' → H' a = some (.lst xs) → Paired (Hd H') xs ws → (∀ w, w ∈ ws ↔ w ∈ nw t) → ws.length ≤ 100 → Q (.ref a) H'
theorem ok_nodes_of (T : Txt K mg)  : FnOk P w K mg base CX0 1 T.a_nodes_of T.d_nodes_of ["body"] spNodes := by
  refine T.F_nodes_of.ok sc_nodes_of (fun vs H Q E h => ?_) (fun cdv A outer s H vs Q E hr h => ?_)
  · obtain ⟨v, t, rfl, _⟩ := h; rfl
  · obtain ⟨v, t, rfl, hI, hT, h100, q⟩ := h
    refine ⟨_, (pss_cons (ps_set (i := 1) sc_nodes_of.nd rfl (Or.inl rfl) (pe_lst pa_nil))
    (pss_cons (ps_set (i := 2) sc_nodes_of.nd rfl (Or.inl rfl) (pe_lst (pa_cons (pv 0) pa_nil)))
    (pss_cons (ps_while PassesOwn.never (pt_truth (pv 2) (by intro _; rfl))
    (pss_cons (ps_set (i := 3) sc_nodes_of.nd rfl (Or.inl rfl) (pe_bm0 PySem.F.plainAttrs_list PySem.F.slot_list_pop PySem.F.type_list_pop mt_pop (pv 2)))
    (pss_one (ps_if (pt_val (pe_callB call_isi (by rfl) T.z_isinstance (by decide +kernel) (pa_cons (pv 3) (pa_cons (pe_bltn rfl T.z_tuple (by decide +kernel) (show RelV (V.ty "tuple") (Value.type "tuple") from rfl)) pa_nil)))) (pss_cons (ps_expr (pe_bm PySem.F.plainAttrs_list PySem.F.slot_list_append PySem.F.type_list_append mt_append (pv 1) (pa_cons (pv 3) pa_nil)))
    (pss_one (ps_expr (pe_bm PySem.F.plainAttrs_list PySem.F.slot_list_extend PySem.F.type_list_extend mt_extT (pv 2) (pa_cons (pe_slice sl_tupF (pv 3) (po_some pe_int) po_none) pa_nil))))) pss_nil))))
    (pss_one (ps_ret (pv 1)))))), ?_⟩
    refine ⟨(by show 0 ≤ sizeLine; decide), fun fa hf => ?_⟩
    refine ⟨_, rfl, (by show 1 ≤ sizeLine; decide), fun ta ht => ?_⟩
    have s1 := same_upd hf (.lst [])
    have s2 := same_upd ht (.lst [v])
    have ft : H ta = none := s1.free ht
    have nft : fa ≠ ta := ne_of_none upd_same ht
    refine ⟨fun m σ H2 => ∃ (y3 : Option V) (vs : List V) (ts : List PV) (xs : List V) (ws : List Str), σ = [some v, some (.ref fa), some (.ref ta), y3] ∧ Same H H2 ∧ H2 fa = some (.lst xs) ∧ H2 ta = some (.lst vs) ∧ IsL H2 vs ts ∧ (∀ x ∈ ts, Tm x) ∧ cntL ts = m ∧ Paired (Hd H2) xs ws ∧ ws.length + cntL ts ≤ 100 ∧ ∀ w, w ∈ nw t ↔ w ∈ ws ∨ w ∈ nwL ts, ⟨cnt t, ?_⟩, ?_⟩
    · refine ⟨none, [v], [t], [], [], rfl, s1.trans s2, by rw [upd_ne nft, upd_same], upd_same, .cons ((hI.same s1).same s2) .nil, fun x hx => by rw [List.mem_singleton.mp hx]; exact hT, by simp [cntL], .nil, ?_, fun w => by simp [nwL]⟩
      simp [cntL]; exact h100
    · intro m σ H2 ⟨y3, vs, ts, xs, ws, es, sm, ef, et, hL, hTs, hm, hp, hb, hd⟩
      subst es
      have lxs := pair_len hp
      refine ⟨_, rfl, _, .inl ⟨_, SqL.of et, rfl⟩, ?_⟩
      refine ite2 (fun cv => ?_) (fun cv => ?_)
      case refine_2 =>
        have hv : vs = [] := by cases vs with | nil => rfl | cons _ _ => exact absurd rfl cv
        subst hv
        cases hL
        exact ⟨_, rfl, q fa H2 xs ws sm ef hp (fun w => by rw [hd w]; simp [nwL]) (by omega)⟩
      have hne : vs ≠ [] := by intro e; rw [e] at cv; cases cv
      have hlast : vs[vs.length - 1]? = some (vs.getLast hne) := by
        rw [List.getLast_eq_getElem, List.getElem?_eq_getElem]
      obtain ⟨ts', y, ets, hy, hL'⟩ := hL.snoc_inv hlast hne
      have hlen := hL'.len
      have cts : cntL ts = cntL ts' + cnt y := by rw [ets, cntL_append]; simp [cntL]
      have cy := cnt_pos y
      refine ⟨fun σ' H' => ∃ m', m' < m ∧ ∃ (y3 : Option V) (vs : List V) (ts : List PV) (xs : List V) (ws : List Str), σ' = [some v, some (.ref fa), some (.ref ta), y3] ∧ Same H H' ∧ H' fa = some (.lst xs) ∧ H' ta = some (.lst vs) ∧ IsL H' vs ts ∧ (∀ x ∈ ts, Tm x) ∧ cntL ts = m' ∧ Paired (Hd H') xs ws ∧ ws.length + cntL ts ≤ 100 ∧ ∀ w, w ∈ nw t ↔ w ∈ ws ∨ w ∈ nwL ts, fun σ' H' z => z, ?_⟩
      refine ⟨_, rfl, .inl ⟨rfl, _, SqL.of et⟩, ta, vs, _, rfl, rfl, et, hlast, ?_⟩
      have x3 : El ta H2 (upd H2 ta (.lst vs.dropLast)) := .set _
      have t3 := x3.tk ⟨_, et⟩
      have sm3 : Same H (upd H2 ta (.lst vs.dropLast)) := Kx.Same.own sm ft _
      have hy3 := hy.tk t3
      have hL3 := hL'.tk t3
      have ef3 : (upd H2 ta (.lst vs.dropLast)) fa = some (.lst xs) := by rw [upd_ne nft]; exact ef
      have et3 : (upd H2 ta (.lst vs.dropLast)) ta = some (.lst vs.dropLast) := upd_same
      have hp3 := hds_tk t3 hp
      have yT : Tm y := hTs y (by rw [ets]; simp)
      have hTs' : ∀ x ∈ ts', Tm x := fun x hx => hTs x (by rw [ets]; exact List.mem_append_left _ hx)
      have hd3 : ∀ w, w ∈ nw t ↔ w ∈ ws ∨ w ∈ nwL ts' ∨ w ∈ nw y := fun w => by rw [hd w, ets, nwL_append]; simp [nwL]
      obtain ⟨u, ty, kt⟩ := hy3.ty (K := K)
      generalize upd H2 ta (.lst vs.dropLast) = H3 at *
      refine ⟨_, rfl, _, _, u, _, _, rfl, .ty _, ty, kit_tup kt, _, rfl, ite2 (fun c => ?_) (fun c => ?_)⟩
      · obtain ⟨a, w, vs2, r, ev, rfl, ea, hL2, hr2⟩ := tm_tup_inv hy3 yT (by cases y with | str z => cases c | int i => rfl | tup l => rfl)
        rw [ev]
        rw [cnt_cons] at cts cy
        have hlen2 := hL2.len
        have cl := cntL_len r
        have cl2 := cntL_len ts'
        refine ⟨_, rfl, .inl ⟨rfl, _, SqL.of ef3⟩, _, rfl, fa, xs, _, rfl, rfl, ef3, small1000 (by omega), ?_⟩
        have t4 : Tk H3 (upd H3 fa (.lst (xs ++ [.ref a]))) := Tk.wr ⟨_, ef3⟩
        have sm4 : Same H (upd H3 fa (.lst (xs ++ [.ref a]))) := Kx.Same.own sm3 hf _
        have et4 : (upd H3 fa (.lst (xs ++ [.ref a]))) ta = some (.lst vs.dropLast) := by rw [upd_ne nft.symm]; exact et3
        have ef4 : (upd H3 fa (.lst (xs ++ [.ref a]))) fa = some (.lst (xs ++ [.ref a])) := upd_same
        have hp4 := pair_snoc (hds_tk t4 hp3) (⟨a, vs2, rfl, t4 _ _ ea⟩ : Hd (upd H3 fa (.lst (xs ++ [.ref a]))) (.ref a) w)
        have ea4 := t4 _ _ ea
        have hL4 := hL3.tk t4
        have hL24 := hL2.tk t4
        generalize upd H3 fa (.lst (xs ++ [.ref a])) = H4 at *
        refine ⟨_, rfl, .inl ⟨rfl, _, SqL.of et4⟩, _, rfl, _, rfl, a, _, rfl, .inl (.inl ea4), slice1, fun p o hp5 od os => ?_⟩
        rw [cut1]
        have s5 := same_upd hp5 (.frz o (.tup vs2))
        refine ⟨ta, p, _, _, rfl, rfl, s5 _ _ et4, ⟨o, upd_same, od, os⟩, ?_, ?_⟩
        · rw [hlen, hlen2]
          exact Nat.le_of_lt (small1000 (by omega))
        · have t6 : Tk H4 (upd (upd H4 p (.frz o (.tup vs2))) ta (.lst (vs.dropLast ++ vs2))) := (Tk.of s5).trans (Tk.wr ⟨_, s5 _ _ et4⟩)
          refine ⟨cntL (ts' ++ r), by rw [cntL_append]; omega, _, _, ts' ++ r, xs ++ [.ref a], ws ++ [w], rfl, Kx.Same.own (sm4.trans s5) ft _, by rw [upd_ne nft]; exact s5 _ _ ef4, upd_same, (hL4.append hL24).tk t6, fun x hx => ?_, rfl, hds_tk t6 hp4, by rw [List.length_append, cntL_append, List.length_singleton]; omega, fun w' => ?_⟩
          · rcases List.mem_append.mp hx with h | h
            · exact hTs' x h
            · exact mem_TmL hr2 x h
          · rw [hd3 w', nwL_append]
            simp only [nw, List.mem_append, List.mem_cons, List.mem_singleton]
            constructor
            · rintro (h | h | h | h)
              · exact .inl (.inl h)
              · exact .inr (.inl h)
              · exact .inl (.inr (by simpa using h))
              · exact .inr (.inr h)
            · rintro ((h | h) | h | h)
              · exact .inl h
              · exact .inr (.inr (.inl (by simpa using h)))
              · exact .inr (.inl h)
              · exact .inr (.inr (.inr h))
      · cases y with
        | int i => exact absurd yT (by simp [Tm])
        | tup l => exact absurd rfl c
        | str z =>
        refine ⟨cntL ts', by omega, _, _, ts', xs, ws, rfl, sm3, ef3, et3, hL3, hTs', rfl, hp3, by omega, fun w' => ?_⟩
        rw [hd3 w']; simp [nw]
theorem find_w {fs : List Fn} {z : Str} : fs.find? (fun f => f.w == z) = none → z ∉ fs.map Fn.w := fun h hz => by
  obtain ⟨f, hf, e⟩ := List.mem_map.mp hz
  have := List.find?_eq_none.mp h f hf
  simp [e] at this
theorem prog_inv {H : Hp} {v : V} {fs : List Fn} (h : Is H v (progPV fs)) : ∃ a fa vs, v = .ref a ∧ H a = some (.tup [.str "program", .ref fa]) ∧ H fa = some (.tup vs) ∧ IsL H vs (fs.map fnPV) := by
  obtain ⟨a, us, rfl, e, hL⟩ := h.tup_inv
  cases hL with
  | cons h0 hL =>
  cases hL with
  | cons h1 hL =>
  cases hL
  obtain ⟨fa, vs, rfl, e2, iF⟩ := h1.tup_inv
  cases h0.str_inv
  exact ⟨a, fa, vs, rfl, e, e2, iF⟩
theorem fn_inv {H : Hp} {v : V} {f : Fn} (h : Is H v (fnPV f)) : ∃ a pa ca ps cs, v = .ref a ∧ H a = some (.tup [.str f.w, .ref pa, .str "Fa", .str "a", .int f.at_, .ref ca]) ∧ H pa = some (.tup ps) ∧ ps.length = f.np ∧ H ca = some (.tup cs) ∧ IsL H cs (f.cls.map clPV) ∧ sok f.w = true := by
  obtain ⟨a, us, rfl, e, hL⟩ := h.tup_inv
  cases hL with
  | @cons v0 _ _ _ h0 hL =>
  cases hL with
  | @cons v1 _ _ _ h1 hL =>
  cases hL with
  | @cons v2 _ _ _ h2 hL =>
  cases hL with
  | @cons v3 _ _ _ h3 hL =>
  cases hL with
  | @cons v4 _ _ _ h4 hL =>
  cases hL with
  | @cons v5 _ _ _ h5 hL =>
  cases hL
  obtain ⟨pa, ps, rfl, ep, iP⟩ := h1.tup_inv
  obtain ⟨ca, cs, rfl, ec, iC⟩ := h5.tup_inv
  have lp := iP.len
  rw [List.length_replicate] at lp
  cases h0 with
  | str _ k =>
  cases h2.str_inv
  cases h3.str_inv
  cases h4
  exact ⟨a, pa, ca, ps, cs, rfl, e, ep, lp, ec, iC, k⟩
theorem cl_inv {H : Hp} {v : V} {c : Cl} (h : Is H v (clPV c)) : ∃ a pa ps bv, v = .ref a ∧ H a = some (.tup [.ref pa, bv]) ∧ H pa = some (.tup ps) ∧ IsL H ps c.ps ∧ Is H bv c.body := by
  obtain ⟨a, us, rfl, e, hL⟩ := h.tup_inv
  cases hL with
  | @cons v0 _ _ _ h0 hL =>
  cases hL with
  | @cons v1 _ _ _ h1 hL =>
  cases hL
  obtain ⟨pa, ps, rfl, ep, iP⟩ := h0.tup_inv
  exact ⟨a, pa, ps, _, rfl, e, ep, iP, h1⟩
def spFof : Sp := fun vs H Q _ => ∃ v fs z, vs = [v, .str z] ∧ Is H v (progPV fs) ∧ ∀ v', (∀ f, fs.find? (fun f => f.w == z) = some f → Is H v' (fnPV f)) → (fs.find? (fun f => f.w == z) = none → v' = .non) → Q v' H
theorem ok_function_of (T : Txt K mg)  : FnOk P w K mg base CX0 1 T.a_function_of T.d_function_of ["program", "word"] spFof := by
  refine T.F_function_of.ok sc_function_of (fun vs H Q E h => ?_) (fun cdv A outer s H vs Q E hr h => ?_)
  · obtain ⟨v, fs, z, rfl, _⟩ := h; rfl
  · obtain ⟨v, fs, z, rfl, hI, q⟩ := h
    refine ⟨_, (pss_cons (ps_for PassesOwn.never rfl (pi_tup (pe_ix ix_tup (pv 0) pe_int (fun _ _ => rfl))) (pg_name (i := 2) sc_function_of.nd rfl (Or.inl rfl))
    (pss_one (ps_if (pt_cmpR op_eq (pe_ix ix_tup (pv 2) pe_int (fun _ _ => rfl)) (pv 1) (nomark _)) (pss_one (ps_ret (pv 2))) pss_nil)))
    (pss_one (ps_ret pe_non))), ?_⟩
    obtain ⟨a, fa, vs, rfl, ea, ef, iF⟩ := prog_inv hI
    refine ⟨_, rfl, a, _, _, _, rfl, rfl, .inl (.inl ea), atI_nat (j := 1) rfl, fa, rfl, ⟨_, .inl (.inl ef)⟩, ?_⟩
    refine for_tup (K := K) (a := fa) (xs := vs) (fun i σ H2 => ∃ y2, σ = [some (.ref a), some (.str z), y2] ∧ H2 = H ∧ (fs.take i).find? (fun f => f.w == z) = none) ?_ ?_ ?_ ?_
    · exact ⟨none, rfl, rfl, rfl⟩
    · rintro i σ H2 _ ⟨_, _, rfl, _⟩
      exact .inl (.inl ef)
    · rintro i x σ H2 hx ⟨y2, rfl, rfl, hn⟩
      obtain ⟨t, et, it⟩ := iF.get hx
      rw [List.getElem?_map] at et
      obtain ⟨f, ef', rfl⟩ := Option.map_eq_some_iff.mp et
      obtain ⟨b, pa, ca, ps, cs, rfl, eb, _, _, _, _, _⟩ := fn_inv it
      obtain ⟨hi, eg⟩ := List.getElem?_eq_some_iff.mp ef'
      have tk : fs = fs.take i ++ f :: fs.drop (i + 1) := by
        rw [← eg, ← List.drop_eq_getElem_cons hi, List.take_append_drop]
      have tk1 : fs.take (i + 1) = fs.take i ++ [f] := by rw [List.take_succ_eq_append_getElem hi, eg]
      refine ⟨_, rfl, b, _, _, _, rfl, rfl, .inl (.inl eb), atI_nat (j := 0) rfl, _, rfl, rfl, _, rfl, ite2 (fun c => ?_) (fun c => ?_)⟩
      · have e : f.w = z := V.str.inj (of_decide_eq_true c)
        have fd : fs.find? (fun f => f.w == z) = some f := by
          rw [tk, List.find?_append, hn]
          simp [e]
        refine ⟨_, rfl, q _ (fun g hg => ?_) (fun hg => ?_)⟩
        · rw [fd] at hg; cases hg; exact it
        · rw [fd] at hg; cases hg
      · have e : ¬ f.w = z := fun e => c (by rw [e]; exact decide_eq_true rfl)
        refine ⟨_, rfl, rfl, ?_⟩
        rw [tk1, List.find?_append, hn]
        simp [e]
    · rintro σ H2 ⟨y2, rfl, rfl, hn⟩
      have lF := iF.len
      rw [List.length_map] at lF
      rw [lF, List.take_length] at hn
      exact q _ (fun f hf => by rw [hn] at hf; cases hf) fun _ => rfl
end
end Kx
namespace Kx
open PySem PySem.Spec PyProof.Rows L2
section
variable {P : Program} {w : World} {K : PySem.W.Frag} {mg : Str → Option Value} {base : Heap}
set_option pp.maxSteps 1500
theorem prog_ok {H : Hp} {v : V} {fs : List Fn} (h : Is H v (progPV fs)) : ∀ y ∈ fs.map Fn.w, sok y = true := by
  obtain ⟨_, _, vs, _, _, _, iF⟩ := prog_inv h
  have key : ∀ {vs : List V} {l : List Fn}, IsL H vs (l.map fnPV) → ∀ y ∈ l.map Fn.w, sok y = true := by
    intro vs l
    induction l generalizing vs with
    | nil => intro _ y hy; cases hy
    | cons f r ih =>
      intro i y hy
      cases i with
      | cons h0 i =>
      rcases List.mem_cons.mp hy with e | e
      · obtain ⟨_, _, _, _, _, _, _, _, _, _, _, k⟩ := fn_inv h0
        rw [e]; exact k
      · exact ih i y e
  exact key iF
theorem fn_one {fs : List Fn} (nd : (fs.map Fn.w).Nodup) : ∀ {f g : Fn}, f ∈ fs → g ∈ fs → f.w = g.w → f = g := by
  induction fs with
  | nil => intro f g h; cases h
  | cons x r ih =>
    intro f g hf hg e
    obtain ⟨n1, n2⟩ := List.nodup_cons.mp nd
    rcases List.mem_cons.mp hf with rfl | h1 <;> rcases List.mem_cons.mp hg with rfl | h2
    · rfl
    · exact absurd (List.mem_map.mpr ⟨g, h2, e.symm⟩) n1
    · exact absurd (show g.w ∈ r.map Fn.w from List.mem_map.mpr ⟨f, h1, e⟩) n1
    · exact ih n2 h1 h2 e
theorem call_iff {fs : List Fn} (nd : (fs.map Fn.w).Nodup) {f : Fn} (hf : f ∈ fs) {y : Str} : Call fs f.w y ↔ y ∈ fs.map Fn.w ∧ ∃ c ∈ f.cls, y ∈ nw c.body := by
  constructor
  · rintro ⟨h, g, hg, e, r⟩
    rw [fn_one nd hg hf e] at r
    exact ⟨h, r⟩
  · rintro ⟨h, r⟩
    exact ⟨h, f, hf, rfl, r⟩
theorem find_at {fs : List Fn} {z : Str} (h : z ∈ fs.map Fn.w) : ∃ f, fs.find? (fun f => f.w == z) = some f ∧ f ∈ fs ∧ f.w = z := by
  cases e : fs.find? (fun f => f.w == z) with
  | none => exact absurd h (find_w e)
  | some f =>
    have := List.find?_some e
    exact ⟨f, rfl, List.mem_of_find?_eq_some e, beq_iff_eq.mp this⟩
theorem put_keys {kvs : List (Key × V)} {ks : List Str} {z : Str} {v : V} (h : kvs.map (·.1) = ks.map Sum.inr) : (putK kvs (Sum.inr z) v).map (·.1) = (add1 ks z).map Sum.inr := by
  have any : (kvs.any fun kv => decide (kv.1 = Sum.inr z)) = decide (z ∈ ks) := by
    have e : (kvs.any fun kv => decide (kv.1 = Sum.inr z)) = (kvs.map (·.1)).any fun k => decide (k = Sum.inr z) := by rw [List.any_map]; rfl
    rw [e, h, List.any_map]
    rw [Bool.eq_iff_iff]
    simp
  unfold putK add1
  rw [any]
  by_cases c : z ∈ ks
  · simp only [c, decide_true, if_true]
    rw [← h, List.map_map]
    refine List.map_congr_left fun kv _ => ?_
    show (if kv.1 = Sum.inr z then (kv.1, v) else kv).1 = kv.1
    split <;> rfl
  · simp only [c, decide_false, if_false, List.map_append, h, Bool.false_eq_true]
    rfl
theorem add1_nodup {ks : List Str} (h : ks.Nodup) (z : Str) : (add1 ks z).Nodup := by
  unfold add1
  split
  · exact h
  · rename_i n
    refine List.nodup_append.mpr ⟨h, by simp, fun a ha b hb e => ?_⟩
    rw [List.mem_singleton.mp hb] at e
    exact n (e ▸ ha)
theorem mem_add1 {ks : List Str} {z y : Str} : y ∈ add1 ks z ↔ y ∈ ks ∨ y = z := by
  unfold add1
  split
  · rename_i h
    exact ⟨.inl, fun q => q.elim id fun e => e ▸ h⟩
  · simp
theorem take_snoc {α : Type} {l : List α} {i : Nat} {x : α} (h : l[i]? = some x) : l.take (i + 1) = l.take i ++ [x] := by
  obtain ⟨hi, e⟩ := List.getElem?_eq_some_iff.mp h
  rw [List.take_succ_eq_append_getElem hi, e]
def ExD (f : Addr) (H H' : Hp) : Prop := ∀ b o, b ≠ f → H b = some o → H' b = some o
theorem ExD.refl (f : Addr) (H : Hp) : ExD f H H := fun _ _ _ h => h
theorem ExD.trans {f : Addr} {H H1 H2 : Hp} (a : ExD f H H1) (b : ExD f H1 H2) : ExD f H H2 := fun c o n h => b c o n (a c o n h)
theorem ExD.of {f : Addr} {H H' : Hp} (s : Same H H') : ExD f H H' := fun b o _ h => s b o h
theorem ExD.set {f : Addr} {H : Hp} (o : HO) : ExD f H (upd H f o) := fun b u n h => by rw [upd_ne n]; exact h
theorem ExD.tk {f : Addr} {H H' : Hp} (x : ExD f H H') (e : ∀ vs, H f ≠ some (.tup vs)) : Tk H H' := fun a vs h => x a _ (fun q => e vs (q ▸ h)) h
def spCalls : Sp := fun vs H Q _ => ∃ v fs z, vs = [v, .str z] ∧ Is H v (progPV fs) ∧ ProgG fs ∧ z ∈ fs.map Fn.w ∧ ∀ p H' ys, Same H H' → H' p = some (.tup (ys.map V.str)) → ys.Nodup → sortedS ys = true → (∀ y, y ∈ ys ↔ Call fs z y) → Q (.ref p) H'
theorem ok_calls_of (T : Txt K mg) (G_function_of : FnOk P w K mg base CX0 1 T.a_function_of T.d_function_of ["program", "word"] spFof) (G_nodes_of : FnOk P w K mg base CX0 1 T.a_nodes_of T.d_nodes_of ["body"] spNodes) : FnOk P w K mg base CX0 2 T.a_calls_of T.d_calls_of ["program", "word"] spCalls := by
  refine T.F_calls_of.ok sc_calls_of (fun vs H Q E h => ?_) (fun cdv A outer s H vs Q E hr h => ?_)
  · obtain ⟨v, fs, z, rfl, _⟩ := h; rfl
  · obtain ⟨v, fs, z, rfl, hI, G, hz, q⟩ := h
    have hr_function_of := hr
    have hr_nodes_of := hr
    have hu := hu_of hr
    refine ⟨_, (pss_cons (ps_setLc (i := 2) (own := [("function", 7)]) (g := (gName 7)) (tt := tYes) rfl sc_calls_of.nd rfl rfl (sw_true rfl rfl rfl (by decide +kernel)) (pi_tup (pe_ix ix_tup (pv 0) pe_int (fun _ _ => rfl))) (blkOk_by (own := [("function", 7)]) (N := ["program", "word", "words", "found", "_", "body", "node", "function"]) (sc := defScope s_calls_of) (by decide +kernel)) (fun _ _ _ _ _ => (pg_name (i := 7) sc_calls_of.nd rfl (Or.inl rfl))) (fun _ _ _ _ _ => pts_nil) (fun _ _ _ _ _ => (pe_ix (ixTK (K := K)) (pv 7) pe_int (fun _ _ => rfl))))
    (pss_cons (ps_set (i := 3) sc_calls_of.nd rfl (Or.inl rfl) pe_dnewK)
    (pss_cons (ps_for PassesOwn.never rfl (pi_tup (pe_ix ix_tup (pe_call G_function_of hr_function_of rfl T.m_function_of T.F_function_of.kp T.b_function_of .nil pass0 (pa_cons (pv 0) (pa_cons (pv 1) pa_nil))) pe_int (fun _ _ => rfl))) (pg_tup rfl (pgs_cons (pg_name (i := 4) sc_calls_of.nd rfl (Or.inl rfl)) (pgs_cons (pg_name (i := 5) sc_calls_of.nd rfl (Or.inl rfl)) pgs_nil)))
    (pss_one (ps_for PassesOwn.never rfl (pi_list (pe_call G_nodes_of hr_nodes_of rfl T.m_nodes_of T.F_nodes_of.kp T.b_nodes_of .nil pass0 (pa_cons (pv 5) pa_nil))) (pg_name (i := 6) sc_calls_of.nd rfl (Or.inl rfl))
    (pss_one (ps_if (pt_cmpR op_in_seq (pe_ix ix_tup (pv 6) pe_int (fun _ _ => rfl)) (pv 2) (by rfl)) (pss_one (ps_dput hu (pv 3) (pe_ix ix_tup (pv 6) pe_int (fun _ _ => rfl)) pe_bl rfl)) pss_nil)))))
    (pss_one (ps_ret (pe_callTy call_tuple_of (by rfl) T.z_tuple (by decide +kernel) (pa_cons (pe_callB (call_sortedD rfl) (by rfl) T.z_sorted (by decide +kernel) (pa_cons (pv 3) pa_nil)) pa_nil))))))), ?_⟩
    obtain ⟨a, fa, vs, rfl, ea, ef, iF⟩ := prog_inv hI
    have lF := iF.len
    rw [List.length_map] at lF
    have l4 := G.len
    refine ⟨_, rfl, a, _, _, _, rfl, rfl, .inl (.inl ea), atI_nat (j := 1) rfl, fa, rfl, ⟨_, .inl (.inl ef)⟩, fun D hD => ?_⟩
    refine lc_tup (K := K) (a := fa) (xs := vs) (fun i H2 => Same H H2 ∧ H2 D = some (.lst (((fs.take i).map Fn.w).map V.str))) ?_ ?_ ?_ ?_
    · exact ⟨same_upd hD _, upd_same⟩
    · exact fun i H2 _ ⟨sm, _⟩ => .inl (.inl (sm _ _ ef))
    · rintro i x H2 hx ⟨sm, eD⟩
      obtain ⟨t, et, it⟩ := iF.get hx
      rw [List.getElem?_map] at et
      obtain ⟨f, ef', rfl⟩ := Option.map_eq_some_iff.mp et
      obtain ⟨b, pa, ca, ps, cs, rfl, eb, _, _, _, _, _⟩ := fn_inv (it.same sm)
      have hi := (List.getElem?_eq_some_iff.mp ef').1
      refine ⟨rfl, yes_if ⟨_, rfl, b, _, _, _, rfl, rfl, .inl (.inl eb), atI_nat (j := 0) rfl, _, eD, small1000 (by rw [List.length_map, List.length_map, List.length_take]; omega), Kx.Same.own sm hD _, ?_⟩⟩
      rw [upd_same, take_snoc ef', List.map_append, List.map_append]; rfl
    rintro H2 ⟨sm, eD⟩
    rw [lF, List.take_length] at eD
    refine fun fd hfd => ?_
    have s3 := same_upd hfd (.dK [])
    have nDf : D ≠ fd := ne_of_none eD hfd
    obtain ⟨f, ff, hf, rfl⟩ := find_at hz
    have hI3 := (hI.same sm).same s3
    refine ⟨_, rfl, _, rfl, _, fs, f.w, rfl, hI3, fun v' hs _ => ?_⟩
    obtain ⟨b, pa, ca, ps, cs, rfl, eb, _, _, ec, iC, _⟩ := fn_inv (hs f ff)
    have FG := G.fn f hf
    have lC := iC.len
    rw [List.length_map] at lC
    have words : ∀ {ks : List Str}, ks.Nodup → (∀ y ∈ ks, y ∈ fs.map Fn.w) → ks.length ≤ 4 := fun nd sub => by
      have := nodup_len nd sub
      rw [List.length_map] at this
      omega
    refine ⟨b, _, _, _, rfl, rfl, .inl (.inl eb), atI_nat (j := 5) rfl, ca, rfl, ⟨_, .inl (.inl ec)⟩, ?_⟩
    have tkF : ∀ {H' : Hp}, ExD fd (upd H2 fd (.dK [])) H' → Tk (upd H2 fd (.dK [])) H' := fun x => x.tk fun vs e => by rw [upd_same] at e; cases e
    refine for_tup (K := K) (a := ca) (xs := cs) (fun i σ H4 => ∃ (y4 y5 y6 : Option V) (kvs : List (Key × V)) (ks : List Str), σ = [some (.ref a), some (.str f.w), some (.ref D), some (.ref fd), y4, y5, y6, none] ∧ ExD fd (upd H2 fd (.dK [])) H4 ∧ H4 fd = some (.dK kvs) ∧ kvs.map (·.1) = ks.map Sum.inr ∧ ks.Nodup ∧ (∀ y, y ∈ ks ↔ y ∈ fs.map Fn.w ∧ ∃ c ∈ f.cls.take i, y ∈ nw c.body)) ?_ ?_ ?_ ?_
    · exact ⟨none, none, none, [], [], rfl, .refl _ _, upd_same, rfl, List.nodup_nil, fun y => by simp⟩
    · rintro i σ H4 _ ⟨_, _, _, _, _, _, x4, _⟩
      exact .inl (.inl (tkF x4 _ _ ec))
    · rintro i x σ H4 hx ⟨y4, y5, y6, kvs, ks, rfl, x4, ed, hk, nd, hm⟩
      obtain ⟨t, et, it⟩ := iC.get hx
      rw [List.getElem?_map] at et
      obtain ⟨c, hc, rfl⟩ := Option.map_eq_some_iff.mp et
      obtain ⟨xa, pa', ps', bv, rfl, exa, _, _, ib⟩ := cl_inv (it.tk (tkF x4))
      have CG := FG.cl c (List.mem_of_getElem? hc)
      refine ⟨xa, _, rfl, .inl (.inl exa), rfl, _, _, rfl, _, _, rfl, rfl, ?_⟩
      refine ⟨_, rfl, bv, c.body, rfl, ib, CG.body.1, (by have := CG.body.2.2; omega), fun la H5 xs ws s5 el hp hw lw => ⟨la, rfl, ⟨_, SqL.of el⟩, ?_⟩⟩
      have lx := pair_len hp
      have ed5 := s5 _ _ ed
      have nla : la ≠ fd := ne_of el ed5 (fun z => nomatch z)
      have ih : ∀ y, y ∈ ks → y ∈ fs.map Fn.w := fun y hy => ((hm y).mp hy).1
      refine for_list (K := K) (a := la) (xs := xs) (fun j σ H6 => ∃ (y6 : Option V) (kvs : List (Key × V)) (ks' : List Str), σ = [some (.ref a), some (.str f.w), some (.ref D), some (.ref fd), some (.ref pa'), some bv, y6, none] ∧ ExD fd H5 H6 ∧ H6 fd = some (.dK kvs) ∧ kvs.map (·.1) = ks'.map Sum.inr ∧ ks'.Nodup ∧ (∀ y, y ∈ ks' ↔ y ∈ ks ∨ y ∈ fs.map Fn.w ∧ y ∈ ws.take j)) ?_ ?_ ?_ ?_
      · exact ⟨y6, kvs, ks, rfl, .refl _ _, ed5, hk, nd, fun y => by simp⟩
      · rintro j σ H6 _ ⟨_, _, _, _, x6, _⟩
        exact SqL.of (x6 _ _ nla el)
      · rintro j x σ H6 hx2 ⟨y6', kvs', ks', rfl, x6, ed6, hk', nd', hm'⟩
        obtain ⟨w, ew, hd⟩ := Paired.get hp hx2
        have tk6 : Tk H5 H6 := x6.tk fun vs e => by rw [ed5] at e; cases e
        obtain ⟨na, r, rfl, en⟩ := hd.tk tk6
        have eD6 : H6 D = some (.lst ((fs.map Fn.w).map V.str)) := x6 _ _ nDf (s5 _ _ (x4 _ _ nDf (s3 _ _ eD)))
        have lks : ks'.length ≤ 4 := words nd' fun y hy => ((hm' y).mp hy).elim (ih y) fun z => z.1
        have lkv : kvs'.length = ks'.length := by
          have := congrArg List.length hk'
          rw [List.length_map, List.length_map] at this
          exact this
        refine ⟨_, rfl, na, _, _, _, rfl, rfl, .inl (.inl en), atI_nat (j := 0) rfl, _, rfl, D, _, rfl, .inl (SqL.of eD6), rfl, flat_str _, _, rfl, ?_⟩
        rw [inV_str]
        refine ite2 (fun c2 => ?_) (fun c2 => ?_)
        · have hw2 : w ∈ fs.map Fn.w := by simpa using c2
          refine ⟨_, rfl, _, rfl, na, _, _, _, rfl, rfl, .inl (.inl en), atI_nat (j := 0) rfl, fd, _, rfl, DPut.k (k := Sum.inr w) ed6 (small1000 (by omega)), some (.ref na), _, add1 ks' w, rfl, x6.trans (.set _), upd_same, put_keys hk', add1_nodup nd' w, fun y => ?_⟩
          rw [mem_add1, hm' y, take_snoc ew, List.mem_append, List.mem_singleton]
          constructor
          · rintro ((h | h) | rfl)
            · exact .inl h
            · exact .inr ⟨h.1, .inl h.2⟩
            · exact .inr ⟨hw2, .inr rfl⟩
          · rintro (h | ⟨h, h2 | h2⟩)
            · exact .inl (.inl h)
            · exact .inl (.inr ⟨h, h2⟩)
            · exact .inr h2
        · have hw2 : w ∉ fs.map Fn.w := by simpa using c2
          refine ⟨some (.ref na), kvs', ks', rfl, x6, ed6, hk', nd', fun y => ?_⟩
          rw [hm' y, take_snoc ew, List.mem_append, List.mem_singleton]
          constructor
          · rintro (h | ⟨h, h2⟩)
            · exact .inl h
            · exact .inr ⟨h, .inl h2⟩
          · rintro (h | ⟨h, h2 | h2⟩)
            · exact .inl h
            · exact .inr ⟨h, h2⟩
            · exact absurd (h2 ▸ h) hw2
      · rintro σ H6 ⟨y6', kvs', ks', rfl, x6, ed6, hk', nd', hm'⟩
        refine ⟨some (.ref pa'), some bv, y6', kvs', ks', rfl, (x4.trans (.of s5)).trans x6, ed6, hk', nd', fun y => ?_⟩
        rw [hm' y, hm y, lx, List.take_length, take_snoc hc, hw y]
        constructor
        · rintro (⟨h, e, he, h2⟩ | ⟨h, h2⟩)
          · exact ⟨h, e, List.mem_append_left _ he, h2⟩
          · exact ⟨h, c, by simp, h2⟩
        · rintro ⟨h, e, he, h2⟩
          rcases List.mem_append.mp he with he | he
          · exact .inl ⟨h, e, he, h2⟩
          · rw [List.mem_singleton.mp he] at h2
            exact .inr ⟨h, h2⟩
    · rintro σ H4 ⟨y4, y5, y6, kvs, ks, rfl, x4, ed, hk, nd, hm⟩
      rw [lC, List.take_length] at hm
      have lks := words nd fun y hy => ((hm y).mp hy).1
      refine ⟨_, rfl, fd, kvs, ks, rfl, .inl ed, hk, by omega, fun ys p hys srt hp => ⟨p, _, rfl, .inl ⟨SqL.of upd_same, fun l hl => ?_⟩⟩⟩
      have s5 := same_upd hp (.lst (ys.map V.str))
      have s6 := same_upd hl (.tup (ys.map V.str))
      have fre : H fd = none := sm.free hfd
      have sAll : Same H H4 := fun b o e => x4 _ _ (ne_of_none e fre) (s3 _ _ (sm _ _ e))
      refine q l _ ys ((sAll.trans s5).trans s6) upd_same (hys.nodup_iff.mpr nd) srt fun y => ?_
      rw [hys.mem_iff, hm y, ← call_iff G.nd hf]
end
end Kx
namespace Kx
open PySem PySem.Spec PyProof.Rows L2
section
variable {P : Program} {w : World} {K : PySem.W.Frag} {mg : Str → Option Value} {base : Heap}
set_option pp.maxSteps 1500
/-- the list at q: what z reaches -/
def RL (fs : List Fn) (H : Hp) (q : Addr) (z : Str) : Prop := ∃ xs : List Str, H q = some (.lst (xs.map V.str)) ∧ xs.Nodup ∧ ∀ y, y ∈ xs ↔ Reach fs z y
theorem RL.same {fs : List Fn} {H H' : Hp} {q : Addr} {z : Str} (s : Same H H') (r : RL fs H q z) : RL fs H' q z := by
  obtain ⟨xs, e, h⟩ := r
  exact ⟨xs, s _ _ e, h⟩
theorem reach_few {fs : List Fn} (G : ProgG fs) {xs : List Str} (nd : xs.Nodup) (h : ∀ x ∈ xs, x ∈ fs.map Fn.w) : xs.length ≤ 4 := by
  have := nodup_len nd h
  have := G.len
  rw [List.length_map] at *
  omega
def spReached : Sp := fun vs H Q _ => ∃ v fs z, vs = [v, .str z] ∧ Is H v (progPV fs) ∧ ProgG fs ∧ z ∈ fs.map Fn.w ∧ ∀ q H', Same H H' → H q = none → RL fs H' q z → Q (.ref q) H'
theorem ok_reached_from (T : Txt K mg) (G_calls_of : FnOk P w K mg base CX0 2 T.a_calls_of T.d_calls_of ["program", "word"] spCalls) : FnOk P w K mg base CX0 3 T.a_reached_from T.d_reached_from ["program", "word"] spReached := by
  refine T.F_reached_from.ok sc_reached_from (fun vs H Q E h => ?_) (fun cdv A outer s H vs Q E hr h => ?_)
  · obtain ⟨v, fs, z, rfl, _⟩ := h; rfl
  · obtain ⟨v, fs, z, rfl, hI, G, hz, q⟩ := h
    have hr_calls_of := hr
    refine ⟨_, (pss_cons (ps_set (i := 2) sc_reached_from.nd rfl (Or.inr rfl) (pe_callTy call_list_of (by rfl) T.z_list (by decide +kernel) (pa_cons (pe_call G_calls_of hr_calls_of rfl T.m_calls_of T.F_calls_of.kp T.b_calls_of .nil pass0 (pa_cons (pv 0) (pa_cons (pv 1) pa_nil))) pa_nil)))
    (pss_cons (ps_set (i := 3) sc_reached_from.nd rfl (Or.inl rfl) pe_int)
    (pss_cons (ps_while PassesOwn.never (pt_cmpR op_lt (pv 3) (pe_callB call_len_seq (by rfl) T.z_len (by decide +kernel) (pa_cons (pv 2) pa_nil)) (nomark _))
    (pss_cons (ps_expr (pe_bm PySem.F.plainAttrs_list PySem.F.slot_list_extend PySem.F.type_list_extend mt_extend (pv 2) (pa_cons (pe_lc (own := [("other", 4)]) (g := (gName 4)) rfl sc_reached_from.nd (pi_tup (pe_call G_calls_of hr_calls_of rfl T.m_calls_of T.F_calls_of.kp T.b_calls_of .nil pass0 (pa_cons (pv 0) (pa_cons (pe_ix ix_list (pv 2) (pv 3) (fun _ _ => rfl)) pa_nil)))) (blkOk_by (own := [("other", 4)]) (N := ["program", "word", "found", "at", "other"]) (sc := defScope s_reached_from) (by decide +kernel)) (fun _ _ _ _ _ => (pg_name (i := 4) sc_reached_from.nd rfl (Or.inl rfl))) (fun _ _ _ _ _ => pts_one (pt_cmpR (notInSeqK (K := K)) (pv 4) (pv 2) (by rfl))) (fun _ _ _ _ _ => (pv 4))) pa_nil)))
    (pss_one (ps_aug (i := 3) sc_reached_from.nd rfl (Or.inl rfl) pe_int ip_add))))
    (pss_one (ps_ret (pv 2)))))), ?_⟩
    refine ⟨_, rfl, _, rfl, v, fs, z, rfl, hI, G, hz, fun p H1 ys s1 e1 nd1 _ c1 => ⟨p, _, rfl, .inr (.inl (.inl e1)), fun fa hfa => ?_⟩⟩
    have s2 := same_upd hfa (.lst (ys.map V.str))
    have s12 := s1.trans s2
    have fra : H fa = none := s1.free hfa
    refine ⟨fun m σ H2 => ∃ (i : Nat) (xs : List Str), σ = [some v, some (.str z), some (.ref fa), some (.int (i : Int)), none] ∧ Same H H2 ∧ H2 fa = some (.lst (xs.map V.str)) ∧ xs.Nodup ∧ (∀ x ∈ xs, Reach fs z x) ∧ (∀ y, Call fs z y → y ∈ xs) ∧ (∀ j x, j < i → xs[j]? = some x → ∀ y, Call fs x y → y ∈ xs) ∧ i ≤ xs.length ∧ m + i = 4, ⟨4, 0, ys, rfl, s12, upd_same, nd1, fun x hx => .one ((c1 x).mp hx), fun y hy => (c1 y).mpr hy, fun j x h => by omega, by omega, rfl⟩, ?_⟩
    rintro m σ H2 ⟨i, xs, rfl, sm, ef, nd, hR, h0, hc, hi, hm⟩
    have x4 := reach_few G nd fun x hx => reach_word (hR x hx)
    refine ⟨_, rfl, _, rfl, fa, _, rfl, .inl (SqL.of ef), _, _, rfl, rfl, _, rfl, ite2 (fun c => ?_) (fun c => ?_)⟩
    case refine_2 =>
      have ge : xs.length ≤ i := by
        rw [List.length_map] at c
        have := of_decide_eq_false (Bool.eq_false_iff.mpr c)
        omega
      refine ⟨_, rfl, q fa H2 sm fra ⟨xs, ef, nd, fun y => ⟨hR y, reach_in h0 fun x hx y hy => ?_⟩⟩⟩
      obtain ⟨j, hj, ej⟩ := List.getElem_of_mem hx
      exact hc j x (by omega) (by rw [List.getElem?_eq_getElem hj, ej]) y hy
    have lt : i < xs.length := by
      rw [List.length_map] at c
      have := of_decide_eq_true c
      omega
    have ex : xs[i]? = some xs[i] := List.getElem?_eq_getElem lt
    generalize xs[i] = x at ex
    have hx := List.mem_of_getElem? ex
    refine ⟨fun σ' H' => ∃ m', m' < m ∧ ∃ (i : Nat) (xs : List Str), σ' = [some v, some (.str z), some (.ref fa), some (.int (i : Int)), none] ∧ Same H H' ∧ H' fa = some (.lst (xs.map V.str)) ∧ xs.Nodup ∧ (∀ x ∈ xs, Reach fs z x) ∧ (∀ y, Call fs z y → y ∈ xs) ∧ (∀ j x, j < i → xs[j]? = some x → ∀ y, Call fs x y → y ∈ xs) ∧ i ≤ xs.length ∧ m' + i = 4, fun σ' H' z => z, ?_⟩
    refine ⟨_, rfl, .inl ⟨rfl, _, SqL.of ef⟩, _, rfl, _, rfl, _, rfl, fa, _, _, _, rfl, rfl, SqL.of ef, atI_nat (j := i) (by rw [List.getElem?_map, ex] <;> rfl), v, fs, x, rfl, hI.same sm, G, reach_word (hR x hx), fun p2 H3 ys2 s3 e3 nd3 _ c3 => ⟨p2, rfl, ⟨_, .inl (.inl e3)⟩, fun D hD => ?_⟩⟩
    have ef3 := s3 _ _ ef
    refine lc_tup (K := K) (a := p2) (xs := ys2.map V.str) (fun j H4 => Same H3 H4 ∧ H4 D = some (.lst (((ys2.take j).filter fun y => decide (y ∉ xs)).map V.str))) ?_ ?_ ?_ ?_
    · exact ⟨same_upd hD _, upd_same⟩
    · exact fun j H4 _ ⟨s4, _⟩ => .inl (.inl (s4 _ _ e3))
    · intro j x' H4 hx' ⟨s4, eD⟩
      rw [List.getElem?_map] at hx'
      obtain ⟨y, ey, rfl⟩ := Option.map_eq_some_iff.mp hx'
      have y4 := reach_few G nd3 fun y hy => ((c3 y).mp hy).1
      refine ⟨rfl, _, rfl, _, rfl, fa, _, rfl, .inl (SqL.of (s4 _ _ ef3)), rfl, flat_str _, _, rfl, ?_⟩
      rw [inV_str]
      refine ite2 (fun c2 => ?_) (fun c2 => ?_)
      · have nz : y ∉ xs := by simpa using c2
        refine ⟨_, rfl, _, eD, ?_, Kx.Same.own s4 hD _, ?_⟩
        · have l1 := List.length_filter_le (fun y => decide (y ∉ xs)) (ys2.take j)
          rw [List.length_take] at l1
          rw [List.length_map]
          exact small1000 (by omega)
        · rw [upd_same, take_snoc ey, List.filter_append, List.map_append]
          simp [nz]
      · have nz : y ∈ xs := by simpa using c2
        refine ⟨s4, ?_⟩
        rw [eD, take_snoc ey, List.filter_append]
        simp [nz]
    · rintro H4 ⟨s4, eD⟩
      rw [List.length_map, List.take_length] at eD
      have y4 := reach_few G nd3 fun y hy => ((c3 y).mp hy).1
      refine ⟨fa, D, _, _, rfl, rfl, s4 _ _ ef3, eD, ?_, ?_⟩
      · have l1 := List.length_filter_le (fun y => decide (y ∉ xs)) ys2
        rw [List.length_map, List.length_map]
        exact Nat.le_of_lt (small1000 (by omega))
      · refine ⟨_, rfl, _, _, rfl, rfl, m - 1, by omega, i + 1, xs ++ ys2.filter (fun y => decide (y ∉ xs)), ?_, Kx.Same.own ((sm.trans s3).trans s4) fra _, by rw [upd_same, List.map_append], ?_, fun y hy => ?_, fun y hy => List.mem_append_left _ (h0 y hy), fun j x' hj e y hy => ?_, by rw [List.length_append]; omega, by omega⟩
        · show [some v, some (V.str z), some (V.ref fa), some (V.int ((i : Int) + 1)), none] = _
          rw [show (i : Int) + 1 = ((i + 1 : Nat) : Int) by omega]
        · refine List.nodup_append.mpr ⟨nd, nd3.filter _, fun a ha b hb e => ?_⟩
          have := (List.mem_filter.mp hb).2
          rw [← e] at this
          simp [ha] at this
        · rcases List.mem_append.mp hy with h | h
          · exact hR y h
          · exact .more (hR x hx) ((c3 y).mp (List.mem_filter.mp h).1)
        · rw [List.getElem?_append_left (by omega)] at e
          by_cases ji : j < i
          · exact List.mem_append_left _ (hc j x' ji e y hy)
          · have : j = i := by omega
            subst this
            rw [ex] at e
            cases e
            by_cases yx : y ∈ xs
            · exact List.mem_append_left _ yx
            · exact List.mem_append_right _ (List.mem_filter.mpr ⟨(c3 y).mpr hy, by simp [yx]⟩)
theorem lock_get {H : Hp} {f : Addr} {o : Obj} {kvs : List (Key × V)} (e : H f = some (.frz o (.dK kvs))) (z : Str) : DGet H f (.str z) (valV kvs (Sum.inr z)) := .inl ⟨kvs, Sum.inr z, .inr ⟨o, e⟩, rfl, rfl⟩
/-- in the group of z -/
def InG (fs : List Fn) (z y : Str) : Prop := y = z ∨ (Reach fs z y ∧ Reach fs y z)
def spGroup : Sp := fun vs H Q _ => ∃ v fs z, vs = [v, .str z] ∧ Is H v (progPV fs) ∧ ProgG fs ∧ z ∈ fs.map Fn.w ∧ ∀ p H' ys, Same H H' → H' p = some (.tup (ys.map V.str)) → ys.Nodup → sortedS ys = true → (∀ y, y ∈ ys ↔ InG fs z y) → Q (.ref p) H'
theorem ok_group_of (T : Txt K mg) (G_reached_from : FnOk P w K mg base CX0 3 T.a_reached_from T.d_reached_from ["program", "word"] spReached) : FnOk P w K mg base CX0 4 T.a_group_of T.d_group_of ["program", "word"] spGroup := by
  refine T.F_group_of.ok sc_group_of (fun vs H Q E h => ?_) (fun cdv A outer s H vs Q E hr h => ?_)
  · obtain ⟨v, fs, z, rfl, _⟩ := h; rfl
  · obtain ⟨v, fs, z, rfl, hI, G, hz, q⟩ := h
    have hr_reached_from := hr
    have hu := hu_of hr
    refine ⟨_, (pss_cons (ps_set (i := 2) sc_group_of.nd rfl (Or.inr rfl) (pe_dc (own := [("function", 4)]) (g := gName 4) (tt := tYes) rfl sc_group_of.nd (pi_tup (pe_ix ix_tup (pv 0) pe_int (fun _ _ => rfl))) (blkOk_by (own := [("function", 4)]) (N := ["program", "word", "reached", "group", "function", "other"]) (sc := defScope s_group_of) (by decide +kernel)) (fun _ _ _ _ _ => pg_name (i := 4) sc_group_of.nd rfl (Or.inl rfl)) (fun _ _ _ _ _ => pts_nil) (fun _ _ _ _ _ => (pe_ix (ixTK (K := K)) (pv 4) pe_int (fun _ _ => rfl))) (fun _ _ _ _ _ => (pe_call G_reached_from hr_reached_from rfl T.m_reached_from T.F_reached_from.kp T.b_reached_from .nil pass0 (pa_cons (pv 0) (pa_cons (pe_ix (ixTK (K := K)) (pv 4) pe_int (fun _ _ => rfl)) pa_nil))))))
    (pss_cons (ps_lock (ps_setLc (i := 3) (own := [("other", 5)]) (g := (gName 5)) rfl sc_group_of.nd rfl rfl (sw_true rfl rfl rfl (by decide +kernel)) (pi_keys (pv 2)) (blkOk_by (own := [("other", 5)]) (N := ["program", "word", "reached", "group", "function", "other"]) (sc := defScope s_group_of) (by decide +kernel)) (fun _ _ _ _ _ => (pg_name (i := 5) sc_group_of.nd rfl (Or.inl rfl))) (fun _ _ _ _ _ => pts_one (PW.pt (pw_or (pt_cmpR op_eq (pv 5) (pv 1) (nomark _)) (pw_or1 (PW.pt (pw_and (pt_cmpR (inSeqK (K := K)) (pv 5) (pe_dget hu (pv 2) (pv 1) (fun _ _ => rfl)) (by rfl)) (pw_and1 (pt_cmpR (inSeqK (K := K)) (pv 1) (pe_dget hu (pv 2) (pv 5) (fun _ _ => rfl)) (by rfl))))))))) (fun _ _ _ _ _ => (pv 5))))
    (pss_one (ps_ret (pe_callTy call_tuple_of (by rfl) T.z_tuple (by decide +kernel) (pa_cons (pe_callB cr_sortedS (by rfl) T.z_sorted (by decide +kernel) (pa_cons (pv 3) pa_nil)) pa_nil)))))), ?_⟩
    obtain ⟨a, fa, vs, rfl, ea, ef, iF⟩ := prog_inv hI
    have lF := iF.len
    rw [List.length_map] at lF
    have l4 := G.len
    refine ⟨_, rfl, a, _, _, _, rfl, rfl, .inl (.inl ea), atI_nat (j := 1) rfl, fa, rfl, ⟨_, .inl (.inl ef)⟩, fun D hD => ?_⟩
    refine dc_tup (K := K) (a := fa) (xs := vs) (fun i H2 => ∃ kvs : List (Key × V), Same H H2 ∧ H2 D = some (.dK kvs) ∧ kvs.map (·.1) = ((fs.take i).map Fn.w).map Sum.inr ∧ ∀ y ∈ (fs.take i).map Fn.w, ∃ r, valV kvs (Sum.inr y) = some (.ref r) ∧ RL fs H2 r y) ?_ ?_ ?_ ?_
    · exact ⟨[], same_upd hD _, upd_same, rfl, fun y h => by simp at h⟩
    · exact fun i H2 _ ⟨_, sm, _⟩ => .inl (.inl (sm _ _ ef))
    · rintro i x H2 hx ⟨kvs, sm, eD, hk, hv⟩
      obtain ⟨t, et, it⟩ := iF.get hx
      rw [List.getElem?_map] at et
      obtain ⟨f, ef', rfl⟩ := Option.map_eq_some_iff.mp et
      obtain ⟨b, pa, ca, ps, cs, rfl, eb, _, _, _, _, _⟩ := fn_inv (it.same sm)
      have hi := (List.getElem?_eq_some_iff.mp ef').1
      have hf := List.mem_of_getElem? ef'
      have hw : f.w ∈ fs.map Fn.w := List.mem_map.mpr ⟨f, hf, rfl⟩
      refine ⟨rfl, yes_if ⟨_, rfl, b, _, _, _, rfl, rfl, .inl (.inl eb), atI_nat (j := 0) rfl, _, rfl, _, rfl, b, _, _, _, rfl, rfl, .inl (.inl eb), atI_nat (j := 0) rfl, .ref a, fs, f.w, rfl, hI.same sm, G, hw, fun r H3 s3 hr0 rl => ⟨kvs, Sum.inr f.w, rfl, s3 _ _ eD, ?_, _, Kx.Same.own (sm.trans s3) hD _, upd_same, ?_, fun y hy => ?_⟩⟩⟩
      · have := congrArg List.length hk
        rw [List.length_map, List.length_map, List.length_map, List.length_take] at this
        exact small1000 (by omega)
      · have fresh : f.w ∉ (fs.take i).map Fn.w := fun h => by
          have nd := G.nd
          have e : fs = fs.take i ++ f :: fs.drop (i + 1) := by
            have eg := (List.getElem?_eq_some_iff.mp ef').2
            rw [← eg, ← List.drop_eq_getElem_cons hi, List.take_append_drop]
          rw [e, List.map_append, List.map_cons] at nd
          exact (List.nodup_append.mp nd).2.2 _ h _ (List.mem_cons_self ..) rfl
        rw [put_keys hk, take_snoc ef', List.map_append]
        unfold add1
        rw [if_neg fresh]
        rfl
      · have nr : ∀ {r : Addr} {y : Str}, RL fs H3 r y → RL fs (upd H3 D (.dK (putK kvs (Sum.inr f.w) (.ref r)))) r y := fun {r y} ⟨xs, e, h⟩ => ⟨xs, by rw [upd_ne (ne_of e (s3 _ _ eD) (fun z => nomatch z))]; exact e, h⟩
        have nr2 : ∀ {r' : Addr} {y : Str}, RL fs H3 r' y → RL fs (upd H3 D (.dK (putK kvs (Sum.inr f.w) (.ref r)))) r' y := fun {r' y} ⟨xs, e, h⟩ => ⟨xs, by rw [upd_ne (ne_of e (s3 _ _ eD) (fun z => nomatch z))]; exact e, h⟩
        rw [valV_put]
        by_cases e : y = f.w
        · subst e
          exact ⟨r, by rw [if_pos rfl], nr2 rl⟩
        · rw [if_neg fun h => e (Sum.inr.inj h)]
          rw [take_snoc ef', List.map_append] at hy
          rcases List.mem_append.mp hy with h | h
          · obtain ⟨r2, e2, rl2⟩ := hv y h
            exact ⟨r2, e2, nr2 (rl2.same s3)⟩
          · exact absurd (by simpa using h) e
    rintro H2 ⟨kvs, sm, eD, hk, hv⟩
    rw [lF, List.take_length] at hk hv
    have lk : kvs.length = fs.length := by
      have := congrArg List.length hk
      rwa [List.length_map, List.length_map, List.length_map] at this
    have fre : H D = none := hD
    refine ⟨D, _, eD, trivial, fun od => ?_⟩
    refine ⟨_, rfl, D, od, rfl, .inl ⟨kvs, upd_same, fun gl hgl => ?_⟩⟩
    have ngD : gl ≠ D := fun e => by rw [e, upd_same] at hgl; cases hgl
    have fg : H2 gl = none := by rw [upd_ne ngD] at hgl; exact hgl
    have key : ∀ {k : Nat} {kk : Key} {v : V}, kvs[k]? = some (kk, v) → ∃ y, (fs.map Fn.w)[k]? = some y ∧ kk = Sum.inr y := fun {k kk v} e => by
      have e2 : (kvs.map (·.1))[k]? = some kk := by rw [List.getElem?_map, e]; rfl
      rw [hk, List.getElem?_map] at e2
      obtain ⟨y, ey, e3⟩ := Option.map_eq_some_iff.mp e2
      exact ⟨y, ey, e3.symm⟩
    refine L2.lc_it walk_keys (fun k H6 => ExD D H2 H6 ∧ H6 D = some (.frz od (.dK kvs)) ∧ ∃ ys : List Str, H6 gl = some (.lst (ys.map V.str)) ∧ ys.Nodup ∧ ∀ y, y ∈ ys ↔ y ∈ (fs.map Fn.w).take k ∧ InG fs z y) ?_ ?_ ?_ ?_
    · refine ⟨fun b o nb e => ?_, by rw [upd_ne ngD.symm, upd_same], [], upd_same, List.nodup_nil, fun y => by simp⟩
      rw [upd_ne (ne_of_none e fg), upd_ne nb]; exact e
    · exact fun k H6 _ ⟨_, e, _⟩ => e
    · rintro k x H6 H6' hkk ⟨x6, e6, ys, eg, nd, hm⟩ ⟨eH, kk, v, ekv, ex⟩
      subst eH ex
      obtain ⟨y, ey, rfl⟩ := key ekv
      have hy := List.mem_of_getElem? ey
      obtain ⟨rz, ez, lz, erz, _, mz⟩ := hv z hz
      obtain ⟨ry, e2, ly, ery, _, my⟩ := hv y hy
      have nz : rz ≠ D := ne_of erz eD (fun z => nomatch z)
      have ny : ry ≠ D := ne_of ery eD (fun z => nomatch z)
      have erz6 := x6 _ _ nz erz
      have ery6 := x6 _ _ ny ery
      have gz : DGet H6' D (.str z) (some (.ref rz)) := ez ▸ lock_get e6 z
      have gy : DGet H6' D (.str y) (some (.ref ry)) := e2 ▸ lock_get e6 y
      have y4 := reach_few G nd fun x hx => List.mem_of_mem_take ((hm x).mp hx).1
      have ny2 : y ∉ ys := fun h => by
        have h2 := ((hm y).mp h).1
        have nd2 := G.nd
        obtain ⟨hi, eg'⟩ := List.getElem?_eq_some_iff.mp ey
        have e : fs.map Fn.w = (fs.map Fn.w).take k ++ y :: (fs.map Fn.w).drop (k + 1) := by
          rw [← eg', ← List.drop_eq_getElem_cons hi, List.take_append_drop]
        rw [e] at nd2
        exact (List.nodup_append.mp nd2).2.2 _ h2 _ (List.mem_cons_self ..) rfl
      have yes : InG fs z y → ∃ acc, H6' gl = some (.lst acc) ∧ acc.length < sizeLine ∧ (ExD D H2 (upd H6' gl (.lst (acc ++ [.str y]))) ∧ (upd H6' gl (.lst (acc ++ [.str y]))) D = some (.frz od (.dK kvs)) ∧ ∃ ys : List Str, (upd H6' gl (.lst (acc ++ [.str y]))) gl = some (.lst (ys.map V.str)) ∧ ys.Nodup ∧ ∀ y, y ∈ ys ↔ y ∈ (fs.map Fn.w).take (k + 1) ∧ InG fs z y) := fun hin => by
        refine ⟨_, eg, small1000 (by rw [List.length_map]; omega), fun b o nb e => ?_, by rw [upd_ne ngD.symm]; exact e6, ys ++ [y], by rw [upd_same, List.map_append]; rfl, ?_, fun w => ?_⟩
        · rw [upd_ne (ne_of_none e fg)]; exact x6 _ _ nb e
        · refine List.nodup_append.mpr ⟨nd, by simp, fun a ha b hb e => ?_⟩
          rw [List.mem_singleton.mp hb] at e
          exact ny2 (e ▸ ha)
        · rw [List.mem_append, hm w, take_snoc ey, List.mem_append, List.mem_singleton]
          constructor
          · rintro (⟨h, h2⟩ | rfl)
            · exact ⟨.inl h, h2⟩
            · exact ⟨.inr rfl, hin⟩
          · rintro ⟨h | h, h2⟩
            · exact .inl ⟨h, h2⟩
            · exact .inr h
      have no : ¬ InG fs z y → (ExD D H2 H6' ∧ H6' D = some (.frz od (.dK kvs)) ∧ ∃ ys : List Str, H6' gl = some (.lst (ys.map V.str)) ∧ ys.Nodup ∧ ∀ y, y ∈ ys ↔ y ∈ (fs.map Fn.w).take (k + 1) ∧ InG fs z y) := fun hin => by
        refine ⟨x6, e6, ys, eg, nd, fun w => ?_⟩
        rw [hm w, take_snoc ey, List.mem_append, List.mem_singleton]
        constructor
        · rintro ⟨h, h2⟩
          exact ⟨.inl h, h2⟩
        · rintro ⟨h | rfl, h2⟩
          · exact ⟨h, h2⟩
          · exact absurd h2 hin
      refine ⟨rfl, _, rfl, _, rfl, rfl, _, rfl, ite2 (fun c => ?_) (fun c => ?_)⟩
      · have e : y = z := V.str.inj (of_decide_eq_true c)
        exact iteT ⟨_, rfl, yes (.inl e)⟩
      · have ne : y ≠ z := fun e => c (by rw [e]; exact decide_eq_true rfl)
        refine ⟨_, rfl, _, rfl, _, rfl, D, _, rfl, gz, rz, _, rfl, .inl (SqL.of erz6), rfl, flat_str _, _, rfl, ?_⟩
        rw [show inV (kV (Sum.inr y)) (lz.map V.str) = decide (y ∈ lz) from inV_str y lz]
        refine ite2 (fun c1 => ?_) (fun c1 => ?_)
        · have h1 : y ∈ lz := by simpa using c1
          refine ⟨_, rfl, _, rfl, _, rfl, D, _, rfl, gy, ry, _, rfl, .inl (SqL.of ery6), rfl, flat_str _, _, rfl, ?_⟩
          rw [inV_str]
          refine ite2 (fun c2 => ?_) (fun c2 => ?_)
          · have h2 : z ∈ ly := by simpa using c2
            exact ⟨_, rfl, yes (.inr ⟨(mz y).mp h1, (my z).mp h2⟩)⟩
          · have h2 : z ∉ ly := by simpa using c2
            exact no fun h => h.elim ne fun h => h2 ((my z).mpr h.2)
        · have h1 : y ∉ lz := by simpa using c1
          exact no fun h => h.elim ne fun h => h1 ((mz y).mpr h.1)
    · rintro H6 ⟨x6, e6, ys, eg, nd, hm⟩
      have lw : kvs.length = (fs.map Fn.w).length := by rw [List.length_map]; exact lk
      rw [lw, List.take_length] at hm
      have y4 := reach_few G nd fun x hx => ((hm x).mp hx).1
      have sU : Same H (upd H6 D (.dK kvs)) := fun b o e => by
        have nb := ne_of_none e fre
        rw [upd_ne nb]; exact x6 _ _ nb (sm _ _ e)
      refine ⟨e6, ?_⟩
      refine ⟨_, rfl, gl, ys, rfl, SqL.of (show (upd H6 D (.dK kvs)) gl = _ by rw [upd_ne ngD]; exact eg), by omega, fun ys' p hp srt hpn => ⟨p, _, rfl, .inl ⟨SqL.of upd_same, fun l hl => ?_⟩⟩⟩
      refine q l _ ys' ((sU.trans (same_upd hpn _)).trans (same_upd hl _)) upd_same (hp.nodup_iff.mpr nd) srt fun y => ?_
      rw [hp.mem_iff, hm y]
      constructor
      · exact fun h => h.2
      · refine fun h => ⟨?_, h⟩
        rcases h with rfl | h
        · exact hz
        · exact reach_word h.1
end
end Kx
namespace Kx
open PySem PySem.Spec PyProof.Rows L2
section
variable {P : Program} {w : World} {K : PySem.W.Frag} {mg : Str → Option Value} {base : Heap}
set_option pp.maxSteps 1500
def spLCalls : Sp := fun vs H Q _ => ∃ v fs bv t, vs = [v, bv] ∧ Is H v (progPV fs) ∧ ProgG fs ∧ Is H bv t ∧ Tm t ∧ cnt t ≤ 100 ∧ ∀ a H' xs ws, Same H H' → H' a = some (.lst xs) → Paired (Hd H') xs ws → (∀ w, w ∈ ws ↔ w ∈ nw t ∧ w ∈ fs.map Fn.w) → ws.length ≤ 100 → Q (.ref a) H'
theorem ok_law_calls (T : Txt K mg)  : FnOk P w K mg base CX0 1 T.a_law_calls T.d_law_calls ["program", "body"] spLCalls := by
  refine T.F_law_calls.ok sc_law_calls (fun vs H Q E h => ?_) (fun cdv A outer s H vs Q E hr h => ?_)
  · obtain ⟨v, fs, bv, t, rfl, _⟩ := h; rfl
  · obtain ⟨v, fs, bv, t, rfl, hP, G, hI, hT, h100, q⟩ := h
    refine ⟨_, (pss_cons (ps_set (i := 2) sc_law_calls.nd rfl (Or.inl rfl) (pe_lst pa_nil))
    (pss_cons (ps_set (i := 3) sc_law_calls.nd rfl (Or.inl rfl) (pe_lst (pa_cons (pv 1) pa_nil)))
    (pss_cons (ps_setLc (i := 4) (own := [("row", 6)]) (g := (gName 6)) (tt := tYes) rfl sc_law_calls.nd rfl rfl (sw_true rfl rfl rfl (by decide +kernel)) (pi_tup (pe_ix ix_tup (pv 0) pe_int (fun _ _ => rfl))) (blkOk_by (own := [("row", 6)]) (N := ["program", "body", "found", "parts", "words", "part", "row"]) (sc := defScope s_law_calls) (by decide +kernel)) (fun _ _ _ _ _ => (pg_name (i := 6) sc_law_calls.nd rfl (Or.inl rfl))) (fun _ _ _ _ _ => pts_nil) (fun _ _ _ _ _ => (pe_ix (ixTK (K := K)) (pv 6) pe_int (fun _ _ => rfl))))
    (pss_cons (ps_while PassesOwn.never (pt_cmpR op_gt (pe_callB call_len_seq (by rfl) T.z_len (by decide +kernel) (pa_cons (pv 3) pa_nil)) pe_int (nomark _))
    (pss_cons (ps_set (i := 5) sc_law_calls.nd rfl (Or.inl rfl) (pe_bm0 PySem.F.plainAttrs_list PySem.F.slot_list_pop PySem.F.type_list_pop mt_pop (pv 3)))
    (pss_one (ps_if (pt_not (pt_val (pe_callB call_isi (by rfl) T.z_isinstance (by decide +kernel) (pa_cons (pv 5) (pa_cons (pe_bltn rfl T.z_str (by decide +kernel) (show RelV (V.ty "str") (Value.type "str") from rfl)) pa_nil))))) (Evl.pss_cut (ps_if (pt_cmpR op_in_seq (pe_ix ix_tup (pv 5) pe_int (fun _ _ => rfl)) (pv 4) (by rfl)) (pss_one (ps_expr (pe_bm PySem.F.plainAttrs_list PySem.F.slot_list_append PySem.F.type_list_append mt_append (pv 2) (pa_cons (pv 5) pa_nil)))) pss_nil)
    (pss_one (ps_set (i := 3) sc_law_calls.nd rfl (Or.inl rfl) (pe_op op_cat (pv 3) (pe_callTy call_list_of (by rfl) T.z_list (by decide +kernel) (pa_cons (pe_slice sl_tup (pv 5) (po_some pe_int) po_none) pa_nil)))))) pss_nil))))
    (pss_one (ps_ret (pv 2))))))), ?_⟩
    obtain ⟨a, ga, gs, rfl, eg, ef, iF⟩ := prog_inv hP
    have lF := iF.len
    rw [List.length_map] at lF
    have l4 := G.len
    refine ⟨(by show 0 ≤ sizeLine; decide), fun fa hf => ?_⟩
    refine ⟨_, rfl, (by show 1 ≤ sizeLine; decide), fun ta ht => ?_⟩
    have s1 := same_upd hf (.lst [])
    have s2 := same_upd ht (.lst [bv])
    have s12 := s1.trans s2
    have ft : H ta = none := s1.free ht
    have nft : fa ≠ ta := ne_of_none upd_same ht
    have efa : (upd (upd H fa (.lst [])) ta (.lst [bv])) fa = some (.lst []) := by rw [upd_ne nft, upd_same]
    have eta : (upd (upd H fa (.lst [])) ta (.lst [bv])) ta = some (.lst [bv]) := upd_same
    generalize upd (upd H fa (.lst [])) ta (.lst [bv]) = H0 at *
    refine ⟨_, rfl, a, _, _, _, rfl, rfl, .inl (.inl (s12 _ _ eg)), atI_nat (j := 1) rfl, ga, rfl, ⟨_, .inl (.inl (s12 _ _ ef))⟩, fun D hD => ?_⟩
    refine lc_tup (K := K) (a := ga) (xs := gs) (fun i H2 => Same H0 H2 ∧ H2 D = some (.lst (((fs.take i).map Fn.w).map V.str))) ?_ ?_ ?_ ?_
    · exact ⟨same_upd hD _, upd_same⟩
    · exact fun i H2 _ ⟨sm, _⟩ => .inl (.inl (sm _ _ (s12 _ _ ef)))
    · rintro i x H2 hx ⟨sm, eD⟩
      obtain ⟨u, et, it⟩ := iF.get hx
      rw [List.getElem?_map] at et
      obtain ⟨f, ef', rfl⟩ := Option.map_eq_some_iff.mp et
      obtain ⟨b, pa, ca, ps, cs, rfl, eb, _, _, _, _, _⟩ := fn_inv (it.same (s12.trans sm))
      have hi := (List.getElem?_eq_some_iff.mp ef').1
      refine ⟨rfl, yes_if ⟨_, rfl, b, _, _, _, rfl, rfl, .inl (.inl eb), atI_nat (j := 0) rfl, _, eD, small1000 (by rw [List.length_map, List.length_map, List.length_take]; omega), Kx.Same.own sm hD _, ?_⟩⟩
      rw [upd_same, take_snoc ef', List.map_append, List.map_append]; rfl
    rintro H1 ⟨sm1, eD⟩
    rw [lF, List.take_length] at eD
    have nDf : D ≠ fa := (ne_of_none efa hD).symm
    have nDt : D ≠ ta := (ne_of_none eta hD).symm
    have fD : H D = none := s12.free hD
    have sH1 := s12.trans sm1
    refine ⟨fun m σ H2 => ∃ (y5 : Option V) (pt : Addr) (vs : List V) (ts : List PV) (xs : List V) (ws : List Str), σ = [some (.ref a), some bv, some (.ref fa), some (.ref pt), some (.ref D), y5, none] ∧ Same H H2 ∧ H2 fa = some (.lst xs) ∧ H2 pt = some (.lst vs) ∧ H2 D = some (.lst ((fs.map Fn.w).map V.str)) ∧ H pt = none ∧ pt ≠ fa ∧ pt ≠ D ∧ IsL H2 vs ts ∧ (∀ x ∈ ts, Tm x) ∧ cntL ts = m ∧ Paired (Hd H2) xs ws ∧ ws.length + cntL ts ≤ 100 ∧ ∀ w, (w ∈ nw t ∧ w ∈ fs.map Fn.w) ↔ w ∈ ws ∨ (w ∈ nwL ts ∧ w ∈ fs.map Fn.w), ⟨cnt t, ?_⟩, ?_⟩
    · refine ⟨none, ta, [bv], [t], [], [], rfl, sH1, sm1 _ _ efa, sm1 _ _ eta, eD, ft, nft.symm, nDt.symm, .cons (hI.same sH1) .nil, fun x hx => by rw [List.mem_singleton.mp hx]; exact hT, by simp [cntL], .nil, ?_, fun w => by simp [nwL]⟩
      simp [cntL]; exact h100
    · intro m σ H2 ⟨y5, pt, vs, ts, xs, ws, es, sm, ef2, ep, eD2, fpt, npf, npD, hL, hTs, hm, hp, hb, hd⟩
      subst es
      have lxs := pair_len hp
      refine ⟨_, rfl, pt, _, rfl, .inl (SqL.of ep), _, _, rfl, rfl, _, rfl, ite2 (fun cv => ?_) (fun cv => ?_)⟩
      case refine_2 =>
        have hv : vs = [] := by cases vs with | nil => rfl | cons _ _ => simp at cv
        subst hv
        cases hL
        exact ⟨_, rfl, q fa H2 xs ws sm ef2 hp (fun w => by rw [hd w]; simp [nwL]) (by omega)⟩
      have hne : vs ≠ [] := by intro e; rw [e] at cv; simp at cv
      have hlast : vs[vs.length - 1]? = some (vs.getLast hne) := by
        rw [List.getLast_eq_getElem, List.getElem?_eq_getElem]
      obtain ⟨ts', y, ets, hy, hL'⟩ := hL.snoc_inv hlast hne
      have hlen := hL'.len
      have cts : cntL ts = cntL ts' + cnt y := by rw [ets, cntL_append]; simp [cntL]
      have cy := cnt_pos y
      refine ⟨fun σ' H' => ∃ m', m' < m ∧ ∃ (y5 : Option V) (pt : Addr) (vs : List V) (ts : List PV) (xs : List V) (ws : List Str), σ' = [some (.ref a), some bv, some (.ref fa), some (.ref pt), some (.ref D), y5, none] ∧ Same H H' ∧ H' fa = some (.lst xs) ∧ H' pt = some (.lst vs) ∧ H' D = some (.lst ((fs.map Fn.w).map V.str)) ∧ H pt = none ∧ pt ≠ fa ∧ pt ≠ D ∧ IsL H' vs ts ∧ (∀ x ∈ ts, Tm x) ∧ cntL ts = m' ∧ Paired (Hd H') xs ws ∧ ws.length + cntL ts ≤ 100 ∧ ∀ w, (w ∈ nw t ∧ w ∈ fs.map Fn.w) ↔ w ∈ ws ∨ (w ∈ nwL ts ∧ w ∈ fs.map Fn.w), fun σ' H' z => z, ?_⟩
      refine ⟨_, rfl, .inl ⟨rfl, _, SqL.of ep⟩, pt, vs, _, rfl, rfl, ep, hlast, ?_⟩
      have t3 : Tk H2 (upd H2 pt (.lst vs.dropLast)) := Tk.wr ⟨_, ep⟩
      have sm3 : Same H (upd H2 pt (.lst vs.dropLast)) := Kx.Same.own sm fpt _
      have hy3 := hy.tk t3
      have hL3 := hL'.tk t3
      have ef3 : (upd H2 pt (.lst vs.dropLast)) fa = some (.lst xs) := by rw [upd_ne npf.symm]; exact ef2
      have eD3 : (upd H2 pt (.lst vs.dropLast)) D = some (.lst ((fs.map Fn.w).map V.str)) := by rw [upd_ne npD.symm]; exact eD2
      have ep3 : (upd H2 pt (.lst vs.dropLast)) pt = some (.lst vs.dropLast) := upd_same
      have hp3 := hds_tk t3 hp
      have yT : Tm y := hTs y (by rw [ets]; simp)
      have hTs' : ∀ x ∈ ts', Tm x := fun x hx => hTs x (by rw [ets]; exact List.mem_append_left _ hx)
      have hd3 : ∀ w, (w ∈ nw t ∧ w ∈ fs.map Fn.w) ↔ w ∈ ws ∨ ((w ∈ nwL ts' ∨ w ∈ nw y) ∧ w ∈ fs.map Fn.w) := fun w => by rw [hd w, ets, nwL_append]; simp [nwL]
      obtain ⟨u, ty, kt⟩ := hy3.ty (K := K)
      generalize upd H2 pt (.lst vs.dropLast) = H3 at *
      refine ⟨_, rfl, _, _, u, _, _, rfl, .ty _, ty, kit_str kt, _, rfl, ?_⟩
      cases y with
      | int i => exact absurd yT (by simp [Tm])
      | str z =>
        refine iteF ⟨cntL ts', by omega, _, pt, _, ts', xs, ws, rfl, sm3, ef3, ep3, eD3, fpt, npf, npD, hL3, hTs', rfl, hp3, by omega, fun w' => ?_⟩
        rw [hd3 w']; simp [nw]
      | tup l =>
        obtain ⟨b, w, vs2, r, ev, el, ea, hL2, hr2⟩ := tm_tup_inv hy3 yT rfl
        rw [ev]
        cases el
        rw [cnt_cons] at cts cy
        have hlen2 := hL2.len
        have cl := cntL_len r
        have cl2 := cntL_len ts'
        refine iteT ?_
        refine ⟨fun σ' H4 => ∃ (xs2 : List V) (ws2 : List Str), σ' = [some (.ref a), some bv, some (.ref fa), some (.ref pt), some (.ref D), some (.ref b), none] ∧ Same H H4 ∧ Tk H3 H4 ∧ H4 fa = some (.lst xs2) ∧ H4 pt = some (.lst vs.dropLast) ∧ H4 D = some (.lst ((fs.map Fn.w).map V.str)) ∧ Paired (Hd H4) xs2 ws2 ∧ ws2.length ≤ ws.length + 1 ∧ ∀ w', (w' ∈ nw t ∧ w' ∈ fs.map Fn.w) ↔ w' ∈ ws2 ∨ ((w' ∈ nwL ts' ∨ w' ∈ nwL r) ∧ w' ∈ fs.map Fn.w), ?_, ?_⟩
        · refine ⟨_, rfl, b, _, _, _, rfl, rfl, .inl (.inl ea), atI_nat (j := 0) rfl, _, rfl, D, _, rfl, .inl (SqL.of eD3), rfl, flat_str _, _, rfl, ?_⟩
          rw [inV_str]
          refine ite2 (fun c2 => ?_) (fun c2 => ?_)
          · have hw2 : w ∈ fs.map Fn.w := by simpa using c2
            refine ⟨_, rfl, .inl ⟨rfl, _, SqL.of ef3⟩, _, rfl, fa, xs, _, rfl, rfl, ef3, small1000 (by omega), xs ++ [.ref b], ws ++ [w], rfl, Kx.Same.own sm3 hf _, Tk.wr ⟨_, ef3⟩, upd_same, by rw [upd_ne npf]; exact ep3, by rw [upd_ne nDf]; exact eD3, pair_snoc (hds_tk (Tk.wr ⟨_, ef3⟩) hp3) ⟨b, vs2, rfl, Tk.wr ⟨_, ef3⟩ _ _ ea⟩, by simp, fun w' => ?_⟩
            rw [hd3 w']
            simp only [nw, List.mem_append, List.mem_cons, List.not_mem_nil, or_false]
            constructor
            · rintro (h | ⟨h | h | h, h2⟩)
              · exact .inl (.inl h)
              · exact .inr ⟨.inl h, h2⟩
              · exact .inl (.inr h)
              · exact .inr ⟨.inr h, h2⟩
            · rintro ((h | h) | ⟨h | h, h2⟩)
              · exact .inl h
              · exact .inr ⟨.inr (.inl h), h ▸ hw2⟩
              · exact .inr ⟨.inl h, h2⟩
              · exact .inr ⟨.inr (.inr h), h2⟩
          · have hw2 : w ∉ fs.map Fn.w := by simpa using c2
            refine ⟨xs, ws, rfl, sm3, .refl _, ef3, ep3, eD3, hp3, by omega, fun w' => ?_⟩
            rw [hd3 w']
            simp only [nw, List.mem_cons]
            constructor
            · rintro (h | ⟨h | h | h, h2⟩)
              · exact .inl h
              · exact .inr ⟨.inl h, h2⟩
              · exact absurd (h ▸ h2) hw2
              · exact .inr ⟨.inr h, h2⟩
            · rintro (h | ⟨h | h, h2⟩)
              · exact .inl h
              · exact .inr ⟨.inl h, h2⟩
              · exact .inr ⟨.inr (.inr h), h2⟩
        · rintro σ' H4 ⟨xs2, ws2, rfl, sm4, t4, ef4, ep4, eD4, hp4, lw4, hd4⟩
          refine ⟨_, rfl, _, rfl, _, rfl, b, _, rfl, .inl (.inl (t4 _ _ ea)), slice1, fun p hp5 => ?_⟩
          rw [cut1]
          have s5 := same_upd hp5 (.tup vs2)
          refine ⟨p, vs2, rfl, .inr (.inl (.inl upd_same)), fun l hl => ?_⟩
          have s6 := same_upd hl (.lst vs2)
          have s56 := s5.trans s6
          refine ⟨pt, l, vs.dropLast, vs2, rfl, rfl, s56 _ _ ep4, upd_same, Nat.le_of_lt (small1000 (by rw [hlen, hlen2]; omega)), fun l2 hl2 => ?_⟩
          have s7 := same_upd hl2 (.lst (vs.dropLast ++ vs2))
          have s57 := s56.trans s7
          have s4F := s57
          refine ⟨cntL (ts' ++ r), by rw [cntL_append]; omega, _, l2, _, ts' ++ r, xs2, ws2, rfl, sm4.trans s57, s57 _ _ ef4, upd_same, s57 _ _ eD4, sm4.free (s56.free hl2), (ne_of_none (s56 _ _ ef4) hl2).symm, (ne_of_none (s56 _ _ eD4) hl2).symm, ((hL3.tk t4).append (hL2.tk t4)).same s57, fun x hx => ?_, rfl, hds_tk (.of s57) hp4, by rw [cntL_append]; omega, fun w' => ?_⟩
          · rcases List.mem_append.mp hx with h | h
            · exact hTs' x h
            · exact mem_TmL hr2 x h
          · rw [hd4 w', nwL_append, List.mem_append]
end
end Kx
namespace Kx
open PySem PySem.Spec PyProof.Rows L2
section
variable {P : Program} {w : World} {K : PySem.W.Frag} {mg : Str → Option Value} {base : Heap}
set_option pp.maxSteps 1500
def spLNext : Sp := fun vs H Q _ => ∃ v fs z, vs = [v, .str z] ∧ Is H v (progPV fs) ∧ ProgG fs ∧ z ∈ fs.map Fn.w ∧ ∀ a H' (ys : List Str), Same H H' → H a = none → H' a = some (.lst (ys.map V.str)) → (∀ y, y ∈ ys ↔ Call fs z y) → ys.length ≤ 200 → Q (.ref a) H'
theorem ok_law_next (T : Txt K mg) (G_law_calls : FnOk P w K mg base CX0 1 T.a_law_calls T.d_law_calls ["program", "body"] spLCalls) : FnOk P w K mg base CX0 2 T.a_law_next T.d_law_next ["program", "word"] spLNext := by
  refine T.F_law_next.ok sc_law_next (fun vs H Q E h => ?_) (fun cdv A outer s H vs Q E hr h => ?_)
  · obtain ⟨v, fs, z, rfl, _⟩ := h; rfl
  · obtain ⟨v, fs, z, rfl, hI, G, hz, q⟩ := h
    have hr_law_calls := hr
    refine ⟨_, (pss_cons (ps_set (i := 2) sc_law_next.nd rfl (Or.inl rfl) (pe_ix ix_list (pe_lc (own := [("one", 6)]) (g := (gName 6)) rfl sc_law_next.nd (pi_tup (pe_ix ix_tup (pv 0) pe_int (fun _ _ => rfl))) (blkOk_by (own := [("one", 6)]) (N := ["program", "word", "row", "found", "patterns", "body", "one", "call"]) (sc := defScope s_law_next) (by decide +kernel)) (fun _ _ _ _ _ => (pg_name (i := 6) sc_law_next.nd rfl (Or.inl rfl))) (fun _ _ _ _ _ => pts_one (pt_cmpR op_eq (pe_ix (ixTK (K := K)) (pv 6) pe_int (fun _ _ => rfl)) (pv 1) (nomark _))) (fun _ _ _ _ _ => (pv 6))) pe_int (fun _ _ => rfl)))
    (pss_cons (ps_set (i := 3) sc_law_next.nd rfl (Or.inr rfl) (pe_lst pa_nil))
    (pss_cons (ps_for PassesOwn.never rfl (pi_tup (pe_ix ix_tup (pv 2) pe_int (fun _ _ => rfl))) (pg_tup rfl (pgs_cons (pg_name (i := 4) sc_law_next.nd rfl (Or.inl rfl)) (pgs_cons (pg_name (i := 5) sc_law_next.nd rfl (Or.inl rfl)) pgs_nil)))
    (pss_one (ps_set (i := 3) sc_law_next.nd rfl (Or.inr rfl) (pe_op op_cat (pv 3) (pe_lc (own := [("call", 7)]) (g := (gName 7)) rfl sc_law_next.nd (pi_list (pe_call G_law_calls hr_law_calls rfl T.m_law_calls T.F_law_calls.kp T.b_law_calls .nil pass0 (pa_cons (pv 0) (pa_cons (pv 5) pa_nil)))) (blkOk_by (own := [("call", 7)]) (N := ["program", "word", "row", "found", "patterns", "body", "one", "call"]) (sc := defScope s_law_next) (by decide +kernel)) (fun _ _ _ _ _ => (pg_name (i := 7) sc_law_next.nd rfl (Or.inl rfl))) (fun _ _ _ _ _ => pts_one (pt_cmpR (notInSeqK (K := K)) (pe_ix (ixTK (K := K)) (pv 7) pe_int (fun _ _ => rfl)) (pv 3) (by rfl))) (fun _ _ _ _ _ => (pe_ix (ixTK (K := K)) (pv 7) pe_int (fun _ _ => rfl))))))))
    (pss_one (ps_ret (pv 3)))))), ?_⟩
    obtain ⟨a, fa, vs, rfl, ea, ef, iF⟩ := prog_inv hI
    have lF := iF.len
    rw [List.length_map] at lF
    have l4 := G.len
    refine ⟨_, rfl, a, _, _, _, rfl, rfl, .inl (.inl ea), atI_nat (j := 1) rfl, fa, rfl, ⟨_, .inl (.inl ef)⟩, fun D hD => ?_⟩
    refine lc_tup (K := K) (a := fa) (xs := vs) (fun i H2 => ∃ xs, Same H H2 ∧ H2 D = some (.lst xs) ∧ IsL H2 xs (((fs.take i).filter fun f => f.w == z).map fnPV)) ?_ ?_ ?_ ?_
    · exact ⟨[], same_upd hD _, upd_same, .nil⟩
    · exact fun i H2 _ ⟨_, sm, _⟩ => .inl (.inl (sm _ _ ef))
    · rintro i x H2 hx ⟨xs, sm, eD, iX⟩
      obtain ⟨t, et, it⟩ := iF.get hx
      rw [List.getElem?_map] at et
      obtain ⟨f, ef', rfl⟩ := Option.map_eq_some_iff.mp et
      obtain ⟨b, pa, ca, ps, cs, rfl, eb, _, _, _, _, _⟩ := fn_inv (it.same sm)
      have hi := (List.getElem?_eq_some_iff.mp ef').1
      have lx := iX.len
      rw [List.length_map] at lx
      have lf := List.length_filter_le (fun f : Fn => f.w == z) (fs.take i)
      rw [List.length_take] at lf
      refine ⟨rfl, _, rfl, b, _, _, _, rfl, rfl, .inl (.inl eb), atI_nat (j := 0) rfl, _, rfl, rfl, _, rfl, ite2 (fun c => ?_) (fun c => ?_)⟩
      · have e : f.w = z := V.str.inj (of_decide_eq_true c)
        refine ⟨_, rfl, xs, eD, small1000 (by omega), xs ++ [.ref b], Kx.Same.own sm hD _, upd_same, IsL.tk (Tk.wr ⟨_, eD⟩) ?_⟩
        rw [take_snoc ef', List.filter_append, List.map_append]
        have e2 : ([f].filter fun f : Fn => f.w == z) = [f] := by simp [e]
        rw [e2]
        exact iX.append (.cons (it.same sm) .nil)
      · have e : ¬ f.w = z := fun e => c (by rw [e]; exact decide_eq_true rfl)
        refine ⟨xs, sm, eD, ?_⟩
        rw [take_snoc ef', List.filter_append]
        simpa [e] using iX
    rintro H2 ⟨xs, sm, eD, iX⟩
    rw [lF, List.take_length] at iX
    obtain ⟨f, r, ff, hf, ew⟩ : ∃ f r, (fs.filter fun f => f.w == z) = f :: r ∧ f ∈ fs ∧ f.w = z := by
      cases e : fs.filter fun f => f.w == z with
      | nil =>
        obtain ⟨g, hg, eg⟩ := List.mem_map.mp hz
        have : g ∈ fs.filter fun f => f.w == z := List.mem_filter.mpr ⟨hg, by simp [eg]⟩
        rw [e] at this
        cases this
      | cons f r =>
        have := List.mem_filter.mp (e ▸ List.mem_cons_self .. : f ∈ fs.filter fun f => f.w == z)
        exact ⟨f, r, rfl, this.1, beq_iff_eq.mp this.2⟩
    rw [ff] at iX
    cases iX with
    | @cons x0 xs0 _ _ i0 iX =>
    subst ew
    obtain ⟨b, pa, ca, ps, cs, rfl, eb, _, _, ec, iC, _⟩ := fn_inv i0
    have FG := G.fn f hf
    have lC := iC.len
    rw [List.length_map] at lC
    have few := FG.few
    refine ⟨D, _, _, _, rfl, rfl, SqL.of eD, atI_nat (j := 0) rfl, ?_⟩
    refine ⟨(by show 0 ≤ sizeLine; decide), fun n0 hn0 => ?_⟩
    have s3 := same_upd hn0 (.lst [])
    refine ⟨_, rfl, b, _, _, _, rfl, rfl, .inl (.inl (s3 _ _ eb)), atI_nat (j := 5) rfl, ca, rfl, ⟨_, .inl (.inl (s3 _ _ ec))⟩, ?_⟩
    refine for_tup (K := K) (a := ca) (xs := cs) (fun i σ H4 => ∃ (y4 y5 : Option V) (na : Addr) (ys : List Str), σ = [some (.ref a), some (.str f.w), some (.ref b), some (.ref na), y4, y5, none, none] ∧ Same H2 H4 ∧ H2 na = none ∧ H4 na = some (.lst (ys.map V.str)) ∧ ys.length ≤ 100 * i ∧ ∀ y, y ∈ ys ↔ y ∈ fs.map Fn.w ∧ ∃ c ∈ f.cls.take i, y ∈ nw c.body) ?_ ?_ ?_ ?_
    · exact ⟨none, none, n0, [], rfl, s3, hn0, upd_same, Nat.le_refl 0, fun y => by simp⟩
    · rintro i σ H4 _ ⟨_, _, _, _, _, s4, _⟩
      exact .inl (.inl (s4 _ _ ec))
    · rintro i x σ H4 hx ⟨y4, y5, na, ys, rfl, s4, hna, ena, ly, hm⟩
      obtain ⟨t, et, it⟩ := iC.get hx
      rw [List.getElem?_map] at et
      obtain ⟨c, hc, rfl⟩ := Option.map_eq_some_iff.mp et
      obtain ⟨xa, pa', ps', bv, rfl, exa, _, _, ib⟩ := cl_inv (it.same s4)
      have CG := FG.cl c (List.mem_of_getElem? hc)
      have hi := (List.getElem?_eq_some_iff.mp hc).1
      refine ⟨xa, _, rfl, .inl (.inl exa), rfl, _, _, rfl, _, _, rfl, rfl, ?_⟩
      refine ⟨_, rfl, _, rfl, _, rfl, .ref a, fs, bv, c.body, rfl, hI.same (sm.trans s4), G, ib, CG.body.1, (by have := CG.body.2.2; omega), fun la H5 xs' ws s5 el hp hw lw => ⟨la, rfl, ⟨_, SqL.of el⟩, fun E hE => ?_⟩⟩
      have lx := pair_len hp
      have ena5 := s5 _ _ ena
      refine lc_list (K := K) (a := la) (xs := xs') (fun j H6 => Same H5 H6 ∧ H6 E = some (.lst (((ws.take j).filter fun y => decide (y ∉ ys)).map V.str))) ?_ ?_ ?_ ?_
      · exact ⟨same_upd hE _, upd_same⟩
      · exact fun j H6 _ ⟨s6, _⟩ => SqL.of (s6 _ _ el)
      · rintro j x H6 hx2 ⟨s6, eE⟩
        obtain ⟨w, ew, hd⟩ := Paired.get hp hx2
        obtain ⟨nb, r, rfl, en⟩ := hd.tk (.of s6)
        refine ⟨rfl, _, rfl, nb, _, _, _, rfl, rfl, .inl (.inl en), atI_nat (j := 0) rfl, _, rfl, na, _, rfl, .inl (SqL.of (s6 _ _ ena5)), rfl, flat_str _, _, rfl, ?_⟩
        rw [inV_str]
        have l1 := List.length_filter_le (fun y => decide (y ∉ ys)) (ws.take j)
        rw [List.length_take] at l1
        refine ite2 (fun c2 => ?_) (fun c2 => ?_)
        · have nz : w ∉ ys := by simpa using c2
          refine ⟨_, rfl, nb, _, _, _, rfl, rfl, .inl (.inl en), atI_nat (j := 0) rfl, _, eE, small1000 (by rw [List.length_map]; omega), Kx.Same.own s6 hE _, ?_⟩
          rw [upd_same, take_snoc ew, List.filter_append, List.map_append]
          simp [nz]
        · have nz : w ∈ ys := by simpa using c2
          refine ⟨s6, ?_⟩
          rw [eE, take_snoc ew, List.filter_append]
          simp [nz]
      · rintro H6 ⟨s6, eE⟩
        rw [lx, List.take_length] at eE
        have l1 := List.length_filter_le (fun y => decide (y ∉ ys)) ws
        refine ⟨na, E, _, _, rfl, rfl, s6 _ _ ena5, eE, Nat.le_of_lt (small1000 (by rw [List.length_map, List.length_map]; omega)), fun l hl => ?_⟩
        have s7 := same_upd hl (.lst (ys.map V.str ++ ((ws.filter fun y => decide (y ∉ ys)).map V.str)))
        refine ⟨_, _, l, ys ++ ws.filter (fun y => decide (y ∉ ys)), rfl, (s4.trans s5).trans (s6.trans s7), s4.free (s5.free (s6.free hl)), by rw [upd_same, List.map_append], by rw [List.length_append]; omega, fun y => ?_⟩
        rw [List.mem_append, hm y, List.mem_filter, hw y, take_snoc hc]
        constructor
        · rintro (⟨h, e, he, h2⟩ | ⟨⟨h, h2⟩, _⟩)
          · exact ⟨h, e, List.mem_append_left _ he, h2⟩
          · exact ⟨h2, c, by simp, h⟩
        · rintro ⟨h, e, he, h2⟩
          by_cases yy : y ∈ ys
          · exact .inl ((hm y).mp yy)
          · rcases List.mem_append.mp he with he | he
            · exact .inl ⟨h, e, he, h2⟩
            · rw [List.mem_singleton.mp he] at h2
              exact .inr ⟨⟨h2, h⟩, by simp [yy]⟩
    · rintro σ H4 ⟨y4, y5, na, ys, rfl, s4, hna, ena, ly, hm⟩
      rw [lC, List.take_length] at hm
      refine ⟨_, rfl, q na H4 ys (sm.trans s4) (sm.free hna) ena (fun y => ?_) (by omega)⟩
      rw [hm y, ← call_iff G.nd hf]
def spLReached : Sp := spReached
theorem ok_law_reached (T : Txt K mg) (G_law_next : FnOk P w K mg base CX0 2 T.a_law_next T.d_law_next ["program", "word"] spLNext) : FnOk P w K mg base CX0 3 T.a_law_reached T.d_law_reached ["program", "word"] spReached := by
  refine T.F_law_reached.ok sc_law_reached (fun vs H Q E h => ?_) (fun cdv A outer s H vs Q E hr h => ?_)
  · obtain ⟨v, fs, z, rfl, _⟩ := h; rfl
  · obtain ⟨v, fs, z, rfl, hI, G, hz, q⟩ := h
    have hr_law_next := hr
    refine ⟨_, (pss_cons (ps_set (i := 2) sc_law_reached.nd rfl (Or.inl rfl) (pe_lst pa_nil))
    (pss_cons (ps_set (i := 3) sc_law_reached.nd rfl (Or.inl rfl) (pe_lst (pa_cons (pv 1) pa_nil)))
    (pss_cons (ps_while PassesOwn.never (pt_cmpR op_gt (pe_callB call_len_seq (by rfl) T.z_len (by decide +kernel) (pa_cons (pv 3) pa_nil)) pe_int (nomark _))
    (pss_one (ps_for PassesOwn.never rfl (pi_list (pe_call G_law_next hr_law_next rfl T.m_law_next T.F_law_next.kp T.b_law_next .nil pass0 (pa_cons (pv 0) (pa_cons (pe_bm0 PySem.F.plainAttrs_list PySem.F.slot_list_pop PySem.F.type_list_pop mt_pop (pv 3)) pa_nil)))) (pg_name (i := 4) sc_law_reached.nd rfl (Or.inl rfl))
    (pss_one (ps_if (pt_cmpR op_notIn_seq (pv 4) (pv 2) (by rfl)) (pss_cons (ps_expr (pe_bm PySem.F.plainAttrs_list PySem.F.slot_list_append PySem.F.type_list_append mt_append (pv 2) (pa_cons (pv 4) pa_nil)))
    (pss_one (ps_expr (pe_bm PySem.F.plainAttrs_list PySem.F.slot_list_append PySem.F.type_list_append mt_append (pv 3) (pa_cons (pv 4) pa_nil))))) pss_nil)))))
    (pss_one (ps_ret (pv 2)))))), ?_⟩
    refine ⟨(by show 0 ≤ sizeLine; decide), fun fa hfa => ?_⟩
    refine ⟨_, rfl, (by show 1 ≤ sizeLine; decide), fun ta hta => ?_⟩
    have s1 := same_upd hfa (.lst [])
    have s2 := same_upd hta (.lst [.str z])
    have s12 := s1.trans s2
    have ft : H ta = none := s1.free hta
    have nft : fa ≠ ta := ne_of_none upd_same hta
    refine ⟨fun m σ H2 => ∃ (y4 : Option V) (xs fr : List Str), σ = [some v, some (.str z), some (.ref fa), some (.ref ta), y4] ∧ Same H H2 ∧ H2 fa = some (.lst (xs.map V.str)) ∧ H2 ta = some (.lst (fr.map V.str)) ∧ xs.Nodup ∧ (∀ x ∈ xs, Reach fs z x) ∧ (∀ x ∈ fr, x = z ∨ x ∈ xs) ∧ (∀ x, x = z ∨ x ∈ xs → x ∈ fr ∨ ∀ y, Call fs x y → y ∈ xs) ∧ fr.length + 2 * (4 - xs.length) = m ∧ m ≤ 9, ⟨9, none, [], [z], rfl, s12, by rw [upd_ne nft, upd_same]; rfl, upd_same, List.nodup_nil, (fun x hx => by cases hx), fun x hx => .inl (List.mem_singleton.mp hx), fun x hx => .inl (hx.elim (fun e => by simp [e]) fun h => by cases h), rfl, Nat.le_refl 9⟩, ?_⟩
    rintro m σ H2 ⟨y4, xs, fr, rfl, sm, ef, et, nd, hR, hfr, hcl, hm, m9⟩
    have x4 := reach_few G nd fun x hx => reach_word (hR x hx)
    refine ⟨_, rfl, ta, _, rfl, .inl (SqL.of et), _, _, rfl, rfl, _, rfl, ite2 (fun c => ?_) (fun c => ?_)⟩
    case refine_2 =>
      have e0 : fr = [] := by cases fr with | nil => rfl | cons _ _ => simp at c
      subst e0
      refine ⟨_, rfl, q fa H2 sm hfa ⟨xs, ef, nd, fun y => ⟨hR y, reach_in (fun y hy => ?_) fun x hx y hy => ?_⟩⟩⟩
      · exact (hcl z (.inl rfl)).elim (fun h => by cases h) fun h => h y hy
      · exact (hcl x (.inr hx)).elim (fun h => by cases h) fun h => h y hy
    have hne : fr ≠ [] := by intro e; rw [e] at c; simp at c
    have lastE : fr[fr.length - 1]? = some (fr.getLast hne) := by
      rw [List.getLast_eq_getElem, List.getElem?_eq_getElem]
    have drop : fr = fr.dropLast ++ [fr.getLast hne] := (List.dropLast_concat_getLast hne).symm
    have hx := hfr _ (List.getLast_mem hne)
    generalize fr.getLast hne = x at *
    have lfr : fr.length = fr.dropLast.length + 1 := by rw [drop]; simp
    have xw : x ∈ fs.map Fn.w := hx.elim (fun e => e ▸ hz) fun h => reach_word (hR x h)
    have sub : ∀ y ∈ fr.dropLast, y = z ∨ y ∈ xs := fun y hy => hfr y (by rw [drop]; exact List.mem_append_left _ hy)
    have cl2 : ∀ y, y = z ∨ y ∈ xs → y ∈ fr.dropLast ∨ y = x ∨ ∀ w, Call fs y w → w ∈ xs := fun y hy => by
      rcases hcl y hy with h | h
      · rw [drop] at h
        rcases List.mem_append.mp h with h | h
        · exact .inl h
        · exact .inr (.inl (List.mem_singleton.mp h))
      · exact .inr (.inr h)
    generalize fr.dropLast = fr2 at *
    refine ⟨fun σ' H' => ∃ m', m' < m ∧ ∃ (y4 : Option V) (xs fr : List Str), σ' = [some v, some (.str z), some (.ref fa), some (.ref ta), y4] ∧ Same H H' ∧ H' fa = some (.lst (xs.map V.str)) ∧ H' ta = some (.lst (fr.map V.str)) ∧ xs.Nodup ∧ (∀ x ∈ xs, Reach fs z x) ∧ (∀ x ∈ fr, x = z ∨ x ∈ xs) ∧ (∀ x, x = z ∨ x ∈ xs → x ∈ fr ∨ ∀ y, Call fs x y → y ∈ xs) ∧ fr.length + 2 * (4 - xs.length) = m' ∧ m' ≤ 9, fun σ' H' z => z, ?_⟩
    have lst : (fr.map V.str)[(fr.map V.str).length - 1]? = some (.str x) := by rw [List.length_map, List.getElem?_map, lastE] <;> rfl
    have dl : (fr.map V.str).dropLast = fr2.map V.str := by
      rw [drop, List.map_append, List.map_cons, List.map_nil, List.dropLast_concat]
    refine ⟨_, rfl, _, rfl, .inl ⟨rfl, _, SqL.of et⟩, ta, _, _, rfl, rfl, et, lst, ?_⟩
    rw [dl]
    have sm3 : Same H (upd H2 ta (.lst (fr2.map V.str))) := Kx.Same.own sm ft _
    have ef3 : (upd H2 ta (.lst (fr2.map V.str))) fa = some (.lst (xs.map V.str)) := by rw [upd_ne nft]; exact ef
    have et3 : (upd H2 ta (.lst (fr2.map V.str))) ta = some (.lst (fr2.map V.str)) := upd_same
    generalize upd H2 ta (.lst (fr2.map V.str)) = H3 at *
    refine ⟨v, fs, x, rfl, hI.same sm3, G, xw, fun la H4 ys s4 hla el hy ly => ⟨la, rfl, ⟨_, SqL.of el⟩, ?_⟩⟩
    have nlf : la ≠ fa := (ne_of_none ef3 hla).symm
    have nlt : la ≠ ta := (ne_of_none et3 hla).symm
    refine for_list (K := K) (a := la) (xs := ys.map V.str) (fun j σ H5 => ∃ (y4 : Option V) (xs' fr' : List Str), σ = [some v, some (.str z), some (.ref fa), some (.ref ta), y4] ∧ Same H H5 ∧ H5 la = some (.lst (ys.map V.str)) ∧ H5 fa = some (.lst (xs'.map V.str)) ∧ H5 ta = some (.lst (fr'.map V.str)) ∧ xs'.Nodup ∧ (∀ x ∈ xs', Reach fs z x) ∧ (∀ y ∈ xs, y ∈ xs') ∧ (∀ y ∈ ys.take j, y ∈ xs') ∧ (∀ x ∈ fr', x = z ∨ x ∈ xs') ∧ (∀ y, y = z ∨ y ∈ xs' → y ∈ fr' ∨ y = x ∨ ∀ w, Call fs y w → w ∈ xs') ∧ fr'.length + 2 * (4 - xs'.length) + 1 ≤ m) ?_ ?_ ?_ ?_
    · exact ⟨y4, xs, fr2, rfl, sm3.trans s4, el, s4 _ _ ef3, s4 _ _ et3, nd, hR, fun y hy => hy, fun y hy => by simp at hy, sub, cl2, by omega⟩
    · rintro j σ H5 _ ⟨_, _, _, _, _, e, _⟩
      exact SqL.of e
    · rintro j x' H5' H5 hx' ⟨y4', xs', fr', rfl, sm5, el5, ef5, et5, nd5, hR5, old, tk5, fr5, cl5, m5⟩
      rw [List.getElem?_map] at hx'
      obtain ⟨y, ey, rfl⟩ := Option.map_eq_some_iff.mp hx'
      have yc := (hy y).mp (List.mem_of_getElem? ey)
      have x5 := reach_few G nd5 fun x hx => reach_word (hR5 x hx)
      have rx : Reach fs z y := hx.elim (fun e => .one (e ▸ yc)) fun h => .more (hR x h) yc
      refine ⟨_, rfl, _, rfl, fa, _, rfl, .inl (SqL.of ef5), rfl, flat_str _, _, rfl, ?_⟩
      rw [inV_str]
      refine ite2 (fun c2 => ?_) (fun c2 => ?_)
      · have nz : y ∉ xs' := by simpa using c2
        have nd6 : (xs' ++ [y]).Nodup := List.nodup_append.mpr ⟨nd5, by simp, fun a ha b hb e => nz (by rw [List.mem_singleton.mp hb] at e; exact e ▸ ha)⟩
        have hR6 : ∀ x ∈ xs' ++ [y], Reach fs z x := fun w hw => by
          rcases List.mem_append.mp hw with h | h
          · exact hR5 w h
          · rw [List.mem_singleton.mp h]; exact rx
        have x6 := reach_few G nd6 fun x hx => reach_word (hR6 x hx)
        rw [List.length_append, List.length_singleton] at x6
        have et6 : (upd H5 fa (.lst (xs'.map V.str ++ [.str y]))) ta = some (.lst (fr'.map V.str)) := by rw [upd_ne nft.symm]; exact et5
        refine ⟨_, rfl, .inl ⟨rfl, _, SqL.of ef5⟩, _, rfl, fa, _, _, rfl, rfl, ef5, small1000 (by rw [List.length_map]; omega), ?_⟩
        refine ⟨_, rfl, .inl ⟨rfl, _, SqL.of et6⟩, _, rfl, ta, _, _, rfl, rfl, et6, small1000 (by rw [List.length_map]; omega), ?_⟩
        refine ⟨_, xs' ++ [y], fr' ++ [y], rfl, Kx.Same.own (Kx.Same.own sm5 hfa _) ft _, by rw [upd_ne nlt, upd_ne nlf]; exact el5, by rw [upd_ne nft, upd_same, List.map_append]; rfl, by rw [upd_same, List.map_append]; rfl, nd6, hR6, fun w hw => List.mem_append_left _ (old w hw), fun w hw => ?_, fun w hw => ?_, fun w hw => ?_, by rw [List.length_append, List.length_append, List.length_singleton]; omega⟩
        · rw [take_snoc ey] at hw
          rcases List.mem_append.mp hw with h | h
          · exact List.mem_append_left _ (tk5 w h)
          · exact List.mem_append_right _ h
        · rcases List.mem_append.mp hw with h | h
          · exact (fr5 w h).imp id fun h => List.mem_append_left _ h
          · exact .inr (List.mem_append_right _ h)
        · have old2 : w = z ∨ w ∈ xs' → w ∈ fr' ++ [y] ∨ w = x ∨ ∀ u, Call fs w u → u ∈ xs' ++ [y] := fun h => by
            rcases cl5 w h with h | h | h
            · exact .inl (List.mem_append_left _ h)
            · exact .inr (.inl h)
            · exact .inr (.inr fun u hu => List.mem_append_left _ (h u hu))
          rcases hw with h | h
          · exact old2 (.inl h)
          · rcases List.mem_append.mp h with h | h
            · exact old2 (.inr h)
            · exact .inl (List.mem_append_right _ h)
      · have nz : y ∈ xs' := by simpa using c2
        refine ⟨_, xs', fr', rfl, sm5, el5, ef5, et5, nd5, hR5, old, fun w hw => ?_, fr5, cl5, m5⟩
        rw [take_snoc ey] at hw
        rcases List.mem_append.mp hw with h | h
        · exact tk5 w h
        · rw [List.mem_singleton.mp h]; exact nz
    · rintro σ H5 ⟨y4', xs', fr', rfl, sm5, el5, ef5, et5, nd5, hR5, old, tk5, fr5, cl5, m5⟩
      rw [List.length_map, List.take_length] at tk5
      refine ⟨_, by omega, _, xs', fr', rfl, sm5, ef5, et5, nd5, hR5, fr5, fun y hy2 => ?_, rfl, by omega⟩
      rcases cl5 y hy2 with h | h | h
      · exact .inl h
      · exact .inr fun w hw => tk5 w ((hy w).mpr (h ▸ hw))
      · exact .inr h
def spLGroup : Sp := fun vs H Q _ => ∃ v fs z, vs = [v, .str z] ∧ Is H v (progPV fs) ∧ ProgG fs ∧ z ∈ fs.map Fn.w ∧ ∀ p H' (ys : List Str), Same H H' → H' p = some (.lst (ys.map V.str)) → ys.Nodup → sortedS ys = true → (∀ y, y ∈ ys ↔ InG fs z y) → Q (.ref p) H'
theorem ok_law_group (T : Txt K mg) (G_law_reached : FnOk P w K mg base CX0 3 T.a_law_reached T.d_law_reached ["program", "word"] spReached) : FnOk P w K mg base CX0 4 T.a_law_group T.d_law_group ["program", "word"] spLGroup := by
  refine T.F_law_group.ok sc_law_group (fun vs H Q E h => ?_) (fun cdv A outer s H vs Q E hr h => ?_)
  · obtain ⟨v, fs, z, rfl, _⟩ := h; rfl
  · obtain ⟨v, fs, z, rfl, hI, G, hz, q⟩ := h
    have hr_law_reached := hr
    refine ⟨_, (pss_cons (ps_setLc (i := 2) (own := [("other", 3)]) (g := (gName 3)) rfl sc_law_group.nd rfl rfl (sw_true rfl rfl rfl (by decide +kernel)) (pi_list (pe_call G_law_reached hr_law_reached rfl T.m_law_reached T.F_law_reached.kp T.b_law_reached .nil pass0 (pa_cons (pv 0) (pa_cons (pv 1) pa_nil)))) (blkOk_by (own := [("other", 3)]) (N := ["program", "word", "found", "other"]) (sc := defScope s_law_group) (by decide +kernel)) (fun _ _ _ _ _ => (pg_name (i := 3) sc_law_group.nd rfl (Or.inl rfl))) (fun _ _ _ _ _ => pts_one (pt_cmpR (inSeqK (K := K)) (pv 1) (pe_call G_law_reached hr_law_reached rfl T.m_law_reached T.F_law_reached.kp T.b_law_reached .nil pass0 (pa_cons (pv 0) (pa_cons (pv 3) pa_nil))) (by rfl))) (fun _ _ _ _ _ => (pv 3)))
    (Evl.pss_cut (ps_if (pt_cmpR op_notIn_seq (pv 1) (pv 2) (by rfl)) (pss_one (ps_expr (pe_bm PySem.F.plainAttrs_list PySem.F.slot_list_append PySem.F.type_list_append mt_append (pv 2) (pa_cons (pv 1) pa_nil)))) pss_nil)
    (pss_one (ps_ret (pe_callB cr_sortedS (by rfl) T.z_sorted (by decide +kernel) (pa_cons (pv 2) pa_nil)))))), ?_⟩
    refine ⟨_, rfl, _, rfl, v, fs, z, rfl, hI, G, hz, fun la H1 s1 hla rl => ?_⟩
    obtain ⟨xs, el, nd, hm⟩ := rl
    refine ⟨la, rfl, ⟨_, SqL.of el⟩, fun D hD => ?_⟩
    have x4 := reach_few G nd fun x hx => reach_word ((hm x).mp hx)
    refine lc_list (K := K) (a := la) (xs := xs.map V.str) (fun j H2 => Same H1 H2 ∧ ∃ ys : List Str, H2 D = some (.lst (ys.map V.str)) ∧ ys.Nodup ∧ ys.length ≤ j ∧ ∀ y, y ∈ ys ↔ y ∈ xs.take j ∧ Reach fs y z) ?_ ?_ ?_ ?_
    · exact ⟨same_upd hD _, [], upd_same, List.nodup_nil, Nat.le_refl 0, fun y => by simp⟩
    · exact fun j H2 _ ⟨s2, _⟩ => SqL.of (s2 _ _ el)
    · rintro j x H2 hx ⟨s2, ys, eD, ndy, ly, hy⟩
      rw [List.getElem?_map] at hx
      obtain ⟨y, ey, rfl⟩ := Option.map_eq_some_iff.mp hx
      have yx := List.mem_of_getElem? ey
      have hj := (List.getElem?_eq_some_iff.mp ey).1
      refine ⟨rfl, _, rfl, _, rfl, _, rfl, v, fs, y, rfl, hI.same (s1.trans s2), G, reach_word ((hm y).mp yx), fun lb H3 s3 hlb rl3 => ?_⟩
      obtain ⟨zs, eb, _, mz⟩ := rl3
      refine ⟨lb, _, rfl, .inl (SqL.of eb), rfl, flat_str _, _, rfl, ?_⟩
      rw [inV_str]
      have nin : y ∉ ys := fun h => by
        have h2 := ((hy y).mp h).1
        obtain ⟨hi, eg'⟩ := List.getElem?_eq_some_iff.mp ey
        have e : xs = xs.take j ++ y :: xs.drop (j + 1) := by
          rw [← eg', ← List.drop_eq_getElem_cons hi, List.take_append_drop]
        rw [e] at nd
        exact (List.nodup_append.mp nd).2.2 _ h2 _ (List.mem_cons_self ..) rfl
      refine ite2 (fun c2 => ?_) (fun c2 => ?_)
      · have hz2 : z ∈ zs := by simpa using c2
        refine ⟨_, rfl, _, s3 _ _ eD, small1000 (by rw [List.length_map]; omega), Kx.Same.own (s2.trans s3) hD _, ys ++ [y], by rw [upd_same, List.map_append]; rfl, List.nodup_append.mpr ⟨ndy, by simp, fun a ha b hb e => nin (by rw [List.mem_singleton.mp hb] at e; exact e ▸ ha)⟩, by rw [List.length_append, List.length_singleton]; omega, fun w => ?_⟩
        rw [List.mem_append, hy w, take_snoc ey, List.mem_append, List.mem_singleton]
        constructor
        · rintro (⟨h, h2⟩ | rfl)
          · exact ⟨.inl h, h2⟩
          · exact ⟨.inr rfl, (mz z).mp hz2⟩
        · rintro ⟨h | h, h2⟩
          · exact .inl ⟨h, h2⟩
          · exact .inr h
      · have hz2 : z ∉ zs := by simpa using c2
        refine ⟨s2.trans s3, ys, s3 _ _ eD, ndy, by omega, fun w => ?_⟩
        rw [hy w, take_snoc ey, List.mem_append, List.mem_singleton]
        constructor
        · rintro ⟨h, h2⟩
          exact ⟨.inl h, h2⟩
        · rintro ⟨h | rfl, h2⟩
          · exact ⟨h, h2⟩
          · exact absurd ((mz z).mpr h2) hz2
    · rintro H2 ⟨s2, ys, eD, ndy, ly, hy⟩
      rw [List.length_map] at ly
      rw [List.length_map, List.take_length] at hy
      have fD : H D = none := s1.free hD
      have sm := s1.trans s2
      have mem : ∀ y, y ∈ ys ↔ Reach fs z y ∧ Reach fs y z := fun y => by rw [hy y, hm y]
      refine ⟨fun σ H3 => ∃ zs : List Str, σ = [some v, some (.str z), some (.ref D), none] ∧ Same H H3 ∧ H3 D = some (.lst (zs.map V.str)) ∧ zs.Nodup ∧ zs.length ≤ 5 ∧ ∀ y, y ∈ zs ↔ InG fs z y, ?_, ?_⟩
      · refine ⟨_, rfl, _, rfl, D, _, rfl, .inl (SqL.of eD), rfl, flat_str _, _, rfl, ?_⟩
        rw [inV_str]
        refine ite2 (fun c2 => ?_) (fun c2 => ?_)
        · have nz : z ∉ ys := by simpa using c2
          refine ⟨_, rfl, .inl ⟨rfl, _, SqL.of eD⟩, _, rfl, D, _, _, rfl, rfl, eD, small1000 (by rw [List.length_map]; omega), ys ++ [z], rfl, Kx.Same.own sm fD _, by rw [upd_same, List.map_append]; rfl, List.nodup_append.mpr ⟨ndy, by simp, fun a ha b hb e => nz (by rw [List.mem_singleton.mp hb] at e; exact e ▸ ha)⟩, by rw [List.length_append, List.length_singleton]; omega, fun y => ?_⟩
          rw [List.mem_append, List.mem_singleton, mem y]
          exact Or.comm
        · have nz : z ∈ ys := by simpa using c2
          refine ⟨ys, rfl, sm, eD, ndy, by omega, fun y => ?_⟩
          rw [mem y]
          exact ⟨.inr, fun h => h.elim (fun e => e ▸ (mem z).mp nz) id⟩
      · rintro σ H3 ⟨zs, rfl, sm3, e3, ndz, lz, hz3⟩
        refine ⟨_, rfl, D, zs, rfl, SqL.of e3, by omega, fun ws p hp srt hn => ?_⟩
        refine q p _ ws (sm3.trans (same_upd hn _)) upd_same (hp.nodup_iff.mpr ndz) srt fun y => ?_
        rw [hp.mem_iff, hz3 y]
end
end Kx
namespace Kx
open PySem PySem.Spec PyProof.Rows L2
section
variable {P : Program} {w : World} {K : PySem.W.Frag} {mg : Str → Option Value} {base : Heap}
set_option pp.maxSteps 1500
theorem mt_str (z : Str) (s : PV) : mt (.str z) s = some [(z, s)] := by
  cases s <;> simp [mt]
theorem mt_tup (w u : Str) (ps us : List PV) : mt (.tup (.str w :: ps)) (.tup (.str u :: us)) = if w = u then mtL ps us else none := by simp [mt]
/-- one after the other -/
def thenM (a b : Option AL) : Option AL := match a with
  | none => none
  | some x => match b with
    | none => none
    | some y => some (x ++ y)
theorem thenM_nil (a : Option AL) : thenM (some []) a = a := by cases a <;> rfl
theorem thenM_end (a : Option AL) : thenM a (some []) = a := by cases a <;> simp [thenM]
theorem thenM_assoc (a b c : Option AL) : thenM (thenM a b) c = thenM a (thenM b c) := by
  cases a <;> cases b <;> cases c <;> simp [thenM]
theorem mtL_cons (p v : PV) (ps vs : List PV) : mtL (p :: ps) (v :: vs) = thenM (mt p v) (mtL ps vs) := by
  simp only [mtL]
  cases mt p v with
  | none => rfl
  | some a => cases mtL ps vs <;> rfl
theorem mtL_nil : mtL [] [] = some [] := by simp [mtL]
theorem mtL_append : ∀ {a b : List PV} (c d : List PV), a.length = b.length → mtL (a ++ c) (b ++ d) = thenM (mtL a b) (mtL c d)
  | [], [], c, d, _ => by rw [mtL_nil, thenM_nil]; rfl
  | x :: a, y :: b, c, d, h => by
    rw [List.cons_append, List.cons_append, mtL_cons, mtL_cons, mtL_append c d (by simpa using h), thenM_assoc]
theorem mtL_one (p v : PV) : mtL [p] [v] = mt p v := by rw [mtL_cons, mtL_nil, thenM_end]
theorem mtL_snoc {a b : List PV} (p v : PV) (h : a.length = b.length) : mtL (a ++ [p]) (b ++ [v]) = thenM (mtL a b) (mt p v) := by rw [mtL_append _ _ h, mtL_one]
theorem thenM_some {a b : Option AL} {m : AL} (h : thenM a b = some m) : ∃ x y, a = some x ∧ b = some y ∧ m = x ++ y := by
  cases a with
  | none => cases h
  | some x => cases b with
    | none => cases h
    | some y => exact ⟨x, y, rfl, rfl, (Option.some.inj h).symm⟩
/-- a value: a term over the makers without names -/
def Val (t : PV) : Prop := Ap t ∧ lv t = []
theorem val_inv {s : PV} (h : Val s) : ∃ u us, s = .tup (.str u :: us) ∧ (u, us.length) ∈ KA ∧ ∀ x ∈ us, Val x := by
  obtain ⟨a, n⟩ := h
  cases s with
  | str z => simp [lv] at n
  | int i => exact a.elim
  | tup l =>
    cases l with
    | nil => exact a.elim
    | cons x us =>
      cases x with
      | int i => exact a.elim
      | tup l => exact a.elim
      | str u =>
        refine ⟨u, us, rfl, a.1, fun x hx => ⟨mem_ApL a.2 x hx, ?_⟩⟩
        have : lvL us = [] := n
        cases e : lv x with
        | nil => rfl
        | cons z r =>
          have key : ∀ {l : List PV} {x : PV} {z : Str}, x ∈ l → z ∈ lv x → z ∈ lvL l := by
            intro l
            induction l with
            | nil => intro x z h; cases h
            | cons y q ih =>
              intro x z h g
              simp only [lvL, List.mem_append]
              rcases List.mem_cons.mp h with rfl | h
              · exact .inl g
              · exact .inr (ih h g)
          have h2 := key hx (show z ∈ lv x by rw [e]; exact List.mem_cons_self ..)
          rw [this] at h2
          cases h2
theorem lvL_mem {z : Str} : ∀ {l : List PV}, z ∈ lvL l ↔ ∃ t ∈ l, z ∈ lv t
  | [] => by simp [lvL]
  | a :: r => by simp only [lvL, List.mem_append, lvL_mem (l := r), List.mem_cons, exists_eq_or_imp]
mutual
theorem mt_keys : ∀ {t s : PV} {m : AL}, Ap t → Val s → mt t s = some m → m.map (·.1) = lv t
  | .str z, s, m, _, _, h => by
    rw [mt_str] at h
    cases h
    rfl
  | .int _, _, _, h, _, _ => h.elim
  | .tup [], _, _, h, _, _ => h.elim
  | .tup (.int _ :: _), _, _, h, _, _ => h.elim
  | .tup (.tup _ :: _), _, _, h, _, _ => h.elim
  | .tup (.str w :: ps), s, m, hA, hV, h => by
    obtain ⟨u, us, rfl, k, hus⟩ := val_inv hV
    rw [mt_tup] at h
    split at h
    · rename_i e
      subst e
      exact mtL_keys hA.2 hus (KA_len hA.1 k) h
    · cases h
theorem mtL_keys : ∀ {ps us : List PV} {m : AL}, ApL ps → (∀ x ∈ us, Val x) → ps.length = us.length → mtL ps us = some m → m.map (·.1) = lvL ps
  | [], [], m, _, _, _, h => by
    rw [mtL_nil] at h
    cases h
    rfl
  | p :: ps, u :: us, m, hA, hV, hl, h => by
    rw [mtL_cons] at h
    obtain ⟨x, y, hx, hy, rfl⟩ := thenM_some h
    rw [List.map_append, mt_keys hA.1 (hV u (List.mem_cons_self ..)) hx, mtL_keys hA.2 (fun x hx => hV x (List.mem_cons_of_mem _ hx)) (by simpa using hl) hy]
    rfl
  | [], _ :: _, _, _, _, hl, _ => by simp at hl
  | _ :: _, [], _, _, _, hl, _ => by simp at hl
end
mutual
theorem mt_dep : ∀ {t s : PV} {m : AL}, mt t s = some m → ∀ kv ∈ m, dep kv.2 ≤ dep s
  | .str z, s, m, h, kv, hk => by
    rw [mt_str] at h
    cases h
    rw [List.mem_singleton.mp hk]
    exact Nat.le_refl _
  | .int _, _, _, h, _, _ => by simp [mt] at h
  | .tup [], _, _, h, _, _ => by simp [mt] at h
  | .tup (.int _ :: _), _, _, h, _, _ => by simp [mt] at h
  | .tup (.tup _ :: _), _, _, h, _, _ => by simp [mt] at h
  | .tup (.str w :: ps), .str _, _, h, _, _ => by simp [mt] at h
  | .tup (.str w :: ps), .int _, _, h, _, _ => by simp [mt] at h
  | .tup (.str w :: ps), .tup [], _, h, _, _ => by simp [mt] at h
  | .tup (.str w :: ps), .tup (.int _ :: _), _, h, _, _ => by simp [mt] at h
  | .tup (.str w :: ps), .tup (.tup _ :: _), _, h, _, _ => by simp [mt] at h
  | .tup (.str w :: ps), .tup (.str u :: us), m, h, kv, hk => by
    rw [mt_tup] at h
    split at h
    · have := mtL_dep h kv hk
      rw [dep_cons]; omega
    · cases h
theorem mtL_dep : ∀ {ps us : List PV} {m : AL}, mtL ps us = some m → ∀ kv ∈ m, dep kv.2 ≤ depL us
  | [], us, m, h, kv, hk => by
    have : m = [] := by cases us <;> (simp [mtL] at h; exact h)
    rw [this] at hk; cases hk
  | _ :: _, [], m, h, kv, hk => by
    have : m = [] := by simp [mtL] at h; exact h
    rw [this] at hk; cases hk
  | p :: ps, u :: us, m, h, kv, hk => by
    rw [mtL_cons] at h
    obtain ⟨x, y, hx, hy, rfl⟩ := thenM_some h
    simp only [depL]
    rcases List.mem_append.mp hk with hk | hk
    · have := mt_dep hx kv hk; omega
    · have := mtL_dep hy kv hk; omega
end
/-! ### the dict -/
def AsD (H : Hp) (p : Addr) (al : AL) : Prop := ∃ kvs : List (Key × V), H p = some (.dK kvs) ∧ Paired (fun kv zt => kv.1 = Sum.inr zt.1 ∧ Is H kv.2 zt.2) kvs al
theorem AsD.tk {H H' : Hp} {p : Addr} {al : AL} (x : Tk H H') (s : ∀ kvs, H p = some (.dK kvs) → H' p = some (.dK kvs)) (h : AsD H p al) : AsD H' p al := by
  obtain ⟨kvs, a, b⟩ := h
  exact ⟨kvs, s _ a, Paired.imp b fun _ _ ⟨q, i⟩ => ⟨q, i.tk x⟩⟩
theorem AsD.same {H H' : Hp} {p : Addr} {al : AL} (h : AsD H p al) (s : Same H H') : AsD H' p al := h.tk (.of s) fun _ e => s _ _ e
theorem ExD.tkD {f : Addr} {H H' : Hp} (x : ExD f H H') {kvs : List (Key × V)} (e : H f = some (.dK kvs)) : Tk H H' := x.tk fun vs h => by rw [e] at h; cases h
theorem val_none {H : Hp} {z : Str} : ∀ {kvs : List (Key × V)} {al : AL}, Paired (fun kv zt => kv.1 = Sum.inr zt.1 ∧ Is H kv.2 zt.2) kvs al → z ∉ al.map (·.1) → valV kvs (Sum.inr z) = none
  | _, _, .nil, _ => rfl
  | _, _, .cons (a := kv) (b := zt) ⟨e, h⟩ t, n => by
    rw [List.map_cons, List.mem_cons, not_or] at n
    rw [valV_neg (by rw [e]; intro x; exact n.1 (Sum.inr.inj x).symm)]
    exact val_none t n.2
theorem val_at {H : Hp} {z : Str} {x : PV} : ∀ {kvs : List (Key × V)} {al : AL}, Paired (fun kv zt => kv.1 = Sum.inr zt.1 ∧ Is H kv.2 zt.2) kvs al → (al.map (·.1)).Nodup → (z, x) ∈ al → ∃ v, valV kvs (Sum.inr z) = some v ∧ Is H v x
  | _, _, .cons (a := kv) (b := zt) ⟨e, h⟩ t, nd, hm => by
    rw [List.map_cons, List.nodup_cons] at nd
    rcases List.mem_cons.mp hm with q | q
    · subst q
      exact ⟨kv.2, valV_pos e, h⟩
    · have ne : zt.1 ≠ z := fun w => nd.1 (List.mem_map.mpr ⟨_, q, w.symm⟩)
      rw [valV_neg (by rw [e]; intro x; exact ne (Sum.inr.inj x))]
      exact val_at t nd.2 q
theorem AsD.put {H : Hp} {p : Addr} {al : AL} {z : Str} {v : V} {t : PV} (h : AsD H p al) (n : z ∉ al.map (·.1)) (i : Is H v t) (few : al.length < 900) : ∃ H', DPut H p (.str z) v H' ∧ ExD p H H' ∧ AsD H' p (al ++ [(z, t)]) := by
  obtain ⟨kvs, e, b⟩ := h
  have l := pair_len b
  have nn := val_none b n
  refine ⟨_, DPut.k (k := Sum.inr z) e (small1000 (by omega)), .set _, kvs ++ [(Sum.inr z, v)], by rw [upd_same, putK_new v nn], ?_⟩
  have tk : Tk H (upd H p (.dK (putK kvs (Sum.inr z) v))) := (ExD.set _).tkD e
  exact pair_snoc (Paired.imp b fun _ _ ⟨q, i⟩ => ⟨q, i.tk tk⟩) ⟨rfl, i.tk tk⟩
theorem AsD.ed {H : Hp} {p : Addr} {al : AL} (h : AsD H p al) : ∃ kvs, H p = some (.dK kvs) := by
  obtain ⟨kvs, e, _⟩ := h
  exact ⟨kvs, e⟩
theorem ap_inv {H : Hp} {v : V} {t : PV} (hI : Is H v t) (hT : Ap t) (c : isStr t = false) : ∃ a w vs ts, v = .ref a ∧ t = .tup (.str w :: ts) ∧ H a = some (.tup (.str w :: vs)) ∧ IsL H vs ts ∧ ApL ts ∧ (w, ts.length) ∈ KA := by
  obtain ⟨a, w, vs, ts, e1, e2, e3, e4, _⟩ := tm_tup_inv hI (ap_tm hT) c
  subst e2
  exact ⟨a, w, vs, ts, e1, rfl, e3, e4, hT.2, hT.1⟩
def spTakes (n : Nat) : Sp := fun vs H Q _ => ∃ (p : Addr) (v u : V) (t s : PV) (al : AL), vs = [v, u, .ref p] ∧ Is H v t ∧ Is H u s ∧ Ap t ∧ Val s ∧ AsD H p al ∧ (al.map (·.1) ++ lv t).Nodup ∧ dep t ≤ n ∧ al.length + cnt t ≤ 800 ∧
  ∀ b H', ExD p H H' → (∃ kvs, H' p = some (.dK kvs)) → b = (mt t s).isSome → (∀ m, mt t s = some m → AsD H' p (al ++ m)) → Q (.bl b) H'
theorem ok_takes {n : Nat} (T : Txt K mg) (G_takes : FnOk P w K mg base CX0 (n+1) T.a_takes T.d_takes ["pattern", "value", "found"] (spTakes n)) : FnOk P w K mg base CX0 (n+2) T.a_takes T.d_takes ["pattern", "value", "found"] (spTakes (n+1)) := by
  refine T.F_takes.ok sc_takes (fun vs H Q E h => ?_) (fun cdv A outer s H vs Q E hr h => ?_)
  · obtain ⟨p, v, u, t, s, al, rfl, _⟩ := h; rfl
  · obtain ⟨p, v, u, t, s, al, rfl, hI, hU, hT, hS, hA, nd, hn, few, q⟩ := h
    have hr_takes := hr
    have hu := hu_of hr
    refine ⟨_, (pss_cons (ps_if (pt_val (pe_callB call_isi (by rfl) T.z_isinstance (by decide +kernel) (pa_cons (pv 0) (pa_cons (pe_bltn rfl T.z_str (by decide +kernel) (show RelV (V.ty "str") (Value.type "str") from rfl)) pa_nil)))) (pss_cons (ps_dput hu (pv 2) (pv 0) (pv 1) rfl)
    (pss_one (ps_ret pe_bl))) pss_nil)
    (pss_cons (ps_if (pt_cmpR op_ne (pe_ix ix_tup (pv 0) pe_int (fun _ _ => rfl)) (pe_ix ix_tup (pv 1) pe_int (fun _ _ => rfl)) (nomark _)) (pss_one (ps_ret pe_bl)) pss_nil)
    (pss_cons (ps_for PassesOwn.never rfl (RZ.pi_zipA (by rfl) T.z_zip (pa_cons (pe_slice sl_tup (pv 0) (po_some pe_int) po_none) (pa_cons (pe_slice sl_tup (pv 1) (po_some pe_int) po_none) pa_nil))) (pg_tup rfl (pgs_cons (pg_name (i := 3) sc_takes.nd rfl (Or.inl rfl)) (pgs_cons (pg_name (i := 4) sc_takes.nd rfl (Or.inl rfl)) pgs_nil)))
    (pss_one (ps_if (pt_not (pt_val (pe_call G_takes hr_takes rfl T.m_takes T.F_takes.kp T.b_takes .nil pass0 (pa_cons (pv 3) (pa_cons (pv 4) (pa_cons (pv 2) pa_nil)))))) (pss_one (ps_ret pe_bl)) pss_nil)))
    (pss_one (ps_ret pe_bl))))), ?_⟩
    obtain ⟨uu, ty, kt⟩ := hI.ty (K := K)
    refine ⟨_, rfl, _, _, uu, _, _, rfl, .ty _, ty, kit_str kt, _, rfl, ite2 (fun c => ?_) (fun c => ?_)⟩
    · cases t with
      | int i => cases c
      | tup l => cases c
      | str z =>
      cases hI.str_inv
      have nz : z ∉ al.map (·.1) := fun h => (List.nodup_append.mp nd).2.2 _ h z (by simp [lv]) rfl
      have fw : al.length < 900 := by omega
      obtain ⟨H', dp, xd, as'⟩ := hA.put nz hU fw
      refine ⟨_, rfl, _, rfl, _, rfl, p, H', rfl, dp, ?_⟩
      refine q true H' xd as'.ed (by rw [mt_str]; rfl) fun m hm => ?_
      rw [mt_str] at hm
      cases hm
      exact as'
    · obtain ⟨a, w, vs, ts, rfl, rfl, ea, hL, hTl, ka⟩ := ap_inv hI hT (Bool.eq_false_iff.mpr c)
      obtain ⟨w2, ss, rfl, ka2, hV⟩ := val_inv hS
      obtain ⟨a2, us, rfl, ea2, hL2'⟩ := hU.tup_inv
      cases hL2' with
      | @cons v0 us _ _ h0 hL2 =>
      cases h0.str_inv
      rw [mt_tup] at q
      refine ⟨_, rfl, a, _, _, _, rfl, rfl, .inl (.inl ea), atI_nat (j := 0) rfl, _, rfl, a2, _, _, _, rfl, rfl, .inl (.inl ea2), atI_nat (j := 0) rfl, rfl, _, rfl, ite2 (fun c1 => ?_) (fun c1 => ?_)⟩
      · have ne : ¬ w = w2 := fun e => by subst e; simp at c1
        rw [if_neg ne] at q
        exact q false H (.refl _ _) hA.ed rfl fun m h => by cases h
      have ew : w = w2 := by
        by_cases e : w = w2
        · exact e
        · exact absurd (by simp [e] : (!decide (V.str w = V.str w2)) = true) c1
      subst ew
      rw [if_pos rfl] at q
      have ll := KA_len ka ka2
      have hlen := hL.len
      have hlen2 := hL2.len
      refine ⟨_, rfl, _, rfl, a, _, rfl, .inl (.inl ea), slice1, fun p1 h1 => ?_⟩
      rw [cut1]
      have s1 := same_upd h1 (.tup vs)
      refine ⟨_, rfl, _, rfl, a2, _, rfl, .inl (.inl (s1 _ _ ea2)), slice1, fun p2 h2 => ?_⟩
      rw [cut1]
      have s2 := same_upd h2 (.tup us)
      have s12 := s1.trans s2
      have e1 : (upd (upd H p1 (.tup vs)) p2 (.tup us)) p1 = some (.tup vs) := s2 _ _ upd_same
      have e2 : (upd (upd H p1 (.tup vs)) p2 (.tup us)) p2 = some (.tup us) := upd_same
      generalize upd (upd H p1 (.tup vs)) p2 (.tup us) = H0 at *
      have hA0 := hA.same s12
      obtain ⟨kvs0, ek0⟩ := hA0.ed
      have kp : ∀ i, i ≤ ts.length → mtL ts ss = thenM (mtL (ts.take i) (ss.take i)) (mtL (ts.drop i) (ss.drop i)) := fun i hi => by
        rw [← mtL_append _ _ (by rw [List.length_take, List.length_take]; omega), List.take_append_drop, List.take_append_drop]
      refine ⟨p1, p2, vs, us, rfl, .inr ⟨.inl (.inl e1), .inl (.inl e2), ?_⟩⟩
      refine RZ.for_zipT (K := K) (a := p1) (b := p2) (xs := vs) (ys := us) (by omega) (fun i σ H2 => ∃ (y3 y4 : Option V) (m : AL), σ = [some (.ref a), some (.ref a2), some (.ref p), y3, y4] ∧ ExD p H0 H2 ∧ AsD H2 p (al ++ m) ∧ mtL (ts.take i) (ss.take i) = some m ∧ m.map (·.1) = lvL (ts.take i)) ?_ ?_ ?_ ?_
      · exact ⟨none, none, [], rfl, .refl _ _, by rw [List.append_nil]; exact hA0, by simp [mtL_nil], rfl⟩
      · rintro i σ H2 ⟨_, _, _, _, x2, _⟩
        have t2 := x2.tkD ek0
        exact ⟨.inl (.inl (t2 _ _ e1)), .inl (.inl (t2 _ _ e2))⟩
      · rintro i x y Tt σ H2 hx hy ⟨y3, y4, m, rfl, x2, hA2, hm, km⟩ nT
        obtain ⟨tt, et, it⟩ := hL.get hx
        obtain ⟨ss', es, is'⟩ := hL2.get hy
        have htt := List.mem_of_getElem? et
        have hi := (List.getElem?_eq_some_iff.mp et).1
        have t2 := x2.tkD ek0
        have s3 := same_upd nT (.tup [x, y])
        have tk : Tk H (upd H2 Tt (.tup [x, y])) := ((Tk.of s12).trans t2).trans (.of s3)
        have dt := depL_mem htt
        rw [dep_cons] at hn
        rw [cnt_cons] at few
        have ctl := cntL_mem htt
        have lm : m.length = (lvL (ts.take i)).length := by rw [← km, List.length_map]
        have l1 := lvL_len (ts.take i)
        have l2 := cntL_take ts i
        have c12 : cntL (ts.take i) + cnt tt ≤ cntL ts := by
          have h3 := cntL_take ts (i + 1)
          rw [take_snoc et, cntL_append] at h3
          simp only [cntL] at h3
          omega
        have nd2 : ((al ++ m).map (·.1) ++ lv tt).Nodup := by
          rw [List.map_append, km, List.append_assoc, ← lvL_snoc, ← take_snoc et]
          refine nd.sublist (List.Sublist.append_left ?_ _)
          have e : lv (.tup (.str w :: ts)) = lvL (ts.take (i + 1)) ++ lvL (ts.drop (i + 1)) := by
            rw [← lvL_append, List.take_append_drop]; rfl
          rw [e]
          exact List.sublist_append_left _ _
        refine ⟨Tt, _, rfl, .inl (.inl upd_same), rfl, _, _, rfl, _, _, rfl, rfl, ?_⟩
        refine ⟨_, rfl, _, rfl, _, rfl, p, x, y, tt, ss', al ++ m, rfl, it.tk tk, is'.tk tk, mem_ApL hTl tt htt, hV ss' (List.mem_of_getElem? es), hA2.same s3, nd2, by omega, by rw [List.length_append]; omega, fun b H3 x3 ek3 eb as3 => ⟨_, rfl, ?_⟩⟩
        have tks : mtL (ts.take (i + 1)) (ss.take (i + 1)) = thenM (mtL (ts.take i) (ss.take i)) (mt tt ss') := by
          rw [take_snoc et, take_snoc es, mtL_snoc _ _ (by rw [List.length_take, List.length_take]; omega)]
        have xx : ExD p H H3 := ((ExD.of s12).trans x2).trans ((ExD.of s3).trans x3)
        cases hmt : mt tt ss' with
        | none =>
          rw [hmt] at eb
          subst eb
          refine iteT ?_
          have none : mtL ts ss = none := by
            rw [kp (i + 1) hi, tks, hmt]
            cases mtL (ts.take i) (ss.take i) <;> rfl
          rw [none] at q
          exact q false H3 xx ek3 rfl fun m h => by cases h
        | some m2 =>
          rw [hmt] at eb
          subst eb
          refine iteF ⟨_, _, m ++ m2, rfl, (x2.trans (.of s3)).trans x3, by rw [← List.append_assoc]; exact as3 m2 hmt, by rw [tks, hm, hmt]; rfl, ?_⟩
          rw [List.map_append, km, mt_keys (mem_ApL hTl tt htt) (hV ss' (List.mem_of_getElem? es)) hmt, take_snoc et, lvL_snoc]
      · rintro σ H2 ⟨y3, y4, m, rfl, x2, hA2, hm, km⟩
        rw [hlen, List.take_length, ll, List.take_length] at hm
        rw [hm] at q
        refine q true H2 ((ExD.of s12).trans x2) hA2.ed rfl fun m' h => ?_
        cases h
        exact hA2
end
end Kx
namespace Kx
open PySem PySem.Spec PyProof.Rows L2
section
variable {P : Program} {w : World} {K : PySem.W.Frag} {mg : Str → Option Value} {base : Heap}
set_option pp.maxSteps 1500
def spTaken : Sp := fun vs H Q _ => ∃ (v u : V) (ps us : List PV), vs = [v, u] ∧ Is H v (.tup ps) ∧ Is H u (.tup us) ∧ ApL ps ∧ (∀ x ∈ us, Val x) ∧ ps.length = us.length ∧ (lvL ps).Nodup ∧ depL ps ≤ 3 ∧ cntL ps ≤ 100 ∧
  ∀ x H', Same H H' → (mtL ps us = none → x = .non) → (∀ m, mtL ps us = some m → ∃ q f, x = .ref q ∧ AsD H' q f ∧ f.Perm m) → Q x H'
theorem ok_taken (T : Txt K mg) (G_takes : FnOk P w K mg base CX0 4 T.a_takes T.d_takes ["pattern", "value", "found"] (spTakes 3)) : FnOk P w K mg base CX0 5 T.a_taken T.d_taken ["patterns", "values"] spTaken := by
  refine T.F_taken.ok sc_taken (fun vs H Q E h => ?_) (fun cdv A outer s H vs Q E hr h => ?_)
  · obtain ⟨v, u, ps, us, rfl, _⟩ := h; rfl
  · obtain ⟨v, u, ps, us, rfl, hI, hU, hT, hV, ll, nd, d3, c40, q⟩ := h
    have hr_takes := hr
    have hu := hu_of hr
    refine ⟨_, (pss_cons (ps_set (i := 2) sc_taken.nd rfl (Or.inl rfl) pe_dnewK)
    (pss_cons (ps_for PassesOwn.never rfl (RZ.pi_zipA (by rfl) T.z_zip (pa_cons (pv 0) (pa_cons (pv 1) pa_nil))) (pg_tup rfl (pgs_cons (pg_name (i := 3) sc_taken.nd rfl (Or.inl rfl)) (pgs_cons (pg_name (i := 4) sc_taken.nd rfl (Or.inl rfl)) pgs_nil)))
    (pss_one (ps_if (pt_not (pt_val (pe_call G_takes hr_takes rfl T.m_takes T.F_takes.kp T.b_takes .nil pass0 (pa_cons (pv 3) (pa_cons (pv 4) (pa_cons (pv 2) pa_nil)))))) (pss_one (ps_ret pe_non)) pss_nil)))
    (pss_one (ps_ret (pv 2))))), ?_⟩
    obtain ⟨a, vs, rfl, ea, hL⟩ := hI.tup_inv
    obtain ⟨a2, ws, rfl, ea2, hL2⟩ := hU.tup_inv
    have hlen := hL.len
    have hlen2 := hL2.len
    refine fun p hp => ?_
    have s1 := same_upd hp (.dK [])
    have ek0 : (upd H p (.dK [])) p = some (.dK []) := upd_same
    have e1 := s1 _ _ ea
    have e2 := s1 _ _ ea2
    generalize upd H p (.dK []) = H0 at *
    refine ⟨_, rfl, _, rfl, a, a2, vs, ws, rfl, .inr ⟨.inl (.inl e1), .inl (.inl e2), ?_⟩⟩
    have kp : ∀ i, i ≤ ps.length → mtL ps us = thenM (mtL (ps.take i) (us.take i)) (mtL (ps.drop i) (us.drop i)) := fun i hi => by
      rw [← mtL_append _ _ (by rw [List.length_take, List.length_take]; omega), List.take_append_drop, List.take_append_drop]
    have back : ∀ {H' : Hp}, ExD p H0 H' → Same H H' := fun x b o e => x b o (ne_of_none e hp) (s1 _ _ e)
    refine RZ.for_zipT (K := K) (a := a) (b := a2) (xs := vs) (ys := ws) (by omega) (fun i σ H2 => ∃ (y3 y4 : Option V) (m : AL), σ = [some (.ref a), some (.ref a2), some (.ref p), y3, y4] ∧ ExD p H0 H2 ∧ AsD H2 p m ∧ mtL (ps.take i) (us.take i) = some m ∧ m.map (·.1) = lvL (ps.take i)) ?_ ?_ ?_ ?_
    · exact ⟨none, none, [], rfl, .refl _ _, ⟨[], ek0, .nil⟩, by simp [mtL_nil], rfl⟩
    · rintro i σ H2 ⟨_, _, _, _, x2, _⟩
      have t2 := x2.tkD ek0
      exact ⟨.inl (.inl (t2 _ _ e1)), .inl (.inl (t2 _ _ e2))⟩
    · rintro i x y Tt σ H2 hx hy ⟨y3, y4, m, rfl, x2, hA2, hm, km⟩ nT
      obtain ⟨tt, et, it⟩ := hL.get hx
      obtain ⟨ss', es, is'⟩ := hL2.get hy
      have htt := List.mem_of_getElem? et
      have hi := (List.getElem?_eq_some_iff.mp et).1
      have t2 := x2.tkD ek0
      have s3 := same_upd nT (.tup [x, y])
      have tk : Tk H (upd H2 Tt (.tup [x, y])) := ((Tk.of s1).trans t2).trans (.of s3)
      have dt := depL_mem htt
      have ctl := cntL_mem htt
      have lm : m.length = (lvL (ps.take i)).length := by rw [← km, List.length_map]
      have l1 := lvL_len (ps.take i)
      have l2 := cntL_take ps i
      have nd2 : (m.map (·.1) ++ lv tt).Nodup := by
        rw [km, ← lvL_snoc, ← take_snoc et]
        refine nd.sublist ?_
        have e : lvL ps = lvL (ps.take (i + 1)) ++ lvL (ps.drop (i + 1)) := by rw [← lvL_append, List.take_append_drop]
        rw [e]
        exact List.sublist_append_left _ _
      refine ⟨Tt, _, rfl, .inl (.inl upd_same), rfl, _, _, rfl, _, _, rfl, rfl, ?_⟩
      refine ⟨_, rfl, _, rfl, _, rfl, p, x, y, tt, ss', m, rfl, it.tk tk, is'.tk tk, mem_ApL hT tt htt, hV ss' (List.mem_of_getElem? es), hA2.same s3, nd2, by omega, by omega, fun b H3 x3 ek3 eb as3 => ⟨_, rfl, ?_⟩⟩
      have tks : mtL (ps.take (i + 1)) (us.take (i + 1)) = thenM (mtL (ps.take i) (us.take i)) (mt tt ss') := by
        rw [take_snoc et, take_snoc es, mtL_snoc _ _ (by rw [List.length_take, List.length_take]; omega)]
      have xx : ExD p H0 H3 := x2.trans ((ExD.of s3).trans x3)
      cases hmt : mt tt ss' with
      | none =>
        rw [hmt] at eb
        subst eb
        refine iteT ?_
        have none : mtL ps us = none := by
          rw [kp (i + 1) hi, tks, hmt]
          cases mtL (ps.take i) (us.take i) <;> rfl
        rw [none] at q
        exact q .non H3 (back xx) (fun _ => rfl) fun m h => by cases h
      | some m2 =>
        rw [hmt] at eb
        subst eb
        refine iteF ⟨_, _, m ++ m2, rfl, xx, as3 m2 hmt, by rw [tks, hm, hmt]; rfl, ?_⟩
        rw [List.map_append, km, mt_keys (mem_ApL hT tt htt) (hV ss' (List.mem_of_getElem? es)) hmt, take_snoc et, lvL_snoc]
    · rintro σ H2 ⟨y3, y4, m, rfl, x2, hA2, hm, km⟩
      rw [hlen, List.take_length, ll, List.take_length] at hm
      rw [hm] at q
      exact ⟨_, rfl, q (.ref p) H2 (back x2) (fun h => by cases h) fun m' h => by
        cases h
        exact ⟨p, m, rfl, hA2, .refl _⟩⟩
/-- pairs of a pattern and a value -/
def prT (p : PV × PV) : PV := .tup [p.1, p.2]
def mtP (L : List (PV × PV)) : Option AL := mtL (L.map (·.1)) (L.map (·.2))
theorem mtP_append (L M : List (PV × PV)) : mtP (L ++ M) = thenM (mtP L) (mtP M) := by
  unfold mtP
  rw [List.map_append, List.map_append, mtL_append _ _ (by rw [List.length_map, List.length_map])]
theorem mtP_one (p : PV × PV) : mtP [p] = mt p.1 p.2 := mtL_one _ _
/-- what is left agrees with what is asked -/
def Left (al : AL) (o r : Option AL) : Prop := match r with
  | none => o = none
  | some m => ∃ M, o = some M ∧ M.Perm (al ++ m)
theorem pr_inv {H : Hp} {v : V} {p : PV × PV} (h : Is H v (prT p)) : ∃ a x y, v = .ref a ∧ H a = some (.tup [x, y]) ∧ Is H x p.1 ∧ Is H y p.2 := by
  obtain ⟨a, us, rfl, e, hL⟩ := h.tup_inv
  cases hL with
  | @cons v0 _ _ _ h0 hL =>
  cases hL with
  | @cons v1 _ _ _ h1 hL =>
  cases hL
  exact ⟨a, _, _, rfl, e, h0, h1⟩
theorem zip_take {ps us : List PV} {i : Nat} {t s : PV} (e : ps[i]? = some t) (f : us[i]? = some s) : (ps.zip us).take (i + 1) = (ps.zip us).take i ++ [(t, s)] := take_snoc (by
  rw [List.getElem?_zip_eq_some]; exact ⟨e, f⟩)
theorem ok_law_taken (T : Txt K mg)  : FnOk P w K mg base CX0 1 T.a_law_taken T.d_law_taken ["patterns", "values"] spTaken := by
  refine T.F_law_taken.ok sc_law_taken (fun vs H Q E h => ?_) (fun cdv A outer s H vs Q E hr h => ?_)
  · obtain ⟨v, u, ps, us, rfl, _⟩ := h; rfl
  · obtain ⟨v, u, ps, us, rfl, hI, hU, hT, hV, ll, nd, d3, c40, q⟩ := h
    have hu := hu_of hr
    refine ⟨_, (pss_cons (ps_set (i := 2) sc_law_taken.nd rfl (Or.inl rfl) pe_dnewK)
    (pss_cons (ps_setLc (i := 3) (own := [("k", 6)]) (g := (gName 6)) (tt := tYes) rfl sc_law_taken.nd rfl rfl (sw_true rfl rfl rfl (by decide +kernel)) (pi_range1 (by rfl) T.z_range (pa_cons (pe_callB call_len_seq (by rfl) T.z_len (by decide +kernel) (pa_cons (pv 0) pa_nil)) pa_nil)) (blkOk_by (own := [("k", 6)]) (N := ["patterns", "values", "found", "pairs", "pattern", "value", "k"]) (sc := defScope s_law_taken) (by decide +kernel)) (fun _ _ _ _ _ => (pg_name (i := 6) sc_law_taken.nd rfl (Or.inl rfl))) (fun _ _ _ _ _ => pts_nil) (fun _ _ _ _ _ => (pe_tup (pa_cons (pe_ix (ixTK (K := K)) (pv 0) (pv 6) (fun _ _ => rfl)) (pa_cons (pe_ix (ixTK (K := K)) (pv 1) (pv 6) (fun _ _ => rfl)) pa_nil)))))
    (pss_cons (ps_while PassesOwn.never (pt_cmpR op_gt (pe_callB call_len_seq (by rfl) T.z_len (by decide +kernel) (pa_cons (pv 3) pa_nil)) pe_int (nomark _))
    (pss_cons (ps_asg (pe_bm0 PySem.F.plainAttrs_list PySem.F.slot_list_pop PySem.F.type_list_pop mt_pop (pv 3)) (pg_tup rfl (pgs_cons (pg_name (i := 4) sc_law_taken.nd rfl (Or.inr rfl)) (pgs_cons (pg_name (i := 5) sc_law_taken.nd rfl (Or.inr rfl)) pgs_nil))))
    (pss_one (ps_if (pt_val (pe_callB call_isi (by rfl) T.z_isinstance (by decide +kernel) (pa_cons (pv 4) (pa_cons (pe_bltn rfl T.z_str (by decide +kernel) (show RelV (V.ty "str") (Value.type "str") from rfl)) pa_nil)))) (pss_one (ps_dput hu (pv 2) (pv 4) (pv 5) rfl)) (pss_one (ps_if (pt_cmpR op_ne (pe_ix ix_tup (pv 4) pe_int (fun _ _ => rfl)) (pe_ix ix_tup (pv 5) pe_int (fun _ _ => rfl)) (nomark _)) (pss_one (ps_ret pe_non)) (pss_one (ps_set (i := 3) sc_law_taken.nd rfl (Or.inl rfl) (pe_op op_cat (pv 3) (pe_lc (own := [("k", 6)]) (g := (gName 6)) (tt := tYes) rfl sc_law_taken.nd (pi_range2 (by rfl) T.z_range (pa_cons pe_int (pa_cons (pe_callB call_len_seq (by rfl) T.z_len (by decide +kernel) (pa_cons (pv 4) pa_nil)) pa_nil))) (blkOk_by (own := [("k", 6)]) (N := ["patterns", "values", "found", "pairs", "pattern", "value", "k"]) (sc := defScope s_law_taken) (by decide +kernel)) (fun _ _ _ _ _ => (pg_name (i := 6) sc_law_taken.nd rfl (Or.inl rfl))) (fun _ _ _ _ _ => pts_nil) (fun _ _ _ _ _ => (pe_tup (pa_cons (pe_ix (ixTK (K := K)) (pv 4) (pv 6) (fun _ _ => rfl)) (pa_cons (pe_ix (ixTK (K := K)) (pv 5) (pv 6) (fun _ _ => rfl)) pa_nil))))))))))))))
    (pss_one (ps_ret (pv 2)))))), ?_⟩
    obtain ⟨a, vs, rfl, ea, hL⟩ := hI.tup_inv
    obtain ⟨a2, ws, rfl, ea2, hL2⟩ := hU.tup_inv
    have hlen := hL.len
    have hlen2 := hL2.len
    have cl := cntL_len ps
    refine fun p hp => ?_
    have s1 := same_upd hp (.dK [])
    have ek0 : (upd H p (.dK [])) p = some (.dK []) := upd_same
    have e1 := s1 _ _ ea
    have e2 := s1 _ _ ea2
    have back : ∀ {H' : Hp}, ExD p (upd H p (.dK [])) H' → Same H H' := fun x b o e => x b o (ne_of_none e hp) (s1 _ _ e)
    generalize upd H p (.dK []) = H0 at *
    have hL0 := hL.same s1
    have hL20 := hL2.same s1
    refine ⟨_, rfl, a, vs, rfl, .inr (.inl (.inl e1)), ((vs.length : Nat) : Int), rfl, by omega, by omega, fun D hD => ?_⟩
    refine lc_range (n := vs.length) (fun j H2 => j ≤ vs.length ∧ ∃ xs, Same H0 H2 ∧ H2 D = some (.lst xs) ∧ IsL H2 xs (((ps.zip us).take j).map prT)) ?_ ?_ ?_
    · exact ⟨Nat.zero_le _, [], same_upd hD _, upd_same, .nil⟩
    · rintro j H2 hj ⟨_, xs, sm, eD, iX⟩
      have hj1 : j < ps.length := by omega
      have hj2 : j < us.length := by omega
      have ej : vs[j]? = some vs[j] := List.getElem?_eq_getElem hj
      have ej2 : ws[j]? = some (ws[j]'(by omega)) := List.getElem?_eq_getElem _
      obtain ⟨tt, et, it⟩ := hL0.get ej
      obtain ⟨ss', es, is'⟩ := hL20.get ej2
      have lx := iX.len
      rw [List.length_map, List.length_take] at lx
      refine ⟨rfl, yes_if ⟨_, rfl, _, rfl, a, _, _, _, rfl, rfl, .inl (.inl (sm _ _ e1)), atI_nat (j := 0 + j) (by rw [Nat.zero_add]; exact ej), _, rfl, _, rfl, a2, _, _, _, rfl, rfl, .inl (.inl (sm _ _ e2)), atI_nat (j := 0 + j) (by rw [Nat.zero_add]; exact ej2), (by show 2 ≤ sizeLine; decide), fun t ht => ?_⟩⟩
      have s3 := same_upd ht (.tup [vs[j], ws[j]'(by omega)])
      have eD3 := s3 _ _ eD
      refine ⟨xs, eD3, small1000 (by omega), hj, xs ++ [.ref t], Kx.Same.own (sm.trans s3) hD _, upd_same, IsL.tk (Tk.wr ⟨_, eD3⟩) ?_⟩
      rw [zip_take et es, List.map_append]
      exact (iX.same s3).append (.cons (.tup upd_same (.cons (it.same (sm.trans s3)) (.cons (is'.same (sm.trans s3)) .nil))) .nil)
    rintro H1 ⟨_, xs0, sm1, eD1, iX0⟩
    have zl : (ps.zip us).take vs.length = ps.zip us := List.take_of_length_le (by rw [List.length_zip]; omega)
    rw [zl] at iX0
    have zf : (ps.zip us).map (·.1) = ps := by rw [List.map_fst_zip (by omega)]
    have zs : (ps.zip us).map (·.2) = us := by rw [List.map_snd_zip (by omega)]
    have nDp : D ≠ p := (ne_of_none ek0 hD).symm
    refine ⟨fun m σ H2 => ∃ (y4 y5 : Option V) (pd : Addr) (xs : List V) (L : List (PV × PV)) (al : AL), σ = [some (.ref a), some (.ref a2), some (.ref p), some (.ref pd), y4, y5, none] ∧ ExD p H0 H2 ∧ H0 pd = none ∧ H2 pd = some (.lst xs) ∧ IsL H2 xs (L.map prT) ∧ (∀ z ∈ L, Ap z.1 ∧ Val z.2) ∧ AsD H2 p al ∧ (al.map (·.1) ++ lvL (L.map (·.1))).Nodup ∧ al.length + cntL (L.map (·.1)) ≤ 100 ∧ cntL (L.map (·.1)) = m ∧ Left al (mtL ps us) (mtP L), ⟨cntL ps, none, none, D, xs0, ps.zip us, [], rfl, .of sm1, hD, eD1, iX0, fun z hz => ?_, ⟨[], sm1 _ _ ek0, .nil⟩, by rw [zf]; exact nd, by rw [zf]; simpa using c40, by rw [zf], ?_⟩, ?_⟩
    · have := List.of_mem_zip hz
      exact ⟨mem_ApL hT _ this.1, hV _ this.2⟩
    · unfold mtP
      rw [zf, zs]
      cases h : mtL ps us with
      | none => exact rfl
      | some m => exact ⟨m, rfl, .refl _⟩
    rintro m σ H2 ⟨y4, y5, pd, xs, L, al, rfl, x2, hpd, epd, iX, gd, hA, ndA, few, hm, lf⟩
    have npd : pd ≠ p := (ne_of_none ek0 hpd).symm
    have lx := iX.len
    rw [List.length_map] at lx
    refine ⟨_, rfl, pd, _, rfl, .inl (SqL.of epd), _, _, rfl, rfl, _, rfl, ite2 (fun cv => ?_) (fun cv => ?_)⟩
    case refine_2 =>
      have hv : xs = [] := by cases xs with | nil => rfl | cons _ _ => simp at cv
      subst hv
      have hL0' : L = [] := List.eq_nil_of_length_eq_zero (by simpa using lx.symm)
      subst hL0'
      have lf2 : ∃ M, mtL ps us = some M ∧ M.Perm (al ++ []) := by
        have e : mtP [] = some [] := mtL_nil
        rw [e] at lf
        exact lf
      obtain ⟨M, eM, pM⟩ := lf2
      rw [List.append_nil] at pM
      refine ⟨_, rfl, q (.ref p) H2 (back x2) (fun h => by rw [eM] at h; cases h) fun m h => ?_⟩
      rw [eM] at h
      cases h
      exact ⟨p, al, rfl, hA, pM.symm⟩
    have hne : xs ≠ [] := by intro e; rw [e] at cv; simp at cv
    have hlast : xs[xs.length - 1]? = some (xs.getLast hne) := by
      rw [List.getLast_eq_getElem, List.getElem?_eq_getElem]
    obtain ⟨ts', yy, ets, hy, iX'⟩ := iX.snoc_inv hlast hne
    have hLne : L ≠ [] := by intro e; rw [e] at lx; exact hne (List.eq_nil_of_length_eq_zero (by simpa using lx))
    obtain ⟨L', ⟨t, s'⟩, eL⟩ : ∃ L' z, L = L' ++ [z] := ⟨L.dropLast, L.getLast hLne, (List.dropLast_concat_getLast hLne).symm⟩
    subst eL
    rw [List.map_append] at ets
    obtain ⟨e5, e6⟩ := List.append_inj' ets rfl
    have e7 : prT (t, s') = yy := by simpa using e6
    subst e7
    rw [← e5] at iX'
    have lL' := iX'.len
    obtain ⟨b, x, y, eb, ebt, ix, iy⟩ := pr_inv hy
    rw [eb] at hlast
    have gdt := gd (t, s') (by simp)
    have gd' : ∀ z ∈ L', Ap z.1 ∧ Val z.2 := fun z hz => gd z (List.mem_append_left _ hz)
    have el1 : (L' ++ [(t, s')]).map (·.1) = L'.map (·.1) ++ [t] := by rw [List.map_append]; rfl
    rw [el1] at ndA few hm
    rw [lvL_snoc] at ndA
    have ct : cntL (L'.map (·.1) ++ [t]) = cntL (L'.map (·.1)) + cnt t := by rw [cntL_append]; simp [cntL]
    rw [ct] at few hm
    have cp := cnt_pos t
    rw [mtP_append, mtP_one] at lf
    refine ⟨fun σ' H' => ∃ m', m' < m ∧ ∃ (y4 y5 : Option V) (pd : Addr) (xs : List V) (L : List (PV × PV)) (al : AL), σ' = [some (.ref a), some (.ref a2), some (.ref p), some (.ref pd), y4, y5, none] ∧ ExD p H0 H' ∧ H0 pd = none ∧ H' pd = some (.lst xs) ∧ IsL H' xs (L.map prT) ∧ (∀ z ∈ L, Ap z.1 ∧ Val z.2) ∧ AsD H' p al ∧ (al.map (·.1) ++ lvL (L.map (·.1))).Nodup ∧ al.length + cntL (L.map (·.1)) ≤ 100 ∧ cntL (L.map (·.1)) = m' ∧ Left al (mtL ps us) (mtP L), fun σ' H' z => z, ?_⟩
    refine ⟨_, rfl, .inl ⟨rfl, _, SqL.of epd⟩, pd, xs, _, rfl, rfl, epd, hlast, ?_⟩
    have t3 : Tk H2 (upd H2 pd (.lst xs.dropLast)) := Tk.wr ⟨_, epd⟩
    have x3 : ExD p H0 (upd H2 pd (.lst xs.dropLast)) := fun c o n e => by rw [upd_ne (ne_of_none e hpd)]; exact x2 c o n e
    have epd3 : (upd H2 pd (.lst xs.dropLast)) pd = some (.lst xs.dropLast) := upd_same
    have hA3 : AsD (upd H2 pd (.lst xs.dropLast)) p al := hA.tk t3 fun kvs e => by rw [upd_ne npd.symm]; exact e
    have iX3 := iX'.tk t3
    have ix3 := ix.tk t3
    have iy3 := iy.tk t3
    have ebt3 := t3 _ _ ebt
    generalize upd H2 pd (.lst xs.dropLast) = H3 at *
    obtain ⟨kvs3, ek3⟩ := hA3.ed
    refine ⟨b, _, rfl, .inl (.inl ebt3), rfl, _, _, rfl, _, _, rfl, rfl, ?_⟩
    obtain ⟨uu, ty, kt⟩ := ix3.ty (K := K)
    refine ⟨_, rfl, _, _, uu, _, _, rfl, .ty _, ty, kit_str kt, _, rfl, ite2 (fun c => ?_) (fun c => ?_)⟩
    · cases t with
      | int i => cases c
      | tup l => cases c
      | str z =>
      cases ix3.str_inv
      have nz : z ∉ al.map (·.1) := fun h => (List.nodup_append.mp ndA).2.2 _ h z (by simp [lv]) rfl
      obtain ⟨H4, dp, xd, as4⟩ := hA3.put nz iy3 (by omega)
      have ed4 := xd _ _ npd epd3
      refine ⟨_, rfl, _, rfl, _, rfl, p, H4, rfl, dp, cntL (L'.map (·.1)), by omega, _, _, pd, _, L', al ++ [(z, s')], rfl, x3.trans xd, hpd, ed4, iX3.tk (xd.tkD ek3), gd', as4, ?_, by rw [List.length_append, List.length_singleton]; omega, rfl, ?_⟩
      · have e8 : (al ++ [(z, s')]).map (·.1) ++ lvL (L'.map (·.1)) = al.map (·.1) ++ ([z] ++ lvL (L'.map (·.1))) := by rw [List.map_append, List.append_assoc]; rfl
        rw [e8]
        refine (List.Perm.append_left _ ?_).nodup_iff.mpr ndA
        have : lv (.str z) = [z] := rfl
        rw [this]
        exact List.perm_append_comm
      · rw [mt_str] at lf
        cases hmp : mtP L' with
        | none => rw [hmp] at lf; exact lf
        | some m' =>
          rw [hmp] at lf
          obtain ⟨M, eM, pM⟩ := lf
          refine ⟨M, eM, pM.trans ?_⟩
          rw [List.append_assoc]
          exact List.Perm.append_left _ List.perm_append_comm
    · obtain ⟨a5, w, vals, ts, rfl, rfl, ea5, hL5, hTl, ka⟩ := ap_inv ix3 gdt.1 (Bool.eq_false_iff.mpr c)
      obtain ⟨w2, ss, rfl, ka2, hV5⟩ := val_inv gdt.2
      obtain ⟨a6, us6, rfl, ea6, hL6'⟩ := iy3.tup_inv
      cases hL6' with
      | @cons v0 us6 _ _ h0 hL6 =>
      cases h0.str_inv
      rw [mt_tup] at lf
      refine ⟨_, rfl, a5, _, _, _, rfl, rfl, .inl (.inl ea5), atI_nat (j := 0) rfl, _, rfl, a6, _, _, _, rfl, rfl, .inl (.inl ea6), atI_nat (j := 0) rfl, rfl, _, rfl, ite2 (fun c1 => ?_) (fun c1 => ?_)⟩
      · have ne : ¬ w = w2 := fun e => by subst e; simp at c1
        rw [if_neg ne] at lf
        have o : mtL ps us = none := by
          cases hmp : mtP L' with
          | none => rw [hmp] at lf; exact lf
          | some m' => rw [hmp] at lf; exact lf
        exact q .non H3 (back x3) (fun _ => rfl) fun m h => by rw [o] at h; cases h
      have ew : w = w2 := by
        by_cases e : w = w2
        · exact e
        · exact absurd (by simp [e] : (!decide (V.str w = V.str w2)) = true) c1
      subst ew
      rw [if_pos rfl] at lf
      have l5 := KA_len ka ka2
      have hlen5 := hL5.len
      have hlen6 := hL6.len
      rw [cnt_cons] at few hm
      have c5 := cntL_len ts
      have c6 := cntL_len (L'.map (·.1))
      rw [List.length_map] at c6 lL'
      have el : (((V.str w :: vals).length : Nat) : Int) - 1 = ((vals.length : Nat) : Int) := by rw [List.length_cons]; omega
      refine ⟨_, rfl, _, rfl, a5, _, rfl, .inr (.inl (.inl ea5)), 1, _, rfl, ⟨by decide, by decide, by rw [List.length_cons]; omega, by rw [List.length_cons]; omega⟩, fun E hE => ?_⟩
      rw [el]
      have zf5 : (ts.zip ss).map (·.1) = ts := by rw [List.map_fst_zip (by omega)]
      have zs5 : (ts.zip ss).map (·.2) = ss := by rw [List.map_snd_zip (by omega)]
      refine lc_range (lo := 1) (n := vals.length) (fun j H4 => j ≤ vals.length ∧ ∃ xs2, Same H3 H4 ∧ H4 E = some (.lst xs2) ∧ IsL H4 xs2 (((ts.zip ss).take j).map prT)) ?_ ?_ ?_
      · exact ⟨Nat.zero_le _, [], same_upd hE _, upd_same, .nil⟩
      · rintro j H4 hj ⟨_, xs2, sm, eE, iX2⟩
        have hj2 : j < us6.length := by omega
        have ej : vals[j]? = some vals[j] := List.getElem?_eq_getElem hj
        have ej2 : us6[j]? = some us6[j] := List.getElem?_eq_getElem hj2
        obtain ⟨tt, et, it⟩ := hL5.get ej
        obtain ⟨ss', es, is'⟩ := hL6.get ej2
        have lx2 := iX2.len
        rw [List.length_map, List.length_take] at lx2
        have at1 : (V.str w :: vals)[1 + j]? = some vals[j] := by rw [Nat.add_comm, List.getElem?_cons_succ]; exact ej
        have at2 : (V.str w :: us6)[1 + j]? = some us6[j] := by rw [Nat.add_comm, List.getElem?_cons_succ]; exact ej2
        refine ⟨rfl, yes_if ⟨_, rfl, _, rfl, a5, _, _, _, rfl, rfl, .inl (.inl (sm _ _ ea5)), atI_nat (j := 1 + j) at1, _, rfl, _, rfl, a6, _, _, _, rfl, rfl, .inl (.inl (sm _ _ ea6)), atI_nat (j := 1 + j) at2, (by show 2 ≤ sizeLine; decide), fun t ht => ?_⟩⟩
        have s4 := same_upd ht (.tup [vals[j], us6[j]])
        have eE4 := s4 _ _ eE
        refine ⟨xs2, eE4, small1000 (by omega), hj, xs2 ++ [.ref t], Kx.Same.own (sm.trans s4) hE _, upd_same, IsL.tk (Tk.wr ⟨_, eE4⟩) ?_⟩
        rw [zip_take et es, List.map_append]
        exact (iX2.same s4).append (.cons (.tup upd_same (.cons (it.same (sm.trans s4)) (.cons (is'.same (sm.trans s4)) .nil))) .nil)
      · rintro H4 ⟨_, xs2, sm, eE, iX2⟩
        have zl5 : (ts.zip ss).take vals.length = ts.zip ss := List.take_of_length_le (by rw [List.length_zip]; omega)
        rw [zl5] at iX2
        have lx2 := iX2.len
        rw [List.length_map, List.length_zip] at lx2
        refine ⟨pd, E, xs.dropLast, xs2, rfl, rfl, sm _ _ epd3, eE, Nat.le_of_lt (small1000 (by omega)), fun l hl => ?_⟩
        have s5 := same_upd hl (.lst (xs.dropLast ++ xs2))
        have sm5 := sm.trans s5
        have el2 : (L' ++ ts.zip ss).map (·.1) = L'.map (·.1) ++ ts := by rw [List.map_append, zf5]
        have fl : H0 l = none := by
          have h3 : H3 l = none := sm.free hl
          cases q0 : H0 l with
          | none => rfl
          | some o =>
            by_cases e9 : l = p
            · subst e9; rw [ek3] at h3; cases h3
            · have := x3 l o e9 q0; rw [h3] at this; cases this
        refine ⟨cntL (L'.map (·.1) ++ ts), by rw [cntL_append]; omega, _, _, l, _, L' ++ ts.zip ss, al, rfl, x3.trans (.of sm5), fl, upd_same, ?_, fun z hz => ?_, hA3.same sm5, ?_, by rw [el2, cntL_append]; omega, by rw [el2], ?_⟩
        · rw [List.map_append]
          exact (iX3.same sm5).append (iX2.same s5)
        · rcases List.mem_append.mp hz with h | h
          · exact gd' z h
          · have := List.of_mem_zip h
            exact ⟨mem_ApL hTl _ this.1, hV5 _ this.2⟩
        · rw [el2, lvL_append]
          exact ndA
        · rw [mtP_append]
          have e10 : mtP (ts.zip ss) = mtL ts ss := by unfold mtP; rw [zf5, zs5]
          rw [e10]
          exact lf
end
end Kx
namespace Kx
open PySem PySem.Spec PyProof.Rows L2
section
variable {P : Program} {w : World} {K : PySem.W.Frag} {mg : Str → Option Value} {base : Heap}
set_option pp.maxSteps 1500
/-- the first clause that takes the values -/
def fstM : List Cl → List PV → Nat → Int
  | [], _, _ => -1
  | c :: r, us, i => if (mtL c.ps us).isSome then (i : Int) else fstM r us (i + 1)
theorem fstM_cons (c : Cl) (r : List Cl) (us : List PV) (i : Nat) : fstM (c :: r) us i = if (mtL c.ps us).isSome then (i : Int) else fstM r us (i + 1) := rfl
def spClause : Sp := fun vs H Q _ => ∃ (v u : V) (f : Fn) (us : List PV), vs = [v, u] ∧ Is H v (fnPV f) ∧ FnG f ∧ Is H u (.tup us) ∧ (∀ x ∈ us, Val x) ∧ us.length = f.np ∧ ∀ H', Same H H' → Q (.int (fstM f.cls us 0)) H'
theorem cl_take {np : Nat} {c : Cl} (G : ClG np c) (h : np ≤ 2) : ApL c.ps ∧ depL c.ps ≤ 3 ∧ cntL c.ps ≤ 100 := by
  refine ⟨ApL_mem fun p hp => (G.pat p hp).1, depL_le fun p hp => (G.pat p hp).2.1, ?_⟩
  have := cntL_le fun p hp => (G.pat p hp).2.2
  have l := G.len
  have : c.ps.length * 10 ≤ 2 * 10 := Nat.mul_le_mul_right _ (by omega)
  omega
theorem ok_clause_for (T : Txt K mg) (G_taken : FnOk P w K mg base CX0 5 T.a_taken T.d_taken ["patterns", "values"] spTaken) : FnOk P w K mg base CX0 6 T.a_clause_for T.d_clause_for ["function", "values"] spClause := by
  refine T.F_clause_for.ok sc_clause_for (fun vs H Q E h => ?_) (fun cdv A outer s H vs Q E hr h => ?_)
  · obtain ⟨v, u, f, us, rfl, _⟩ := h; rfl
  · obtain ⟨v, u, f, us, rfl, hI, FG, hU, hV, ll, q⟩ := h
    have hr_taken := hr
    refine ⟨_, (pss_cons (ps_for PassesOwn.never rfl (pi_enumT (by rfl) T.z_enumerate (pa_cons (pe_ix ix_tup (pv 0) pe_int (fun _ _ => rfl)) pa_nil)) (pg_tup rfl (pgs_cons (pg_name (i := 2) sc_clause_for.nd rfl (Or.inl rfl)) (pgs_cons (pg_tup rfl (pgs_cons (pg_name (i := 3) sc_clause_for.nd rfl (Or.inl rfl)) (pgs_cons (pg_name (i := 4) sc_clause_for.nd rfl (Or.inl rfl)) pgs_nil))) pgs_nil)))
    (pss_one (ps_if (pt_cmpR op_notN (pe_call G_taken hr_taken rfl T.m_taken T.F_taken.kp T.b_taken .nil pass0 (pa_cons (pv 3) (pa_cons (pv 1) pa_nil))) pe_non (nomark _)) (pss_one (ps_ret (pv 2))) pss_nil)))
    (pss_one (ps_ret (pe_un un_neg pe_int)))), ?_⟩
    obtain ⟨b, pa, ca, ps, cs, rfl, eb, _, _, ec, iC, _⟩ := fn_inv hI
    have lC := iC.len
    rw [List.length_map] at lC
    refine ⟨_, rfl, b, _, _, _, rfl, rfl, .inl (.inl eb), atI_nat (j := 5) rfl, ca, cs, rfl, .inl (.inl ec), ?_⟩
    refine for_enumT (K := K) (a := ca) (xs := cs) (fun i σ H2 => ∃ (y2 y3 y4 : Option V), σ = [some (.ref b), some u, y2, y3, y4] ∧ Same H H2 ∧ fstM f.cls us 0 = fstM (f.cls.drop i) us i) ?_ ?_ ?_ ?_
    · exact ⟨none, none, none, rfl, .refl _, rfl⟩
    · rintro i σ H2 ⟨_, _, _, _, sm, _⟩
      exact .inl (.inl (sm _ _ ec))
    · rintro i x t σ H2 hx ⟨y2, y3, y4, rfl, sm, hf⟩ ht
      obtain ⟨tt, et, it⟩ := iC.get hx
      rw [List.getElem?_map] at et
      obtain ⟨c, hc, rfl⟩ := Option.map_eq_some_iff.mp et
      have s3 := same_upd ht (.tup [.int (i : Nat), x])
      have sm3 := sm.trans s3
      obtain ⟨xa, pa', ps', bv, rfl, exa, epa, iP, _⟩ := cl_inv (it.same sm3)
      have CG := FG.cl c (List.mem_of_getElem? hc)
      obtain ⟨k1, k2, k3⟩ := cl_take CG FG.np.2
      have dr : f.cls.drop i = c :: f.cls.drop (i + 1) := by
        obtain ⟨hi, eg⟩ := List.getElem?_eq_some_iff.mp hc
        rw [List.drop_eq_getElem_cons hi, eg]
      rw [dr] at hf
      refine ⟨t, _, rfl, .inl (.inl upd_same), rfl, _, _, rfl, _, _, rfl, ⟨xa, _, rfl, .inl (.inl exa), rfl, _, _, rfl, _, _, rfl, rfl, rfl, ?_⟩⟩
      refine ⟨_, rfl, _, rfl, .ref pa', u, c.ps, us, rfl, .tup epa iP, hU.same sm3, k1, hV, by rw [CG.len, ll], CG.nms, k2, k3, fun y H3 s4 hn hs => ⟨rfl, _, rfl, ?_⟩⟩
      rw [fstM_cons] at hf
      cases hm : mtL c.ps us with
      | none =>
        rw [hm] at hf
        rw [hn hm]
        exact iteF ⟨_, _, _, rfl, sm3.trans s4, hf⟩
      | some m =>
        rw [hm] at hf
        obtain ⟨p, g, rfl, _, _⟩ := hs m hm
        refine iteT ⟨_, rfl, ?_⟩
        have e : fstM f.cls us 0 = (i : Int) := hf
        rw [← e]
        exact q H3 (sm3.trans s4)
    · rintro σ H2 ⟨y2, y3, y4, rfl, sm, hf⟩
      rw [lC, List.drop_length] at hf
      have e : fstM f.cls us 0 = -1 := hf
      refine ⟨_, rfl, ?_⟩
      have := q H2 sm
      rw [e] at this
      exact this
theorem ok_law_first (T : Txt K mg) (G_law_taken : FnOk P w K mg base CX0 1 T.a_law_taken T.d_law_taken ["patterns", "values"] spTaken) : FnOk P w K mg base CX0 2 T.a_law_first T.d_law_first ["row", "values"] spClause := by
  refine T.F_law_first.ok sc_law_first (fun vs H Q E h => ?_) (fun cdv A outer s H vs Q E hr h => ?_)
  · obtain ⟨v, u, f, us, rfl, _⟩ := h; rfl
  · obtain ⟨v, u, f, us, rfl, hI, FG, hU, hV, ll, q⟩ := h
    have hr_law_taken := hr
    refine ⟨_, (pss_cons (ps_for PassesOwn.never rfl (pi_range1 (by rfl) T.z_range (pa_cons (pe_callB call_len_seq (by rfl) T.z_len (by decide +kernel) (pa_cons (pe_ix ix_tup (pv 0) pe_int (fun _ _ => rfl)) pa_nil)) pa_nil)) (pg_name (i := 2) sc_law_first.nd rfl (Or.inl rfl))
    (pss_one (ps_if (pt_cmpR op_notN (pe_call G_law_taken hr_law_taken rfl T.m_law_taken T.F_law_taken.kp T.b_law_taken .nil pass0 (pa_cons (pe_ix ix_tup (pe_ix ix_tup (pe_ix ix_tup (pv 0) pe_int (fun _ _ => rfl)) (pv 2) (fun _ _ => rfl)) pe_int (fun _ _ => rfl)) (pa_cons (pv 1) pa_nil))) pe_non (nomark _)) (pss_one (ps_ret (pv 2))) pss_nil)))
    (pss_one (ps_ret (pe_un un_neg pe_int)))), ?_⟩
    obtain ⟨b, pa, ca, ps, cs, rfl, eb, _, _, ec, iC, _⟩ := fn_inv hI
    have lC := iC.len
    rw [List.length_map] at lC
    have few := FG.few
    refine ⟨_, rfl, b, _, _, _, rfl, rfl, .inl (.inl eb), atI_nat (j := 5) rfl, ca, _, rfl, .inr (.inl (.inl ec)), ((cs.length : Nat) : Int), rfl, by omega, by omega, ?_⟩
    refine for_range (n := cs.length) (fun i σ H2 => ∃ (y2 : Option V), σ = [some (.ref b), some u, y2] ∧ Same H H2 ∧ fstM f.cls us 0 = fstM (f.cls.drop i) us i) ?_ ?_ ?_
    · exact ⟨none, rfl, .refl _, rfl⟩
    · rintro i σ H2 hi ⟨y2, rfl, sm, hf⟩
      have ei : cs[i]? = some cs[i] := List.getElem?_eq_getElem hi
      obtain ⟨tt, et, it⟩ := iC.get ei
      rw [List.getElem?_map] at et
      obtain ⟨c, hc, rfl⟩ := Option.map_eq_some_iff.mp et
      obtain ⟨xa, pa', ps', bv, exx, exa, epa, iP, _⟩ := cl_inv (it.same sm)
      have CG := FG.cl c (List.mem_of_getElem? hc)
      obtain ⟨k1, k2, k3⟩ := cl_take CG FG.np.2
      have dr : f.cls.drop i = c :: f.cls.drop (i + 1) := by
        obtain ⟨hi, eg⟩ := List.getElem?_eq_some_iff.mp hc
        rw [List.drop_eq_getElem_cons hi, eg]
      rw [dr] at hf
      rw [exx] at ei
      have sb := sm _ _ eb
      refine ⟨_, rfl, b, _, _, _, rfl, rfl, .inl (.inl sb), atI_nat (j := 5) rfl, _, rfl, ca, _, _, _, rfl, rfl, .inl (.inl (sm _ _ ec)), atI_nat (j := 0 + i) (by rw [Nat.zero_add]; exact ei), xa, _, _, _, rfl, rfl, .inl (.inl exa), atI_nat (j := 0) rfl, _, rfl, .ref pa', u, c.ps, us, rfl, .tup epa iP, hU.same sm, k1, hV, by rw [CG.len, ll], CG.nms, k2, k3, fun y H3 s4 hn hs => ⟨rfl, _, rfl, ?_⟩⟩
      rw [fstM_cons] at hf
      cases hm : mtL c.ps us with
      | none =>
        rw [hm] at hf
        rw [hn hm]
        exact iteF ⟨_, rfl, sm.trans s4, hf⟩
      | some m =>
        rw [hm] at hf
        obtain ⟨p, g, rfl, _, _⟩ := hs m hm
        refine iteT ⟨_, rfl, ?_⟩
        have e : fstM f.cls us 0 = (i : Int) := hf
        have e2 : (0 : Int) + (i : Int) = fstM f.cls us 0 := by rw [e]; omega
        rw [e2]
        exact q H3 (sm.trans s4)
    · rintro σ H2 ⟨y2, rfl, sm, hf⟩
      rw [lC, List.drop_length] at hf
      have e : fstM f.cls us 0 = -1 := hf
      refine ⟨_, rfl, ?_⟩
      have := q H2 sm
      rw [e] at this
      exact this
def spValue (n : Nat) : Sp := fun vs H Q _ => ∃ (d c : Addr) (k : Nat), vs = [.ref d, .int k] ∧ Dr H d c ∧ k < n ∧ k ≤ 3 ∧ ∀ v t H', Ex d c H H' → Dr H' d c → Is H' v t → Val t → dep t ≤ k + 2 → Q v H'
theorem val_k0 : Val (.tup [.str "K0"]) := ⟨⟨(by decide +kernel : (("K0" : Str), 0) ∈ KA), trivial⟩, rfl⟩
theorem val_mk {w : Str} {ts : List PV} (h : (w, ts.length) ∈ KA) (g : ∀ t ∈ ts, Val t) : Val (.tup (.str w :: ts)) := by
  refine ⟨⟨h, ApL_mem fun t ht => (g t ht).1⟩, ?_⟩
  show lvL ts = []
  induction ts with
  | nil => rfl
  | cons t r ih =>
    have a := (g t (List.mem_cons_self ..)).2
    have key : ∀ {l : List PV}, (∀ t ∈ l, Val t) → lvL l = [] := by
      intro l
      induction l with
      | nil => intro _; rfl
      | cons x q ih2 =>
        intro hg
        simp only [lvL, (hg x (List.mem_cons_self ..)).2, ih2 fun t ht => hg t (List.mem_cons_of_mem _ ht), List.append_nil]
    simp only [lvL, a, key fun t ht => g t (List.mem_cons_of_mem _ ht), List.append_nil]
theorem ok_law_value {n : Nat} (T : Txt K mg) (G_law_draw : FnOk P w K mg base CX0 1 T.a_law_draw T.d_law_draw ["state", "many"] spDraw) (G_law_value : FnOk P w K mg base CX0 (n+1) T.a_law_value T.d_law_value ["state", "deep"] (spValue n)) : FnOk P w K mg base CX0 (n+2) T.a_law_value T.d_law_value ["state", "deep"] (spValue (n+1)) := by
  refine T.F_law_value.ok sc_law_value (fun vs H Q E h => ?_) (fun cdv A outer s H vs Q E hr h => ?_)
  · obtain ⟨d, c, k, rfl, _⟩ := h; rfl
  · obtain ⟨d, c, k, rfl, D0, hk, k3, q⟩ := h
    have hr_law_draw := hr.mono (show 1 ≤ n + 1 by omega)
    have hr_law_value := hr
    refine ⟨_, (pss_cons (ps_set (i := 2) sc_law_value.nd rfl (Or.inl rfl) (pe_call G_law_draw hr_law_draw rfl T.m_law_draw T.F_law_draw.kp T.b_law_draw .nil pass0 (pa_cons (pv 0) (pa_cons pe_int pa_nil))))
    (pss_cons (ps_if (pt_cut (PW.pt (pw_or (pt_cmpR op_eq (pv 1) pe_int (nomark _)) (pw_or1 (pt_cmpR op_eq (pv 2) pe_int (nomark _)))))) (pss_one (ps_ret (pe_tup (pa_cons pe_str pa_nil)))) pss_nil)
    (pss_cons (ps_if (pt_cmpR op_lt (pv 2) pe_int (nomark _)) (pss_one (ps_ret (pe_tup (pa_cons (pe_ix ix_list (pe_lst (pa_cons pe_str (pa_cons pe_str pa_nil))) (pe_call G_law_draw hr_law_draw rfl T.m_law_draw T.F_law_draw.kp T.b_law_draw .nil pass0 (pa_cons (pv 0) (pa_cons pe_int pa_nil))) (fun _ _ => rfl)) (pa_cons (pe_call G_law_value hr_law_value rfl T.m_law_value T.F_law_value.kp T.b_law_value .nil pass0 (pa_cons (pv 0) (pa_cons (pe_op op_sub (pv 1) pe_int) pa_nil))) pa_nil))))) pss_nil)
    (pss_one (ps_ret (pe_tup (pa_cons pe_str (pa_cons (pe_call G_law_value hr_law_value rfl T.m_law_value T.F_law_value.kp T.b_law_value .nil pass0 (pa_cons (pv 0) (pa_cons (pe_op op_sub (pv 1) pe_int) pa_nil))) (pa_cons (pe_call G_law_value hr_law_value rfl T.m_law_value T.F_law_value.kp T.b_law_value .nil pass0 (pa_cons (pv 0) (pa_cons (pe_op op_sub (pv 1) pe_int) pa_nil))) pa_nil))))))))), ?_⟩
    refine ⟨_, rfl, d, c, 4, rfl, D0, by decide, by decide, fun kd H1 kd0 kd4 x1 D1 => ?_⟩
    refine ⟨fun b H2 => H2 = H1 ∧ (b = false → 1 ≤ k), ?_, ?_⟩
    · refine ⟨_, rfl, rfl, _, rfl, ite2 (fun c1 => ⟨rfl, fun z => by cases z⟩) (fun c1 => ⟨_, rfl, rfl, _, rfl, rfl, fun _ => ?_⟩)⟩
      have : ¬ ((k : Int) = 0) := fun e => c1 (by rw [e]; exact decide_eq_true rfl)
      omega
    rintro b H2 ⟨rfl, hb⟩
    cases b with
    | true =>
      refine iteT ⟨(by show 1 ≤ sizeLine; decide), fun p hp => ?_⟩
      have s := same_upd hp (.tup [.str "K0"])
      exact q _ (.tup [.str "K0"]) _ (x1.trans (.of s)) (D1.same s) (.tup upd_same (.cons (.str _ (by decide +kernel)) .nil)) val_k0 (by simp [dep, depL])
    | false =>
    refine iteF ?_
    obtain ⟨k, rfl⟩ : ∃ m, k = m + 1 := ⟨k - 1, by have := hb rfl; omega⟩
    have ek : ((k + 1 : Nat) : Int) - 1 = (k : Int) := by omega
    refine ⟨_, rfl, _, _, rfl, rfl, _, rfl, ite2 (fun c1 => ?_) (fun c1 => ?_)⟩
    · refine ⟨(by show 2 ≤ sizeLine; decide), fun L hL => ?_⟩
      have s2 := same_upd hL (.lst [.str "K1", .str "K3"])
      have nL := D1.free hL
      refine ⟨_, rfl, d, c, 2, rfl, D1.same s2, by decide, by decide, fun r H3 r0 r2 x3 D3 => ?_⟩
      have eL : H3 L = some (.lst [.str "K1", .str "K3"]) := x3.but _ _ nL.1 nL.2 upd_same
      obtain ⟨z, hz, hz2, ez⟩ : ∃ z : Str, sok z = true ∧ (z, 1) ∈ KA ∧ atI [V.str "K1", V.str "K3"] r = some (.str z) := by
        have : r = 0 ∨ r = 1 := by omega
        rcases this with rfl | rfl
        · exact ⟨"K1", by decide +kernel, by decide +kernel, atI_nat (j := 0) rfl⟩
        · exact ⟨"K3", by decide +kernel, by decide +kernel, atI_nat (j := 1) rfl⟩
      refine ⟨L, _, _, _, rfl, rfl, SqL.of eL, ez, ?_⟩
      refine ⟨_, rfl, _, rfl, _, _, rfl, rfl, d, c, k, (by show [V.ref d, V.int (((k + 1 : Nat) : Int) - 1)] = _; rw [ek]), D3, by omega, by omega, fun v t H4 x4 D4 i4 vt dp4 => ⟨(by show 2 ≤ sizeLine; decide), fun p hp => ?_⟩⟩
      have s5 := same_upd hp (.tup [.str z, v])
      refine q _ (.tup [.str z, t]) _ ((((x1.trans (.of s2)).trans x3).trans x4).trans (.of s5)) (D4.same s5) (.tup upd_same (.cons (.str _ hz) (.cons (i4.same s5) .nil))) (val_mk hz2 fun x hx => by rw [List.mem_singleton.mp hx]; exact vt) ?_
      rw [dep_cons]; simp only [depL]; omega
    · refine ⟨_, rfl, _, rfl, _, _, rfl, rfl, d, c, k, (by show [V.ref d, V.int (((k + 1 : Nat) : Int) - 1)] = _; rw [ek]), D1, by omega, by omega, fun v t H4 x4 D4 i4 vt dp4 => ?_⟩
      refine ⟨_, rfl, _, rfl, _, _, rfl, rfl, d, c, k, (by show [V.ref d, V.int (((k + 1 : Nat) : Int) - 1)] = _; rw [ek]), D4, by omega, by omega, fun v2 t2 H5 x5 D5 i5 vt2 dp5 => ⟨(by show 3 ≤ sizeLine; decide), fun p hp => ?_⟩⟩
      have s6 := same_upd hp (.tup [.str "K2", v, v2])
      refine q _ (.tup [.str "K2", t, t2]) _ (((x1.trans x4).trans x5).trans (.of s6)) (D5.same s6) (.tup upd_same (.cons (.str _ (by decide +kernel)) (.cons ((i4.ex x5 D4).same s6) (.cons (i5.same s6) .nil)))) (val_mk (show (("K2" : Str), 2) ∈ KA by decide +kernel) fun x hx => ?_) ?_
      · rcases List.mem_cons.mp hx with rfl | hx
        · exact vt
        · rw [List.mem_singleton.mp hx]; exact vt2
      · rw [dep_cons]; simp only [depL]; omega
def spLike (n : Nat) : Sp := fun vs H Q _ => ∃ (d c : Addr) (v : V) (t : PV), vs = [.ref d, v] ∧ Dr H d c ∧ Is H v t ∧ Ap t ∧ dep t ≤ n ∧ ∀ u s H', Ex d c H H' → Dr H' d c → Is H' u s → Val s → dep s ≤ dep t + 5 → Q u H'
theorem ok_law_like {n : Nat} (T : Txt K mg) (G_law_value : FnOk P w K mg base CX0 5 T.a_law_value T.d_law_value ["state", "deep"] (spValue 4)) (G_law_draw : FnOk P w K mg base CX0 1 T.a_law_draw T.d_law_draw ["state", "many"] spDraw) (G_law_like : FnOk P w K mg base CX0 (n+5) T.a_law_like T.d_law_like ["state", "pattern"] (spLike n)) : FnOk P w K mg base CX0 (n+6) T.a_law_like T.d_law_like ["state", "pattern"] (spLike (n+1)) := by
  refine T.F_law_like.ok sc_law_like (fun vs H Q E h => ?_) (fun cdv A outer s H vs Q E hr h => ?_)
  · obtain ⟨d, c, v, t, rfl, _⟩ := h; rfl
  · obtain ⟨d, c, v, t, rfl, D0, hI, hT, hn, q⟩ := h
    have hr_law_draw := hr.mono (show 1 ≤ n + 5 by omega)
    have hr_law_value := hr.mono (show 5 ≤ n + 5 by omega)
    have hr_law_like := hr
    refine ⟨_, (pss_cons (ps_if (pt_cut (PW.pt (pw_or (pt_val (pe_callB call_isi (by rfl) T.z_isinstance (by decide +kernel) (pa_cons (pv 1) (pa_cons (pe_bltn rfl T.z_str (by decide +kernel) (show RelV (V.ty "str") (Value.type "str") from rfl)) pa_nil)))) (pw_or1 (pt_cmpR op_eq (pe_call G_law_draw hr_law_draw rfl T.m_law_draw T.F_law_draw.kp T.b_law_draw .nil pass0 (pa_cons (pv 0) (pa_cons pe_int pa_nil))) pe_int (nomark _)))))) (pss_one (ps_ret (pe_call G_law_value hr_law_value rfl T.m_law_value T.F_law_value.kp T.b_law_value .nil pass0 (pa_cons (pv 0) (pa_cons pe_int pa_nil))))) pss_nil)
    (pss_one (ps_ret (pe_op op_catT (pe_tup (pa_cons (pe_ix ix_tup (pv 1) pe_int (fun _ _ => rfl)) pa_nil)) (pe_callTy call_tuple_of (by rfl) T.z_tuple (by decide +kernel) (pa_cons (pe_lc (own := [("part", 2)]) (g := (gName 2)) (tt := tYes) rfl sc_law_like.nd (pi_tup (pe_slice sl_tup (pv 1) (po_some pe_int) po_none)) (blkOk_by (own := [("part", 2)]) (N := ["state", "pattern", "part"]) (sc := defScope s_law_like) (by decide +kernel)) (fun _ _ _ _ _ => (pg_name (i := 2) sc_law_like.nd rfl (Or.inl rfl))) (fun _ _ _ _ _ => pts_nil) (fun _ _ _ _ _ => (pe_call G_law_like hr_law_like rfl T.m_law_like T.F_law_like.kp T.b_law_like .nil pass0 (pa_cons (pv 0) (pa_cons (pv 2) pa_nil))))) pa_nil)))))), ?_⟩
    obtain ⟨uu, ty, kt⟩ := hI.ty (K := K)
    have dp := dep_pos t
    refine ⟨fun b H2 => Ex d c H H2 ∧ Dr H2 d c ∧ (b = false → isStr t = false), ?_, ?_⟩
    · refine ⟨_, rfl, _, _, uu, _, _, rfl, .ty _, ty, kit_str kt, _, rfl, ite2 (fun c1 => ⟨.refl _ _ _, D0, fun z => by cases z⟩) (fun c1 => ?_)⟩
      exact ⟨_, rfl, d, c, 12, rfl, D0, by decide, by decide, fun r H2 r0 r12 x2 D2 => ⟨rfl, _, rfl, x2, D2, fun _ => Bool.eq_false_iff.mpr c1⟩⟩
    rintro b H2 ⟨x2, D2, hb⟩
    cases b with
    | true =>
      exact iteT ⟨_, rfl, d, c, 3, rfl, D2, by omega, by omega, fun u s H3 x3 D3 i3 vs3 dp3 => q u s H3 (x2.trans x3) D3 i3 vs3 (by omega)⟩
    | false =>
    obtain ⟨a, w, vs, ts, rfl, rfl, ea, hL, hTl, ka⟩ := ap_inv (hI.ex x2 D0) hT (hb rfl)
    have hlen := hL.len
    have k2 := KA_two ka
    refine iteF ⟨_, rfl, a, _, _, _, rfl, rfl, .inl (.inl ea), atI_nat (j := 0) rfl, (by show 1 ≤ sizeLine; decide), fun p hp => ?_⟩
    have s3 := same_upd hp (.tup [.str w])
    refine ⟨_, rfl, _, rfl, a, _, rfl, .inl (.inl (s3 _ _ ea)), slice1, fun p1 h1 => ?_⟩
    rw [cut1]
    have s4 := same_upd h1 (.tup vs)
    have s34 := s3.trans s4
    have ep : (upd (upd H2 p (.tup [.str w])) p1 (.tup vs)) p = some (.tup [.str w]) := s4 _ _ upd_same
    have ep1 : (upd (upd H2 p (.tup [.str w])) p1 (.tup vs)) p1 = some (.tup vs) := upd_same
    generalize upd (upd H2 p (.tup [.str w])) p1 (.tup vs) = H3 at *
    have D3 := D2.same s34
    have hL3 := hL.same s34
    obtain ⟨sw⟩ : sok w = true ∧ True := by
      obtain ⟨_, _, e1, e2, i2⟩ := (hI.ex x2 D0).tup_inv
      cases e1
      rw [ea] at e2
      cases e2
      cases i2 with
      | cons h0 _ => cases h0 with
        | str _ k => exact ⟨k, trivial⟩
    refine ⟨p1, rfl, ⟨_, .inl (.inl ep1)⟩, fun E hE => ?_⟩
    have nE := D3.free hE
    refine lc_tup (K := K) (a := p1) (xs := vs) (fun j H4 => ∃ ws us, Ex d c H3 H4 ∧ Dr H4 d c ∧ H4 E = some (.lst ws) ∧ IsL H4 ws us ∧ us.length = j ∧ ∀ u ∈ us, Val u ∧ dep u ≤ depL ts + 5) ?_ ?_ ?_ ?_
    · exact ⟨[], [], .of (same_upd hE _), D3.same (same_upd hE _), upd_same, .nil, rfl, fun u h => by cases h⟩
    · rintro j H4 _ ⟨_, _, x4, _⟩
      exact .inl (.inl (x4.tk D3 _ _ ep1))
    · rintro j x H4 hx ⟨ws, us, x4, D4, eE, iW, lu, gu⟩
      obtain ⟨tt, et, it⟩ := hL3.get hx
      have htt := List.mem_of_getElem? et
      have dt := depL_mem htt
      have lw := iW.len
      have hj := (List.getElem?_eq_some_iff.mp et).1
      rw [dep_cons] at hn
      refine ⟨rfl, yes_if ⟨_, rfl, _, rfl, d, c, x, tt, rfl, D4, it.ex x4 D3, mem_ApL hTl tt htt, by omega, fun u s H5 x5 D5 i5 v5 d5 => ?_⟩⟩
      have eE5 := x5.but _ _ nE.1 nE.2 eE
      refine ⟨ws, eE5, small1000 (by omega), ws ++ [u], us ++ [s], (x4.trans x5).own hE _, D5.own nE.1 nE.2, upd_same, IsL.tk (Tk.wr ⟨_, eE5⟩) ((IsL.ex x5 D4 iW).append (.cons i5 .nil)), by rw [List.length_append, lu]; rfl, fun y hy => ?_⟩
      rcases List.mem_append.mp hy with h | h
      · exact gu y h
      · rw [List.mem_singleton.mp h]; exact ⟨v5, by omega⟩
    · rintro H4 ⟨ws, us, x4, D4, eE, iW, lu, gu⟩
      have lw := iW.len
      refine ⟨E, ws, rfl, .inl ⟨SqL.of eE, fun l hl => ?_⟩⟩
      have s6 := same_upd hl (.tup ws)
      refine go_catT (s6 _ _ (x4.tk D3 _ _ ep)) upd_same (.cons (.str _ sw) .nil) (iW.same s6) (by simp) (by simp only [List.length_cons, List.length_nil]; omega) fun u H5 s7 i7 => ?_
      have sx := s6.trans s7
      refine q u (.tup (.str w :: us)) H5 (((x2.trans (.of s34)).trans x4).trans (.of sx)) (D4.same sx) i7 (val_mk (by rw [lu, hlen]; exact ka) fun t ht => (gu t ht).1) ?_
      have := depL_le fun t ht => (gu t ht).2
      rw [dep_cons, dep_cons]; omega
end
end Kx
/-! != of two dicts of the same data. -/
namespace Kx
open PySem PySem.Spec PyProof.Rows L2
theorem fin_blD {X : Cx} {pins : List (Addr × Obj)} {σ : L2.St} {H : Hp} {s : Shared} {Q : VK} (I : Inv X pins σ H s) {b c : Bool} (q : Q (.bl b) H) (e : c = b) : EP X pins σ Q (.bool c) s := ⟨.bl b, H, I, by rw [e]; rfl, q⟩
/-- all that stands in the one stands in the other -/
theorem hits_data {A : Around} {X : Cx} {pins : List (Addr × Obj)} {σ : L2.St} {H : Hp} {s : Shared} (I : Inv X pins σ H s) (hu : A.units + 195 < cLine) {ls : List (Key × V)} {vb : List (Key × Value)} (rb : KV ls vb) :
    ∀ {ks : List (Key × V)} {va : List (Key × Value)}, KV ks va → (∀ p ∈ ks, ∃ v t, valV ls p.1 = some v ∧ Is H p.2 t ∧ Is H v t ∧ dep t ≤ 190) → PySem.W.KeqHits A s vb va true
  | _, _, .nil, _ => .nil
  | _, _, .cons (a := p) (b := q) ⟨e, ry⟩ t, h => by
    obtain ⟨v, d, h1, h2, h3, h4⟩ := h p (List.mem_cons_self ..)
    have k := hits_data I hu rb t fun p' hm => h p' (List.mem_cons_of_mem _ hm)
    obtain ⟨q1, q2⟩ := q
    simp only at e ry
    subst e
    have z := rb.val p.1
    rw [h1] at z
    cases hv : valueAt vb p.1 with
    | none => rw [hv] at z; exact (show False from z).elim
    | some u =>
      rw [hv] at z
      obtain ⟨as, r1⟩ := Dp.reads I (toD d) p.2 q2 (Is.dp h2) ry
      obtain ⟨bs, r2⟩ := Dp.reads I (toD d) v u (Is.dp h3) z
      have eq : SeqAt.EqAt A s q2 u (PyData.eqv (toD d) (toD d)) := SeqAt.eqAt_reads _ _ A s q2 u as bs r1 r2 h2.lay h2.lay (by have := deepD d; rw [Nat.min_self]; omega)
      rw [eqvD] at eq
      exact .hit (e := true) hv eq k
def rNeDict : R2 := fun x y H Q => (x = .non ∧ y = .non ∧ Q (.bl false) H) ∨ ∃ a b ks ls, x = .ref a ∧ y = .ref b ∧ H a = some (.dK ks) ∧ H b = some (.dK ls) ∧ ks.length = ls.length ∧ (∀ p ∈ ks, ∃ v t, valV ls p.1 = some v ∧ Is H p.2 t ∧ Is H v t ∧ dep t ≤ 190) ∧ Q (.bl false) H
theorem neDict {X : Cx} (hu : X.A.units + 200 < cLine) : OpR X (compareOp .NotEq) rNeDict := by
  intro pins s σ H x y v u Q I rx ry hyp
  rcases hyp with ⟨rfl, rfl, q⟩ | ⟨a, b, ks, ls, rfl, rfl, ea, eb, hlen, hp, fin⟩
  · exact op_ne pins s σ H .non .non v u Q I rx ry ⟨rfl, q⟩
  cases (show v = Value.ref a from rx)
  cases (show u = Value.ref b from ry)
  obtain ⟨_, y1, va, ra, da⟩ := (show ObjOk X.prog X.w H s.heap a (.dK ks) from I.hok a _ ea)
  obtain ⟨_, y2, vb, rb, db⟩ := (show ObjOk X.prog X.w H s.heap b (.dK ls) from I.hok b _ eb)
  have few : va.length = vb.length := by rw [← ra.length, ← rb.length]; exact hlen
  exact PySem.W.keq_ne (knd := mixKind X.prog X.w) (r := true) y1 y2 da db (by omega) (fun _ => hits_data I (by show X.A.units + 1 + 195 < cLine; omega) rb ra hp) (fin_blD I fin (by simp [few]))
/-- two dicts that tell the same -/
theorem ne_alike {H : Hp} {a b : Addr} {f g : AL} {Q : VK} (ha : AsD H a f) (hb : AsD H b g) (p : f.Perm g) (nd : (f.map (·.1)).Nodup) (dd : ∀ kv ∈ f, dep kv.2 ≤ 190) (q : Q (.bl false) H) : rNeDict (.ref a) (.ref b) H Q := by
  obtain ⟨ks, ea, pa⟩ := ha
  obtain ⟨ls, eb, pb⟩ := hb
  have l1 := pair_len pa
  have l2 := pair_len pb
  have l3 := p.length_eq
  have nd2 : (g.map (·.1)).Nodup := (p.map _).nodup_iff.mp nd
  refine .inr ⟨a, b, ks, ls, rfl, rfl, ea, eb, by omega, fun z hz => ?_, q⟩
  obtain ⟨i, hi, ei⟩ := List.getElem_of_mem hz
  obtain ⟨zt, ez, h1, h2⟩ := Paired.get pa (show ks[i]? = some z by rw [List.getElem?_eq_getElem hi, ei])
  have hzt := List.mem_of_getElem? ez
  obtain ⟨v, e1, iv⟩ := val_at pb nd2 (p.mem_iff.mp hzt : (zt.1, zt.2) ∈ g)
  exact ⟨v, zt.2, by rw [h1]; exact e1, h2, iv, dd _ hzt⟩
theorem dep_fn {f : Fn} (G : FnG f) : dep (fnPV f) ≤ 20 := by
  have h1 : depL (f.cls.map clPV) ≤ 7 := depL_le fun t ht => by
    obtain ⟨c, hc, rfl⟩ := List.mem_map.mp ht
    have CG := G.cl c hc
    have := CG.body.2.1
    have : depL c.ps ≤ 3 := depL_le fun p hp => (CG.pat p hp).2.1
    simp only [clPV, dep, depL]; omega
  have h2 : depL (List.replicate f.np (PV.tup [.str "Fa", .str "a"])) ≤ 2 := depL_le fun t ht => by
    rw [(List.mem_replicate.mp ht).2]
    simp [dep, depL]
  simp only [fnPV, dep, depL]; omega
end Kx
namespace Kx
open PySem PySem.Spec PyProof.Rows L2
section
variable {P : Program} {w : World} {K : PySem.W.Frag} {mg : Str → Option Value} {base : Heap}
set_option pp.maxSteps 1500
def spRight : Sp := fun vs H Q _ => ∃ (d c : Addr) (v r : V) (fs : List Fn) (f : Fn), vs = [.ref d, v, r] ∧ Dr H d c ∧ Is H v (progPV fs) ∧ ProgG fs ∧ f ∈ fs ∧ Is H r (fnPV f) ∧ ∀ H', Ex d c H H' → Dr H' d c → Q (.bl true) H'
theorem dep_strs (ys : List Str) : dep (.tup (ys.map PV.str)) ≤ 2 := by
  have : depL (ys.map PV.str) ≤ 1 := depL_le fun t ht => by
    obtain ⟨z, _, rfl⟩ := List.mem_map.mp ht
    simp [dep]
  simp only [dep]; omega
theorem bl_same {a : Int} : decide (V.int a = V.int a) = true := decide_eq_true rfl
theorem ok_law_function_right (T : Txt K mg) (G_calls_of : FnOk P w K mg base CX0 2 T.a_calls_of T.d_calls_of ["program", "word"] spCalls) (G_law_next : FnOk P w K mg base CX0 2 T.a_law_next T.d_law_next ["program", "word"] spLNext) (G_group_of : FnOk P w K mg base CX0 4 T.a_group_of T.d_group_of ["program", "word"] spGroup) (G_law_group : FnOk P w K mg base CX0 4 T.a_law_group T.d_law_group ["program", "word"] spLGroup) (G_function_of : FnOk P w K mg base CX0 1 T.a_function_of T.d_function_of ["program", "word"] spFof) (G_law_value : FnOk P w K mg base CX0 5 T.a_law_value T.d_law_value ["state", "deep"] (spValue 4)) (G_law_draw : FnOk P w K mg base CX0 1 T.a_law_draw T.d_law_draw ["state", "many"] spDraw) (G_law_like : FnOk P w K mg base CX0 8 T.a_law_like T.d_law_like ["state", "pattern"] (spLike 3)) (G_taken : FnOk P w K mg base CX0 5 T.a_taken T.d_taken ["patterns", "values"] spTaken) (G_law_taken : FnOk P w K mg base CX0 1 T.a_law_taken T.d_law_taken ["patterns", "values"] spTaken) (G_names_in : FnOk P w K mg base CX0 2 T.a_names_in T.d_names_in ["pattern"] (spNamesIn 12)) (G_law_names : FnOk P w K mg base CX0 13 T.a_law_names T.d_law_names ["term"] (spNames 12)) (G_clause_for : FnOk P w K mg base CX0 6 T.a_clause_for T.d_clause_for ["function", "values"] spClause) (G_law_first : FnOk P w K mg base CX0 2 T.a_law_first T.d_law_first ["row", "values"] spClause) : FnOk P w K mg base CX0 14 T.a_law_function_right T.d_law_function_right ["state", "program", "row"] spRight := by
  refine T.F_law_function_right.ok sc_law_function_right (fun vs H Q E h => ?_) (fun cdv A outer s H vs Q E hr h => ?_)
  · obtain ⟨d, c, v, r, fs, f, rfl, _⟩ := h; rfl
  · obtain ⟨d, c, v, r, fs, f, rfl, D0, hP, G, hf, hR, q⟩ := h
    have hr_calls_of := hr.mono (show 2 ≤ 13 by omega)
    have hr_law_next := hr.mono (show 2 ≤ 13 by omega)
    have hr_group_of := hr.mono (show 4 ≤ 13 by omega)
    have hr_law_group := hr.mono (show 4 ≤ 13 by omega)
    have hr_function_of := hr.mono (show 1 ≤ 13 by omega)
    have hr_law_value := hr.mono (show 5 ≤ 13 by omega)
    have hr_law_draw := hr.mono (show 1 ≤ 13 by omega)
    have hr_law_like := hr.mono (show 8 ≤ 13 by omega)
    have hr_taken := hr.mono (show 5 ≤ 13 by omega)
    have hr_law_taken := hr.mono (show 1 ≤ 13 by omega)
    have hr_names_in := hr.mono (show 2 ≤ 13 by omega)
    have hr_law_names := hr.mono (show 13 ≤ 13 by omega)
    have hr_clause_for := hr.mono (show 6 ≤ 13 by omega)
    have hr_law_first := hr.mono (show 2 ≤ 13 by omega)
    have hu := hu_of hr
    refine ⟨_, (pss_cons (ps_if (pt_cmpR (neP (u200 hr)) (pe_call G_calls_of hr_calls_of rfl T.m_calls_of T.F_calls_of.kp T.b_calls_of .nil pass0 (pa_cons (pv 1) (pa_cons (pe_ix ix_tup (pv 2) pe_int (fun _ _ => rfl)) pa_nil))) (pe_callTy call_tuple_of (by rfl) T.z_tuple (by decide +kernel) (pa_cons (pe_callB (cr_sortZ rfl) (by rfl) T.z_sorted (by decide +kernel) (pa_cons (pe_callTy (cr_setZ rfl) (by rfl) T.z_set (by decide +kernel) (pa_cons (pe_call G_law_next hr_law_next rfl T.m_law_next T.F_law_next.kp T.b_law_next .nil pass0 (pa_cons (pv 1) (pa_cons (pe_ix ix_tup (pv 2) pe_int (fun _ _ => rfl)) pa_nil))) pa_nil)) pa_nil)) pa_nil)) (nomark _)) (pss_one (ps_ret pe_bl)) pss_nil)
    (pss_cons (ps_if (PW.pt (pw_or (pt_cmpR (neP (u200 hr)) (pe_call G_group_of hr_group_of rfl T.m_group_of T.F_group_of.kp T.b_group_of .nil pass0 (pa_cons (pv 1) (pa_cons (pe_ix ix_tup (pv 2) pe_int (fun _ _ => rfl)) pa_nil))) (pe_callTy call_tuple_of (by rfl) T.z_tuple (by decide +kernel) (pa_cons (pe_call G_law_group hr_law_group rfl T.m_law_group T.F_law_group.kp T.b_law_group .nil pass0 (pa_cons (pv 1) (pa_cons (pe_ix ix_tup (pv 2) pe_int (fun _ _ => rfl)) pa_nil))) pa_nil)) (nomark _)) (pw_or1 (pt_cmpR (neP (u200 hr)) (pe_call G_function_of hr_function_of rfl T.m_function_of T.F_function_of.kp T.b_function_of .nil pass0 (pa_cons (pv 1) (pa_cons (pe_ix ix_tup (pv 2) pe_int (fun _ _ => rfl)) pa_nil))) (pv 2) (nomark _))))) (pss_one (ps_ret pe_bl)) pss_nil)
    (Evl.pss_cut (ps_set (i := 3) sc_law_function_right.nd rfl (Or.inl rfl) (pe_callTy call_tuple_of (by rfl) T.z_tuple (by decide +kernel) (pa_cons (pe_lc (own := [("param", 6)]) (g := (gName 6)) (tt := tYes) rfl sc_law_function_right.nd (pi_tup (pe_ix ix_tup (pv 2) pe_int (fun _ _ => rfl))) (blkOk_by (own := [("param", 6)]) (N := ["state", "program", "row", "values", "patterns", "body", "param", "pattern"]) (sc := defScope s_law_function_right) (by decide +kernel)) (fun _ _ _ _ _ => (pg_name (i := 6) sc_law_function_right.nd rfl (Or.inl rfl))) (fun _ _ _ _ _ => pts_nil) (fun _ _ _ _ _ => (pe_call G_law_value hr_law_value rfl T.m_law_value T.F_law_value.kp T.b_law_value .nil pass0 (pa_cons (pv 0) (pa_cons pe_int pa_nil))))) pa_nil)))
    (Evl.pss_cut (ps_for PassesOwn.never rfl (pi_tup (pe_ix ix_tup (pv 2) pe_int (fun _ _ => rfl))) (pg_tup rfl (pgs_cons (pg_name (i := 4) sc_law_function_right.nd rfl (Or.inl rfl)) (pgs_cons (pg_name (i := 5) sc_law_function_right.nd rfl (Or.inl rfl)) pgs_nil)))
    (Evl.pss_cut (ps_if (pt_cmpR op_gt (pe_call G_law_draw hr_law_draw rfl T.m_law_draw T.F_law_draw.kp T.b_law_draw .nil pass0 (pa_cons (pv 0) (pa_cons pe_int pa_nil))) pe_int (nomark _)) (pss_one (ps_set (i := 3) sc_law_function_right.nd rfl (Or.inl rfl) (pe_callTy call_tuple_of (by rfl) T.z_tuple (by decide +kernel) (pa_cons (pe_lc (own := [("pattern", 7)]) (g := (gName 7)) (tt := tYes) rfl sc_law_function_right.nd (pi_tup (pv 4)) (blkOk_by (own := [("pattern", 7)]) (N := ["state", "program", "row", "values", "patterns", "body", "param", "pattern"]) (sc := defScope s_law_function_right) (by decide +kernel)) (fun _ _ _ _ _ => (pg_name (i := 7) sc_law_function_right.nd rfl (Or.inl rfl))) (fun _ _ _ _ _ => pts_nil) (fun _ _ _ _ _ => (pe_call G_law_like hr_law_like rfl T.m_law_like T.F_law_like.kp T.b_law_like .nil pass0 (pa_cons (pv 0) (pa_cons (pv 7) pa_nil))))) pa_nil)))) pss_nil)
    (Evl.pss_cut (ps_if (pt_cmpR (neDict (u200 hr)) (pe_call G_taken hr_taken rfl T.m_taken T.F_taken.kp T.b_taken .nil pass0 (pa_cons (pv 4) (pa_cons (pv 3) pa_nil))) (pe_call G_law_taken hr_law_taken rfl T.m_law_taken T.F_law_taken.kp T.b_law_taken .nil pass0 (pa_cons (pv 4) (pa_cons (pv 3) pa_nil))) (nomark _)) (pss_one (ps_ret pe_bl)) pss_nil)
    (pss_one (ps_if (pt_cmpR (neP (u200 hr)) (pe_lc (own := [("pattern", 7)]) (g := (gName 7)) (tt := tYes) rfl sc_law_function_right.nd (pi_tup (pv 4)) (blkOk_by (own := [("pattern", 7)]) (N := ["state", "program", "row", "values", "patterns", "body", "param", "pattern"]) (sc := defScope s_law_function_right) (by decide +kernel)) (fun _ _ _ _ _ => (pg_name (i := 7) sc_law_function_right.nd rfl (Or.inl rfl))) (fun _ _ _ _ _ => pts_nil) (fun _ _ _ _ _ => (pe_call G_names_in hr_names_in rfl T.m_names_in T.F_names_in.kp T.b_names_in .nil pass0 (pa_cons (pv 7) pa_nil)))) (pe_lc (own := [("pattern", 7)]) (g := (gName 7)) (tt := tYes) rfl sc_law_function_right.nd (pi_tup (pv 4)) (blkOk_by (own := [("pattern", 7)]) (N := ["state", "program", "row", "values", "patterns", "body", "param", "pattern"]) (sc := defScope s_law_function_right) (by decide +kernel)) (fun _ _ _ _ _ => (pg_name (i := 7) sc_law_function_right.nd rfl (Or.inl rfl))) (fun _ _ _ _ _ => pts_nil) (fun _ _ _ _ _ => (pe_callTy (tupOfK (K := K)) (by rfl) T.z_tuple (by decide +kernel) (pa_cons (pe_call G_law_names hr_law_names rfl T.m_law_names T.F_law_names.kp T.b_law_names .nil pass0 (pa_cons (pv 7) pa_nil)) pa_nil)))) (nomark _)) (pss_one (ps_ret pe_bl)) pss_nil)))))
    (pss_one (ps_ret (pe_cmpR op_eq (pe_call G_clause_for hr_clause_for rfl T.m_clause_for T.F_clause_for.kp T.b_clause_for .nil pass0 (pa_cons (pv 2) (pa_cons (pv 3) pa_nil))) (pe_call G_law_first hr_law_first rfl T.m_law_first T.F_law_first.kp T.b_law_first .nil pass0 (pa_cons (pv 2) (pa_cons (pv 3) pa_nil))) (nomark _)))))))), ?_⟩
    obtain ⟨ra, pa, ca, rps, cs, rfl, er, epa, lps, ec, iC, _⟩ := fn_inv hR
    have okw := prog_ok hP
    have FG := G.fn f hf
    have hz : f.w ∈ fs.map Fn.w := List.mem_map.mpr ⟨f, hf, rfl⟩
    have lC := iC.len
    rw [List.length_map] at lC
    refine ⟨_, rfl, _, rfl, ra, _, _, _, rfl, rfl, .inl (.inl er), atI_nat (j := 0) rfl, v, fs, f.w, rfl, hP, G, hz, fun p1 H1 ys s1 e1 nd1 so1 m1 => ?_⟩
    have er1 := s1 _ _ er
    refine ⟨_, rfl, _, rfl, ra, _, _, _, rfl, rfl, .inl (.inl er1), atI_nat (j := 0) rfl, v, fs, f.w, rfl, hP.same s1, G, hz, fun a2 H2 ys2 s2 _ e2 m2 l2 => ?_⟩
    refine ⟨a2, ys2, rfl, SqL.of e2, by omega, fun p3 zs hp3 ndz mz lz => ?_⟩
    have s3 := same_upd hp3 (ZO P w p3 zs)
    have z4 := reach_few G ndz fun z hz => ((m2 z).mp ((mz z).mp hz)).1
    refine ⟨p3, zs, rfl, upd_same, by omega, fun ys3 p4 pe3 so3 hp4 => ⟨p4, _, rfl, .inl ⟨SqL.of upd_same, fun l5 hl5 => ?_⟩⟩⟩
    have s4 := same_upd hp4 (.lst (ys3.map V.str))
    have s5 := same_upd hl5 (.tup (ys3.map V.str))
    have s25 := ((s2.trans s3).trans s4).trans s5
    have ey : ys = ys3 := sorted_same nd1 (pe3.nodup_iff.mpr ndz) so1 so3 fun z => by rw [m1 z, pe3.mem_iff, mz z, m2 z]
    subst ey
    have oky : ∀ z ∈ ys, sok z = true := fun z hz => okw z ((m1 z).mp hz).1
    refine ne_same (.tup (s25 _ _ e1) (strs_is oky)) (.tup upd_same (strs_is oky)) (Nat.le_trans (dep_strs ys) (by decide)) ⟨_, rfl, iteF ?_⟩
    have sA := s1.trans s25
    have e5 : ∀ H', H' = upd (upd (upd H2 p3 (ZO P w p3 zs)) p4 (.lst (ys.map V.str))) l5 (.tup (ys.map V.str)) → True := fun _ _ => trivial
    clear e5
    generalize upd (upd (upd H2 p3 (ZO P w p3 zs)) p4 (.lst (ys.map V.str))) l5 (.tup (ys.map V.str)) = H5 at *
    have erA := sA _ _ er
    refine ⟨_, rfl, _, rfl, ra, _, _, _, rfl, rfl, .inl (.inl erA), atI_nat (j := 0) rfl, v, fs, f.w, rfl, hP.same sA, G, hz, fun p6 H6 gs s6 e6 nd6 so6 m6 => ?_⟩
    have er6 := s6 _ _ erA
    refine ⟨_, rfl, _, rfl, ra, _, _, _, rfl, rfl, .inl (.inl er6), atI_nat (j := 0) rfl, v, fs, f.w, rfl, hP.same (sA.trans s6), G, hz, fun p7 H7 gs2 s7 e7 nd7 so7 m7 => ⟨p7, _, rfl, .inl ⟨SqL.of e7, fun l8 hl8 => ?_⟩⟩⟩
    have s8 := same_upd hl8 (.tup (gs2.map V.str))
    have s78 := s7.trans s8
    have eg : gs = gs2 := sorted_same nd6 nd7 so6 so7 fun z => by rw [m6 z, m7 z]
    subst eg
    have okg : ∀ z ∈ gs, sok z = true := fun z hz2 => by
      rcases (m6 z).mp hz2 with rfl | h
      · exact okw _ hz
      · exact okw z (reach_word h.1)
    refine ne_same (.tup (s78 _ _ e6) (strs_is okg)) (.tup upd_same (strs_is okg)) (Nat.le_trans (dep_strs gs) (by decide)) ⟨_, rfl, iteF ?_⟩
    have sB := sA.trans (s6.trans s78)
    generalize upd H7 l8 (.tup (gs.map V.str)) = H8 at *
    have erB := sB _ _ er
    refine ⟨_, rfl, _, rfl, ra, _, _, _, rfl, rfl, .inl (.inl erB), atI_nat (j := 0) rfl, v, fs, f.w, rfl, hP.same sB, fun v' hs _ => ?_⟩
    obtain ⟨f', ff, hf', ew⟩ := find_at hz
    have ef := fn_one G.nd hf' hf ew
    subst ef
    refine ⟨_, rfl, ne_same (hs _ ff) (hR.same sB) (Nat.le_trans (dep_fn FG) (by decide)) ⟨_, rfl, iteF ?_⟩⟩
    have DB := D0.same sB
    have hPB := hP.same sB
    have hRB := hR.same sB
    have xB : Ex d c H H8 := .of sB
    have epB := sB _ _ epa
    have ecB := sB _ _ ec
    have iCB := iC.same sB
    clear s78 s8 s6 s7 sA s25 s5 s4 s3 s2 s1
    refine ⟨fun σ H9 => ∃ (va : Addr) (vsv : List V) (us : List PV), σ = [some (.ref d), some v, some (.ref ra), some (.ref va), none, none, none, none] ∧ Ex d c H8 H9 ∧ Dr H9 d c ∧ H9 va = some (.tup vsv) ∧ IsL H9 vsv us ∧ (∀ x ∈ us, Val x ∧ dep x ≤ 20) ∧ us.length = f'.np, ?_, ?_⟩
    · refine ⟨_, rfl, ra, _, _, _, rfl, rfl, .inl (.inl erB), atI_nat (j := 1) rfl, pa, rfl, ⟨_, .inl (.inl epB)⟩, fun E hE => ?_⟩
      have nE := DB.free hE
      refine lc_tup (K := K) (a := pa) (xs := rps) (fun j H4 => ∃ ws us, Ex d c H8 H4 ∧ Dr H4 d c ∧ H4 E = some (.lst ws) ∧ IsL H4 ws us ∧ us.length = j ∧ ∀ u ∈ us, Val u ∧ dep u ≤ 20) ?_ ?_ ?_ ?_
      · exact ⟨[], [], .of (same_upd hE _), DB.same (same_upd hE _), upd_same, .nil, rfl, fun u h => by cases h⟩
      · rintro j H4 _ ⟨_, _, x4, _⟩
        exact .inl (.inl (x4.tk DB _ _ epB))
      · rintro j x H4 hx ⟨ws, us, x4, D4, eE, iW, lu, gu⟩
        have lw := iW.len
        have hj := (List.getElem?_eq_some_iff.mp hx).1
        have np := FG.np
        refine ⟨rfl, yes_if ⟨_, rfl, d, c, 3, rfl, D4, by omega, by omega, fun u s H5 x5 D5 i5 v5 d5 => ?_⟩⟩
        have eE5 := x5.but _ _ nE.1 nE.2 eE
        refine ⟨ws, eE5, small1000 (by omega), ws ++ [u], us ++ [s], (x4.trans x5).own hE _, D5.own nE.1 nE.2, upd_same, IsL.tk (Tk.wr ⟨_, eE5⟩) ((IsL.ex x5 D4 iW).append (.cons i5 .nil)), by rw [List.length_append, lu]; rfl, fun y hy => ?_⟩
        rcases List.mem_append.mp hy with h | h
        · exact gu y h
        · rw [List.mem_singleton.mp h]; exact ⟨v5, by omega⟩
      · rintro H4 ⟨ws, us, x4, D4, eE, iW, lu, gu⟩
        refine ⟨E, ws, rfl, .inl ⟨SqL.of eE, fun l hl => ?_⟩⟩
        have s6 := same_upd hl (.tup ws)
        exact ⟨l, ws, us, rfl, x4.trans (.of s6), D4.same s6, upd_same, iW.same s6, gu, by rw [lu]; exact lps⟩
    rintro σ H9 ⟨va, vsv, us, rfl, x9, D9, eva, iV, gu, lu⟩
    refine ⟨fun σ H10 => ∃ (y4 y5 : Option V) (va : Addr) (vsv : List V) (us : List PV), σ = [some (.ref d), some v, some (.ref ra), some (.ref va), y4, y5, none, none] ∧ Ex d c H8 H10 ∧ Dr H10 d c ∧ H10 va = some (.tup vsv) ∧ IsL H10 vsv us ∧ (∀ x ∈ us, Val x ∧ dep x ≤ 20) ∧ us.length = f'.np, ?_, ?_⟩
    · refine ⟨_, rfl, ra, _, _, _, rfl, rfl, .inl (.inl (x9.tk DB _ _ erB)), atI_nat (j := 5) rfl, ca, rfl, ⟨_, .inl (.inl (x9.tk DB _ _ ecB))⟩, ?_⟩
      refine for_tup (K := K) (a := ca) (xs := cs) (fun i σ H10 => ∃ (y4 y5 : Option V) (va : Addr) (vsv : List V) (us : List PV), σ = [some (.ref d), some v, some (.ref ra), some (.ref va), y4, y5, none, none] ∧ Ex d c H8 H10 ∧ Dr H10 d c ∧ H10 va = some (.tup vsv) ∧ IsL H10 vsv us ∧ (∀ x ∈ us, Val x ∧ dep x ≤ 20) ∧ us.length = f'.np) ?_ ?_ ?_ ?_
      · exact ⟨none, none, va, vsv, us, rfl, x9, D9, eva, iV, gu, lu⟩
      · rintro i σ H10 _ ⟨_, _, _, _, _, _, x10, _⟩
        exact .inl (.inl (x10.tk DB _ _ ecB))
      · rintro i x σ H10 hx ⟨y4, y5, va, vsv, us, rfl, x10, D10, eva, iV, gu, lu⟩
        obtain ⟨tt, et, it⟩ := iCB.get hx
        rw [List.getElem?_map] at et
        obtain ⟨cc, hc, rfl⟩ := Option.map_eq_some_iff.mp et
        have CG := FG.cl cc (List.mem_of_getElem? hc)
        obtain ⟨k1, k2, k3⟩ := cl_take CG FG.np.2
        have it10 := it.tk (x10.tk DB)
        obtain ⟨xa, qa, pvs, bv, rfl, exa, eqa, iP, _⟩ := cl_inv it10
        have np := FG.np
        refine ⟨xa, _, rfl, .inl (.inl exa), rfl, _, _, rfl, _, _, rfl, rfl, ?_⟩
        refine ⟨fun σ H11 => ∃ (va : Addr) (vsv : List V) (us : List PV), σ = [some (.ref d), some v, some (.ref ra), some (.ref va), some (.ref qa), some bv, none, none] ∧ Ex d c H10 H11 ∧ Dr H11 d c ∧ H11 va = some (.tup vsv) ∧ IsL H11 vsv us ∧ (∀ x ∈ us, Val x ∧ dep x ≤ 20) ∧ us.length = f'.np, ?_, ?_⟩
        · refine ⟨_, rfl, d, c, 3, rfl, D10, by decide, by decide, fun rr H11 r0 r3 x11 D11 => ⟨_, _, rfl, rfl, _, rfl, ite2 (fun c1 => ?_) (fun c1 => ?_)⟩⟩
          · have eqa11 := x11.tk D10 _ _ eqa
            have iP11 := iP.tk (x11.tk D10)
            refine ⟨_, rfl, qa, rfl, ⟨_, .inl (.inl eqa11)⟩, fun E hE => ?_⟩
            have nE := D11.free hE
            refine lc_tup (K := K) (a := qa) (xs := pvs) (fun j H4 => ∃ ws us, Ex d c H11 H4 ∧ Dr H4 d c ∧ H4 E = some (.lst ws) ∧ IsL H4 ws us ∧ us.length = j ∧ ∀ u ∈ us, Val u ∧ dep u ≤ 20) ?_ ?_ ?_ ?_
            · exact ⟨[], [], .of (same_upd hE _), D11.same (same_upd hE _), upd_same, .nil, rfl, fun u h => by cases h⟩
            · rintro j H4 _ ⟨_, _, x4, _⟩
              exact .inl (.inl (x4.tk D11 _ _ eqa11))
            · rintro j x H4 hx ⟨ws, us, x4, D4, eE, iW, lu, gu⟩
              have lw := iW.len
              have lpv := iP.len
              have hj := (List.getElem?_eq_some_iff.mp hx).1
              obtain ⟨tp, ep, ip⟩ := iP11.get hx
              have pg := CG.pat tp (List.mem_of_getElem? ep)
              have pl := CG.len
              refine ⟨rfl, yes_if ⟨_, rfl, _, rfl, d, c, x, tp, rfl, D4, ip.tk (x4.tk D11), pg.1, pg.2.1, fun u s H5 x5 D5 i5 v5 d5 => ?_⟩⟩
              have eE5 := x5.but _ _ nE.1 nE.2 eE
              refine ⟨ws, eE5, small1000 (by omega), ws ++ [u], us ++ [s], (x4.trans x5).own hE _, D5.own nE.1 nE.2, upd_same, IsL.tk (Tk.wr ⟨_, eE5⟩) ((IsL.ex x5 D4 iW).append (.cons i5 .nil)), by rw [List.length_append, lu]; rfl, fun y hy => ?_⟩
              rcases List.mem_append.mp hy with h | h
              · exact gu y h
              · have := pg.2.1
                rw [List.mem_singleton.mp h]; exact ⟨v5, by omega⟩
            · rintro H4 ⟨ws, us, x4, D4, eE, iW, lu, gu⟩
              refine ⟨E, ws, rfl, .inl ⟨SqL.of eE, fun l hl => ?_⟩⟩
              have s6 := same_upd hl (.tup ws)
              exact ⟨l, ws, us, rfl, (x11.trans x4).trans (.of s6), D4.same s6, upd_same, iW.same s6, gu, by rw [lu, iP.len, CG.len]⟩
          · exact ⟨va, vsv, us, rfl, x11, D11, x11.tk D10 _ _ eva, iV.tk (x11.tk D10), gu, lu⟩
        rintro σ H11 ⟨va, vsv, us, rfl, x11, D11, eva, iV, gu, lu⟩
        have eqa11 := x11.tk D10 _ _ eqa
        have iP11 := iP.tk (x11.tk D10)
        have gV : ∀ x ∈ us, Val x := fun x hx => (gu x hx).1
        have ll : cc.ps.length = us.length := by rw [CG.len, lu]
        refine ⟨fun σ H12 => σ = [some (.ref d), some v, some (.ref ra), some (.ref va), some (.ref qa), some bv, none, none] ∧ Same H11 H12, ?_, ?_⟩
        · refine ⟨_, rfl, _, rfl, .ref qa, .ref va, cc.ps, us, rfl, .tup eqa11 iP11, .tup eva iV, k1, gV, ll, CG.nms, k2, k3, fun a12 H12 s12 n12 j12 => ?_⟩
          refine ⟨_, rfl, _, rfl, .ref qa, .ref va, cc.ps, us, rfl, .tup (s12 _ _ eqa11) (iP11.same s12), .tup (s12 _ _ eva) (iV.same s12), k1, gV, ll, CG.nms, k2, k3, fun a13 H13 s13 n13 j13 => ?_⟩
          cases hm : mtL cc.ps us with
          | none =>
            rw [n12 hm, n13 hm]
            exact .inl ⟨rfl, rfl, _, rfl, iteF ⟨rfl, s12.trans s13⟩⟩
          | some m =>
            obtain ⟨q1, g1, rfl, as1, pm1⟩ := j12 m hm
            obtain ⟨q2, g2, rfl, as2, pm2⟩ := j13 m hm
            have km := mtL_keys k1 gV ll hm
            refine ne_alike (as1.same s13) as2 (pm1.trans pm2.symm) ((pm1.map _).nodup_iff.mpr (by rw [km]; exact CG.nms)) (fun kv hk => ?_) ⟨_, rfl, iteF ⟨rfl, s12.trans s13⟩⟩
            have h1 := mtL_dep hm kv (pm1.mem_iff.mp hk)
            have h2 := depL_le fun x hx => (gu x hx).2
            omega
        rintro σ H12 ⟨rfl, s12⟩
        have eqa12 := s12 _ _ eqa11
        have iP12 := iP11.same s12
        have pl := CG.len
        have lpv := iP.len
        refine ⟨_, rfl, qa, rfl, ⟨_, .inl (.inl eqa12)⟩, fun E hE => ?_⟩
        refine lc_tup (K := K) (a := qa) (xs := pvs) (fun j H4 => ∃ ws, Same H12 H4 ∧ H4 E = some (.lst ws) ∧ IsL H4 ws ((cc.ps.take j).map fun p => .tup ((nms p).map PV.str))) ?_ ?_ ?_ ?_
        · exact ⟨[], same_upd hE _, upd_same, .nil⟩
        · exact fun j H4 _ ⟨_, sm, _⟩ => .inl (.inl (sm _ _ eqa12))
        · rintro j x H4 hx ⟨ws, sm, eE, iW⟩
          obtain ⟨tp, ep, ip⟩ := iP12.get hx
          have pg := CG.pat tp (List.mem_of_getElem? ep)
          have lw := iW.len
          rw [List.length_map, List.length_take] at lw
          refine ⟨rfl, yes_if ⟨_, rfl, x, tp, rfl, ip.same sm, ap_tm pg.1, by have := pg.2.2; omega, by have := pg.2.2; omega, fun a5 H5 s5 e5 => ?_⟩⟩
          have eE5 := s5 _ _ eE
          refine ⟨ws, eE5, small1000 (by omega), ws ++ [.ref a5], Kx.Same.own (sm.trans s5) hE _, upd_same, IsL.tk (Tk.wr ⟨_, eE5⟩) ?_⟩
          rw [take_snoc ep, List.map_append]
          exact (iW.same s5).append (.cons (.tup e5 (strs_is fun z hz => ip.nm z (nms_sub hz))) .nil)
        rintro H13 ⟨ws, s13, eE, iW⟩
        refine ⟨_, rfl, qa, rfl, ⟨_, .inl (.inl (s13 _ _ eqa12))⟩, fun E2 hE2 => ?_⟩
        have iP13 := iP12.same s13
        refine lc_tup (K := K) (a := qa) (xs := pvs) (fun j H4 => ∃ ws, Same H13 H4 ∧ H4 E2 = some (.lst ws) ∧ IsL H4 ws ((cc.ps.take j).map fun p => .tup ((nms p).map PV.str))) ?_ ?_ ?_ ?_
        · exact ⟨[], same_upd hE2 _, upd_same, .nil⟩
        · exact fun j H4 _ ⟨_, sm, _⟩ => .inl (.inl (sm _ _ (s13 _ _ eqa12)))
        · rintro j x H4 hx ⟨ws, sm, eE, iW⟩
          obtain ⟨tp, ep, ip⟩ := iP13.get hx
          have pg := CG.pat tp (List.mem_of_getElem? ep)
          have lw := iW.len
          rw [List.length_map, List.length_take] at lw
          refine ⟨rfl, yes_if ⟨_, rfl, x, tp, rfl, ip.same sm, ap_tm pg.1, by have := pg.2.2; omega, by have := pg.2.2; omega, fun a5 H5 s5 e5 => ⟨a5, _, rfl, .inl ⟨SqL.of e5, fun l6 hl6 => ?_⟩⟩⟩⟩
          have s6 := same_upd hl6 (.tup ((nms tp).map V.str))
          have s56 := s5.trans s6
          have eE6 := s56 _ _ eE
          refine ⟨ws, eE6, small1000 (by omega), ws ++ [.ref l6], Kx.Same.own (sm.trans s56) hE2 _, upd_same, IsL.tk (Tk.wr ⟨_, eE6⟩) ?_⟩
          rw [take_snoc ep, List.map_append]
          exact (iW.same s56).append (.cons (.tup upd_same (strs_is fun z hz => ip.nm z (nms_sub hz))) .nil)
        rintro H14 ⟨ws2, s14, eE2, iW2⟩
        have sAll := s12.trans (s13.trans s14)
        have tl : cc.ps.take pvs.length = cc.ps := List.take_of_length_le (by omega)
        rw [tl] at iW iW2
        refine ne_lists (SqL.of (s14 _ _ eE)) (SqL.of eE2) (iW.same s14) iW2 (Nat.le_trans (depL_le (c := 2) fun t ht => ?_) (by decide)) ⟨_, rfl, iteF ⟨_, _, va, vsv, us, rfl, (x10.trans x11).trans (.of sAll), D11.same sAll, sAll _ _ eva, iV.same sAll, gu, lu⟩⟩
        obtain ⟨p, _, rfl⟩ := List.mem_map.mp ht
        exact dep_strs _
      · rintro σ H10 h
        exact h
    rintro σ H10 ⟨y4, y5, va, vsv, us, rfl, x10, D10, eva, iV, gu, lu⟩
    have hR10 := hRB.tk (x10.tk DB)
    have gV : ∀ x ∈ us, Val x := fun x hx => (gu x hx).1
    refine ⟨_, rfl, _, rfl, .ref ra, .ref va, f', us, rfl, hR10, FG, .tup eva iV, gV, lu, fun H11 s11 => ?_⟩
    refine ⟨_, rfl, _, rfl, .ref ra, .ref va, f', us, rfl, hR10.same s11, FG, .tup (s11 _ _ eva) (iV.same s11), gV, lu, fun H12 s12 => ⟨rfl, ?_⟩⟩
    rw [bl_same]
    have s1112 := s11.trans s12
    exact q H12 ((xB.trans x10).trans (.of s1112)) (D10.same s1112)
end
end Kx
namespace Kx
open PySem PySem.Spec PyProof.Rows L2
section
variable {P : Program} {w : World} {K : PySem.W.Frag} {mg : Str → Option Value} {base : Heap}
theorem no_left {f : Addr} {fd : FuncData} {ps : List Str} {k : Nat} {sp : Sp} (no : ∀ vs H Q E, ¬ sp vs H Q E) : FnOk P w K mg base CX0 k f fd ps sp :=
  ⟨fun vs H Q E h => absurd h (no vs H Q E), fun A outer s H args us vs Q E _ _ _ _ h => absurd h (no vs H Q E)⟩
theorem all_body (T : Txt K mg) : ∀ n, FnOk P w K mg base CX0 (n + 2) T.a_law_graph_body T.d_law_graph_body ["state", "places", "words", "names", "deep"] (spBody n)
  | 0 => no_left fun vs H Q E ⟨_, _, _, _, _, _, _, _, _, _, _, h, _⟩ => by omega
  | n + 1 => ok_law_graph_body T (ok_law_draw T) (ok_law_pick T (ok_law_draw T)) (all_body T n)
theorem all_lnames (T : Txt K mg) : ∀ n, FnOk P w K mg base CX0 (n + 1) T.a_law_names T.d_law_names ["term"] (spNames n)
  | 0 => no_left fun vs H Q E ⟨_, t, _, _, _, h, _⟩ => by have := cnt_pos t; omega
  | n + 1 => ok_law_names T (all_lnames T n)
theorem all_takes (T : Txt K mg) : ∀ n, FnOk P w K mg base CX0 (n + 1) T.a_takes T.d_takes ["pattern", "value", "found"] (spTakes n)
  | 0 => no_left fun vs H Q E ⟨_, _, _, t, _, _, _, _, _, _, _, _, _, h, _⟩ => by have := dep_pos t; omega
  | n + 1 => ok_takes T (all_takes T n)
theorem all_value (T : Txt K mg) : ∀ n, FnOk P w K mg base CX0 (n + 1) T.a_law_value T.d_law_value ["state", "deep"] (spValue n)
  | 0 => no_left fun vs H Q E ⟨_, _, _, _, _, h, _⟩ => by omega
  | n + 1 => ok_law_value T (ok_law_draw T) (all_value T n)
theorem all_like (T : Txt K mg) : ∀ n, FnOk P w K mg base CX0 (n + 5) T.a_law_like T.d_law_like ["state", "pattern"] (spLike n)
  | 0 => no_left fun vs H Q E ⟨_, _, _, t, _, _, _, _, h, _⟩ => by have := dep_pos t; omega
  | n + 1 => ok_law_like T (all_value T 4) (ok_law_draw T) (all_like T n)
def spLaw (K : PySem.W.Frag) : Sp := fun vs H Q _ => ∃ (a : Addr) (ns : List Int), vs = [.ref a] ∧ SqL K H a (ns.map V.int) ∧ ns.length ≤ 63 ∧ ∀ H', Q (.bl true) H'
theorem ok_law (T : Txt K mg) (G_law_state : FnOk P w K mg base CX0 1 T.a_law_state T.d_law_state ["script"] (spState K)) (G_law_graph_program : FnOk P w K mg base CX0 15 T.a_law_graph_program T.d_law_graph_program ["state"] spGraph) (G_law_function_right : FnOk P w K mg base CX0 14 T.a_law_function_right T.d_law_function_right ["state", "program", "row"] spRight) (G_function_of : FnOk P w K mg base CX0 1 T.a_function_of T.d_function_of ["program", "word"] spFof) : FnOk P w K mg base CX0 16 T.a_law T.d_law ["script"] (spLaw K) := by
  refine T.F_law.ok sc_law (fun vs H Q E h => ?_) (fun cdv A outer s H vs Q E hr h => ?_)
  · obtain ⟨a, ns, rfl, _⟩ := h; rfl
  · obtain ⟨a, ns, rfl, hS, h63, q⟩ := h
    have hr_law_state := hr.mono (show 1 ≤ 15 by omega)
    have hr_law_graph_program := hr.mono (show 15 ≤ 15 by omega)
    have hr_law_function_right := hr.mono (show 14 ≤ 15 by omega)
    have hr_function_of := hr.mono (show 1 ≤ 15 by omega)
    refine ⟨_, (pss_cons (ps_set (i := 1) sc_law.nd rfl (Or.inl rfl) (pe_call G_law_state hr_law_state rfl T.m_law_state T.F_law_state.kp T.b_law_state .nil pass0 (pa_cons (pv 0) pa_nil)))
    (pss_cons (ps_for PassesOwn.never rfl (pi_range1 (by rfl) T.z_range (pa_cons pe_int pa_nil)) (pg_name (i := 2) sc_law.nd rfl (Or.inl rfl))
    (pss_cons (ps_set (i := 3) sc_law.nd rfl (Or.inl rfl) (pe_call G_law_graph_program hr_law_graph_program rfl T.m_law_graph_program T.F_law_graph_program.kp T.b_law_graph_program .nil pass0 (pa_cons (pv 1) pa_nil)))
    (pss_cons (ps_for PassesOwn.never rfl (pi_tup (pe_ix ix_tup (pv 3) pe_int (fun _ _ => rfl))) (pg_name (i := 4) sc_law.nd rfl (Or.inl rfl))
    (pss_one (ps_if (pt_not (pt_val (pe_call G_law_function_right hr_law_function_right rfl T.m_law_function_right T.F_law_function_right.kp T.b_law_function_right .nil pass0 (pa_cons (pv 1) (pa_cons (pv 3) (pa_cons (pv 4) pa_nil)))))) (pss_one (ps_ret pe_bl)) pss_nil)))
    (pss_one (ps_if (pt_cmpR op_notN (pe_call G_function_of hr_function_of rfl T.m_function_of T.F_function_of.kp T.b_function_of .nil pass0 (pa_cons (pv 3) (pa_cons pe_str pa_nil))) pe_non (nomark _)) (pss_one (ps_ret pe_bl)) pss_nil)))))
    (pss_one (ps_ret pe_bl)))), ?_⟩
    refine ⟨_, rfl, a, ns, rfl, hS, h63, fun d c H1 s1 D1 => ?_⟩
    refine ⟨4, rfl, by decide, by decide, ?_⟩
    refine for_range (n := 4) (fun i σ H2 => ∃ (y2 y3 y4 : Option V), σ = [some (.ref a), some (.ref d), y2, y3, y4] ∧ Dr H2 d c) ?_ ?_ ?_
    · exact ⟨none, none, none, rfl, D1⟩
    · rintro i σ H2 hi ⟨y2, y3, y4, rfl, D2⟩
      refine ⟨_, rfl, d, c, rfl, D2, fun v fs H3 x3 D3 iP G => ?_⟩
      obtain ⟨pa, fa, vs, rfl, ea, ef, iF⟩ := prog_inv iP
      refine ⟨_, rfl, pa, _, _, _, rfl, rfl, .inl (.inl ea), atI_nat (j := 1) rfl, fa, rfl, ⟨_, .inl (.inl ef)⟩, ?_⟩
      refine for_tup (K := K) (a := fa) (xs := vs) (fun j σ H4 => ∃ (y4 : Option V), σ = [some (.ref a), some (.ref d), some (.int (0 + (i : Int))), some (.ref pa), y4] ∧ Ex d c H3 H4 ∧ Dr H4 d c) ?_ ?_ ?_ ?_
      · exact ⟨_, rfl, .refl _ _ _, D3⟩
      · rintro j σ H4 _ ⟨_, _, x4, _⟩
        exact .inl (.inl (x4.tk D3 _ _ ef))
      · rintro j x σ H4 hx ⟨y4, rfl, x4, D4⟩
        obtain ⟨t, et, it⟩ := iF.get hx
        rw [List.getElem?_map] at et
        obtain ⟨f, ef', rfl⟩ := Option.map_eq_some_iff.mp et
        refine ⟨_, rfl, _, rfl, _, rfl, d, c, .ref pa, x, fs, f, rfl, D4, iP.tk (x4.tk D3), G, List.mem_of_getElem? ef', it.tk (x4.tk D3), fun H5 x5 D5 => ⟨_, rfl, iteF ⟨_, rfl, x4.trans x5, D5⟩⟩⟩
      · rintro σ H4 ⟨y4, rfl, x4, D4⟩
        refine ⟨_, rfl, .ref pa, fs, "other", rfl, iP.tk (x4.tk D3), fun v' hs hn => ?_⟩
        have no : fs.find? (fun f => f.w == ("other" : Str)) = none := by
          cases e : fs.find? (fun f => f.w == ("other" : Str)) with
          | none => rfl
          | some f =>
            have h1 := List.find?_some e
            exact absurd (List.mem_map.mpr ⟨f, List.mem_of_find?_eq_some e, beq_iff_eq.mp h1⟩) G.oth
        rw [hn no]
        exact ⟨rfl, _, rfl, iteF ⟨_, _, _, rfl, D4⟩⟩
    · rintro σ H2 ⟨y2, y3, y4, rfl, D2⟩
      exact q H2
end
end Kx
/-! The end: the program's top leaves the defs where the text says. -/
namespace Kx
open PySem L2
theorem all_mk {l : PySem.W.OpenLaw} {w : World} {K : PySem.W.Frag} {h : Heap} {mg : Str → Option Value} {fa f0 f1 f2 f3 f4 f5 f6 f7 f8 f9 f10 f11 f12 f13 f14 f15 f16 f17 f18 f19 f20 f21 f22 f23 f24 f25 f26 : Addr} (X : K.In h) (G : h.Ns mainGlobals mg) (hfa : mg "law" = some (.ref fa))
    {od0 an0 od1 an1 od2 an2 od3 an3 od4 an4 od5 an5 od6 an6 od7 an7 od8 an8 od9 an9 od10 an10 od11 an11 od12 an12 od13 an13 od14 an14 od15 an15 od16 an16 od17 an17 od18 an18 od19 an19 od20 an20 od21 an21 od22 an22 od23 an23 od24 an24 od25 an25 od26 an26 : Option Addr} {sl0 sl1 sl2 sl3 sl4 sl5 sl6 sl7 sl8 sl9 sl10 sl11 sl12 sl13 sl14 sl15 sl16 sl17 sl18 sl19 sl20 sl21 sl22 sl23 sl24 sl25 sl26 : Array (Option Value)} {oc0 kV0 dc0 pm0 cd0 ct0 oc1 kV1 dc1 pm1 cd1 ct1 oc2 kV2 dc2 pm2 cd2 ct2 oc3 kV3 dc3 pm3 cd3 ct3 oc4 kV4 dc4 pm4 cd4 ct4 oc5 kV5 dc5 pm5 cd5 ct5 oc6 kV6 dc6 pm6 cd6 ct6 oc7 kV7 dc7 pm7 cd7 ct7 oc8 kV8 dc8 pm8 cd8 ct8 oc9 kV9 dc9 pm9 cd9 ct9 oc10 kV10 dc10 pm10 cd10 ct10 oc11 kV11 dc11 pm11 cd11 ct11 oc12 kV12 dc12 pm12 cd12 ct12 oc13 kV13 dc13 pm13 cd13 ct13 oc14 kV14 dc14 pm14 cd14 ct14 oc15 kV15 dc15 pm15 cd15 ct15 oc16 kV16 dc16 pm16 cd16 ct16 oc17 kV17 dc17 pm17 cd17 ct17 oc18 kV18 dc18 pm18 cd18 ct18 oc19 kV19 dc19 pm19 cd19 ct19 oc20 kV20 dc20 pm20 cd20 ct20 oc21 kV21 dc21 pm21 cd21 ct21 oc22 kV22 dc22 pm22 cd22 ct22 oc23 kV23 dc23 pm23 cd23 ct23 oc24 kV24 dc24 pm24 cd24 ct24 oc25 kV25 dc25 pm25 cd25 ct25 oc26 kV26 dc26 pm26 cd26 ct26 : Value}
    (a0 : PySem.W.nsIn K mainGlobals "names_of" = some (some (.ref f0))) (l0 : K.lookup f0 = some ⟨oc0, od0, .func (PySem.W.fnOf "names_of" "names_of" (defArgs s_names_of) (defBody s_names_of) (defScope s_names_of) .none kV0 dc0 pm0 an0 cd0 ct0), sl0⟩) (c0 : PySem.W.codeIn K cd0 "names_of" = true) (k0 : PySem.W.keepIn K (.ref f0) = true)
    (a1 : PySem.W.nsIn K mainGlobals "_nodes_of" = some (some (.ref f1))) (l1 : K.lookup f1 = some ⟨oc1, od1, .func (PySem.W.fnOf "_nodes_of" "_nodes_of" (defArgs s_nodes_of) (defBody s_nodes_of) (defScope s_nodes_of) .none kV1 dc1 pm1 an1 cd1 ct1), sl1⟩) (c1 : PySem.W.codeIn K cd1 "_nodes_of" = true) (k1 : PySem.W.keepIn K (.ref f1) = true)
    (a2 : PySem.W.nsIn K mainGlobals "function_of" = some (some (.ref f2))) (l2 : K.lookup f2 = some ⟨oc2, od2, .func (PySem.W.fnOf "function_of" "function_of" (defArgs s_function_of) (defBody s_function_of) (defScope s_function_of) .none kV2 dc2 pm2 an2 cd2 ct2), sl2⟩) (c2 : PySem.W.codeIn K cd2 "function_of" = true) (k2 : PySem.W.keepIn K (.ref f2) = true)
    (a3 : PySem.W.nsIn K mainGlobals "calls_of" = some (some (.ref f3))) (l3 : K.lookup f3 = some ⟨oc3, od3, .func (PySem.W.fnOf "calls_of" "calls_of" (defArgs s_calls_of) (defBody s_calls_of) (defScope s_calls_of) .none kV3 dc3 pm3 an3 cd3 ct3), sl3⟩) (c3 : PySem.W.codeIn K cd3 "calls_of" = true) (k3 : PySem.W.keepIn K (.ref f3) = true)
    (a4 : PySem.W.nsIn K mainGlobals "group_of" = some (some (.ref f4))) (l4 : K.lookup f4 = some ⟨oc4, od4, .func (PySem.W.fnOf "group_of" "group_of" (defArgs s_group_of) (defBody s_group_of) (defScope s_group_of) .none kV4 dc4 pm4 an4 cd4 ct4), sl4⟩) (c4 : PySem.W.codeIn K cd4 "group_of" = true) (k4 : PySem.W.keepIn K (.ref f4) = true)
    (a5 : PySem.W.nsIn K mainGlobals "_reached_from" = some (some (.ref f5))) (l5 : K.lookup f5 = some ⟨oc5, od5, .func (PySem.W.fnOf "_reached_from" "_reached_from" (defArgs s_reached_from) (defBody s_reached_from) (defScope s_reached_from) .none kV5 dc5 pm5 an5 cd5 ct5), sl5⟩) (c5 : PySem.W.codeIn K cd5 "_reached_from" = true) (k5 : PySem.W.keepIn K (.ref f5) = true)
    (a6 : PySem.W.nsIn K mainGlobals "names_in" = some (some (.ref f6))) (l6 : K.lookup f6 = some ⟨oc6, od6, .func (PySem.W.fnOf "names_in" "names_in" (defArgs s_names_in) (defBody s_names_in) (defScope s_names_in) .none kV6 dc6 pm6 an6 cd6 ct6), sl6⟩) (c6 : PySem.W.codeIn K cd6 "names_in" = true) (k6 : PySem.W.keepIn K (.ref f6) = true)
    (a7 : PySem.W.nsIn K mainGlobals "taken" = some (some (.ref f7))) (l7 : K.lookup f7 = some ⟨oc7, od7, .func (PySem.W.fnOf "taken" "taken" (defArgs s_taken) (defBody s_taken) (defScope s_taken) .none kV7 dc7 pm7 an7 cd7 ct7), sl7⟩) (c7 : PySem.W.codeIn K cd7 "taken" = true) (k7 : PySem.W.keepIn K (.ref f7) = true)
    (a8 : PySem.W.nsIn K mainGlobals "_takes" = some (some (.ref f8))) (l8 : K.lookup f8 = some ⟨oc8, od8, .func (PySem.W.fnOf "_takes" "_takes" (defArgs s_takes) (defBody s_takes) (defScope s_takes) .none kV8 dc8 pm8 an8 cd8 ct8), sl8⟩) (c8 : PySem.W.codeIn K cd8 "_takes" = true) (k8 : PySem.W.keepIn K (.ref f8) = true)
    (a9 : PySem.W.nsIn K mainGlobals "clause_for" = some (some (.ref f9))) (l9 : K.lookup f9 = some ⟨oc9, od9, .func (PySem.W.fnOf "clause_for" "clause_for" (defArgs s_clause_for) (defBody s_clause_for) (defScope s_clause_for) .none kV9 dc9 pm9 an9 cd9 ct9), sl9⟩) (c9 : PySem.W.codeIn K cd9 "clause_for" = true) (k9 : PySem.W.keepIn K (.ref f9) = true)
    (a10 : PySem.W.nsIn K mainGlobals "_law_state" = some (some (.ref f10))) (l10 : K.lookup f10 = some ⟨oc10, od10, .func (PySem.W.fnOf "_law_state" "_law_state" (defArgs s_law_state) (defBody s_law_state) (defScope s_law_state) .none kV10 dc10 pm10 an10 cd10 ct10), sl10⟩) (c10 : PySem.W.codeIn K cd10 "_law_state" = true) (k10 : PySem.W.keepIn K (.ref f10) = true)
    (a11 : PySem.W.nsIn K mainGlobals "_law_draw" = some (some (.ref f11))) (l11 : K.lookup f11 = some ⟨oc11, od11, .func (PySem.W.fnOf "_law_draw" "_law_draw" (defArgs s_law_draw) (defBody s_law_draw) (defScope s_law_draw) .none kV11 dc11 pm11 an11 cd11 ct11), sl11⟩) (c11 : PySem.W.codeIn K cd11 "_law_draw" = true) (k11 : PySem.W.keepIn K (.ref f11) = true)
    (a12 : PySem.W.nsIn K mainGlobals "_law_pick" = some (some (.ref f12))) (l12 : K.lookup f12 = some ⟨oc12, od12, .func (PySem.W.fnOf "_law_pick" "_law_pick" (defArgs s_law_pick) (defBody s_law_pick) (defScope s_law_pick) .none kV12 dc12 pm12 an12 cd12 ct12), sl12⟩) (c12 : PySem.W.codeIn K cd12 "_law_pick" = true) (k12 : PySem.W.keepIn K (.ref f12) = true)
    (a13 : PySem.W.nsIn K mainGlobals "_law_graph_pattern" = some (some (.ref f13))) (l13 : K.lookup f13 = some ⟨oc13, od13, .func (PySem.W.fnOf "_law_graph_pattern" "_law_graph_pattern" (defArgs s_law_graph_pattern) (defBody s_law_graph_pattern) (defScope s_law_graph_pattern) .none kV13 dc13 pm13 an13 cd13 ct13), sl13⟩) (c13 : PySem.W.codeIn K cd13 "_law_graph_pattern" = true) (k13 : PySem.W.keepIn K (.ref f13) = true)
    (a14 : PySem.W.nsIn K mainGlobals "_law_graph_body" = some (some (.ref f14))) (l14 : K.lookup f14 = some ⟨oc14, od14, .func (PySem.W.fnOf "_law_graph_body" "_law_graph_body" (defArgs s_law_graph_body) (defBody s_law_graph_body) (defScope s_law_graph_body) .none kV14 dc14 pm14 an14 cd14 ct14), sl14⟩) (c14 : PySem.W.codeIn K cd14 "_law_graph_body" = true) (k14 : PySem.W.keepIn K (.ref f14) = true)
    (a15 : PySem.W.nsIn K mainGlobals "_law_graph_program" = some (some (.ref f15))) (l15 : K.lookup f15 = some ⟨oc15, od15, .func (PySem.W.fnOf "_law_graph_program" "_law_graph_program" (defArgs s_law_graph_program) (defBody s_law_graph_program) (defScope s_law_graph_program) .none kV15 dc15 pm15 an15 cd15 ct15), sl15⟩) (c15 : PySem.W.codeIn K cd15 "_law_graph_program" = true) (k15 : PySem.W.keepIn K (.ref f15) = true)
    (a16 : PySem.W.nsIn K mainGlobals "_law_names" = some (some (.ref f16))) (l16 : K.lookup f16 = some ⟨oc16, od16, .func (PySem.W.fnOf "_law_names" "_law_names" (defArgs s_law_names) (defBody s_law_names) (defScope s_law_names) .none kV16 dc16 pm16 an16 cd16 ct16), sl16⟩) (c16 : PySem.W.codeIn K cd16 "_law_names" = true) (k16 : PySem.W.keepIn K (.ref f16) = true)
    (a17 : PySem.W.nsIn K mainGlobals "_law_calls" = some (some (.ref f17))) (l17 : K.lookup f17 = some ⟨oc17, od17, .func (PySem.W.fnOf "_law_calls" "_law_calls" (defArgs s_law_calls) (defBody s_law_calls) (defScope s_law_calls) .none kV17 dc17 pm17 an17 cd17 ct17), sl17⟩) (c17 : PySem.W.codeIn K cd17 "_law_calls" = true) (k17 : PySem.W.keepIn K (.ref f17) = true)
    (a18 : PySem.W.nsIn K mainGlobals "_law_next" = some (some (.ref f18))) (l18 : K.lookup f18 = some ⟨oc18, od18, .func (PySem.W.fnOf "_law_next" "_law_next" (defArgs s_law_next) (defBody s_law_next) (defScope s_law_next) .none kV18 dc18 pm18 an18 cd18 ct18), sl18⟩) (c18 : PySem.W.codeIn K cd18 "_law_next" = true) (k18 : PySem.W.keepIn K (.ref f18) = true)
    (a19 : PySem.W.nsIn K mainGlobals "_law_reached" = some (some (.ref f19))) (l19 : K.lookup f19 = some ⟨oc19, od19, .func (PySem.W.fnOf "_law_reached" "_law_reached" (defArgs s_law_reached) (defBody s_law_reached) (defScope s_law_reached) .none kV19 dc19 pm19 an19 cd19 ct19), sl19⟩) (c19 : PySem.W.codeIn K cd19 "_law_reached" = true) (k19 : PySem.W.keepIn K (.ref f19) = true)
    (a20 : PySem.W.nsIn K mainGlobals "_law_group" = some (some (.ref f20))) (l20 : K.lookup f20 = some ⟨oc20, od20, .func (PySem.W.fnOf "_law_group" "_law_group" (defArgs s_law_group) (defBody s_law_group) (defScope s_law_group) .none kV20 dc20 pm20 an20 cd20 ct20), sl20⟩) (c20 : PySem.W.codeIn K cd20 "_law_group" = true) (k20 : PySem.W.keepIn K (.ref f20) = true)
    (a21 : PySem.W.nsIn K mainGlobals "_law_taken" = some (some (.ref f21))) (l21 : K.lookup f21 = some ⟨oc21, od21, .func (PySem.W.fnOf "_law_taken" "_law_taken" (defArgs s_law_taken) (defBody s_law_taken) (defScope s_law_taken) .none kV21 dc21 pm21 an21 cd21 ct21), sl21⟩) (c21 : PySem.W.codeIn K cd21 "_law_taken" = true) (k21 : PySem.W.keepIn K (.ref f21) = true)
    (a22 : PySem.W.nsIn K mainGlobals "_law_value" = some (some (.ref f22))) (l22 : K.lookup f22 = some ⟨oc22, od22, .func (PySem.W.fnOf "_law_value" "_law_value" (defArgs s_law_value) (defBody s_law_value) (defScope s_law_value) .none kV22 dc22 pm22 an22 cd22 ct22), sl22⟩) (c22 : PySem.W.codeIn K cd22 "_law_value" = true) (k22 : PySem.W.keepIn K (.ref f22) = true)
    (a23 : PySem.W.nsIn K mainGlobals "_law_like" = some (some (.ref f23))) (l23 : K.lookup f23 = some ⟨oc23, od23, .func (PySem.W.fnOf "_law_like" "_law_like" (defArgs s_law_like) (defBody s_law_like) (defScope s_law_like) .none kV23 dc23 pm23 an23 cd23 ct23), sl23⟩) (c23 : PySem.W.codeIn K cd23 "_law_like" = true) (k23 : PySem.W.keepIn K (.ref f23) = true)
    (a24 : PySem.W.nsIn K mainGlobals "_law_first" = some (some (.ref f24))) (l24 : K.lookup f24 = some ⟨oc24, od24, .func (PySem.W.fnOf "_law_first" "_law_first" (defArgs s_law_first) (defBody s_law_first) (defScope s_law_first) .none kV24 dc24 pm24 an24 cd24 ct24), sl24⟩) (c24 : PySem.W.codeIn K cd24 "_law_first" = true) (k24 : PySem.W.keepIn K (.ref f24) = true)
    (a25 : PySem.W.nsIn K mainGlobals "_law_function_right" = some (some (.ref f25))) (l25 : K.lookup f25 = some ⟨oc25, od25, .func (PySem.W.fnOf "_law_function_right" "_law_function_right" (defArgs s_law_function_right) (defBody s_law_function_right) (defScope s_law_function_right) .none kV25 dc25 pm25 an25 cd25 ct25), sl25⟩) (c25 : PySem.W.codeIn K cd25 "_law_function_right" = true) (k25 : PySem.W.keepIn K (.ref f25) = true)
    (a26 : PySem.W.nsIn K mainGlobals "law" = some (some (.ref f26))) (l26 : K.lookup f26 = some ⟨oc26, od26, .func (PySem.W.fnOf "law" "law" (defArgs s_law) (defBody s_law) (defScope s_law) .none kV26 dc26 pm26 an26 cd26 ct26), sl26⟩) (c26 : PySem.W.codeIn K cd26 "law" = true) (k26 : PySem.W.keepIn K (.ref f26) = true)
    (z0 : PySem.W.nsIn K mainGlobals "isinstance" = some none)
    (z1 : PySem.W.nsIn K mainGlobals "tuple" = some none)
    (z2 : PySem.W.nsIn K mainGlobals "sorted" = some none)
    (z3 : PySem.W.nsIn K mainGlobals "list" = some none)
    (z4 : PySem.W.nsIn K mainGlobals "len" = some none)
    (z5 : PySem.W.nsIn K mainGlobals "zip" = some none)
    (z6 : PySem.W.nsIn K mainGlobals "str" = some none)
    (z7 : PySem.W.nsIn K mainGlobals "enumerate" = some none)
    (z8 : PySem.W.nsIn K mainGlobals "int" = some none)
    (z9 : PySem.W.nsIn K mainGlobals "abs" = some none)
    (z10 : PySem.W.nsIn K mainGlobals "range" = some none)
    (z11 : PySem.W.nsIn K mainGlobals "set" = some none)
    : ∃ fd : FuncData, (∀ (s : Shared) (v : Value), BindsTo s fd ⟨[v], []⟩ [("script", v)]) ∧ ∀ base : Heap, K.In base → base.Ns mainGlobals mg → FnOk l.prog w K mg base CX0 16 fa fd ["script"] (spLaw K) := by
  have e := hfa.symm.trans (PySem.W.mg_of X G a26)
  cases e
  let T : Txt K mg := {
    a_names_of := f0, d_names_of := _, F_names_of := fun_mk (st := s_names_of) l0 c0 k0, b_names_of := (fun_mk (st := s_names_of) l0 c0 k0).binds (ps := ["term"]) (fun _ _ _ _ _ _ us hl => match us, hl with | [_], _ => rfl), m_names_of := PySem.W.mg_of X G a0,
    a_nodes_of := f1, d_nodes_of := _, F_nodes_of := fun_mk (st := s_nodes_of) l1 c1 k1, b_nodes_of := (fun_mk (st := s_nodes_of) l1 c1 k1).binds (ps := ["body"]) (fun _ _ _ _ _ _ us hl => match us, hl with | [_], _ => rfl), m_nodes_of := PySem.W.mg_of X G a1,
    a_function_of := f2, d_function_of := _, F_function_of := fun_mk (st := s_function_of) l2 c2 k2, b_function_of := (fun_mk (st := s_function_of) l2 c2 k2).binds (ps := ["program", "word"]) (fun _ _ _ _ _ _ us hl => match us, hl with | [_, _], _ => rfl), m_function_of := PySem.W.mg_of X G a2,
    a_calls_of := f3, d_calls_of := _, F_calls_of := fun_mk (st := s_calls_of) l3 c3 k3, b_calls_of := (fun_mk (st := s_calls_of) l3 c3 k3).binds (ps := ["program", "word"]) (fun _ _ _ _ _ _ us hl => match us, hl with | [_, _], _ => rfl), m_calls_of := PySem.W.mg_of X G a3,
    a_group_of := f4, d_group_of := _, F_group_of := fun_mk (st := s_group_of) l4 c4 k4, b_group_of := (fun_mk (st := s_group_of) l4 c4 k4).binds (ps := ["program", "word"]) (fun _ _ _ _ _ _ us hl => match us, hl with | [_, _], _ => rfl), m_group_of := PySem.W.mg_of X G a4,
    a_reached_from := f5, d_reached_from := _, F_reached_from := fun_mk (st := s_reached_from) l5 c5 k5, b_reached_from := (fun_mk (st := s_reached_from) l5 c5 k5).binds (ps := ["program", "word"]) (fun _ _ _ _ _ _ us hl => match us, hl with | [_, _], _ => rfl), m_reached_from := PySem.W.mg_of X G a5,
    a_names_in := f6, d_names_in := _, F_names_in := fun_mk (st := s_names_in) l6 c6 k6, b_names_in := (fun_mk (st := s_names_in) l6 c6 k6).binds (ps := ["pattern"]) (fun _ _ _ _ _ _ us hl => match us, hl with | [_], _ => rfl), m_names_in := PySem.W.mg_of X G a6,
    a_taken := f7, d_taken := _, F_taken := fun_mk (st := s_taken) l7 c7 k7, b_taken := (fun_mk (st := s_taken) l7 c7 k7).binds (ps := ["patterns", "values"]) (fun _ _ _ _ _ _ us hl => match us, hl with | [_, _], _ => rfl), m_taken := PySem.W.mg_of X G a7,
    a_takes := f8, d_takes := _, F_takes := fun_mk (st := s_takes) l8 c8 k8, b_takes := (fun_mk (st := s_takes) l8 c8 k8).binds (ps := ["pattern", "value", "found"]) (fun _ _ _ _ _ _ us hl => match us, hl with | [_, _, _], _ => rfl), m_takes := PySem.W.mg_of X G a8,
    a_clause_for := f9, d_clause_for := _, F_clause_for := fun_mk (st := s_clause_for) l9 c9 k9, b_clause_for := (fun_mk (st := s_clause_for) l9 c9 k9).binds (ps := ["function", "values"]) (fun _ _ _ _ _ _ us hl => match us, hl with | [_, _], _ => rfl), m_clause_for := PySem.W.mg_of X G a9,
    a_law_state := f10, d_law_state := _, F_law_state := fun_mk (st := s_law_state) l10 c10 k10, b_law_state := (fun_mk (st := s_law_state) l10 c10 k10).binds (ps := ["script"]) (fun _ _ _ _ _ _ us hl => match us, hl with | [_], _ => rfl), m_law_state := PySem.W.mg_of X G a10,
    a_law_draw := f11, d_law_draw := _, F_law_draw := fun_mk (st := s_law_draw) l11 c11 k11, b_law_draw := (fun_mk (st := s_law_draw) l11 c11 k11).binds (ps := ["state", "many"]) (fun _ _ _ _ _ _ us hl => match us, hl with | [_, _], _ => rfl), m_law_draw := PySem.W.mg_of X G a11,
    a_law_pick := f12, d_law_pick := _, F_law_pick := fun_mk (st := s_law_pick) l12 c12 k12, b_law_pick := (fun_mk (st := s_law_pick) l12 c12 k12).binds (ps := ["state", "row"]) (fun _ _ _ _ _ _ us hl => match us, hl with | [_, _], _ => rfl), m_law_pick := PySem.W.mg_of X G a12,
    a_law_graph_pattern := f13, d_law_graph_pattern := _, F_law_graph_pattern := fun_mk (st := s_law_graph_pattern) l13 c13 k13, b_law_graph_pattern := (fun_mk (st := s_law_graph_pattern) l13 c13 k13).binds (ps := ["state", "mark"]) (fun _ _ _ _ _ _ us hl => match us, hl with | [_, _], _ => rfl), m_law_graph_pattern := PySem.W.mg_of X G a13,
    a_law_graph_body := f14, d_law_graph_body := _, F_law_graph_body := fun_mk (st := s_law_graph_body) l14 c14 k14, b_law_graph_body := (fun_mk (st := s_law_graph_body) l14 c14 k14).binds (ps := ["state", "places", "words", "names", "deep"]) (fun _ _ _ _ _ _ us hl => match us, hl with | [_, _, _, _, _], _ => rfl), m_law_graph_body := PySem.W.mg_of X G a14,
    a_law_graph_program := f15, d_law_graph_program := _, F_law_graph_program := fun_mk (st := s_law_graph_program) l15 c15 k15, b_law_graph_program := (fun_mk (st := s_law_graph_program) l15 c15 k15).binds (ps := ["state"]) (fun _ _ _ _ _ _ us hl => match us, hl with | [_], _ => rfl), m_law_graph_program := PySem.W.mg_of X G a15,
    a_law_names := f16, d_law_names := _, F_law_names := fun_mk (st := s_law_names) l16 c16 k16, b_law_names := (fun_mk (st := s_law_names) l16 c16 k16).binds (ps := ["term"]) (fun _ _ _ _ _ _ us hl => match us, hl with | [_], _ => rfl), m_law_names := PySem.W.mg_of X G a16,
    a_law_calls := f17, d_law_calls := _, F_law_calls := fun_mk (st := s_law_calls) l17 c17 k17, b_law_calls := (fun_mk (st := s_law_calls) l17 c17 k17).binds (ps := ["program", "body"]) (fun _ _ _ _ _ _ us hl => match us, hl with | [_, _], _ => rfl), m_law_calls := PySem.W.mg_of X G a17,
    a_law_next := f18, d_law_next := _, F_law_next := fun_mk (st := s_law_next) l18 c18 k18, b_law_next := (fun_mk (st := s_law_next) l18 c18 k18).binds (ps := ["program", "word"]) (fun _ _ _ _ _ _ us hl => match us, hl with | [_, _], _ => rfl), m_law_next := PySem.W.mg_of X G a18,
    a_law_reached := f19, d_law_reached := _, F_law_reached := fun_mk (st := s_law_reached) l19 c19 k19, b_law_reached := (fun_mk (st := s_law_reached) l19 c19 k19).binds (ps := ["program", "word"]) (fun _ _ _ _ _ _ us hl => match us, hl with | [_, _], _ => rfl), m_law_reached := PySem.W.mg_of X G a19,
    a_law_group := f20, d_law_group := _, F_law_group := fun_mk (st := s_law_group) l20 c20 k20, b_law_group := (fun_mk (st := s_law_group) l20 c20 k20).binds (ps := ["program", "word"]) (fun _ _ _ _ _ _ us hl => match us, hl with | [_, _], _ => rfl), m_law_group := PySem.W.mg_of X G a20,
    a_law_taken := f21, d_law_taken := _, F_law_taken := fun_mk (st := s_law_taken) l21 c21 k21, b_law_taken := (fun_mk (st := s_law_taken) l21 c21 k21).binds (ps := ["patterns", "values"]) (fun _ _ _ _ _ _ us hl => match us, hl with | [_, _], _ => rfl), m_law_taken := PySem.W.mg_of X G a21,
    a_law_value := f22, d_law_value := _, F_law_value := fun_mk (st := s_law_value) l22 c22 k22, b_law_value := (fun_mk (st := s_law_value) l22 c22 k22).binds (ps := ["state", "deep"]) (fun _ _ _ _ _ _ us hl => match us, hl with | [_, _], _ => rfl), m_law_value := PySem.W.mg_of X G a22,
    a_law_like := f23, d_law_like := _, F_law_like := fun_mk (st := s_law_like) l23 c23 k23, b_law_like := (fun_mk (st := s_law_like) l23 c23 k23).binds (ps := ["state", "pattern"]) (fun _ _ _ _ _ _ us hl => match us, hl with | [_, _], _ => rfl), m_law_like := PySem.W.mg_of X G a23,
    a_law_first := f24, d_law_first := _, F_law_first := fun_mk (st := s_law_first) l24 c24 k24, b_law_first := (fun_mk (st := s_law_first) l24 c24 k24).binds (ps := ["row", "values"]) (fun _ _ _ _ _ _ us hl => match us, hl with | [_, _], _ => rfl), m_law_first := PySem.W.mg_of X G a24,
    a_law_function_right := f25, d_law_function_right := _, F_law_function_right := fun_mk (st := s_law_function_right) l25 c25 k25, b_law_function_right := (fun_mk (st := s_law_function_right) l25 c25 k25).binds (ps := ["state", "program", "row"]) (fun _ _ _ _ _ _ us hl => match us, hl with | [_, _, _], _ => rfl), m_law_function_right := PySem.W.mg_of X G a25,
    a_law := fa, d_law := _, F_law := fun_mk (st := s_law) l26 c26 k26, b_law := (fun_mk (st := s_law) l26 c26 k26).binds (ps := ["script"]) (fun _ _ _ _ _ _ us hl => match us, hl with | [_], _ => rfl), m_law := PySem.W.mg_of X G a26,
    z_isinstance := PySem.W.mg_none_of X G z0,
    z_tuple := PySem.W.mg_none_of X G z1,
    z_sorted := PySem.W.mg_none_of X G z2,
    z_list := PySem.W.mg_none_of X G z3,
    z_len := PySem.W.mg_none_of X G z4,
    z_zip := PySem.W.mg_none_of X G z5,
    z_str := PySem.W.mg_none_of X G z6,
    z_enumerate := PySem.W.mg_none_of X G z7,
    z_int := PySem.W.mg_none_of X G z8,
    z_abs := PySem.W.mg_none_of X G z9,
    z_range := PySem.W.mg_none_of X G z10,
    z_set := PySem.W.mg_none_of X G z11 }
  refine ⟨PySem.W.fnOf "law" "law" (defArgs s_law) (defBody s_law) (defScope s_law) .none kV26 dc26 pm26 an26 cd26 ct26, fun _ _ => .of_eq rfl, fun base _ _ => ?_⟩
  have d1 := ok_law_draw (P := l.prog) (w := w) (base := base) T
  have pk := ok_law_pick T d1
  have fo := ok_function_of (P := l.prog) (w := w) (base := base) T
  have co := ok_calls_of T fo (ok_nodes_of T)
  have ln := ok_law_next T (ok_law_calls (P := l.prog) (w := w) (base := base) T)
  have tk := ok_taken T (all_takes (P := l.prog) (w := w) (base := base) T 3)
  have lt := ok_law_taken (P := l.prog) (w := w) (base := base) T
  exact ok_law T (ok_law_state T) (ok_law_graph_program T d1 (ok_law_graph_pattern T d1) (all_lnames T 12) (FnOk.mono (all_body T 4) (by decide))) (ok_law_function_right T co ln (ok_group_of T (ok_reached_from T co)) (ok_law_group T (ok_law_reached T ln)) fo (all_value T 4) d1 (all_like T 3) tk lt (ok_names_in T (ok_names_of T)) (all_lnames T 12) (ok_clause_for T tk) (ok_law_first T lt)) fo
theorem law_walk {l : PySem.W.OpenLaw} {q : Program} {loose : List Str} {XP : (Str → Option Value) → Heap → Prop} {YP : World → Heap → Prop} {r : DefRec} {K : Params → PySem.W.Frag}
    (h63 : l.most = some 63) (hno : r.params.defaults = []) (hK : ∀ (w : World) (h : Heap), YP w h → (K w.params).In h)
    (ok : ∀ (w : World) (mg : Str → Option Value) (fa : Addr) (h : Heap), (K w.params).In h → h.Ns mainGlobals mg → mg r.name = some (.ref fa) →
      ∃ fd : FuncData, (∀ (s : Shared) (u : Value), BindsTo s fd ⟨[u], []⟩ [("script", u)]) ∧
        ∀ base : Heap, (K w.params).In base → base.Ns mainGlobals mg → FnOk l.prog w (K w.params) mg base CX0 16 fa fd ["script"] (spLaw (K w.params))) :
    PySem.W.WalkO q loose XP YP l.row.toRowW r [] (fun f vs => PySem.call f vs) :=
  L2.walk_of (n := 63) (k := 16) (x := "script") (CX := fun _ => CX0) (sp := fun w => spLaw (K w.params)) h63 (by decide) hno ⟨rfl, by decide, by decide⟩ hK ok
    (fun _ _ a ns few _ seq => ⟨a, ns, rfl, seq, few, fun _ => rfl⟩) fun _ _ _ _ _ z => z
end Kx
open PySem PySem.W PyProof.Rows
set_option maxRecDepth 100000 in
set_option maxHeartbeats 0 in
theorem PySem.Challenge.cw_exactkinds_k30_groups_and_clauses_holds : PySem.Challenge.rw_exactkinds_k30_groups_and_clauses.Holds := by
  w_on; o_law; k_head; (case hw => w_witness2)
  k_fill
  refine Kx.law_walk (l := PySem.Challenge.rw_exactkinds_k30_groups_and_clauses) rfl rfl (fun _ _ Y => PySem.W.kIn_of Y) ?walked
  case walked =>
    intro w mg fa h inK names hmg
    refine' Kx.all_mk inK names hmg ?a0 ?l0 ?c0 ?k0 ?a1 ?l1 ?c1 ?k1 ?a2 ?l2 ?c2 ?k2 ?a3 ?l3 ?c3 ?k3 ?a4 ?l4 ?c4 ?k4 ?a5 ?l5 ?c5 ?k5 ?a6 ?l6 ?c6 ?k6 ?a7 ?l7 ?c7 ?k7 ?a8 ?l8 ?c8 ?k8 ?a9 ?l9 ?c9 ?k9 ?a10 ?l10 ?c10 ?k10 ?a11 ?l11 ?c11 ?k11 ?a12 ?l12 ?c12 ?k12 ?a13 ?l13 ?c13 ?k13 ?a14 ?l14 ?c14 ?k14 ?a15 ?l15 ?c15 ?k15 ?a16 ?l16 ?c16 ?k16 ?a17 ?l17 ?c17 ?k17 ?a18 ?l18 ?c18 ?k18 ?a19 ?l19 ?c19 ?k19 ?a20 ?l20 ?c20 ?k20 ?a21 ?l21 ?c21 ?k21 ?a22 ?l22 ?c22 ?k22 ?a23 ?l23 ?c23 ?k23 ?a24 ?l24 ?c24 ?k24 ?a25 ?l25 ?c25 ?k25 ?a26 ?l26 ?c26 ?k26 ?z0 ?z1 ?z2 ?z3 ?z4 ?z5 ?z6 ?z7 ?z8 ?z9 ?z10 ?z11
    (case a0 => k_is)
    (case l0 => k_is)
    (case c0 => k_is)
    (case k0 => k_is)
    (case a1 => k_is)
    (case l1 => k_is)
    (case c1 => k_is)
    (case k1 => k_is)
    (case a2 => k_is)
    (case l2 => k_is)
    (case c2 => k_is)
    (case k2 => k_is)
    (case a3 => k_is)
    (case l3 => k_is)
    (case c3 => k_is)
    (case k3 => k_is)
    (case a4 => k_is)
    (case l4 => k_is)
    (case c4 => k_is)
    (case k4 => k_is)
    (case a5 => k_is)
    (case l5 => k_is)
    (case c5 => k_is)
    (case k5 => k_is)
    (case a6 => k_is)
    (case l6 => k_is)
    (case c6 => k_is)
    (case k6 => k_is)
    (case a7 => k_is)
    (case l7 => k_is)
    (case c7 => k_is)
    (case k7 => k_is)
    (case a8 => k_is)
    (case l8 => k_is)
    (case c8 => k_is)
    (case k8 => k_is)
    (case a9 => k_is)
    (case l9 => k_is)
    (case c9 => k_is)
    (case k9 => k_is)
    (case a10 => k_is)
    (case l10 => k_is)
    (case c10 => k_is)
    (case k10 => k_is)
    (case a11 => k_is)
    (case l11 => k_is)
    (case c11 => k_is)
    (case k11 => k_is)
    (case a12 => k_is)
    (case l12 => k_is)
    (case c12 => k_is)
    (case k12 => k_is)
    (case a13 => k_is)
    (case l13 => k_is)
    (case c13 => k_is)
    (case k13 => k_is)
    (case a14 => k_is)
    (case l14 => k_is)
    (case c14 => k_is)
    (case k14 => k_is)
    (case a15 => k_is)
    (case l15 => k_is)
    (case c15 => k_is)
    (case k15 => k_is)
    (case a16 => k_is)
    (case l16 => k_is)
    (case c16 => k_is)
    (case k16 => k_is)
    (case a17 => k_is)
    (case l17 => k_is)
    (case c17 => k_is)
    (case k17 => k_is)
    (case a18 => k_is)
    (case l18 => k_is)
    (case c18 => k_is)
    (case k18 => k_is)
    (case a19 => k_is)
    (case l19 => k_is)
    (case c19 => k_is)
    (case k19 => k_is)
    (case a20 => k_is)
    (case l20 => k_is)
    (case c20 => k_is)
    (case k20 => k_is)
    (case a21 => k_is)
    (case l21 => k_is)
    (case c21 => k_is)
    (case k21 => k_is)
    (case a22 => k_is)
    (case l22 => k_is)
    (case c22 => k_is)
    (case k22 => k_is)
    (case a23 => k_is)
    (case l23 => k_is)
    (case c23 => k_is)
    (case k23 => k_is)
    (case a24 => k_is)
    (case l24 => k_is)
    (case c24 => k_is)
    (case k24 => k_is)
    (case a25 => k_is)
    (case l25 => k_is)
    (case c25 => k_is)
    (case k25 => k_is)
    (case a26 => k_is)
    (case l26 => k_is)
    (case c26 => k_is)
    (case k26 => k_is)
    (case z0 => k_is)
    (case z1 => k_is)
    (case z2 => k_is)
    (case z3 => k_is)
    (case z4 => k_is)
    (case z5 => k_is)
    (case z6 => k_is)
    (case z7 => k_is)
    (case z8 => k_is)
    (case z9 => k_is)
    (case z10 => k_is)
    (case z11 => k_is)

