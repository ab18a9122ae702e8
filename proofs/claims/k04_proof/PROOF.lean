import PyProof.Rows.All
import Wide.All
import OpenK.AllK
import Wide.FinOn
import HandS.ForMost
import HandS.IsInst
import HandS.Conv
import HandS.TupAny
import HandS.Evl
import HandS.SetKeys
import HandS.More
import HandS.Zip
import HandS.DictComp
import HandS.Walk
import HandS.Star
import KE.SortData
import KE.DataCmp
import KE.KDictZip
import PyProof.ListNew
import HandS.Style
import KE.KDictPairs
import PySem.Challenge.RW_exactkinds_k04_whole_told_unifiers
set_option Elab.async false
set_option linter.all false
set_option maxRecDepth 100000
namespace Kx
open PySem PySem.Spec PyProof.Rows L2
def top (i : Nat) : Stmt := PySem.Challenge.pw_exactkinds_k04_whole_told_unifiers.main.body.getD i (.Pass ⟨0, 0, 0, 0⟩)
abbrev s_names_of : Stmt := top 1
abbrev s_put : Stmt := top 2
abbrev s_unified : Stmt := top 3
abbrev s_followed : Stmt := top 4
abbrev s_bind : Stmt := top 5
abbrev s_occurs : Stmt := top 6
abbrev s_told : Stmt := top 7
abbrev s_whole : Stmt := top 8
abbrev s_law_draws : Stmt := top 10
abbrev s_law_draw : Stmt := top 11
abbrev s_law_pick : Stmt := top 12
abbrev s_law_makers : Stmt := top 13
abbrev s_law_term : Stmt := top 14
abbrev s_law_put : Stmt := top 15
abbrev s_law_names : Stmt := top 16
abbrev s_law_put_in : Stmt := top 17
abbrev s_law_unified : Stmt := top 18
abbrev s_law_hidden : Stmt := top 19
abbrev s_law_size : Stmt := top 20
abbrev s_law_pairs : Stmt := top 21
abbrev s_law : Stmt := top 22
theorem sc_names_of : FnScope ["term", "found", "todo", "here"] ["term"] (defScope s_names_of) := ⟨rfl, rfl, rfl, by decide +kernel, rfl, by decide +kernel, by decide +kernel⟩
theorem sc_put : FnScope ["term", "assignment", "items", "part"] ["term", "assignment"] (defScope s_put) := ⟨rfl, rfl, rfl, by decide +kernel, rfl, by decide +kernel, by decide +kernel⟩
theorem sc_unified : FnScope ["pairs", "bound", "todo", "one", "other", "done"] ["pairs"] (defScope s_unified) := ⟨rfl, rfl, rfl, by decide +kernel, rfl, by decide +kernel, by decide +kernel⟩
theorem sc_followed : FnScope ["term", "bound"] ["term", "bound"] (defScope s_followed) := ⟨rfl, rfl, rfl, by decide +kernel, rfl, by decide +kernel, by decide +kernel⟩
theorem sc_bind : FnScope ["name", "term", "bound"] ["name", "term", "bound"] (defScope s_bind) := ⟨rfl, rfl, rfl, by decide +kernel, rfl, by decide +kernel, by decide +kernel⟩
theorem sc_occurs : FnScope ["name", "term", "bound", "seen", "todo", "here", "inner", "end"] ["name", "term", "bound"] (defScope s_occurs) := ⟨rfl, rfl, rfl, by decide +kernel, rfl, by decide +kernel, by decide +kernel⟩
theorem sc_told : FnScope ["pairs", "bound", "told", "pair", "term", "name"] ["pairs", "bound"] (defScope s_told) := ⟨rfl, rfl, rfl, by decide +kernel, rfl, by decide +kernel, by decide +kernel⟩
theorem sc_whole : FnScope ["term", "bound", "end", "items", "part"] ["term", "bound"] (defScope s_whole) := ⟨rfl, rfl, rfl, by decide +kernel, rfl, by decide +kernel, by decide +kernel⟩
theorem sc_law_draws : FnScope ["script"] ["script"] (defScope s_law_draws) := ⟨rfl, rfl, rfl, by decide +kernel, rfl, by decide +kernel, by decide +kernel⟩
theorem sc_law_draw : FnScope ["draws", "limit", "cell", "value"] ["draws", "limit"] (defScope s_law_draw) := ⟨rfl, rfl, rfl, by decide +kernel, rfl, by decide +kernel, by decide +kernel⟩
theorem sc_law_pick : FnScope ["draws", "row"] ["draws", "row"] (defScope s_law_pick) := ⟨rfl, rfl, rfl, by decide +kernel, rfl, by decide +kernel, by decide +kernel⟩
theorem sc_law_makers : FnScope ["draws", "rows", "word", "turn"] ["draws"] (defScope s_law_makers) := ⟨rfl, rfl, rfl, by decide +kernel, rfl, by decide +kernel, by decide +kernel⟩
theorem sc_law_term : FnScope ["draws", "makers", "names", "deep", "word", "parts", "k"] ["draws", "makers", "names", "deep"] (defScope s_law_term) := ⟨rfl, rfl, rfl, by decide +kernel, rfl, by decide +kernel, by decide +kernel⟩
theorem sc_law_put : FnScope ["term", "assignment", "part"] ["term", "assignment"] (defScope s_law_put) := ⟨rfl, rfl, rfl, by decide +kernel, rfl, by decide +kernel, by decide +kernel⟩
theorem sc_law_names : FnScope ["term", "found", "part", "name"] ["term"] (defScope s_law_names) := ⟨rfl, rfl, rfl, by decide +kernel, rfl, by decide +kernel, by decide +kernel⟩
theorem sc_law_put_in : FnScope ["found", "name", "term", "more", "result", "other"] ["found", "name", "term"] (defScope s_law_put_in) := ⟨rfl, rfl, rfl, by decide +kernel, rfl, by decide +kernel, by decide +kernel⟩
theorem sc_law_unified : FnScope ["pairs", "waiting", "found", "first", "second", "one", "other", "name", "term", "k"] ["pairs"] (defScope s_law_unified) := ⟨rfl, rfl, rfl, by decide +kernel, rfl, by decide +kernel, by decide +kernel⟩
theorem sc_law_hidden : FnScope ["draws", "trees", "tree", "names", "name", "part"] ["draws", "trees", "tree"] (defScope s_law_hidden) := ⟨rfl, rfl, rfl, by decide +kernel, rfl, by decide +kernel, by decide +kernel⟩
theorem sc_law_size : FnScope ["tree", "part"] ["tree"] (defScope s_law_size) := ⟨rfl, rfl, rfl, by decide +kernel, rfl, by decide +kernel, by decide +kernel⟩
theorem sc_law_pairs : FnScope ["draws", "makers", "trees", "pairs", "k", "tree", "one", "other"] ["draws", "makers", "trees"] (defScope s_law_pairs) := ⟨rfl, rfl, rfl, by decide +kernel, rfl, by decide +kernel, by decide +kernel⟩
theorem sc_law : FnScope ["script", "draws", "makers", "turn", "trees", "name", "known", "pairs", "due", "handed", "told", "fits", "other", "one"] ["script"] (defScope s_law) := ⟨rfl, rfl, rfl, by decide +kernel, rfl, by decide +kernel, by decide +kernel⟩
structure Txt (K : PySem.W.Frag) (mg : Str → Option Value) where
  a_names_of : Addr
  d_names_of : FuncData
  F_names_of : Fun K "names_of" "names_of" s_names_of a_names_of d_names_of
  b_names_of : Binds K d_names_of ["term"] []
  m_names_of : mg "names_of" = some (.ref a_names_of)
  a_put : Addr
  d_put : FuncData
  F_put : Fun K "put" "put" s_put a_put d_put
  b_put : Binds K d_put ["term", "assignment"] []
  m_put : mg "put" = some (.ref a_put)
  a_unified : Addr
  d_unified : FuncData
  F_unified : Fun K "unified" "unified" s_unified a_unified d_unified
  b_unified : Binds K d_unified ["pairs"] []
  m_unified : mg "unified" = some (.ref a_unified)
  a_followed : Addr
  d_followed : FuncData
  F_followed : Fun K "_followed" "_followed" s_followed a_followed d_followed
  b_followed : Binds K d_followed ["term", "bound"] []
  m_followed : mg "_followed" = some (.ref a_followed)
  a_bind : Addr
  d_bind : FuncData
  F_bind : Fun K "_bind" "_bind" s_bind a_bind d_bind
  b_bind : Binds K d_bind ["name", "term", "bound"] []
  m_bind : mg "_bind" = some (.ref a_bind)
  a_occurs : Addr
  d_occurs : FuncData
  F_occurs : Fun K "_occurs" "_occurs" s_occurs a_occurs d_occurs
  b_occurs : Binds K d_occurs ["name", "term", "bound"] []
  m_occurs : mg "_occurs" = some (.ref a_occurs)
  a_told : Addr
  d_told : FuncData
  F_told : Fun K "_told" "_told" s_told a_told d_told
  b_told : Binds K d_told ["pairs", "bound"] []
  m_told : mg "_told" = some (.ref a_told)
  a_whole : Addr
  d_whole : FuncData
  F_whole : Fun K "whole" "whole" s_whole a_whole d_whole
  b_whole : Binds K d_whole ["term", "bound"] []
  m_whole : mg "whole" = some (.ref a_whole)
  a_law_draws : Addr
  d_law_draws : FuncData
  F_law_draws : Fun K "_law_draws" "_law_draws" s_law_draws a_law_draws d_law_draws
  b_law_draws : Binds K d_law_draws ["script"] []
  m_law_draws : mg "_law_draws" = some (.ref a_law_draws)
  a_law_draw : Addr
  d_law_draw : FuncData
  F_law_draw : Fun K "_law_draw" "_law_draw" s_law_draw a_law_draw d_law_draw
  b_law_draw : Binds K d_law_draw ["draws", "limit"] []
  m_law_draw : mg "_law_draw" = some (.ref a_law_draw)
  a_law_pick : Addr
  d_law_pick : FuncData
  F_law_pick : Fun K "_law_pick" "_law_pick" s_law_pick a_law_pick d_law_pick
  b_law_pick : Binds K d_law_pick ["draws", "row"] []
  m_law_pick : mg "_law_pick" = some (.ref a_law_pick)
  a_law_makers : Addr
  d_law_makers : FuncData
  F_law_makers : Fun K "_law_makers" "_law_makers" s_law_makers a_law_makers d_law_makers
  b_law_makers : Binds K d_law_makers ["draws"] []
  m_law_makers : mg "_law_makers" = some (.ref a_law_makers)
  a_law_term : Addr
  d_law_term : FuncData
  F_law_term : Fun K "_law_term" "_law_term" s_law_term a_law_term d_law_term
  b_law_term : Binds K d_law_term ["draws", "makers", "names", "deep"] []
  m_law_term : mg "_law_term" = some (.ref a_law_term)
  a_law_put : Addr
  d_law_put : FuncData
  F_law_put : Fun K "_law_put" "_law_put" s_law_put a_law_put d_law_put
  b_law_put : Binds K d_law_put ["term", "assignment"] []
  m_law_put : mg "_law_put" = some (.ref a_law_put)
  a_law_names : Addr
  d_law_names : FuncData
  F_law_names : Fun K "_law_names" "_law_names" s_law_names a_law_names d_law_names
  b_law_names : Binds K d_law_names ["term"] []
  m_law_names : mg "_law_names" = some (.ref a_law_names)
  a_law_put_in : Addr
  d_law_put_in : FuncData
  F_law_put_in : Fun K "_law_put_in" "_law_put_in" s_law_put_in a_law_put_in d_law_put_in
  b_law_put_in : Binds K d_law_put_in ["found", "name", "term"] []
  m_law_put_in : mg "_law_put_in" = some (.ref a_law_put_in)
  a_law_unified : Addr
  d_law_unified : FuncData
  F_law_unified : Fun K "_law_unified" "_law_unified" s_law_unified a_law_unified d_law_unified
  b_law_unified : Binds K d_law_unified ["pairs"] []
  m_law_unified : mg "_law_unified" = some (.ref a_law_unified)
  a_law_hidden : Addr
  d_law_hidden : FuncData
  F_law_hidden : Fun K "_law_hidden" "_law_hidden" s_law_hidden a_law_hidden d_law_hidden
  b_law_hidden : Binds K d_law_hidden ["draws", "trees", "tree"] []
  m_law_hidden : mg "_law_hidden" = some (.ref a_law_hidden)
  a_law_size : Addr
  d_law_size : FuncData
  F_law_size : Fun K "_law_size" "_law_size" s_law_size a_law_size d_law_size
  b_law_size : Binds K d_law_size ["tree"] []
  m_law_size : mg "_law_size" = some (.ref a_law_size)
  a_law_pairs : Addr
  d_law_pairs : FuncData
  F_law_pairs : Fun K "_law_pairs" "_law_pairs" s_law_pairs a_law_pairs d_law_pairs
  b_law_pairs : Binds K d_law_pairs ["draws", "makers", "trees"] []
  m_law_pairs : mg "_law_pairs" = some (.ref a_law_pairs)
  a_law : Addr
  d_law : FuncData
  F_law : Fun K "law" "law" s_law a_law d_law
  b_law : Binds K d_law ["script"] []
  m_law : mg "law" = some (.ref a_law)
  z_isinstance : mg "isinstance" = none
  z_tuple : mg "tuple" = none
  z_str : mg "str" = none
  z_list : mg "list" = none
  z_zip : mg "zip" = none
  z_max : mg "max" = none
  z_min : mg "min" = none
  z_len : mg "len" = none
  z_abs : mg "abs" = none
  z_int : mg "int" = none
  z_range : mg "range" = none
  z_sum : mg "sum" = none
  z_dict : mg "dict" = none
  z_all : mg "all" = none
end Kx
set_option maxHeartbeats 2000000
/-! Rules of our own over the layer: see the remarks. -/
namespace Kx
open PySem PySem.Spec PyProof.Rows L2
/-! ### rules with the written part named (for the blocks of comprehensions) -/
section
variable {X : Cx} {K : PySem.W.Frag}
theorem inSeqK (h : X.K = K := by rfl) : OpR X (compareOp .In) (rIn K false) := by subst h; exact op_in_seq
theorem notInSeqK (h : X.K = K := by rfl) : OpR X (compareOp .NotIn) (rIn K true) := by subst h; exact op_notIn_seq
theorem ixLK (h : X.K = K := by rfl) : IxR X (rIxL K) := by subst h; exact ix_list
theorem ixSK (h : X.K = K := by rfl) : IxR X (rIx K) := by subst h; exact ix_seq
theorem ixTK (h : X.K = K := by rfl) : IxR X (rIxT K) := by subst h; exact ix_tup
end
/-! ### l.extend(t), t a tuple -/
def rExtT (K : PySem.W.Frag) : V → List V → Hp → VK → Prop := fun x vs H Q => ∃ l b xs zs, x = .ref l ∧ vs = [.ref b] ∧ H l = some (.lst xs) ∧ (∃ o : Obj, H b = some (.frz o (.tup zs)) ∧ o.dict = none ∧ o.slots = #[]) ∧ xs.length + zs.length ≤ sizeLine ∧ Q .non (upd H l (.lst (xs ++ zs)))
section
variable {X : Cx}
theorem mt_extT : MtR X "list.extend" (rExtT X.K) := by
  intro pins s σ H x vs v us Q I rx rv hyp
  obtain ⟨l, b, xs, zs, rfl, rfl, hH, ⟨o, hB, hd, hsl⟩, hz, fin⟩ := hyp
  cases rx
  obtain ⟨u, rfl, ru⟩ := rv.one
  cases ru
  obtain ⟨z, its, n, r, hl, e⟩ := I.lstM hH
  obtain ⟨e2, z2, its2, r2, hT⟩ := (show ObjOk X.prog X.w H s.heap b (.frz o (.tup zs)) from I.hok b _ hB)
  obtain ⟨o2, e3, hc2, n2, hd2⟩ := hT
  rw [e2] at e3
  cases e3
  obtain ⟨oc, od, dt, sl⟩ := o
  simp only at hc2 hd2 hd hsl
  subst hc2 hd2 hd hsl
  have w1 : its.length = xs.length := r.length.symm
  have w2 : its2.length = zs.length := r2.length.symm
  have size2 : its.toArray.size + its2.toArray.size ≤ sizeLine := by
    simp only [List.size_toArray, w1, w2]; exact hz
  have few : ¬ (!its.toArray.isEmpty && Builtin.List.listTooLong (its.toArray.size + its2.toArray.size)) = true := by
    rw [notLongL size2, Bool.and_false]; simp
  refine call_meets F.slot_list_extend ⟨_, e, rfl⟩ F.entry_list_extend (F.args_list_extend_2 _ _)
    (AutoSeq1.list_extend_list_tuple_0 l its.toArray n b its2.toArray n2 few (Nat.le_trans (Nat.le_add_right _ _) size2) (Nat.le_succ_of_le size2)) ⟨e, e2, ?_⟩
  refine ⟨.non, _, I.lset (its' := its ++ its2) hH e (by simp) (r.append r2) ?_, rfl, fin⟩
  simp only [List.length_append]; exact hz
end
/-! ### t[:0:-1]: a tuple backwards without its first item -/
section
variable {prog : Program} {w : World} {A : Around} {E : Value → Shared → Prop} {s : Shared}
theorem back_pick {α : Type} : ∀ l : List α, (List.range l.length).filterMap (fun m => l[l.length - 1 - m]?) = l.reverse := by
  intro l
  have h : ∀ k, k ≤ l.length → (List.range k).filterMap (fun m => l[l.length - 1 - m]?) = (l.drop (l.length - k)).reverse := by
    intro k
    induction k with
    | zero => intro _; simp
    | succ k ih =>
      intro hk
      rw [List.range_succ, List.filterMap_append, ih (by omega)]
      have e : l.drop (l.length - (k + 1)) = l[l.length - (k + 1)]'(by omega) :: l.drop (l.length - k) := by
        rw [List.drop_eq_getElem_cons (by omega)]
        congr 2
        omega
      rw [e, List.reverse_cons]
      congr 1
      have e2 : l[l.length - 1 - k]? = some (l[l.length - (k + 1)]'(by omega)) := by
        rw [← List.getElem?_eq_getElem]
        congr 1
        omega
      simp [e2]
  have := h l.length (Nat.le_refl _)
  simpa using this
theorem back_pick1 (xs : List Value) (h1 : 1 ≤ xs.length) : (List.range (xs.length - 1)).filterMap (fun (m : Nat) => xs[(((xs.length - 1 : Nat) : Int) + (m : Int) * (-1)).toNat]?) = (xs.drop 1).reverse := by
  have h := back_pick (xs.drop 1)
  rw [List.length_drop] at h
  rw [← h]
  have key : ∀ k, k ≤ xs.length - 1 → (List.range k).filterMap (fun (m : Nat) => xs[(((xs.length - 1 : Nat) : Int) + (m : Int) * (-1)).toNat]?) = (List.range k).filterMap (fun m => (xs.drop 1)[xs.length - 1 - 1 - m]?) := by
    intro k
    induction k with
    | zero => intro _; rfl
    | succ k ih =>
      intro hk
      rw [List.range_succ, List.filterMap_append, List.filterMap_append, ih (by omega)]
      congr 1
      have e : (((xs.length - 1 : Nat) : Int) + (k : Int) * (-1)).toNat = 1 + (xs.length - 1 - 1 - k) := by omega
      simp only [List.filterMap_cons, List.filterMap_nil, e, List.getElem?_drop]
  exact key _ (Nat.le_refl _)
theorem back_adjust (n : Nat) (h : 1 ≤ n) : Builtin.Slice.sliceAdjust none (some 0) (-1) (n : Int) = (((n - 1 : Nat) : Int), 0) := by
  unfold Builtin.Slice.sliceAdjust
  simp only [show ((-1 : Int) < 0) from by omega, if_true]
  refine Prod.ext ?_ ?_
  · show (n : Int) - 1 = _; omega
  · show (if (0 : Int) < 0 then max ((0 : Int) + (n : Int)) (-1) else min (0 : Int) ((n : Int) - 1)) = 0
    rw [if_neg (by omega)]; omega
theorem back_places (n : Nat) : Builtin.Slice.slicePlaces ((n : Nat) : Int) 0 (-1) = n := by
  unfold Builtin.Slice.slicePlaces
  simp only [show ¬ ((-1 : Int) > 0) from by omega, if_false, Int.neg_neg, Int.ediv_one]
  split <;> omega
theorem back_applied {sl : Addr} {vl vu vs : Value} {n : Nat} {Q : Int × Int × Nat → Shared → Prop} (h1 : 1 ≤ n) (hs : s.heap.IsSliceOf sl vl vu vs) (pl : IsPart vl none) (pu : IsPart vu (some 0)) (ps : IsPart vs (some (-1)))
    (h : Q (((n - 1 : Nat) : Int), -1, n - 1) s) : wpAny (model prog w) A (Builtin.Slice.sliceApplied (.ref sl) (pure (n : Int))) Q E s := by
  obtain ⟨os, ho, hc, hd⟩ := id hs
  unfold Builtin.Slice.sliceApplied Builtin.Slice.sliceFields
  refine wpAny_bind (wpAny_bind (wpAny_field ho hd (x := vl) rfl (wpAny_bind (wpAny_field ho hd (x := vu) rfl (wpAny_bind (wpAny_field ho hd (x := vs) rfl (wpAny_pure ?_)))))))
  refine wpAny_bind (HT.slicePart_ ps ?_)
  show wpAny _ _ (if ((-1 : Int) == 0) = true then _ else _) _ _ s
  rw [if_neg (by decide)]
  refine wpAny_bind (HT.slicePart_ pl (wpAny_bind (HT.slicePart_ pu (wpAny_bind (wpAny_pure ?_)))))
  show wpAny _ _ (match Builtin.Slice.sliceAdjust none (some 0) (-1) (n : Int) with | (lo, hi) => pure (lo, (-1 : Int), Builtin.Slice.slicePlaces lo hi (-1))) _ _ s
  rw [back_adjust n h1]
  show wpAny _ _ (pure (((n - 1 : Nat) : Int), (-1 : Int), Builtin.Slice.slicePlaces ((n - 1 : Nat) : Int) 0 (-1))) _ _ s
  rw [back_places]
  exact wpAny_pure h
theorem getItem_back {t sl : Addr} {items : Array Value} {vl vu vs : Value} {Q : Value → Shared → Prop} (h1 : 1 ≤ items.size) (ht : IsTup s.heap t items) (hs : s.heap.IsSliceOf sl vl vu vs) (pl : IsPart vl none) (pu : IsPart vu (some 0)) (ps : IsPart vs (some (-1)))
    (h : Q (.ref s.heap.objs.size) { s with heap := s.heap.push { cls := .type "tuple", data := .seq ((items.toList.drop 1).reverse).toArray } })
    (hsz : items.size ≤ sizeLine) : wpAny (model prog w) A (getItem (.ref t) (.ref sl)) Q E s := by
  have fits : sizeOk (.seq ((items.toList.drop 1).reverse).toArray) := by
    show ((items.toList.drop 1).reverse).toArray.size ≤ sizeLine
    simp only [List.size_toArray, List.length_reverse, List.length_drop, Array.length_toList]
    omega
  obtain ⟨os, ho, hc, hd⟩ := id hs
  have ty : s.TypeIs (.ref sl) "slice" := ⟨os, ho, hc⟩
  unfold getItem
  try with_reducible refine wpAny_holding ?_
  first | refine wpAny_bind (wpAny_pure ?_) | skip
  refine wpAny_bind (wpAny_sequenceKey ht.typeIs (by decide) ?_)
  refine wpAny_bind (wpAny_callSpecial?_slot (name := Str.ofString "__getitem__") ht.typeIs PyProof.Rows.slot_tuple_getitem
    (wpAny_call_entry PyProof.Rows.slot_tuple_getitem ht.typeIs F.entry_tuple_getitem ?_ (F.args_tuple_getitem_2 _ _)))
  show wpAny _ _ (Builtin.Tuple.tupleItemsOf (.ref t) >>= _) _ _ s
  refine wpAny_bind (tupleItemsOf_ ht ?_)
  refine wpAny_bind (wpAny_typeOf ty ?_)
  rw [if_pos (by decide)]
  refine wpAny_bind (back_applied (n := items.size) h1 hs pl pu ps ?_)
  have no : ¬ ((((items.size - 1 : Nat) : Int) == 0 && (-1 : Int) == 1 && (items.size - 1) == items.size) = true) := by simp
  show wpAny _ _ (if (((items.size - 1 : Nat) : Int) == 0 && (-1 : Int) == 1 && (items.size - 1) == items.size) = true then _ else _) _ _ s
  have e := back_pick1 items.toList (by simpa using h1)
  simp only [Array.length_toList, Array.getElem?_toList] at e
  rw [if_neg no, e]
  first
    | exact wpAny_bind (m := Builtin.Tuple.tupleExact _) (wpAny_newObj_type (wpAny_pure ⟨_, rfl, wpAny_pure h⟩) fits)
    | exact wpAny_bind (m := Builtin.Tuple.tupleExact _) (wpAny_newObj_type (wpAny_bind (wpAny_pure (wpAny_pure ⟨_, rfl, wpAny_pure h⟩))) fits)
    | exact wpAny_bind (wpAny_bind (m := Builtin.Tuple.tupleExact _) (wpAny_newObj_type (wpAny_pure (wpAny_pure ⟨_, rfl, wpAny_pure h⟩)) fits))
    | exact wpAny_bind (wpAny_bind (m := Builtin.Tuple.tupleExact _) (wpAny_newObj_type (wpAny_pure ⟨_, rfl, wpAny_pure h⟩) fits))
end
/-- what t[:0:-1] asks: t is not empty; the new tuple is told as an object that stands as it is -/
def tBackT (K : PySem.W.Frag) (te : TE) : TE := fun σ H Q => te σ H fun x H1 => ∃ a xs, x = .ref a ∧ SqT K H1 a xs ∧ xs ≠ [] ∧ ∀ p (o : Obj), H1 p = none → o.dict = none → o.slots = #[] → Q (.ref p) (upd H1 p (.frz o (.tup (xs.drop 1).reverse)))
section
variable {X : Cx}
theorem pe_cutback {e : Expr} {te : TE} {j k : Nat} {p0 p1 p2 p3 pos : Pos} (he : PE X e te) : PE X (.Subscript e (.Slice none (some (.Constant (.int 0) j p0)) (some (.UnaryOp .USub (.Constant (.int 1) k p1) p2)) p3) pos) (tBackT X.K te) := by
  refine ⟨fun pins s σ H Q I h => ?_⟩
  refine Subscript_ (thn (he.run pins s σ H _ I h) fun v s1 ⟨x, H1, I1, r1, q1⟩ => ?_)
  obtain ⟨a, xs, ex, hx, hne, fin⟩ := q1
  subst ex
  cases r1
  have hst : PO X (some (.UnaryOp .USub (.Constant (.int 1) k p1) p2)) (tPart (tUn (rU fun i => .int (-i)) (tC (.int 1)))) := po_some (pe_un un_neg pe_int)
  have hup : PO X (some (.Constant (.int 0) j p0)) (tPart (tC (.int 0))) := po_some pe_int
  refine wpAny_Slice (thn (po_none.run pins s1 σ H1 (fun o H2 => o = none ∧ H2 = H1) I1 ⟨rfl, rfl⟩) fun vl s2 ⟨l, H2, I2, pl, el, e2⟩ => ?_)
  subst el e2
  refine thn (hup.run pins s2 σ H2 (fun o H3 => o = some 0 ∧ H3 = H2) I2 ⟨0, rfl, rfl, rfl⟩) fun vu s3 ⟨u, H3, I3, pu, eu, e3⟩ => ?_
  subst eu e3
  refine thn (hst.run pins s3 σ H3 (fun o H4 => o = some (-1) ∧ H4 = H3) I3 ⟨1, rfl, -1, rfl, rfl, rfl⟩) fun vs s4 ⟨o, H4, I4, ps, eo, e4⟩ => ?_
  subst eo e4
  have I5 : Inv X pins σ H4 { s4 with heap := s4.heap.push { cls := .type "slice", data := .fields #[vl, vu, vs] } } := I4.kept (t' := s4.toks) fun b ob q => Heap.get?_push_of_some _ q
  obtain ⟨its, r, ht, hz⟩ := I5.tuple hx
  have hlen : its.length = xs.length := r.length.symm
  have h1 : 1 ≤ xs.length := by cases xs with | nil => exact absurd rfl hne | cons _ _ => simp
  show wpAny (model X.prog X.w) X.A (subscriptTail e (.Slice none (some (.Constant (.int 0) j p0)) (some (.UnaryOp .USub (.Constant (.int 1) k p1) p2)) p3) (.ref a) (.ref s4.heap.objs.size)) (EP X pins σ Q) X.xe { s4 with heap := s4.heap.push { cls := .type "slice", data := .fields #[vl, vu, vs] } }
  refine tail_any (ops := [.ref a, .ref s4.heap.objs.size]) ht.typeIs (PyProof.Rows.slot_tuple_getitem.lookup) ?_ (by with_unfolding_all rfl)
  refine getItem_back (by rw [List.size_toArray, hlen]; exact h1) ht (Heap.IsSliceOf.new _ vl vu vs) pl pu ps ?_ (by rw [List.size_toArray, hlen]; exact hz)
  refine ⟨.ref _, _, I5.laid (t' := s4.toks) (o := .frz { cls := .type "tuple", data := .seq ((its.drop 1).reverse).toArray } (.tup (xs.drop 1).reverse)) (fun b ob q => Heap.get?_push_of_some _ q) (Nat.le_refl _) ?_, rfl, fin _ _ (I5.hok.fresh (Nat.le_refl _)) rfl rfl⟩
  refine ⟨Heap.get?_push_size _ rfl, ?_, _, (r.drop 1).reverse, IsTup.new _ _⟩
  rw [List.length_reverse, List.length_drop]
  exact Nat.le_trans (Nat.sub_le _ _) hz
/-! ### tuple(l) of a list, told as an object that stands as it is -/
theorem call_tupleF : CallR X (.type "tuple") (fun xs H Q => ∃ p ys, xs = [.ref p] ∧ SqL X.K H p ys ∧ ∀ l (o : Obj), H l = none → o.dict = none → o.slots = #[] → Q (.ref l) (upd H l (.frz o (.tup ys)))) := by
  intro pins s σ H xs us Q I r hyp
  obtain ⟨p, ys, rfl, hq, fin⟩ := hyp
  obtain ⟨u, rfl, rx⟩ := vals1 r
  cases rx
  obtain ⟨its, r', pl, hz⟩ := I.list hq
  have w1 : its.length = ys.length := r'.length.symm
  refine call_tuple_list pl.isList (fun h' kp => ?_) (by rw [List.size_toArray, w1]; exact hz)
  have J : Inv X pins σ H { s with heap := h' } := I.kept (t' := s.toks) kp
  have J2 : Inv X pins σ (upd H h'.objs.size (.frz { cls := .type "tuple", data := .seq its.toArray } (.tup ys))) { s with heap := h'.push { cls := .type "tuple", data := .seq its.toArray } } :=
    J.laid (t' := s.toks) (fun b o e => Heap.get?_push_of_some _ e) (Nat.le_refl _) ⟨Heap.get?_push_size _ rfl, hz, its, r', IsTup.new _ _⟩
  exact ⟨.ref h'.objs.size, _, J2, rfl, fin _ _ (J.hok.fresh (Nat.le_refl _)) rfl rfl⟩
/-! ### dict(t) of a tuple of pairs -/
theorem pairs_list {pins : List (Addr × Obj)} {σ : L2.St} {H : Hp} {s : Shared} (I : Inv X pins σ H s) : ∀ {ps : List Addr} {kvs : List (Key × V)}, Paired (fun p kv => SqT X.K H p [kV kv.1, kv.2]) ps kvs →
    ∃ (prs : List (Key × Value)) (psv : List (Value × Value)), KV kvs prs ∧ prs.length = ps.length ∧ psv.length = ps.length ∧ ∀ (j : Nat) (u v : Value), psv[j]? = some (u, v) → ∃ b k, ps[j]? = some b ∧ prs[j]? = some (k, v) ∧ IsTup s.heap b #[u, v] ∧ keyIs k u = true
  | _, _, .nil => ⟨[], [], .nil, rfl, rfl, fun j u v e => by simp at e⟩
  | _, _, .cons (a := p) (b := kv) h t => by
    obtain ⟨prs, psv, r, l1, l2, hp⟩ := pairs_list I t
    obtain ⟨its, rv, ht, _⟩ := I.tuple h
    obtain ⟨u, y, ei, ru, ry⟩ := vals2 rv
    subst ei
    refine ⟨(kv.1, y) :: prs, (u, y) :: psv, .cons ⟨rfl, ry⟩ r, by simp [l1], by simp [l2], fun j u' v' e => ?_⟩
    cases j with
    | zero =>
      cases (Option.some.inj e)
      exact ⟨p, kv.1, rfl, rfl, ht, kV_is (P := X.prog) (w := X.w) ru⟩
    | succ j => exact hp j u' v' (by simpa using e)
theorem call_dictT (hcalm : X.calm = true) : CallR X (.type "dict") (fun xs H Q => ∃ (a : Addr) (o : Obj) (ps : List Addr) (kvs : List (Key × V)), xs = [.ref a] ∧ H a = some (.frz o (.tup (ps.map V.ref))) ∧ o.dict = none ∧ Paired (fun p kv => SqT X.K H p [kV kv.1, kv.2]) ps kvs ∧
    ∀ p, H p = none → Q (.ref p) (upd H p (.dK (mergeK [] kvs)))) := by
  intro pins s σ H xs us Q I r hyp
  obtain ⟨a, o, ps, kvs, ex, hq, hd, hp, fin⟩ := hyp
  subst ex
  obtain ⟨u, eu, rx⟩ := vals1 r
  subst eu
  cases rx
  obtain ⟨e2, hz, its, rv, hT⟩ := (show ObjOk X.prog X.w H s.heap a (.frz o (.tup (ps.map V.ref))) from I.hok a _ hq)
  obtain ⟨o2, e3, hc2, n2, hd2⟩ := hT
  rw [e2] at e3
  cases e3
  have ei := refs_at rv
  subst ei
  rw [List.length_map] at hz
  obtain ⟨prs, psv, rel, l1, l2, hpr⟩ := pairs_list I hp
  have items : PairItems s.heap (ps.map Value.ref).toArray (fun j => ps.getD j 0) psv := by
    refine ⟨by simp [l2], fun j k v e => ?_⟩
    obtain ⟨b, k', e1, _, e4, _⟩ := hpr j k v e
    refine ⟨by simp [e1], ?_⟩
    have eb : ps.getD j 0 = b := by simp [List.getD, e1]
    show PairAt s.heap (ps.getD j 0) k v
    rw [eb]
    exact .inl e4
  refine PySem.call_dict_pairs (knd := mixKind X.prog X.w) (kvs := prs) (PairArg.tuple a (ps.map Value.ref).toArray (fun j => ps.getD j 0) psv) (I.ok.hd hcalm) ⟨⟨o, n2, e2, hc2, hd, hd2⟩, items⟩ ⟨by rw [l1, l2], fun i key v e => ?_⟩ (by rw [l2]; exact hz) fun h' tk hd' k => ?_
  · obtain ⟨b, k', _, e5, _, e6⟩ := hpr i key v e
    exact ⟨k', e5, e6⟩
  · have hm : (s.heap.objs.size == sysModules) = false := beq_eq_false_iff_ne.mpr (Nat.ne_of_gt I.big)
    have few : (mergeK [] kvs).length ≤ sizeLine := by
      have z := length_mergeK kvs []
      rw [List.length_nil, Nat.zero_add, rel.length, l1] at z
      exact Nat.le_trans z hz
    exact ⟨.ref s.heap.objs.size, _, I.laid (t' := tk) (fun b o q => k b o (by simp) q) (Nat.le_refl _) (show ObjOk X.prog X.w _ _ _ (.dK (mergeK [] kvs)) from ⟨few, hm, merged [] prs, KV.merge rel .nil, hd'⟩), rfl, fin _ (I.hok.fresh (Nat.le_refl _))⟩
end
end Kx
namespace Kx
open PySem PySem.Spec PyProof.Rows L2
/-- a block cut behind its first statement: what holds there is named -/
theorem pss_cutK {X : Cx} {st : Stmt} {rest : List Stmt} {t u : TS} (h1 : PS X st t) (h2 : PSs X rest u) :
    PSs X (st :: rest) (fun D σ H => ∃ Mid : L2.St → Hp → Prop, t { D with nx := Mid } σ H ∧ ∀ σ' H', Mid σ' H' → u D σ' H') := Evl.pss_cut h1 h2
end Kx
namespace Kx
open PySem PySem.Spec PyProof.Rows L2
section
variable {X : Cx}
/-- a test, an expression, with a word behind it: what follows is shown once -/
theorem pt_cut {e : Expr} {t : TT} (h : PT X e t) : PT X e (fun σ H Q => ∃ M : Bool → Hp → Prop, t σ H M ∧ ∀ b H1, M b H1 → Q b H1) :=
  ⟨fun pins s σ H Q I ⟨M, hm, k⟩ => thn (h.run pins s σ H M I hm) fun b s1 ⟨H1, I1, q⟩ => ⟨H1, I1, k b H1 q⟩⟩
theorem pe_cut {e : Expr} {t : TE} (h : PE X e t) : PE X e (fun σ H Q => ∃ M : VK, t σ H M ∧ ∀ v H1, M v H1 → Q v H1) :=
  ⟨fun pins s σ H Q I ⟨M, hm, k⟩ => thn (h.run pins s σ H M I hm) fun b s1 ⟨v, H1, I1, r, q⟩ => ⟨v, H1, I1, r, k v H1 q⟩⟩
end
end Kx
namespace Kx
open PySem PySem.Spec PyProof.Rows L2
/-- a comprehension without a test: its element is asked -/
theorem yes_if {σ : L2.St} {H : Hp} {A B : Hp → Prop} (h : A H) : tYes σ H (fun b H3 => if b = true then A H3 else B H3) := by
  have e : (if true = true then A H else B H) := iteT h
  exact e
end Kx
namespace Kx
open PySem PySem.Spec PyProof.Rows L2
/-- flat, or an object: two of one V are equal -/
def oneV (v : V) : Prop := flatB v = true ∨ ∃ a, v = .ref a
theorem hits_one {A : Around} {s : Shared} {ls : List (Key × V)} {vb : List (Key × Value)} (rb : KV ls vb) : ∀ {ks : List (Key × V)} {va : List (Key × Value)}, KV ks va → (∀ p ∈ ks, valV ls p.1 = some p.2 ∧ oneV p.2) → PySem.W.KeqHits A s vb va true
  | _, _, .nil, _ => .nil
  | _, _, .cons (a := p) (b := q) ⟨e, ry⟩ t, h => by
    obtain ⟨h1, h2⟩ := h p (List.mem_cons_self ..)
    have k := hits_one (A := A) (s := s) rb t fun p' hm => h p' (List.mem_cons_of_mem _ hm)
    obtain ⟨q1, q2⟩ := q
    simp only at e ry
    subst e
    have z := rb.val p.1
    rw [h1] at z
    cases hv : valueAt vb p.1 with
    | none => rw [hv] at z; exact (show False from z).elim
    | some u =>
      rw [hv] at z
      have z' : RelV p.2 u := z
      refine .hit (e := true) hv ?_ k
      rcases h2 with f | ⟨a, ea⟩
      · exact eqAt_same ry z' f
      · rw [ea] at ry z'
        cases (show q2 = Value.ref a from ry)
        cases (show u = Value.ref a from z')
        exact SeqAt.EqAt.same _
def rNeDict : R2 := fun x y H Q => ∃ a b ks ls, x = .ref a ∧ y = .ref b ∧ H a = some (.dK ks) ∧ H b = some (.dK ls) ∧ ks.length = ls.length ∧ (∀ p ∈ ks, valV ls p.1 = some p.2 ∧ oneV p.2) ∧ Q (.bl false) H
section
variable {X : Cx}
theorem op_neDict (hu : X.A.units < cLine) : OpR X (compareOp .NotEq) rNeDict := by
  intro pins s σ H x y v u Q I rx ry hyp
  obtain ⟨a, b, ks, ls, rfl, rfl, ea, eb, hlen, hp, fin⟩ := hyp
  cases (show v = Value.ref a from rx)
  cases (show u = Value.ref b from ry)
  obtain ⟨_, y1, va, ra, da⟩ := (show ObjOk X.prog X.w H s.heap a (.dK ks) from I.hok a _ ea)
  obtain ⟨_, y2, vb, rb, db⟩ := (show ObjOk X.prog X.w H s.heap b (.dK ls) from I.hok b _ eb)
  have few : va.length = vb.length := by rw [← ra.length, ← rb.length]; exact hlen
  exact PySem.W.keq_ne (knd := mixKind X.prog X.w) (r := true) y1 y2 da db hu (fun _ => hits_one rb ra hp) (fin_bl I fin (by simp [few]))
end
end Kx
/-! The mathematics: terms, putting by functions, the law's way to unify. -/
namespace Kx
open PySem PySem.Spec PyProof.Rows L2
inductive PV where
  | str (z : Str)
  | tup (w : Str) (xs : List PV)
mutual
def sub (σ : Str → PV) : PV → PV
  | .str z => σ z
  | .tup w r => .tup w (subL σ r)
def subL (σ : Str → PV) : List PV → List PV
  | [] => []
  | t :: r => sub σ t :: subL σ r
end
mutual
/-- the names, from the left -/
def lv : PV → List Str
  | .str z => [z]
  | .tup _ r => lvL r
def lvL : List PV → List Str
  | [] => []
  | t :: r => lv t ++ lvL r
end
mutual
def psz : PV → Nat
  | .str _ => 1
  | .tup _ r => 1 + pszL r
def pszL : List PV → Nat
  | [] => 0
  | t :: r => psz t + pszL r
end
theorem psz_pos : ∀ t : PV, 1 ≤ psz t
  | .str _ => by simp [psz]
  | .tup _ _ => by simp [psz]
mutual
theorem sub_sub (τ σ : Str → PV) : ∀ t, sub τ (sub σ t) = sub (fun z => sub τ (σ z)) t
  | .str z => by simp only [sub]
  | .tup w r => by simp only [sub, subL_sub τ σ r]
theorem subL_sub (τ σ : Str → PV) : ∀ t, subL τ (subL σ t) = subL (fun z => sub τ (σ z)) t
  | [] => by simp only [subL]
  | t :: r => by simp only [subL, sub_sub τ σ t, subL_sub τ σ r]
end
mutual
theorem sub_congr {σ τ : Str → PV} : ∀ {t}, (∀ z ∈ lv t, σ z = τ z) → sub σ t = sub τ t
  | .str z, h => by simp only [sub]; exact h z (by simp [lv])
  | .tup w r, h => by simp only [sub]; rw [subL_congr (by simpa only [lv] using h)]
theorem subL_congr {σ τ : Str → PV} : ∀ {t}, (∀ z ∈ lvL t, σ z = τ z) → subL σ t = subL τ t
  | [], h => by simp only [subL]
  | t :: r, h => by
    simp only [lvL] at h
    simp only [subL]
    rw [sub_congr fun z hz => h z (List.mem_append_left _ hz), subL_congr fun z hz => h z (List.mem_append_right _ hz)]
end
mutual
theorem sub_id : ∀ t, sub PV.str t = t
  | .str z => by simp only [sub]
  | .tup w r => by simp only [sub, subL_id r]
theorem subL_id : ∀ t, subL PV.str t = t
  | [] => by simp only [subL]
  | t :: r => by simp only [subL, sub_id t, subL_id r]
end
mutual
theorem lv_sub (σ : Str → PV) (z : Str) : ∀ t, z ∈ lv (sub σ t) ↔ ∃ y ∈ lv t, z ∈ lv (σ y)
  | .str y => by simp [sub, lv]
  | .tup w r => by simp only [sub, lv]; exact lvL_sub σ z r
theorem lvL_sub (σ : Str → PV) (z : Str) : ∀ t, z ∈ lvL (subL σ t) ↔ ∃ y ∈ lvL t, z ∈ lv (σ y)
  | [] => by simp [subL, lvL]
  | t :: r => by
    simp only [subL, lvL, List.mem_append, lv_sub σ z t, lvL_sub σ z r]
    constructor
    · rintro (⟨y, h, e⟩ | ⟨y, h, e⟩)
      · exact ⟨y, .inl h, e⟩
      · exact ⟨y, .inr h, e⟩
    · rintro ⟨y, h | h, e⟩
      · exact .inl ⟨y, h, e⟩
      · exact .inr ⟨y, h, e⟩
end
mutual
theorem occ_size (σ : Str → PV) (z : Str) : ∀ {t}, z ∈ lv t → psz (σ z) ≤ psz (sub σ t)
  | .str y, h => by
    simp only [lv, List.mem_singleton] at h
    subst h
    exact Nat.le_refl _
  | .tup w r, h => by
    have := occL_size σ z (t := r) (by simpa only [lv] using h)
    simp only [sub, psz]; omega
theorem occL_size (σ : Str → PV) (z : Str) : ∀ {t}, z ∈ lvL t → psz (σ z) ≤ pszL (subL σ t)
  | [], h => by simp [lvL] at h
  | t :: r, h => by
    simp only [lvL] at h
    simp only [subL, pszL]
    rcases List.mem_append.mp h with h | h
    · have := occ_size σ z h; omega
    · have := occL_size σ z h; omega
end
/-- a name in a greater term is never made the same as it -/
theorem occ_no {σ : Str → PV} {z : Str} {w : Str} {r : List PV} (h : z ∈ lv (.tup w r)) : σ z ≠ sub σ (.tup w r) := fun e => by
  have := occL_size σ z (t := r) (by simpa only [lv] using h)
  rw [e] at this
  simp only [sub, psz] at this
  omega
/-! ### assignments -/
abbrev AL := List (Str × PV)
def get (al : AL) (z : Str) : Option PV := (al.find? fun kv => kv.1 == z).map (·.2)
/-- an assignment as a function -/
def fn (al : AL) (z : Str) : PV := (get al z).getD (.str z)
def psub (al : AL) (t : PV) : PV := sub (fn al) t
def one (n : Str) (t : PV) : Str → PV := fun z => if z = n then t else .str z
/-- one more name, put in everywhere -/
def putIn (f : AL) (n : Str) (t : PV) : AL := (f.map fun kv => (kv.1, sub (one n t) kv.2)) ++ [(n, t)]
theorem get_nil (z : Str) : get [] z = none := rfl
theorem get_cons (k : Str) (v : PV) (r : AL) (z : Str) : get ((k, v) :: r) z = if k = z then some v else get r z := by
  unfold get
  by_cases e : k = z
  · rw [if_pos e, List.find?_cons_of_pos (by simpa using e)]; rfl
  · rw [if_neg e, List.find?_cons_of_neg (by simpa using e)]
theorem get_dom {f : AL} {z : Str} : get f z = none ↔ z ∉ f.map (·.1) := by
  induction f with
  | nil => simp [get_nil]
  | cons kv r ih =>
    obtain ⟨k, v⟩ := kv
    rw [get_cons, List.map_cons, List.mem_cons, not_or]
    by_cases e : k = z
    · rw [if_pos e]
      simp [e]
    · rw [if_neg e, ih]
      constructor
      · intro h; exact ⟨fun q => e q.symm, h⟩
      · intro h; exact h.2
theorem get_map {f : AL} {g : PV → PV} {z : Str} : get (f.map fun kv => (kv.1, g kv.2)) z = (get f z).map g := by
  induction f with
  | nil => rfl
  | cons kv r ih =>
    obtain ⟨k, v⟩ := kv
    rw [List.map_cons, get_cons, get_cons, ih]
    split <;> rfl
theorem get_app {f g : AL} {z : Str} : get (f ++ g) z = (get f z).or (get g z) := by
  induction f with
  | nil => simp [get_nil]
  | cons kv r ih =>
    obtain ⟨k, v⟩ := kv
    rw [List.cons_append, get_cons, get_cons, ih]
    split <;> rfl
theorem fn_putIn {f : AL} {n : Str} {t : PV} (hn : get f n = none) (z : Str) : fn (putIn f n t) z = sub (one n t) (fn f z) := by
  unfold fn putIn
  rw [get_app, get_map]
  cases e : get f z with
  | some u => rfl
  | none =>
    show ((get [(n, t)] z)).getD (.str z) = sub (one n t) (.str z)
    rw [get_cons, get_nil]
    simp only [sub, one]
    by_cases q : n = z
    · rw [if_pos q, if_pos q.symm]; rfl
    · rw [if_neg q, if_neg (fun h => q h.symm)]; rfl
theorem psub_putIn {f : AL} {n : Str} {t : PV} (hn : get f n = none) (x : PV) : psub (putIn f n t) x = sub (one n t) (psub f x) := by
  unfold psub
  rw [sub_sub]
  exact sub_congr fun z _ => fn_putIn hn z
/-- no name that is assigned is left in what is put -/
def Idem (f : AL) : Prop := ∀ z y, y ∈ lv (fn f z) → get f y = none
theorem Idem.nil : Idem [] := fun z y h => rfl
theorem Idem.psub {f : AL} (h : Idem f) {x : PV} {y : Str} (hy : y ∈ lv (psub f x)) : get f y = none := by
  obtain ⟨z, _, e⟩ := (lv_sub _ _ _).mp hy
  exact h z y e
theorem Idem.fix {f : AL} (h : Idem f) (x : PV) : Kx.psub f (Kx.psub f x) = Kx.psub f x := by
  have e : sub (fn f) (Kx.psub f x) = sub PV.str (Kx.psub f x) := sub_congr fun z hz => by
    unfold fn
    rw [h.psub hz]; rfl
  show sub (fn f) (Kx.psub f x) = _
  rw [e, sub_id]
theorem get_putIn {f : AL} {n : Str} {t : PV} {z : Str} : get (putIn f n t) z = none ↔ get f z = none ∧ z ≠ n := by
  unfold putIn
  rw [get_app, get_map, get_cons, get_nil]
  cases e : get f z with
  | some u => simp
  | none =>
    by_cases q : n = z
    · simp [q]
    · rw [if_neg q]
      simpa using fun h : z = n => q h.symm
theorem Idem.put {f : AL} {n : Str} {t : PV} (h : Idem f) (hn : get f n = none) (ht : ∀ y ∈ lv t, get f y = none ∧ y ≠ n) : Idem (putIn f n t) := by
  intro z y hy
  rw [fn_putIn hn] at hy
  obtain ⟨x, hx, e⟩ := (lv_sub _ _ _).mp hy
  refine get_putIn.mpr ?_
  unfold one at e
  by_cases q : x = n
  · rw [if_pos q] at e
    exact ht y e
  · rw [if_neg q] at e
    simp only [lv, List.mem_singleton] at e
    subst e
    exact ⟨h z y hx, q⟩
/-! ### what comes from an assignment -/
/-- θ comes from f -/
def From (θ : Str → PV) (f : AL) : Prop := ∀ z, sub θ (fn f z) = θ z
theorem From.psub {θ : Str → PV} {f : AL} (h : From θ f) (x : PV) : sub θ (Kx.psub f x) = sub θ x := by
  unfold Kx.psub
  rw [sub_sub]
  exact sub_congr fun z _ => h z
theorem From.nil (θ : Str → PV) : From θ [] := fun z => rfl
theorem from_one {θ : Str → PV} {n : Str} {t : PV} (h : θ n = sub θ t) (x : PV) : sub θ (sub (one n t) x) = sub θ x := by
  rw [sub_sub]
  refine sub_congr fun z _ => ?_
  unfold one
  by_cases q : z = n
  · rw [if_pos q, q, h]
  · rw [if_neg q]; rfl
theorem From.put {θ : Str → PV} {f : AL} {n : Str} {t : PV} (h : From θ f) (hn : get f n = none) (e : θ n = sub θ t) : From θ (putIn f n t) := fun z => by
  rw [fn_putIn hn, from_one e]; exact h z
/-- .. and back -/
theorem From.back {θ : Str → PV} {f : AL} {n : Str} {t : PV} (h : From θ (putIn f n t)) (hn : get f n = none) : From θ f ∧ θ n = sub θ t := by
  have e : θ n = sub θ t := by
    have := h n
    rw [fn_putIn hn] at this
    unfold fn at this
    rw [hn] at this
    simpa [sub, one] using this.symm
  refine ⟨fun z => ?_, e⟩
  have := h z
  rw [fn_putIn hn, from_one e] at this
  exact this
theorem Idem.from_ {f : AL} (h : Idem f) : From (fn f) f := fun z => h.fix (.str z)
/-! ### terms over makers -/
def look (mk : List (Str × Int)) (w : Str) : Option Int := (mk.find? fun kv => kv.1 == w).map (·.2)
mutual
def Wf (mk : List (Str × Int)) : PV → Prop
  | .str _ => True
  | .tup w r => look mk w = some (r.length : Int) ∧ r.length ≤ 2 ∧ WfL mk r
def WfL (mk : List (Str × Int)) : List PV → Prop
  | [] => True
  | t :: r => Wf mk t ∧ WfL mk r
end
theorem subL_len (σ : Str → PV) : ∀ l, (subL σ l).length = l.length
  | [] => rfl
  | t :: r => by simp only [subL, List.length_cons, subL_len σ r]
mutual
theorem sub_wf {mk : List (Str × Int)} {σ : Str → PV} (h : ∀ z, Wf mk (σ z)) : ∀ {t}, Wf mk t → Wf mk (sub σ t)
  | .str z, _ => by simp only [sub]; exact h z
  | .tup w r, ht => by
    simp only [sub]
    exact ⟨by rw [subL_len]; exact ht.1, by rw [subL_len]; exact ht.2.1, subL_wf h ht.2.2⟩
theorem subL_wf {mk : List (Str × Int)} {σ : Str → PV} (h : ∀ z, Wf mk (σ z)) : ∀ {t}, WfL mk t → WfL mk (subL σ t)
  | [], _ => trivial
  | t :: r, ht => ⟨sub_wf h ht.1, subL_wf h ht.2⟩
end
def AWf (mk : List (Str × Int)) (f : AL) : Prop := ∀ z, Wf mk (fn f z)
theorem AWf.nil (mk : List (Str × Int)) : AWf mk [] := fun z => trivial
theorem AWf.psub {mk : List (Str × Int)} {f : AL} (h : AWf mk f) {t : PV} (ht : Wf mk t) : Wf mk (Kx.psub f t) := sub_wf h ht
theorem AWf.put {mk : List (Str × Int)} {f : AL} {n : Str} {t : PV} (h : AWf mk f) (hn : get f n = none) (ht : Wf mk t) : AWf mk (putIn f n t) := fun z => by
  rw [fn_putIn hn]
  refine sub_wf (fun y => ?_) (h z)
  unfold one
  split
  · exact ht
  · exact trivial
theorem WfL_zip {mk : List (Str × Int)} : ∀ {a b : List PV}, WfL mk a → WfL mk b → ∀ pr ∈ a.zip b, Wf mk pr.1 ∧ Wf mk pr.2
  | [], _, _, _, pr, h => by simp at h
  | _ :: _, [], _, _, pr, h => by simp at h
  | x :: a, y :: b, ha, hb, pr, h => by
    rw [List.zip_cons_cons] at h
    rcases List.mem_cons.mp h with rfl | h
    · exact ⟨ha.1, hb.1⟩
    · exact WfL_zip ha.2 hb.2 pr h
theorem subL_zip {θ : Str → PV} : ∀ {a b : List PV}, a.length = b.length → (subL θ a = subL θ b ↔ ∀ pr ∈ a.zip b, sub θ pr.1 = sub θ pr.2)
  | [], [], _ => by simp [subL]
  | [], _ :: _, h => by simp at h
  | _ :: _, [], h => by simp at h
  | x :: a, y :: b, h => by
    have ih := subL_zip (θ := θ) (a := a) (b := b) (by simpa using h)
    simp only [subL, List.cons.injEq, List.zip_cons_cons, List.mem_cons, forall_eq_or_imp, ih]
/-! ### one step of the law's way -/
section
variable (mm : Str → Str → Str × Str)
open Classical in
/-- a pair is looked at: what is to be looked at behind it, and what is found; none: they never become the same -/
noncomputable def stepL (p q : PV) (f : AL) : Option (List (PV × PV) × AL) :=
  if psub f p = psub f q then some ([], f) else
  match psub f p, psub f q with
  | .str x, .str y => some ([], putIn f (mm x y).1 (.str (mm x y).2))
  | .str x, .tup w r => if x ∈ lv (.tup w r) then none else some ([], putIn f x (.tup w r))
  | .tup w r, .str x => if x ∈ lv (.tup w r) then none else some ([], putIn f x (.tup w r))
  | .tup w r, .tup w' s => if w = w' then some (r.zip s, f) else none
def MM : Prop := ∀ x y, mm x y = (x, y) ∨ mm x y = (y, x)
structure Good (mk : List (Str × Int)) (f : AL) : Prop where
  idem : Idem f
  wf : AWf mk f
variable {mm}
structure Step (mk : List (Str × Int)) (p q : PV) (f : AL) (L : List (PV × PV)) (f' : AL) : Prop where
  good : Good mk f'
  wfL : ∀ pr ∈ L, Wf mk pr.1 ∧ Wf mk pr.2
  fwd : ∀ θ, From θ f → sub θ p = sub θ q → From θ f' ∧ ∀ pr ∈ L, sub θ pr.1 = sub θ pr.2
  back : ∀ θ, From θ f' → (∀ pr ∈ L, sub θ pr.1 = sub θ pr.2) → From θ f ∧ sub θ p = sub θ q
theorem bind_ok {mk : List (Str × Int)} {p q : PV} {f : AL} {x : Str} {t : PV} (g : Good mk f) (hx : get f x = none) (ht : Wf mk t) (hf : ∀ y ∈ lv t, get f y = none) (no : x ∉ lv t) (e : ∀ θ, From θ f → (sub θ p = sub θ q ↔ θ x = sub θ t)) : Step mk p q f [] (putIn f x t) :=
  ⟨⟨g.idem.put hx fun y hy => ⟨hf y hy, fun z => no (z ▸ hy)⟩, g.wf.put hx ht⟩, fun pr h => by simp at h,
    fun θ F h => ⟨F.put hx ((e θ F).mp h), fun pr h => by simp at h⟩,
    fun θ F _ => let ⟨a, b⟩ := F.back hx; ⟨a, (e θ a).mpr b⟩⟩
theorem step_some (hm : MM mm) {mk : List (Str × Int)} {p q : PV} {f : AL} (g : Good mk f) (hp : Wf mk p) (hq : Wf mk q) {L : List (PV × PV)} {f' : AL} (h : stepL mm p q f = some (L, f')) : Step mk p q f L f' := by
  have key : ∀ θ, From θ f → (sub θ p = sub θ q ↔ sub θ (psub f p) = sub θ (psub f q)) := fun θ F => by rw [F.psub, F.psub]
  have wp := g.wf.psub hp
  have wq := g.wf.psub hq
  have np : ∀ y ∈ lv (psub f p), get f y = none := fun y hy => g.idem.psub hy
  have nq : ∀ y ∈ lv (psub f q), get f y = none := fun y hy => g.idem.psub hy
  unfold stepL at h
  split at h
  · rename_i e
    cases h
    exact ⟨g, fun pr h => by simp at h, fun θ F _ => ⟨F, fun pr h => by simp at h⟩, fun θ F _ => ⟨F, (key θ F).mpr (by rw [e])⟩⟩
  · rename_i ne
    generalize psub f p = a at h key wp np ne
    generalize psub f q = b at h key wq nq ne
    cases a with
    | str x =>
      cases b with
      | str y =>
        have nxy : x ≠ y := fun e => ne (by rw [e])
        cases h
        rcases hm x y with e | e
        · rw [e]
          refine bind_ok g (np x (by simp [lv])) trivial nq (by simpa [lv] using nxy) fun θ F => ?_
          rw [key θ F]; simp only [sub]
        · rw [e]
          refine bind_ok g (nq y (by simp [lv])) trivial np (by simpa [lv] using Ne.symm nxy) fun θ F => ?_
          rw [key θ F]; simp only [sub]; exact eq_comm
      | tup w r =>
        simp only at h
        split at h
        · cases h
        · rename_i no
          cases h
          refine bind_ok g (np x (by simp [lv])) wq nq no fun θ F => ?_
          rw [key θ F]; simp only [sub]
    | tup w r =>
      cases b with
      | str x =>
        simp only at h
        split at h
        · cases h
        · rename_i no
          cases h
          refine bind_ok g (nq x (by simp [lv])) wp np no fun θ F => ?_
          rw [key θ F]; simp only [sub]; exact eq_comm
      | tup w' s =>
        simp only at h
        split at h
        · rename_i e
          subst e
          cases h
          have hl : r.length = s.length := by
            have z := wp.1.symm.trans wq.1
            have := Option.some.inj z
            omega
          have kz : ∀ θ, From θ f → (sub θ p = sub θ q ↔ ∀ pr ∈ r.zip s, sub θ pr.1 = sub θ pr.2) := fun θ F => by
            rw [key θ F, ← subL_zip hl]
            simp only [sub, PV.tup.injEq, true_and]
          exact ⟨g, WfL_zip wp.2.2 wq.2.2, fun θ F e => ⟨F, (kz θ F).mp e⟩, fun θ F e => ⟨F, (kz θ F).mpr e⟩⟩
        · cases h
theorem step_none {mk : List (Str × Int)} {p q : PV} {f : AL} (h : stepL mm p q f = none) : ∀ θ, From θ f → sub θ p ≠ sub θ q := by
  intro θ F e
  rw [← F.psub, ← F.psub (x := q)] at e
  unfold stepL at h
  split at h
  · cases h
  · generalize psub f p = a at h e
    generalize psub f q = b at h e
    cases a with
    | str x =>
      cases b with
      | str y => cases h
      | tup w r =>
        simp only at h
        split at h
        · rename_i o
          exact occ_no o (by simpa only [sub] using e)
        · cases h
    | tup w r =>
      cases b with
      | str x =>
        simp only at h
        split at h
        · rename_i o
          exact occ_no o (by simpa only [sub] using e.symm)
        · cases h
      | tup w' s =>
        simp only at h
        split at h
        · cases h
        · rename_i n
          simp only [sub, PV.tup.injEq] at e
          exact n e.1
end
end Kx
/-! The mathematics: the law's way to unify comes to an end. -/
namespace Kx
open PySem PySem.Spec PyProof.Rows L2
section
variable {mm : Str → Str → Str × Str}
/-- how great the pairs are when what is found is put in -/
def szS (f : AL) : List (PV × PV) → Nat
  | [] => 0
  | pr :: st => psz (psub f pr.1) + psz (psub f pr.2) + szS f st
theorem szS_append (f : AL) : ∀ a b : List (PV × PV), szS f (a ++ b) = szS f a + szS f b
  | [], b => by simp [szS]
  | x :: a, b => by simp only [List.cons_append, szS, szS_append f a b]; omega
theorem szS_reverse (f : AL) : ∀ a : List (PV × PV), szS f a.reverse = szS f a
  | [] => rfl
  | x :: a => by rw [List.reverse_cons, szS_append, szS_reverse f a]; simp only [szS]; omega
/-- what the pairs name -/
def InV (V : List Str) (st : List (PV × PV)) : Prop := ∀ pr ∈ st, (∀ z ∈ lv pr.1, z ∈ V) ∧ ∀ z ∈ lv pr.2, z ∈ V
def FV (V : List Str) (f : AL) : Prop := (∀ z ∈ f.map (·.1), z ∈ V) ∧ ∀ z ∈ V, ∀ y ∈ lv (fn f z), y ∈ V
theorem FV.psub {V : List Str} {f : AL} (h : FV V f) {t : PV} (ht : ∀ z ∈ lv t, z ∈ V) : ∀ y ∈ lv (psub f t), y ∈ V := fun y hy => by
  obtain ⟨z, hz, e⟩ := (lv_sub _ _ _).mp hy
  exact h.2 z (ht z hz) y e
theorem FV.nil (V : List Str) : FV V [] := ⟨fun z h => by simp at h, fun z hz y hy => by
  have : y = z := by simpa [fn, get_nil, lv] using hy
  rw [this]; exact hz⟩
theorem FV.put {V : List Str} {f : AL} {x : Str} {t : PV} (h : FV V f) (hn : get f x = none) (hx : x ∈ V) (ht : ∀ z ∈ lv t, z ∈ V) : FV V (putIn f x t) := by
  refine ⟨fun z hz => ?_, fun z hz y hy => ?_⟩
  · unfold putIn at hz
    rw [List.map_append, List.map_map] at hz
    rcases List.mem_append.mp hz with hz | hz
    · exact h.1 z (by simpa using hz)
    · have : z = x := by simpa using hz
      rw [this]; exact hx
  · rw [fn_putIn hn] at hy
    obtain ⟨u, hu, e⟩ := (lv_sub _ _ _).mp hy
    have huV := h.2 z hz u hu
    unfold one at e
    split at e
    · exact ht y e
    · have : y = u := by simpa [lv] using e
      rw [this]; exact huV
/-- the names that are still free -/
def free (V : List Str) (f : AL) : Nat := (V.filter fun z => (get f z).isNone).length
theorem free_put {V : List Str} {f : AL} {x : Str} {t : PV} (hn : get f x = none) (hx : x ∈ V) : free V (putIn f x t) < free V f := by
  unfold free
  have sub : ∀ z, (get (putIn f x t) z).isNone = true → (get f z).isNone = true := fun z h => by
    rw [Option.isNone_iff_eq_none] at h ⊢
    exact (get_putIn.mp h).1
  have e : V.filter (fun z => (get (putIn f x t) z).isNone) = (V.filter fun z => (get f z).isNone).filter fun z => (get (putIn f x t) z).isNone := by
    rw [List.filter_filter]
    refine List.filter_congr fun z _ => ?_
    cases q : (get (putIn f x t) z).isNone with
    | false => rfl
    | true => rw [sub z q]; rfl
  rw [e, List.length_filter_lt_length_iff_exists]
  refine ⟨x, List.mem_filter.mpr ⟨hx, by rw [hn]; rfl⟩, ?_⟩
  intro q
  rw [Option.isNone_iff_eq_none] at q
  exact (get_putIn.mp q).2 rfl
theorem fix_of {f : AL} {t : PV} (h : ∀ z ∈ lv t, get f z = none) : psub f t = t := by
  have : sub (fn f) t = sub PV.str t := sub_congr fun z hz => by unfold fn; rw [h z hz]; rfl
  show sub (fn f) t = t
  rw [this, sub_id]
theorem szS_zip {f : AL} : ∀ {r s : List PV}, (∀ z ∈ lvL r, get f z = none) → (∀ z ∈ lvL s, get f z = none) → szS f (r.zip s) ≤ pszL r + pszL s
  | [], _, _, _ => by simp [szS]
  | _ :: _, [], _, _ => by simp [szS]
  | x :: r, y :: s, hr, hs => by
    simp only [lvL] at hr hs
    have a := szS_zip (f := f) (r := r) (s := s) (fun z h => hr z (List.mem_append_right _ h)) (fun z h => hs z (List.mem_append_right _ h))
    rw [List.zip_cons_cons]
    simp only [szS, pszL]
    rw [fix_of fun z h => hr z (List.mem_append_left _ h), fix_of fun z h => hs z (List.mem_append_left _ h)]
    omega
theorem InV_zip {V : List Str} : ∀ {r s : List PV}, (∀ z ∈ lvL r, z ∈ V) → (∀ z ∈ lvL s, z ∈ V) → InV V (r.zip s)
  | [], _, _, _ => fun pr h => by simp at h
  | _ :: _, [], _, _ => fun pr h => by simp at h
  | x :: r, y :: s, hr, hs => fun pr h => by
    simp only [lvL] at hr hs
    rw [List.zip_cons_cons] at h
    rcases List.mem_cons.mp h with rfl | h
    · exact ⟨fun z h => hr z (List.mem_append_left _ h), fun z h => hs z (List.mem_append_left _ h)⟩
    · exact InV_zip (fun z h => hr z (List.mem_append_right _ h)) (fun z h => hs z (List.mem_append_right _ h)) pr h
/-- a step finds a name or makes the pairs smaller -/
theorem step_less (hm : MM mm) {V : List Str} {p q : PV} {f : AL} (hi : Idem f) (hV : FV V f) (hp : ∀ z ∈ lv p, z ∈ V) (hq : ∀ z ∈ lv q, z ∈ V) {L : List (PV × PV)} {f' : AL} (h : stepL mm p q f = some (L, f')) :
    InV V L ∧ FV V f' ∧ ((f' = f ∧ szS f L < psz (psub f p) + psz (psub f q)) ∨ (L = [] ∧ free V f' < free V f)) := by
  have np : ∀ y ∈ lv (psub f p), get f y = none := fun y hy => hi.psub hy
  have nq : ∀ y ∈ lv (psub f q), get f y = none := fun y hy => hi.psub hy
  have vp := hV.psub hp
  have vq := hV.psub hq
  unfold stepL at h
  split at h
  · cases h
    have := psz_pos (psub f p)
    exact ⟨fun pr h => by simp at h, hV, .inl ⟨rfl, by simp only [szS]; omega⟩⟩
  · rename_i ne
    generalize psub f p = a at h np vp ne
    generalize psub f q = b at h nq vq ne
    have bind : ∀ {x : Str} {t : PV}, get f x = none → x ∈ V → (∀ z ∈ lv t, z ∈ V) → InV V [] ∧ FV V (putIn f x t) ∧ ((putIn f x t = f ∧ szS f [] < psz a + psz b) ∨ (([] : List (PV × PV)) = [] ∧ free V (putIn f x t) < free V f)) := fun hn hx ht => ⟨fun pr h => by simp at h, hV.put hn hx ht, .inr ⟨rfl, free_put hn hx⟩⟩
    cases a with
    | str x =>
      have nx := np x (by simp [lv])
      have vx := vp x (by simp [lv])
      cases b with
      | str y =>
        have ny := nq y (by simp [lv])
        have vy := vq y (by simp [lv])
        cases h
        rcases hm x y with e | e
        · rw [e]; exact bind nx vx (by simpa [lv] using vy)
        · rw [e]; exact bind ny vy (by simpa [lv] using vx)
      | tup w r =>
        simp only at h
        split at h
        · cases h
        · cases h; exact bind nx vx vq
    | tup w r =>
      cases b with
      | str x =>
        simp only at h
        split at h
        · cases h
        · cases h; exact bind (nq x (by simp [lv])) (vq x (by simp [lv])) vp
      | tup w' s =>
        simp only at h
        split at h
        · cases h
          simp only [lv] at np nq vp vq
          have := szS_zip np nq
          exact ⟨InV_zip vp vq, hV, .inl ⟨rfl, by simp only [psz]; omega⟩⟩
        · cases h
variable (mm)
/-- the law's way, for so many steps -/
noncomputable def runL : Nat → List (PV × PV) → AL → Option (Option AL)
  | 0, _, _ => none
  | _ + 1, [], f => some (some f)
  | n + 1, pr :: st, f => match stepL mm pr.1 pr.2 f with
    | none => some none
    | some (L, f') => runL n (L.reverse ++ st) f'
variable {mm}
def AllWf (mk : List (Str × Int)) (st : List (PV × PV)) : Prop := ∀ pr ∈ st, Wf mk pr.1 ∧ Wf mk pr.2
theorem run_ends (hm : MM mm) {mk : List (Str × Int)} {V : List Str} : ∀ (a b : Nat) (st : List (PV × PV)) (f : AL), free V f = a → szS f st = b → Good mk f → FV V f → AllWf mk st → InV V st → ∃ n r, runL mm n st f = some r := by
  intro a
  induction a using Nat.strongRecOn with
  | _ a iha =>
    intro b
    induction b using Nat.strongRecOn with
    | _ b ihb =>
      intro st f ea eb g hV hW hI
      cases st with
      | nil => exact ⟨1, some f, rfl⟩
      | cons pr st =>
        have w1 := hW pr (List.mem_cons_self ..)
        have i1 := hI pr (List.mem_cons_self ..)
        have hW' : AllWf mk st := fun x h => hW x (List.mem_cons_of_mem _ h)
        have hI' : InV V st := fun x h => hI x (List.mem_cons_of_mem _ h)
        cases h : stepL mm pr.1 pr.2 f with
        | none => exact ⟨1, none, by simp only [runL, h]⟩
        | some Lf =>
          obtain ⟨L, f'⟩ := Lf
          have S := step_some hm g w1.1 w1.2 h
          obtain ⟨iL, vf, less⟩ := step_less hm g.idem hV i1.1 i1.2 h
          have w2 : AllWf mk (L.reverse ++ st) := fun x hx => by
            rcases List.mem_append.mp hx with hx | hx
            · exact S.wfL x (List.mem_reverse.mp hx)
            · exact hW' x hx
          have i2 : InV V (L.reverse ++ st) := fun x hx => by
            rcases List.mem_append.mp hx with hx | hx
            · exact iL x (List.mem_reverse.mp hx)
            · exact hI' x hx
          have fin : ∃ n r, runL mm n (L.reverse ++ st) f' = some r := by
            rcases less with ⟨e, lt⟩ | ⟨_, lt⟩
            · subst e
              refine ihb _ ?_ _ _ ea rfl g hV w2 i2
              rw [szS_append, szS_reverse, ← eb]
              simp only [szS]; omega
            · exact iha _ (by omega) _ _ _ rfl rfl S.good vf w2 i2
          obtain ⟨n, r, e⟩ := fin
          exact ⟨n + 1, r, by simp only [runL, h]; exact e⟩
/-- θ makes the two of each pair the same -/
def Uni (θ : Str → PV) (st : List (PV × PV)) : Prop := ∀ pr ∈ st, sub θ pr.1 = sub θ pr.2
theorem Uni.step {θ : Str → PV} {L st : List (PV × PV)} : Uni θ (L.reverse ++ st) ↔ (∀ pr ∈ L, sub θ pr.1 = sub θ pr.2) ∧ Uni θ st := by
  constructor
  · intro h
    exact ⟨fun pr hp => h pr (List.mem_append_left _ (List.mem_reverse.mpr hp)), fun pr hp => h pr (List.mem_append_right _ hp)⟩
  · intro ⟨a, b⟩ pr hp
    rcases List.mem_append.mp hp with hp | hp
    · exact a pr (List.mem_reverse.mp hp)
    · exact b pr hp
theorem Uni.cons {θ : Str → PV} {pr : PV × PV} {st : List (PV × PV)} : Uni θ (pr :: st) ↔ sub θ pr.1 = sub θ pr.2 ∧ Uni θ st := by
  constructor
  · intro h
    exact ⟨h pr (List.mem_cons_self ..), fun x hx => h x (List.mem_cons_of_mem _ hx)⟩
  · intro ⟨a, b⟩ x hx
    rcases List.mem_cons.mp hx with rfl | hx
    · exact a
    · exact b x hx
theorem run_some (hm : MM mm) {mk : List (Str × Int)} : ∀ (n : Nat) (st : List (PV × PV)) (f g : AL), Good mk f → AllWf mk st → runL mm n st f = some (some g) → Good mk g ∧ (∀ θ, From θ f → Uni θ st → From θ g) ∧ ∀ θ, From θ g → From θ f ∧ Uni θ st
  | 0, st, f, g, _, _, h => by cases h
  | n + 1, [], f, g, G, _, h => by
    simp only [runL, Option.some.injEq] at h
    subst h
    exact ⟨G, fun θ F _ => F, fun θ F => ⟨F, fun pr h => by simp at h⟩⟩
  | n + 1, pr :: st, f, g, G, hW, h => by
    have w1 := hW pr (List.mem_cons_self ..)
    have hW' : AllWf mk st := fun x h => hW x (List.mem_cons_of_mem _ h)
    simp only [runL] at h
    cases e : stepL mm pr.1 pr.2 f with
    | none => rw [e] at h; cases h
    | some Lf =>
      obtain ⟨L, f'⟩ := Lf
      rw [e] at h
      have S := step_some hm G w1.1 w1.2 e
      have w2 : AllWf mk (L.reverse ++ st) := fun x hx => by
        rcases List.mem_append.mp hx with hx | hx
        · exact S.wfL x (List.mem_reverse.mp hx)
        · exact hW' x hx
      obtain ⟨a, b, c⟩ := run_some hm n _ _ g S.good w2 h
      refine ⟨a, fun θ F U => ?_, fun θ F => ?_⟩
      · obtain ⟨u1, u2⟩ := Uni.cons.mp U
        obtain ⟨F', l⟩ := S.fwd θ F u1
        exact b θ F' (Uni.step.mpr ⟨l, u2⟩)
      · obtain ⟨F', U⟩ := c θ F
        obtain ⟨l, u2⟩ := Uni.step.mp U
        obtain ⟨F0, u1⟩ := S.back θ F' l
        exact ⟨F0, Uni.cons.mpr ⟨u1, u2⟩⟩
theorem run_none (hm : MM mm) {mk : List (Str × Int)} : ∀ (n : Nat) (st : List (PV × PV)) (f : AL), Good mk f → AllWf mk st → runL mm n st f = some none → ∀ θ, From θ f → ¬ Uni θ st
  | 0, st, f, _, _, h => by cases h
  | n + 1, [], f, G, _, h => by simp [runL] at h
  | n + 1, pr :: st, f, G, hW, h => by
    have w1 := hW pr (List.mem_cons_self ..)
    have hW' : AllWf mk st := fun x h => hW x (List.mem_cons_of_mem _ h)
    simp only [runL] at h
    intro θ F U
    obtain ⟨u1, u2⟩ := Uni.cons.mp U
    cases e : stepL mm pr.1 pr.2 f with
    | none => exact step_none (mk := mk) e θ F u1
    | some Lf =>
      obtain ⟨L, f'⟩ := Lf
      rw [e] at h
      have S := step_some hm G w1.1 w1.2 e
      have w2 : AllWf mk (L.reverse ++ st) := fun x hx => by
        rcases List.mem_append.mp hx with hx | hx
        · exact S.wfL x (List.mem_reverse.mp hx)
        · exact hW' x hx
      obtain ⟨F', l⟩ := S.fwd θ F u1
      exact run_none hm n _ _ S.good w2 h θ F' (Uni.step.mpr ⟨l, u2⟩)
end
end Kx
/-! The mathematics: the program's way to unify, beside the law's. -/
namespace Kx
open PySem PySem.Spec PyProof.Rows L2
section
variable {mm : Str → Str → Str × Str}
/-- what a term is bound to in the end, after so many steps -/
inductive Fo (b : AL) : Nat → PV → PV → Prop
  | tup (w : Str) (r : List PV) : Fo b 0 (.tup w r) (.tup w r)
  | free {z : Str} (h : get b z = none) : Fo b 0 (.str z) (.str z)
  | step {m : Nat} {z : Str} {t r : PV} (h : get b z = some t) (k : Fo b m t r) : Fo b (m + 1) (.str z) r
theorem Fo.uniq {b : AL} : ∀ {m m' : Nat} {t r r' : PV}, Fo b m t r → Fo b m' t r' → r = r'
  | _, _, _, _, _, .tup _ _, .tup _ _ => rfl
  | _, _, _, _, _, .free _, .free _ => rfl
  | _, _, _, _, _, .free h, .step h' _ => by rw [h] at h'; cases h'
  | _, _, _, _, _, .step h' _, .free h => by rw [h] at h'; cases h'
  | _, _, _, _, _, .step h k, .step h' k' => by
    rw [h] at h'
    cases h'
    exact k.uniq k'
/-- what is bound says the same as what is found; chains of names end -/
structure Sol (f b : AL) (ρ : Str → Nat) : Prop where
  dom : ∀ z, get b z = none ↔ get f z = none
  val : ∀ z t, get b z = some t → fn f z = psub f t
  chain : ∀ z y, get b z = some (.str y) → get b y ≠ none → ρ y < ρ z
theorem Sol.nil : Sol [] [] fun _ => 0 := ⟨fun z => Iff.rfl, fun z t h => by simp [get_nil] at h, fun z y h => by simp [get_nil] at h⟩
theorem Sol.foll {f b : AL} {ρ : Str → Nat} (S : Sol f b ρ) : ∀ (n : Nat) (t : PV), (∀ z, t = .str z → ρ z ≤ n) → ∃ m r, Fo b m t r := by
  intro n
  induction n with
  | zero =>
    intro t ht
    cases t with
    | tup w r => exact ⟨_, _, .tup w r⟩
    | str z =>
      cases e : get b z with
      | none => exact ⟨_, _, .free e⟩
      | some u =>
        cases u with
        | tup w r => exact ⟨_, _, .step e (.tup w r)⟩
        | str y =>
          cases e2 : get b y with
          | none => exact ⟨_, _, .step e (.free e2)⟩
          | some v =>
            have := S.chain z y e (by rw [e2]; simp)
            have := ht z rfl
            omega
  | succ n ih =>
    intro t ht
    cases t with
    | tup w r => exact ⟨_, _, .tup w r⟩
    | str z =>
      cases e : get b z with
      | none => exact ⟨_, _, .free e⟩
      | some u =>
        cases u with
        | tup w r => exact ⟨_, _, .step e (.tup w r)⟩
        | str y =>
          cases e2 : get b y with
          | none => exact ⟨_, _, .step e (.free e2)⟩
          | some v =>
            have h1 := S.chain z y e (by rw [e2]; simp)
            have h2 := ht z rfl
            obtain ⟨m, r, k⟩ := ih (.str y) fun z' q => by cases q; omega
            exact ⟨_, _, .step e k⟩
theorem Sol.fo {f b : AL} {ρ : Str → Nat} (S : Sol f b ρ) (t : PV) : ∃ m r, Fo b m t r := by
  cases t with
  | tup w r => exact ⟨_, _, .tup w r⟩
  | str z => exact S.foll (ρ z) _ fun z' q => by cases q; exact Nat.le_refl _
theorem Fo.same {f b : AL} {ρ : Str → Nat} (S : Sol f b ρ) : ∀ {m : Nat} {t r : PV}, Fo b m t r → psub f r = psub f t
  | _, _, _, .tup _ _ => rfl
  | _, _, _, .free _ => rfl
  | _, _, _, .step (z := z) h k => by
    rw [k.same S, ← S.val z _ h]; rfl
theorem Fo.end_ {b : AL} : ∀ {m : Nat} {t : PV} {x : Str}, Fo b m t (.str x) → get b x = none
  | _, _, _, .free h => h
  | _, _, _, .step h k => k.end_
/-- bound one more -/
theorem get_snoc {b : AL} {n : Str} {t : PV} (z : Str) : get (b ++ [(n, t)]) z = (get b z).or (if n = z then some t else none) := by
  rw [get_app, get_cons, get_nil]
theorem Sol.bind {f b : AL} {ρ : Str → Nat} (S : Sol f b ρ) (hi : Idem f) {n : Str} {t : PV} (hn : get f n = none) (ht : ∀ y, t = .str y → get f y = none ∧ y ≠ n) (no : n ∉ lv (psub f t)) :
    ∃ ρ', Sol (putIn f n (psub f t)) (b ++ [(n, t)]) ρ' := by
  have fixn : psub (putIn f n (psub f t)) t = psub f t := by
    rw [psub_putIn hn]
    have : sub (one n (psub f t)) (psub f t) = sub PV.str (psub f t) := sub_congr fun z hz => by
      unfold one
      have zn : ¬ z = n := fun e => no (by rw [e] at hz; exact hz)
      rw [if_neg zn]
    rw [this, sub_id]
  refine ⟨fun z => if z = n then 0 else ρ z + 1, fun z => ?_, fun z u h => ?_, fun z y h hy => ?_⟩
  · rw [get_putIn, get_snoc]
    have := S.dom z
    cases e : get b z with
    | some u =>
      rw [e] at this
      simp only [Option.some_or]
      constructor
      · intro q; cases q
      · intro q; rw [← this] at q; cases q.1
    | none =>
      rw [e] at this
      have e2 := this.mp rfl
      simp only [Option.none_or]
      by_cases q : n = z
      · rw [if_pos q]
        constructor
        · intro q; cases q
        · intro ⟨_, q2⟩; exact absurd q.symm q2
      · rw [if_neg q]
        exact ⟨fun _ => ⟨e2, fun h => q h.symm⟩, fun _ => rfl⟩
  · rw [fn_putIn hn]
    rw [get_snoc] at h
    cases e : get b z with
    | some v =>
      rw [e] at h
      simp only [Option.some_or, Option.some.injEq] at h
      subst h
      rw [S.val z v e, psub_putIn hn]
    | none =>
      rw [e] at h
      simp only [Option.none_or] at h
      split at h
      · rename_i q
        subst q
        cases h
        rw [fixn]
        have e3 : fn f n = .str n := by unfold fn; rw [hn]; rfl
        rw [e3]
        simp [sub, one]
      · cases h
  · rw [get_snoc] at h hy
    cases e : get b z with
    | some v =>
      rw [e] at h
      simp only [Option.some_or, Option.some.injEq] at h
      subst h
      have zn : z ≠ n := fun q => by
        have := (S.dom n).mpr hn
        rw [q, this] at e; cases e
      rw [if_neg zn]
      by_cases q : y = n
      · rw [if_pos q]; omega
      · rw [if_neg q]
        have : get b y ≠ none := fun e2 => hy (by rw [e2, if_neg (fun h => q h.symm)]; rfl)
        have := S.chain z y e this
        omega
    | none =>
      rw [e] at h
      simp only [Option.none_or] at h
      split at h
      · cases h
        obtain ⟨h1, h2⟩ := ht y rfl
        exact absurd (by rw [(S.dom y).mpr h1, if_neg (fun h => h2 h.symm)]; rfl) hy
      · cases h
/-- x is met in the term, through what is bound -/
inductive Occ (b : AL) (x : Str) : PV → Prop
  | here {t : PV} {z : Str} {m : Nat} (hz : z ∈ lv t) (k : Fo b m (.str z) (.str x)) : Occ b x t
  | in_ {t : PV} {z w : Str} {r : List PV} {m : Nat} (hz : z ∈ lv t) (k : Fo b m (.str z) (.tup w r)) (o : Occ b x (.tup w r)) : Occ b x t
theorem Occ.names {f b : AL} {ρ : Str → Nat} (S : Sol f b ρ) {x : Str} : ∀ {t : PV}, Occ b x t → x ∈ lv (psub f t)
  | t, .here (z := z) hz k => by
    refine (lv_sub _ _ _).mpr ⟨z, hz, ?_⟩
    have a := k.same S
    have : psub f (.str z) = .str x := by
      rw [← a]
      have := (S.dom x).mp k.end_
      show fn f x = _
      unfold fn; rw [this]; rfl
    show x ∈ Kx.lv (psub f (.str z))
    rw [this]; simp [Kx.lv]
  | t, .in_ (z := z) hz k o => by
    refine (lv_sub _ _ _).mpr ⟨z, hz, ?_⟩
    have a := k.same S
    show x ∈ Kx.lv (psub f (.str z))
    rw [← a]
    exact o.names S
theorem Occ.of {f b : AL} {ρ : Str → Nat} (S : Sol f b ρ) {x : Str} (hx : get f x = none) : ∀ (n : Nat) (t : PV), psz (psub f t) ≤ n → (∀ z, t ≠ .str z) → x ∈ lv (psub f t) → Occ b x t := by
  intro n
  induction n with
  | zero => intro t h; have := psz_pos (psub f t); omega
  | succ n ih =>
    intro t h nt hm
    obtain ⟨z, hz, e⟩ := (lv_sub _ _ _).mp hm
    obtain ⟨m, r, k⟩ := S.fo (.str z)
    have a := k.same S
    have ez : x ∈ Kx.lv (psub f r) := by rw [a]; exact e
    cases r with
    | str y =>
      have := (S.dom y).mp k.end_
      have e2 : psub f (.str y) = .str y := by
        show fn f y = _
        unfold fn; rw [this]; rfl
      rw [e2] at ez
      have : x = y := by simpa [Kx.lv] using ez
      subst this
      exact .here hz k
    | tup w r =>
      refine .in_ hz k (ih _ ?_ (fun _ q => by cases q) ez)
      cases t with
      | str z => exact absurd rfl (nt z)
      | tup w' r' =>
        have := occL_size (fn f) z (t := r') (by simpa only [Kx.lv] using hz)
        have b2 : psz (psub f (.tup w' r')) = 1 + pszL (subL (fn f) r') := rfl
        have b3 : psub f (.tup w r) = fn f z := by rw [a]; rfl
        rw [b3]; omega
variable (mm)
open Classical in
/-- a step of the program, for two terms that are followed -/
noncomputable def stepP (p q : PV) (b : AL) : Option (List (PV × PV) × AL) :=
  if p = q then some ([], b) else
  match p, q with
  | .str x, .str y => some ([], b ++ [((mm x y).1, .str (mm x y).2)])
  | .str x, .tup w r => if Occ b x (.tup w r) then none else some ([], b ++ [(x, .tup w r)])
  | .tup w r, .str x => if Occ b x (.tup w r) then none else some ([], b ++ [(x, .tup w r)])
  | .tup w r, .tup w' s => if w = w' then some (r.zip s, b) else none
/-- the program's way: so many steps, and what comes of it -/
inductive Runs : Nat → List (PV × PV) → AL → Option AL → Prop
  | nil (b : AL) : Runs 0 [] b (some b)
  | fail {p q p' q' : PV} {P : List (PV × PV)} {b : AL} {m m' : Nat} (h : Fo b m p p') (k : Fo b m' q q') (e : stepP mm p' q' b = none) : Runs 0 ((p, q) :: P) b none
  | go {p q p' q' : PV} {P L : List (PV × PV)} {b b' : AL} {m m' n : Nat} {res : Option AL} (h : Fo b m p p') (k : Fo b m' q q') (e : stepP mm p' q' b = some (L, b')) (r : Runs n (L.reverse ++ P) b' res) : Runs (n + 1) ((p, q) :: P) b res
variable {mm}
/-- the program's pairs beside the law's -/
inductive Be (f : AL) : List (PV × PV) → List (PV × PV) → Prop
  | nil : Be f [] []
  | eq {p q : PV} {P L : List (PV × PV)} (e : psub f p = psub f q) (r : Be f P L) : Be f ((p, q) :: P) L
  | both {p q p2 q2 : PV} {P L : List (PV × PV)} (e : psub f p = psub f p2) (e2 : psub f q = psub f q2) (r : Be f P L) : Be f ((p, q) :: P) ((p2, q2) :: L)
theorem Be.put {f : AL} {n : Str} {t : PV} (hn : get f n = none) : ∀ {P L : List (PV × PV)}, Be f P L → Be (putIn f n t) P L
  | _, _, .nil => .nil
  | _, _, .eq e r => .eq (by rw [psub_putIn hn, psub_putIn hn, e]) (r.put hn)
  | _, _, .both e e2 r => .both (by rw [psub_putIn hn, psub_putIn hn, e]) (by rw [psub_putIn hn, psub_putIn hn, e2]) (r.put hn)
theorem Be.eqs {f : AL} {P L : List (PV × PV)} (h : Be f P L) : ∀ {E : List (PV × PV)}, (∀ pr ∈ E, psub f pr.1 = psub f pr.2) → Be f (E ++ P) L
  | [], _ => h
  | pr :: E, hE => .eq (hE pr (List.mem_cons_self ..)) (h.eqs fun x hx => hE x (List.mem_cons_of_mem _ hx))
theorem Be.app {f : AL} {P L : List (PV × PV)} (h : Be f P L) : ∀ {A B : List (PV × PV)}, Be f A B → Be f (A ++ P) (B ++ L)
  | _, _, .nil => h
  | _, _, .eq e r => .eq e (h.app r)
  | _, _, .both e e2 r => .both e e2 (h.app r)
theorem Be.rev {f : AL} : ∀ {A B : List (PV × PV)}, Be f A B → Be f A.reverse B.reverse
  | _, _, .nil => .nil
  | _, _, .eq (p := p) (q := q) e r => by
    rw [List.reverse_cons]
    have := (Be.eq e .nil : Be f [(p, q)] []).app r.rev
    simpa using this
  | _, _, .both (p := p) (q := q) (p2 := p2) (q2 := q2) e e2 r => by
    rw [List.reverse_cons, List.reverse_cons]
    exact (Be.both e e2 .nil : Be f [(p, q)] [(p2, q2)]).app r.rev
end
end Kx
/-! The mathematics: the program finds what the law finds. -/
namespace Kx
open PySem PySem.Spec PyProof.Rows L2
section
variable {mm : Str → Str → Str × Str}
theorem free_im {f : AL} {x : Str} (h : get f x = none) : psub f (.str x) = .str x := by
  show fn f x = _
  unfold fn; rw [h]; rfl
theorem Fo.im_str {f b : AL} {ρ : Str → Nat} (S : Sol f b ρ) {m : Nat} {p : PV} {x : Str} (h : Fo b m p (.str x)) : psub f p = .str x ∧ get f x = none := by
  have e := (S.dom x).mp h.end_
  exact ⟨by rw [← h.same S, free_im e], e⟩
theorem Fo.im_tup {f b : AL} {ρ : Str → Nat} (S : Sol f b ρ) {m : Nat} {p : PV} {w : Str} {r : List PV} (h : Fo b m p (.tup w r)) : psub f p = .tup w (subL (fn f) r) := by
  rw [← h.same S]; rfl
def BWf (mk : List (Str × Int)) (b : AL) : Prop := ∀ z t, get b z = some t → Wf mk t
theorem Fo.wf {mk : List (Str × Int)} {b : AL} (hb : BWf mk b) : ∀ {m : Nat} {p r : PV}, Fo b m p r → Wf mk p → Wf mk r
  | _, _, _, .tup _ _, h => h
  | _, _, _, .free _, h => h
  | _, _, _, .step e k, _ => k.wf hb (hb _ _ e)
theorem BWf.snoc {mk : List (Str × Int)} {b : AL} (hb : BWf mk b) {n : Str} {t : PV} (ht : Wf mk t) : BWf mk (b ++ [(n, t)]) := fun z u h => by
  rw [get_snoc] at h
  cases e : get b z with
  | some v =>
    rw [e] at h
    simp only [Option.some_or, Option.some.injEq] at h
    rw [← h]
    exact hb z v e
  | none =>
    rw [e] at h
    simp only [Option.none_or] at h
    split at h
    · cases h; exact ht
    · cases h
theorem szS_zip2 {f : AL} : ∀ {r s : List PV}, szS f (r.zip s) ≤ pszL (subL (fn f) r) + pszL (subL (fn f) s)
  | [], _ => by simp [szS]
  | _ :: _, [] => by simp [szS]
  | x :: r, y :: s => by
    have a := szS_zip2 (f := f) (r := r) (s := s)
    rw [List.zip_cons_cons]
    simp only [szS, pszL, subL]
    have e1 : psub f x = sub (fn f) x := rfl
    have e2 : psub f y = sub (fn f) y := rfl
    rw [e1, e2]; omega
theorem wf_len {mk : List (Str × Int)} {w : Str} {r s : List PV} (h : Wf mk (.tup w r)) (k : Wf mk (.tup w s)) : r.length = s.length := by
  have z := h.1.symm.trans k.1
  have := Option.some.inj z
  omega
theorem eq_step {mk : List (Str × Int)} {f b : AL} {ρ : Str → Nat} (S : Sol f b ρ) (hb : BWf mk b) {p q p' q' : PV} {m m' : Nat} (hp : Wf mk p) (hq : Wf mk q) (h : Fo b m p p') (k : Fo b m' q q') (e : psub f p = psub f q) :
    ∃ E, stepP mm p' q' b = some (E, b) ∧ (∀ pr ∈ E, psub f pr.1 = psub f pr.2) ∧ szS f E < psz (psub f p) + psz (psub f q) ∧ AllWf mk E := by
  have wp := h.wf hb hp
  have wq := k.wf hb hq
  by_cases pq : p' = q'
  · refine ⟨[], by unfold stepP; rw [if_pos pq], fun pr h => by simp at h, ?_, fun pr h => by simp at h⟩
    have := psz_pos (psub f p)
    simp only [szS]; omega
  · cases p' with
    | str x =>
      have a := (h.im_str S).1
      cases q' with
      | str y =>
        have c := (k.im_str S).1
        rw [e, c] at a
        exact absurd a.symm pq
      | tup w r =>
        have c := k.im_tup S
        rw [e, c] at a; cases a
    | tup w r =>
      have a := h.im_tup S
      cases q' with
      | str y =>
        have c := (k.im_str S).1
        rw [e, c] at a; cases a
      | tup w' s =>
        have c := k.im_tup S
        have e2 : PV.tup w' (subL (fn f) s) = PV.tup w (subL (fn f) r) := by rw [← c, ← e, a]
        obtain ⟨ew, er⟩ := PV.tup.inj e2
        subst ew
        have hl := wf_len wp wq
        refine ⟨r.zip s, by unfold stepP; rw [if_neg pq]; simp, ?_, ?_, WfL_zip wp.2.2 wq.2.2⟩
        · exact (subL_zip hl).mp er.symm
        · rw [a, c]
          have := szS_zip2 (f := f) (r := r) (s := s)
          simp only [psz]; omega
theorem be_zip {f : AL} (hi : Idem f) : ∀ {r s : List PV}, Be f (r.zip s) ((subL (fn f) r).zip (subL (fn f) s))
  | [], _ => .nil
  | _ :: _, [] => .nil
  | x :: r, y :: s => by
    simp only [subL, List.zip_cons_cons]
    exact .both (hi.fix x).symm (hi.fix y).symm (be_zip hi)
/-- what the two ways end with -/
def Match (mk : List (Str × Int)) (r res : Option AL) : Prop := (r = none ∧ res = none) ∨ ∃ g b ρ, r = some g ∧ res = some b ∧ Sol g b ρ ∧ BWf mk b
theorem sim (hm : MM mm) {mk : List (Str × Int)} : ∀ (n s : Nat) (f b : AL) (ρ : Str → Nat) (P L : List (PV × PV)) (r : Option AL), szS f P = s → Sol f b ρ → Good mk f → BWf mk b → Be f P L → AllWf mk P → AllWf mk L → runL mm n L f = some r → ∃ m res, Runs mm m P b res ∧ Match mk r res := by
  intro n
  induction n with
  | zero => intro s f b ρ P L r _ _ _ _ _ _ _ h; cases h
  | succ n ihn =>
    intro s
    induction s using Nat.strongRecOn with
    | _ s ihs =>
      intro f b ρ P L r es S G hb B hP hL h
      cases B with
      | nil =>
        simp only [runL, Option.some.injEq] at h
        subst h
        exact ⟨0, _, .nil b, .inr ⟨f, b, ρ, rfl, rfl, S, hb⟩⟩
      | @eq p q P L e B =>
        have w1 := hP _ (List.mem_cons_self ..)
        have hP' : AllWf mk P := fun x h => hP x (List.mem_cons_of_mem _ h)
        obtain ⟨m1, p', k1⟩ := S.fo p
        obtain ⟨m2, q', k2⟩ := S.fo q
        obtain ⟨E, he, hE, hs, hw⟩ := eq_step (mm := mm) (p := p) (q := q) S hb w1.1 w1.2 k1 k2 e
        have B2 : Be f (E.reverse ++ P) L := B.eqs fun pr hp => hE pr (List.mem_reverse.mp hp)
        have hP2 : AllWf mk (E.reverse ++ P) := fun x hx => by
          rcases List.mem_append.mp hx with hx | hx
          · exact hw x (List.mem_reverse.mp hx)
          · exact hP' x hx
        obtain ⟨m, res, R, M⟩ := ihs _ (by
          have e0 : szS f ((p, q) :: P) = psz (psub f p) + psz (psub f q) + szS f P := rfl
          rw [← es, e0, szS_append, szS_reverse]; omega) f b ρ _ L r rfl S G hb B2 hP2 hL h
        exact ⟨_, res, .go k1 k2 he R, M⟩
      | @both p q p2 q2 P L e e2 B =>
        have w1 := hP _ (List.mem_cons_self ..)
        have w2 := hL _ (List.mem_cons_self ..)
        have hP' : AllWf mk P := fun x h => hP x (List.mem_cons_of_mem _ h)
        have hL' : AllWf mk L := fun x h => hL x (List.mem_cons_of_mem _ h)
        obtain ⟨m1, p', k1⟩ := S.fo p
        obtain ⟨m2, q', k2⟩ := S.fo q
        simp only [runL] at h
        by_cases eq : psub f p = psub f q
        · obtain ⟨E, he, hE, hs, hw⟩ := eq_step (mm := mm) (p := p) (q := q) S hb w1.1 w1.2 k1 k2 eq
          have el : stepL mm p2 q2 f = some ([], f) := by
            unfold stepL
            rw [if_pos (by rw [← e, ← e2, eq])]
          rw [el] at h
          have B2 : Be f (E.reverse ++ P) L := B.eqs fun pr hp => hE pr (List.mem_reverse.mp hp)
          have hP2 : AllWf mk (E.reverse ++ P) := fun x hx => by
            rcases List.mem_append.mp hx with hx | hx
            · exact hw x (List.mem_reverse.mp hx)
            · exact hP' x hx
          obtain ⟨m, res, R, M⟩ := ihn _ f b ρ _ L r rfl S G hb B2 hP2 hL' h
          exact ⟨_, res, .go k1 k2 he R, M⟩
        · have wp := k1.wf hb w1.1
          have wq := k2.wf hb w1.2
          have nl : ¬ psub f p2 = psub f q2 := fun z => eq (by rw [e, e2, z])
          have np : ¬ p' = q' := fun z => eq (by rw [← k1.same S, ← k2.same S, z])
          -- a name is bound on both sides
          have bind : ∀ {x : Str} {t t' : PV}, get f x = none → (∀ y, t = .str y → get f y = none ∧ y ≠ x) → x ∉ lv (psub f t) → Wf mk t → t' = psub f t → runL mm n ([].reverse ++ L) (putIn f x t') = some r → stepP mm p' q' b = some ([], b ++ [(x, t)]) → ∃ m res, Runs mm m ((p, q) :: P) b res ∧ Match mk r res := by
            intro x t t' hx ht no wt et hrun hst
            subst et
            obtain ⟨ρ', S'⟩ := S.bind G.idem hx ht no
            have G' : Good mk (putIn f x (psub f t)) := ⟨G.idem.put hx fun y hy => ⟨G.idem.psub hy, fun z => no (by rw [← z]; exact hy)⟩, G.wf.put hx (G.wf.psub wt)⟩
            obtain ⟨m, res, R, M⟩ := ihn _ _ _ ρ' P L r rfl S' G' (hb.snoc wt) (B.put hx) hP' hL' (by simpa using hrun)
            exact ⟨_, res, .go k1 k2 hst (by simpa using R), M⟩
          unfold stepL at h
          rw [if_neg nl, ← e, ← e2] at h
          cases p' with
          | str x =>
            obtain ⟨a, fx⟩ := k1.im_str S
            rw [a] at h
            cases q' with
            | str y =>
              obtain ⟨c, fy⟩ := k2.im_str S
              rw [c] at h
              have nxy : x ≠ y := fun z => np (by rw [z])
              have hst : stepP mm (.str x) (.str y) b = some ([], b ++ [((mm x y).1, .str (mm x y).2)]) := by unfold stepP; rw [if_neg np]
              simp only at h
              rcases hm x y with z | z
              · rw [z] at h hst
                exact bind (t := .str y) fx (fun y' q => by cases q; exact ⟨fy, Ne.symm nxy⟩) (by rw [free_im fy]; simpa [lv] using nxy) trivial (free_im fy).symm h hst
              · rw [z] at h hst
                exact bind (t := .str x) fy (fun y' q => by cases q; exact ⟨fx, nxy⟩) (by rw [free_im fx]; simpa [lv] using Ne.symm nxy) trivial (free_im fx).symm h hst
            | tup w s =>
              have c := k2.im_tup S
              rw [c] at h
              simp only at h
              have cc : psub f (.tup w s) = .tup w (subL (fn f) s) := rfl
              by_cases o : x ∈ lv (PV.tup w (subL (fn f) s))
              · rw [if_pos o] at h
                simp only [Option.some.injEq] at h
                subst h
                have oc := Occ.of S fx _ (.tup w s) (Nat.le_refl _) (fun _ q => by cases q) (by rw [cc]; exact o)
                exact ⟨0, none, .fail k1 k2 (by unfold stepP; rw [if_neg np]; simp only [if_pos oc]), .inl ⟨rfl, rfl⟩⟩
              · rw [if_neg o] at h
                simp only at h
                have no : ¬ Occ b x (.tup w s) := fun q => o (by rw [← cc]; exact q.names S)
                exact bind (t := .tup w s) fx (fun y' q => by cases q) (by rw [cc]; exact o) wq cc.symm h (by unfold stepP; rw [if_neg np]; simp only [if_neg no])
          | tup w r1 =>
            have a := k1.im_tup S
            rw [a] at h
            cases q' with
            | str x =>
              obtain ⟨c, fx⟩ := k2.im_str S
              rw [c] at h
              simp only at h
              have cc : psub f (.tup w r1) = .tup w (subL (fn f) r1) := rfl
              by_cases o : x ∈ lv (PV.tup w (subL (fn f) r1))
              · rw [if_pos o] at h
                simp only [Option.some.injEq] at h
                subst h
                have oc := Occ.of S fx _ (.tup w r1) (Nat.le_refl _) (fun _ q => by cases q) (by rw [cc]; exact o)
                exact ⟨0, none, .fail k1 k2 (by unfold stepP; rw [if_neg np]; simp only [if_pos oc]), .inl ⟨rfl, rfl⟩⟩
              · rw [if_neg o] at h
                simp only at h
                have no : ¬ Occ b x (.tup w r1) := fun q => o (by rw [← cc]; exact q.names S)
                exact bind (t := .tup w r1) fx (fun y' q => by cases q) (by rw [cc]; exact o) wp cc.symm h (by unfold stepP; rw [if_neg np]; simp only [if_neg no])
            | tup w' s =>
              have c := k2.im_tup S
              rw [c] at h
              simp only at h
              by_cases ew : w = w'
              · subst ew
                rw [if_pos rfl] at h
                simp only at h
                have hl := wf_len wp wq
                have hst : stepP mm (.tup w r1) (.tup w s) b = some (r1.zip s, b) := by unfold stepP; rw [if_neg np]; simp
                have B2 : Be f ((r1.zip s).reverse ++ P) (((subL (fn f) r1).zip (subL (fn f) s)).reverse ++ L) := B.app (Be.rev (be_zip G.idem))
                have hP2 : AllWf mk ((r1.zip s).reverse ++ P) := fun x hx => by
                  rcases List.mem_append.mp hx with hx | hx
                  · exact WfL_zip wp.2.2 wq.2.2 x (List.mem_reverse.mp hx)
                  · exact hP' x hx
                have hL2 : AllWf mk (((subL (fn f) r1).zip (subL (fn f) s)).reverse ++ L) := fun x hx => by
                  rcases List.mem_append.mp hx with hx | hx
                  · exact WfL_zip (subL_wf G.wf wp.2.2) (subL_wf G.wf wq.2.2) x (List.mem_reverse.mp hx)
                  · exact hL' x hx
                obtain ⟨m, res, R, M⟩ := ihn _ f b ρ _ _ r rfl S G hb B2 hP2 hL2 h
                exact ⟨_, res, .go k1 k2 hst R, M⟩
              · rw [if_neg ew] at h
                simp only [Option.some.injEq] at h
                subst h
                exact ⟨0, none, .fail k1 k2 (by unfold stepP; rw [if_neg np]; simp only [if_neg ew]), .inl ⟨rfl, rfl⟩⟩
end
end Kx
namespace Kx
open PySem PySem.Spec PyProof.Rows L2
/-! ### max and min of two texts -/
def nmAt (x y : Str) : Nat → Str := fun i => if i = 0 then x else y
theorem cmp_gtS {prog : Program} {w : World} {A : Around} {P : Nat → Value → Prop} (nm : Nat → Str) (hu : A.units < cLine) (hv : ∀ i v, P i v → ∃ t, v = .str (nm i) t) :
    CmpOf prog w A .Gt P (fun i j => PySem.W.dataLt (.str (nm j)) (.str (nm i))) := fun i j vi vj s Q E hi hj h => by
  obtain ⟨t, rfl⟩ := hv i vi hi
  obtain ⟨u, rfl⟩ := hv j vj hj
  exact PySem.W.rcGt_alike (.str (nm i)) (.str (nm j)) A s _ _ _ _ (.str _ _) (.str _ _) (by simp [PySem.W.alike]) (fun e => by cases e) (by simpa [PyData.depth] using hu) prog w E Q h
theorem cmp_ltS {prog : Program} {w : World} {A : Around} {P : Nat → Value → Prop} (nm : Nat → Str) (hu : A.units < cLine) (hv : ∀ i v, P i v → ∃ t, v = .str (nm i) t) :
    CmpOf prog w A .Lt P (fun i j => PySem.W.dataLt (.str (nm i)) (.str (nm j))) := fun i j vi vj s Q E hi hj h => by
  obtain ⟨t, rfl⟩ := hv i vi hi
  obtain ⟨u, rfl⟩ := hv j vj hj
  exact PySem.W.rcLt_alike (.str (nm i)) (.str (nm j)) A s _ _ _ _ (.str _ _) (.str _ _) (by simp [PySem.W.alike]) (fun e => by cases e) (by simpa [PyData.depth] using hu) prog w E Q h
theorem two_items {x y : Str} {t u : Tok} {i : Nat} {v : Value} (h : (#[Value.str x t, Value.str y u])[i]? = some v) : ∃ t, v = .str (nmAt x y i) t := by
  rcases i with _ | _ | i
  · simp at h; exact ⟨t, h.symm⟩
  · simp at h; exact ⟨u, h.symm⟩
  · simp at h
/-- x before y -/
def ltS (x y : Str) : Bool := PySem.W.dataLt (.str x) (.str y)
section
variable {prog : Program} {w : World} {A : Around} {E : Value → Shared → Prop} {s : Shared}
/-- what two new objects and one that changes leave as it was -/
theorem old_stays {h h' : Heap} {o1 o2 : Obj} (k : ∀ b o, b ∉ [(h.push o1).objs.size] → ((h.push o1).push o2).get? b = some o → h'.get? b = some o) {c : Addr} {o : Obj} (e : h.get? c = some o) : h'.get? c = some o := by
  have small := Heap.lt_size e
  have big : (h.push o1).objs.size = h.objs.size + 1 := Heap.size_push ..
  apply k
  · rw [List.mem_singleton, big]; exact fun z => Nat.lt_irrefl _ (Nat.lt_of_succ_lt (z ▸ small))
  · exact Heap.get?_push_of_some o2 (Heap.get?_push_of_some o1 e)
theorem both_in {h : Heap} {o1 o2 : Obj} : ∀ b ∈ [(h.push o1).objs.size, h.objs.size], b < ((h.push o1).push o2).objs.size := by
  intro b hb
  have big : (h.push o1).objs.size = h.objs.size + 1 := Heap.size_push ..
  have bigger : ((h.push o1).push o2).objs.size = (h.push o1).objs.size + 1 := Heap.size_push ..
  simp only [List.mem_cons, List.not_mem_nil, or_false] at hb
  rcases hb with z | z <;> omega
abbrev twoObj (a b : Str) (t u : Tok) : Obj := { cls := .type "tuple", data := .seq #[.str a t, .str b u] }
theorem two_tup {h : Heap} (a b : Str) (t u : Tok) : (h.push (twoObj a b t u)).IsTuple h.objs.size #[.str a t, .str b u] := ⟨twoObj a b t u, Heap.get?_push_size _ rfl, rfl, 0, rfl⟩
/-- the best of the two places -/
theorem best_two {a b : Str} {t u : Tok} {v : Value} (bt : Nat → Nat → Bool) (h : (#[Value.str a t, Value.str b u])[argBest bt 1]? = some v) : v = if bt 1 0 = true then .str b u else .str a t := by
  cases q : bt 1 0 with
  | true =>
    have e : argBest bt 1 = 1 := by simp [argBest, q]
    rw [e] at h
    simpa using h.symm
  | false =>
    have e : argBest bt 1 = 0 := by simp [argBest, q]
    rw [e] at h
    simpa using h.symm
theorem max_two_strs {a b : Str} {t u : Tok} {Q : Value → Shared → Prop} (calm : A.handled = none) (room : A.in1.units < cLine)
    (fin : ∀ h' tk, (∀ c o, s.heap.get? c = some o → h'.get? c = some o) → Q (if ltS a b = true then .str b u else .str a t) { s with heap := h', toks := tk }) :
    wpAny (model prog w) A (call (.builtin "max") [.str a t, .str b u]) Q E s := by
  have T := two_tup (h := s.heap) a b t u
  have apart : (s.heap.push (twoObj a b t u)).objs.size ≠ s.heap.objs.size := by rw [Heap.size_push]; omega
  refine call_max_two (wpAny_pyIter_tuple T ⟨_, [_, s.heap.objs.size], [_], _, _, _, _, rfl, Walks.tuple (A := A.in1) calm _ s.heap.objs.size apart.symm _, ⟨⟨_, Heap.get?_push_size _ rfl, rfl, rfl⟩, T.push _⟩, both_in, Nat.zero_lt_two, cmp_gtS (nmAt a b) room (fun _ _ => two_items), fun v h' tk place kept => ?_⟩)
  rw [best_two _ place]
  exact fin h' tk fun c o => old_stays kept
theorem min_two_strs {a b : Str} {t u : Tok} {Q : Value → Shared → Prop} (calm : A.handled = none) (room : A.in1.units < cLine)
    (fin : ∀ h' tk, (∀ c o, s.heap.get? c = some o → h'.get? c = some o) → Q (if ltS b a = true then .str b u else .str a t) { s with heap := h', toks := tk }) :
    wpAny (model prog w) A (call (.builtin "min") [.str a t, .str b u]) Q E s := by
  have T := two_tup (h := s.heap) a b t u
  have apart : (s.heap.push (twoObj a b t u)).objs.size ≠ s.heap.objs.size := by rw [Heap.size_push]; omega
  refine call_min_two (wpAny_pyIter_tuple T ⟨_, [_, s.heap.objs.size], [_], _, _, _, _, rfl, Walks.tuple (A := A.in1) calm _ s.heap.objs.size apart.symm _, ⟨⟨_, Heap.get?_push_size _ rfl, rfl, rfl⟩, T.push _⟩, both_in, Nat.zero_lt_two, cmp_ltS (nmAt a b) room (fun _ _ => two_items), fun v h' tk place kept => ?_⟩)
  rw [best_two _ place]
  exact fin h' tk fun c o => old_stays kept
end
section
variable {X : Cx}
theorem call_maxS (hc : X.calm = true) (hu : X.A.units + 64 < cLine) : CallR X (.builtin "max") (fun xs H Q => ∃ x y, xs = [.str x, .str y] ∧ Q (.str (if ltS x y = true then y else x)) H) := by
  intro pins s σ H xs us Q I r h
  obtain ⟨x, y, rfl, q⟩ := h
  obtain ⟨u, w', rfl, ⟨t, rfl⟩, ⟨t', rfl⟩⟩ := vals2 r
  refine max_two_strs (I.ok.hd hc) (by show X.A.units + 1 < cLine; omega) fun h' tk k => ⟨_, H, I.kept k, ?_, q⟩
  by_cases hj : ltS x y = true
  · rw [if_pos hj, if_pos hj]; exact ⟨_, rfl⟩
  · rw [if_neg hj, if_neg hj]; exact ⟨_, rfl⟩
theorem call_minS (hc : X.calm = true) (hu : X.A.units + 64 < cLine) : CallR X (.builtin "min") (fun xs H Q => ∃ x y, xs = [.str x, .str y] ∧ Q (.str (if ltS y x = true then y else x)) H) := by
  intro pins s σ H xs us Q I r h
  obtain ⟨x, y, rfl, q⟩ := h
  obtain ⟨u, w', rfl, ⟨t, rfl⟩, ⟨t', rfl⟩⟩ := vals2 r
  refine min_two_strs (I.ok.hd hc) (by show X.A.units + 1 < cLine; omega) fun h' tk k => ⟨_, H, I.kept k, ?_, q⟩
  by_cases hj : ltS y x = true
  · rw [if_pos hj, if_pos hj]; exact ⟨_, rfl⟩
  · rw [if_neg hj, if_neg hj]; exact ⟨_, rfl⟩
/-! ### == of data that are nested deeper than 64 -/
def deep (d : PyData) : Bool := d.canLay0 && decide (d.depth ≤ 190)
def rEqDD (K : PySem.W.Frag) : R2 := fun x y H Q => ∃ d e, Dp K H x d ∧ Dp K H y e ∧ deep d = true ∧ deep e = true ∧ Q (.bl (PyData.eqv d e)) H
def rNeDD (K : PySem.W.Frag) : R2 := fun x y H Q => ∃ d e, Dp K H x d ∧ Dp K H y e ∧ deep d = true ∧ deep e = true ∧ Q (.bl (!PyData.eqv d e)) H
theorem deep_lay {d : PyData} (h : deep d = true) : d.canLay0 = true := (Bool.and_eq_true_iff.mp h).1
theorem deep_le {d : PyData} (h : deep d = true) : d.depth ≤ 190 := of_decide_eq_true (Bool.and_eq_true_iff.mp h).2
theorem op_eqDD (hu : X.A.units + 200 < cLine) : OpR X (compareOp .Eq) (rEqDD X.K) := by
  intro pins s σ H x y v u Q I rx ry h
  obtain ⟨d, e, hd, he, sd, se, q⟩ := h
  obtain ⟨as, r1⟩ := Dp.reads I d x v hd rx
  obtain ⟨bs, r2⟩ := Dp.reads I e y u he ry
  exact SeqAt.compareEq_reads r1 r2 (deep_lay sd) (deep_lay se) (by have := deep_le sd; have := Nat.min_le_left d.depth e.depth; omega) ⟨.bl _, H, I, rfl, q⟩
theorem op_neDD (hu : X.A.units + 200 < cLine) : OpR X (compareOp .NotEq) (rNeDD X.K) := by
  intro pins s σ H x y v u Q I rx ry h
  obtain ⟨d, e, hd, he, sd, se, q⟩ := h
  obtain ⟨as, r1⟩ := Dp.reads I d x v hd rx
  obtain ⟨bs, r2⟩ := Dp.reads I e y u he ry
  exact SeqAt.compareNe_reads r1 r2 (deep_lay sd) (deep_lay se) (by have := deep_le sd; have := Nat.min_le_left d.depth e.depth; omega) ⟨.bl _, H, I, rfl, q⟩
theorem units200 {k : Nat} {A : Around} (r : Room k A) : A.units + 200 < cLine := by have := r.un; omega
end
/-- max and min of two different texts are the two -/
theorem mm_two {x y : Str} (h : x ≠ y) : (ltS x y = true ∧ ltS y x = false) ∨ (ltS x y = false ∧ ltS y x = true) := by
  unfold ltS
  rw [PySem.W.dataLt_str, PySem.W.dataLt_str]
  have n : x.cps.toList ≠ y.cps.toList := fun e => h (PySem.W.str_of_cps e)
  by_cases l : x.cps.toList < y.cps.toList
  · exact .inl ⟨decide_eq_true l, decide_eq_false (List.lt_asymm l)⟩
  · have r : y.cps.toList < x.cps.toList := by
      rcases List.le_iff_lt_or_eq.mp (List.not_lt.mp l) with r | r
      · exact r
      · exact absurd r.symm n
    exact .inr ⟨decide_eq_false l, decide_eq_true r⟩
end Kx
/-! The heap: what stands for a tree; the promises of the defs. -/
namespace Kx
open PySem PySem.Spec PyProof.Rows L2
/-- all its signs are signs -/
abbrev sok (z : Str) : Bool := PyData.strOk z
mutual
def dep : PV → Nat
  | .str _ => 1
  | .tup _ ts => 1 + depL ts
def depL : List PV → Nat
  | [] => 1
  | t :: r => max (dep t) (depL r)
end
theorem dep_pos : ∀ t : PV, 1 ≤ dep t
  | .str _ => by simp [dep]
  | .tup _ ts => by simp [dep]
theorem depL_mem : ∀ {l : List PV} {t : PV}, t ∈ l → dep t ≤ depL l
  | a :: r, t, h => by
    rcases List.mem_cons.mp h with rfl | h
    · simp only [depL]; omega
    · have := depL_mem h
      simp only [depL]; omega
theorem depL_le {l : List PV} {c : Nat} (hc : 1 ≤ c) (h : ∀ t ∈ l, dep t ≤ c) : depL l ≤ c := by
  induction l with
  | nil => simpa [depL] using hc
  | cons t r ih =>
    have a := h t (List.mem_cons_self ..)
    have b := ih fun x hx => h x (List.mem_cons_of_mem _ hx)
    simp only [depL]; omega
mutual
def toD : PV → PyData
  | .str z => .str z
  | .tup w ts => .tuple (.str w :: toDL ts)
def toDL : List PV → List PyData
  | [] => []
  | t :: r => toD t :: toDL r
end
mutual
theorem eqv_eq : ∀ {a b : PV}, PyData.eqv (toD a) (toD b) = true → a = b
  | .str x, .str y, h => by simp only [toD, PyData.eqv, beq_iff_eq] at h; rw [h]
  | .str x, .tup _ _, h => by simp [toD, PyData.eqv] at h
  | .tup _ _, .str y, h => by simp [toD, PyData.eqv] at h
  | .tup w xs, .tup w' ys, h => by
    simp only [toD, PyData.eqv, PyData.eqvAll, Bool.and_eq_true, beq_iff_eq] at h
    rw [h.1, eqvL_eq h.2]
theorem eqvL_eq : ∀ {a b : List PV}, PyData.eqvAll (toDL a) (toDL b) = true → a = b
  | [], [], _ => rfl
  | [], _ :: _, h => by simp [toDL, PyData.eqvAll] at h
  | _ :: _, [], h => by simp [toDL, PyData.eqvAll] at h
  | x :: r, y :: s, h => by
    simp only [toDL, PyData.eqvAll, Bool.and_eq_true] at h
    rw [eqv_eq h.1, eqvL_eq h.2]
end
mutual
theorem eqv_self : ∀ a : PV, PyData.eqv (toD a) (toD a) = true
  | .str x => by simp [toD, PyData.eqv]
  | .tup w xs => by simp only [toD, PyData.eqv, PyData.eqvAll, eqvL_self xs, Bool.and_true]; simp
theorem eqvL_self : ∀ a : List PV, PyData.eqvAll (toDL a) (toDL a) = true
  | [] => by simp [toDL, PyData.eqvAll]
  | x :: r => by simp only [toDL, PyData.eqvAll, eqv_self x, eqvL_self r, Bool.and_self]
end
theorem eqv_iff {a b : PV} : PyData.eqv (toD a) (toD b) = true ↔ a = b := ⟨eqv_eq, fun e => by rw [e]; exact eqv_self b⟩
mutual
theorem toD_depth : ∀ t : PV, (toD t).depth ≤ dep t
  | .str _ => by simp [toD, PyData.depth]
  | .tup w ts => by
    have := toDL_depth ts
    simp only [toD, PyData.depth, PyData.depthAll, dep]; omega
theorem toDL_depth : ∀ l : List PV, PyData.depthAll (toDL l) ≤ depL l
  | [] => by simp [toDL, PyData.depthAll]
  | t :: r => by
    have a := toD_depth t
    have b := toDL_depth r
    simp only [toDL, PyData.depthAll, depL]; omega
end
mutual
/-- the value v stands for the tree -/
inductive Is (H : Hp) : V → PV → Prop
  | str (z : Str) (ok : sok z = true) : Is H (.str z) (.str z)
  | tup {a : Addr} {w : Str} {vs : List V} {ts : List PV} (e : H a = some (.tup (.str w :: vs))) (k : sok w = true) (h : IsL H vs ts) : Is H (.ref a) (.tup w ts)
inductive IsL (H : Hp) : List V → List PV → Prop
  | nil : IsL H [] []
  | cons {v : V} {vs : List V} {t : PV} {ts : List PV} (h : Is H v t) (r : IsL H vs ts) : IsL H (v :: vs) (t :: ts)
end
/-- all but the list at d stands; that one is a list still -/
structure Ex (d : Addr) (H H' : Hp) : Prop where
  but : ∀ b o, b ≠ d → H b = some o → H' b = some o
  lst : (∃ xs, H d = some (.lst xs)) → ∃ xs, H' d = some (.lst xs)
theorem Ex.refl (d : Addr) (H : Hp) : Ex d H H := ⟨fun _ _ _ h => h, fun h => h⟩
theorem Ex.trans {d : Addr} {H H1 H2 : Hp} (a : Ex d H H1) (b : Ex d H1 H2) : Ex d H H2 := ⟨fun c o n h => b.but c o n (a.but c o n h), fun h => b.lst (a.lst h)⟩
theorem Ex.of {d : Addr} {H H' : Hp} (s : Same H H') : Ex d H H' := ⟨fun b o _ h => s b o h, fun ⟨xs, h⟩ => ⟨xs, s _ _ h⟩⟩
theorem Ex.new {d p : Addr} {H : Hp} (h : H p = none) (o : HO) : Ex d H (upd H p o) := .of fun b u e => by rw [upd_ne (ne_of_none e h)]; exact e
theorem Ex.set {d : Addr} {H : Hp} (xs : List V) : Ex d H (upd H d (.lst xs)) := ⟨fun b o n h => by rw [upd_ne n]; exact h, fun _ => ⟨xs, upd_same⟩⟩
theorem Ex.keep {d b : Addr} {H H' : Hp} {o : HO} (x : Ex d H H') (e : H b = some o) (hd : ∃ xs, H d = some (.lst xs)) (ho : ∀ xs, o ≠ .lst xs) : H' b = some o := by
  refine x.but b o (fun q => ?_) e
  subst q
  obtain ⟨xs, h⟩ := hd
  rw [e] at h
  cases h
  exact ho xs rfl
mutual
theorem Is.ex {d : Addr} {H H' : Hp} (x : Ex d H H') (hd : ∃ xs, H d = some (.lst xs)) : ∀ {v : V} {t : PV}, Is H v t → Is H' v t
  | _, _, .str z k => .str z k
  | _, _, .tup e k h => .tup (x.keep e hd fun xs q => by cases q) k (IsL.ex x hd h)
theorem IsL.ex {d : Addr} {H H' : Hp} (x : Ex d H H') (hd : ∃ xs, H d = some (.lst xs)) : ∀ {v : List V} {t : List PV}, IsL H v t → IsL H' v t
  | _, _, .nil => .nil
  | _, _, .cons h r => .cons (Is.ex x hd h) (IsL.ex x hd r)
end
mutual
theorem Is.same {H H' : Hp} (x : Same H H') : ∀ {v : V} {t : PV}, Is H v t → Is H' v t
  | _, _, .str z k => .str z k
  | _, _, .tup e k h => .tup (x _ _ e) k (IsL.same x h)
theorem IsL.same {H H' : Hp} (x : Same H H') : ∀ {v : List V} {t : List PV}, IsL H v t → IsL H' v t
  | _, _, .nil => .nil
  | _, _, .cons h r => .cons (Is.same x h) (IsL.same x r)
end
theorem same_upd {H : Hp} {p : Addr} (h : H p = none) (o : HO) : Same H (upd H p o) := fun b u e => by rw [upd_ne (ne_of_none e h)]; exact e
theorem IsL.len {H : Hp} : ∀ {v : List V} {t : List PV}, IsL H v t → v.length = t.length
  | _, _, .nil => rfl
  | _, _, .cons _ r => by simp [IsL.len r]
theorem IsL.get {H : Hp} : ∀ {v : List V} {t : List PV}, IsL H v t → ∀ {i : Nat} {x : V}, v[i]? = some x → ∃ y, t[i]? = some y ∧ Is H x y
  | _, _, .nil, i, x, h => by simp at h
  | _, _, .cons h r, 0, x, e => by cases (Option.some.inj e); exact ⟨_, rfl, h⟩
  | _, _, .cons h r, i + 1, x, e => IsL.get r (by simpa using e)
theorem IsL.append {H : Hp} : ∀ {v : List V} {t : List PV} {v' : List V} {t' : List PV}, IsL H v t → IsL H v' t' → IsL H (v ++ v') (t ++ t')
  | _, _, _, _, .nil, h => h
  | _, _, _, _, .cons a r, h => .cons a (r.append h)
theorem IsL.take {H : Hp} : ∀ (n : Nat) {v : List V} {t : List PV}, IsL H v t → IsL H (v.take n) (t.take n)
  | 0, _, _, _ => .nil
  | n + 1, _, _, .nil => .nil
  | n + 1, _, _, .cons a r => .cons a (r.take n)
theorem IsL.drop {H : Hp} : ∀ (n : Nat) {v : List V} {t : List PV}, IsL H v t → IsL H (v.drop n) (t.drop n)
  | 0, _, _, h => h
  | n + 1, _, _, .nil => .nil
  | n + 1, _, _, .cons a r => r.drop n
theorem IsL.reverse {H : Hp} : ∀ {v : List V} {t : List PV}, IsL H v t → IsL H v.reverse t.reverse
  | _, _, .nil => .nil
  | _, _, .cons a r => by simp only [List.reverse_cons]; exact r.reverse.append (.cons a .nil)
theorem IsL.snoc_inv {H : Hp} {v : List V} {t : List PV} {x : V} (h : IsL H v t) (e : v[v.length - 1]? = some x) (hn : v ≠ []) : ∃ ts y, t = ts ++ [y] ∧ Is H x y ∧ IsL H v.dropLast ts := by
  have hl := h.len
  have hv : 0 < v.length := by cases v with | nil => exact absurd rfl hn | cons _ _ => simp
  obtain ⟨y, e2, hy⟩ := h.get e
  refine ⟨t.take (t.length - 1), y, ?_, hy, ?_⟩
  · have : t.length - 1 < t.length := by omega
    have e3 : t[t.length - 1]'this = y := by
      rw [hl, List.getElem?_eq_getElem this] at e2
      exact Option.some.inj e2
    have h2 := List.take_append_drop (t.length - 1) t
    have h3 : t.drop (t.length - 1) = [y] := by
      rw [List.drop_eq_getElem_cons this, e3, List.drop_eq_nil_of_le (by omega)]
    rw [h3] at h2
    exact h2.symm
  · rw [List.dropLast_eq_take, hl]
    exact h.take _
mutual
theorem Is.lay {H : Hp} : ∀ {v : V} {t : PV}, Is H v t → (toD t).canLay0 = true
  | _, _, .str z k => by simp only [toD, PyData.canLay0]; exact k
  | _, _, .tup e k h => by simp only [toD, PyData.canLay0, PyData.canLayAll0]; rw [IsL.lay h, Bool.and_true]; exact k
theorem IsL.lay {H : Hp} : ∀ {v : List V} {t : List PV}, IsL H v t → PyData.canLayAll0 (toDL t) = true
  | _, _, .nil => by simp [toDL, PyData.canLayAll0]
  | _, _, .cons h r => by simp only [toDL, PyData.canLayAll0, Is.lay h, IsL.lay r, Bool.and_self]
end
mutual
theorem Is.dp {K : PySem.W.Frag} {H : Hp} : ∀ {v : V} {t : PV}, Is H v t → Dp K H v (toD t)
  | _, _, .str z k => by simp only [toD]; exact .str z
  | _, _, .tup e k h => by simp only [toD]; exact .tup (.inl (.inl e)) (.cons (.str _) (IsL.dp h))
theorem IsL.dp {K : PySem.W.Frag} {H : Hp} : ∀ {v : List V} {t : List PV}, IsL H v t → DpAll K H v (toDL t)
  | _, _, .nil => by simp only [toDL]; exact .nil
  | _, _, .cons h r => by simp only [toDL]; exact .cons (Is.dp h) (IsL.dp r)
end
theorem Is.str_inv {H : Hp} {v : V} {z : Str} (h : Is H v (.str z)) : v = .str z := by cases h; rfl
theorem Is.tup_inv {H : Hp} {v : V} {w : Str} {ts : List PV} (h : Is H v (.tup w ts)) : ∃ a vs, v = .ref a ∧ H a = some (.tup (.str w :: vs)) ∧ IsL H vs ts ∧ sok w = true := by
  cases h with
  | tup e k h => exact ⟨_, _, rfl, e, h, k⟩
/-! ### isinstance -/
def tyOf : PV → Value → Prop := fun t u => match t with
  | .str _ => u = .type "str"
  | .tup _ _ => u = .type "tuple"
theorem Is.ty {K : PySem.W.Frag} {H : Hp} {v : V} {t : PV} (h : Is H v t) : ∃ u, TyX K H v u ∧ tyOf t u := by
  cases h with
  | str z _ => exact ⟨_, .base (.str z), rfl⟩
  | tup e _ h => exact ⟨_, .base (.tup e), rfl⟩
def isStr : PV → Bool
  | .str _ => true
  | _ => false
def isTup : PV → Bool
  | .tup _ _ => true
  | _ => false
theorem kit_str {K : PySem.W.Frag} {t : PV} {u : Value} (h : tyOf t u) : PySem.W.kitOne K u (.type "str") = some (isStr t) := by
  cases t with
  | str z => cases h; exact kit_ty (show kitB "str" "str" = some true by decide +kernel)
  | tup w ts => cases h; exact kit_ty (show kitB "tuple" "str" = some false by decide +kernel)
theorem kit_tup {K : PySem.W.Frag} {t : PV} {u : Value} (h : tyOf t u) : PySem.W.kitOne K u (.type "tuple") = some (isTup t) := by
  cases t with
  | str z => cases h; exact kit_ty (show kitB "str" "tuple" = some false by decide +kernel)
  | tup w ts => cases h; exact kit_ty (show kitB "tuple" "tuple" = some true by decide +kernel)
/-! ### makers -/
structure MkOk (mk : List (Str × Int)) : Prop where
  nd : (mk.map (·.1)).Nodup
  zero : ∃ kv ∈ mk, kv.2 = 0
  low : ∀ kv ∈ mk, 0 ≤ kv.2 ∧ kv.2 ≤ 2
  len : mk.length ≤ 5
  good : ∀ kv ∈ mk, PyData.strOk kv.1 = true
  zz : (Str.ofString "zero", (0 : Int)) ∈ mk
def mkV (kv : Str × Int) : List V := [.str kv.1, .int kv.2]
structure Mk (H : Hp) (a : Addr) (mk : List (Str × Int)) : Prop where
  at_ : ∃ (o : Obj) (ps : List Addr), H a = some (.frz o (.tup (ps.map V.ref))) ∧ o.dict = none ∧ Paired (fun p kv => H p = some (.tup (mkV kv))) ps mk
  ok : MkOk mk
theorem Paired.imp {α β : Type} {F G : α → β → Prop} : ∀ {l : List α} {m : List β}, Paired F l m → (∀ a b, F a b → G a b) → Paired G l m
  | _, _, .nil, _ => .nil
  | _, _, .cons h t, f => .cons (f _ _ h) (Paired.imp t f)
theorem Mk.same {H H' : Hp} {a : Addr} {mk : List (Str × Int)} (x : Same H H') (h : Mk H a mk) : Mk H' a mk := by
  obtain ⟨⟨o, ps, e, d, p⟩, k⟩ := h
  exact ⟨⟨o, ps, x _ _ e, d, Paired.imp p fun _ _ q => x _ _ q⟩, k⟩
theorem Mk.ex {d : Addr} {H H' : Hp} {a : Addr} {mk : List (Str × Int)} (x : Ex d H H') (hd : ∃ xs, H d = some (.lst xs)) (h : Mk H a mk) : Mk H' a mk := by
  obtain ⟨⟨o, ps, e, dn, p⟩, k⟩ := h
  exact ⟨⟨o, ps, x.keep e hd (fun _ q => by cases q), dn, Paired.imp p fun _ _ q => x.keep q hd (fun _ q => by cases q)⟩, k⟩
/-! ### draws -/
def Dr (H : Hp) (d sa : Addr) : Prop := ∃ (ns : List Int) (i c m : Int), H d = some (.lst [.ref sa, .int i, .int c, .int m]) ∧ H sa = some (.lst (ns.map V.int)) ∧ sa ≠ d ∧ 0 ≤ i ∧ 0 ≤ c ∧ 0 ≤ m ∧ m < 2147483648 ∧ ns.length ≤ 63
theorem Dr.lst {H : Hp} {d sa : Addr} (h : Dr H d sa) : ∃ xs, H d = some (.lst xs) := by
  obtain ⟨ns, i, c, m, e, _⟩ := h
  exact ⟨_, e⟩
theorem Dr.same {H H' : Hp} {d sa : Addr} (x : Same H H') (h : Dr H d sa) : Dr H' d sa := by
  obtain ⟨ns, i, c, m, e, e2, r⟩ := h
  exact ⟨ns, i, c, m, x _ _ e, x _ _ e2, r⟩
theorem Dr.own {H : Hp} {d sa l : Addr} {o : HO} (h : Dr H d sa) (n1 : l ≠ d) (n2 : l ≠ sa) : Dr (upd H l o) d sa := by
  obtain ⟨ns, i, c, m, e, e2, r⟩ := h
  exact ⟨ns, i, c, m, by rw [upd_ne n1.symm]; exact e, by rw [upd_ne n2.symm]; exact e2, r⟩
theorem Dr.free {H H1 : Hp} {d sa l : Addr} (h : Dr H d sa) (n : H l = none) : l ≠ d ∧ l ≠ sa := by
  obtain ⟨ns, i, c, m, e, e2, r⟩ := h
  exact ⟨(ne_of_none e n).symm, (ne_of_none e2 n).symm⟩
theorem Ex.own {d l : Addr} {H H1 : Hp} (x : Ex d H H1) (hl : H l = none) (o : HO) : Ex d H (upd H1 l o) :=
  ⟨fun b u n h => by rw [upd_ne (ne_of_none h hl)]; exact x.but b u n h, fun h => by
    obtain ⟨xs, e⟩ := h
    rw [upd_ne (ne_of_none e hl)]
    exact x.lst ⟨xs, e⟩⟩
theorem Same.own {l : Addr} {H H1 : Hp} (x : Same H H1) (hl : H l = none) (o : HO) : Same H (upd H1 l o) := fun b u h => by rw [upd_ne (ne_of_none h hl)]; exact x b u h
def spDraws (K : PySem.W.Frag) : Sp := fun vs H Q _ => ∃ (a : Addr) (ns : List Int), vs = [.ref a] ∧ SqL K H a (ns.map V.int) ∧ ns.length ≤ 63 ∧ ∀ d sa H', Same H H' → Dr H' d sa → Q (.ref d) H'
def spDraw : Sp := fun vs H Q _ => ∃ (d sa : Addr) (n : Int), vs = [.ref d, .int n] ∧ Dr H d sa ∧ 1 ≤ n ∧ n ≤ 1000 ∧ ∀ (r : Int) H', 0 ≤ r → r < n → Ex d H H' → Dr H' d sa → Q (.int r) H'
def spPick (K : PySem.W.Frag) : Sp := fun vs H Q _ => ∃ (d sa p : Addr) (xs : List V), vs = [.ref d, .ref p] ∧ Dr H d sa ∧ (H p = some (.lst xs) ∨ SqT K H p xs) ∧ p ≠ d ∧ 1 ≤ xs.length ∧ xs.length ≤ 1000 ∧ ∀ (x : V) H', x ∈ xs → Ex d H H' → Dr H' d sa → Q x H'
def spMakers : Sp := fun vs H Q _ => ∃ (d sa : Addr), vs = [.ref d] ∧ Dr H d sa ∧ ∀ a H' mk, Mk H' a mk → Ex d H H' → Dr H' d sa → Q (.ref a) H'
/-- all tuples stand -/
def KeepT (H H' : Hp) : Prop := ∀ b vs, H b = some (.tup vs) → H' b = some (.tup vs)
mutual
theorem Is.keep {H H' : Hp} (x : KeepT H H') : ∀ {v : V} {t : PV}, Is H v t → Is H' v t
  | _, _, .str z k => .str z k
  | _, _, .tup e k h => .tup (x _ _ e) k (IsL.keep x h)
theorem IsL.keep {H H' : Hp} (x : KeepT H H') : ∀ {v : List V} {t : List PV}, IsL H v t → IsL H' v t
  | _, _, .nil => .nil
  | _, _, .cons h r => .cons (Is.keep x h) (IsL.keep x r)
end
theorem KeepT.set {H : Hp} {l : Addr} {xs : List V} (e : H l = some (.lst xs)) (o : HO) : KeepT H (upd H l o) := fun b vs h => by
  rw [upd_ne (fun q => by subst q; rw [e] at h; cases h)]; exact h
theorem KeepT.of {H H' : Hp} (s : Same H H') : KeepT H H' := fun b vs h => s _ _ h
theorem KeepT.trans {H H1 H2 : Hp} (a : KeepT H H1) (b : KeepT H1 H2) : KeepT H H2 := fun c vs h => b c vs (a c vs h)
theorem upd_out {H : Hp} {b l : Addr} {o x : HO} {bad : List Addr} (nb : b ∉ bad) (m : l ∈ bad) (e : H b = some x) : upd H l o b = some x := by
  have n : b ≠ l := fun q => nb (by rw [q]; exact m)
  rw [upd_ne n]; exact e
theorem pair_get {α β : Type} {F : α → β → Prop} : ∀ {l : List α} {m : List β}, Paired F l m → ∀ {i : Nat} (h : i < l.length) (h2 : i < m.length), F l[i] m[i]
  | _, _, .cons a t, 0, _, _ => a
  | _, _, .cons a t, i + 1, h, h2 => pair_get t (by simpa using h) (by simpa using h2)
theorem pair_snoc {α β : Type} {F : α → β → Prop} : ∀ {l : List α} {m : List β} {x : α} {y : β}, Paired F l m → F x y → Paired F (l ++ [x]) (m ++ [y])
  | _, _, _, _, .nil, h => .cons h .nil
  | _, _, _, _, .cons a t, h => .cons a (pair_snoc t h)
def szB (s : Nat) : Nat → Nat
  | 0 => s
  | k + 1 => 1 + 2 * szB s k
theorem szB_le {s : Nat} (h : 1 ≤ s) : ∀ k, s ≤ szB s k ∧ 1 ≤ szB s k
  | 0 => ⟨Nat.le_refl _, h⟩
  | k + 1 => by
    have := szB_le h k
    simp only [szB]; omega
/-- terms over the makers, of few names, so deep, so large -/
structure Tm (mk : List (Str × Int)) (W : List Str) (c s : Nat) (t : PV) : Prop where
  wf : Wf mk t
  dp : dep t ≤ c
  sz : psz t ≤ s
  vs : ∀ z ∈ lv t, z ∈ W
def spTerm (n : Nat) : Sp := fun vs H Q _ => ∃ (d sa m nl : Addr) (mk : List (Str × Int)) (W : List Str) (c s : Nat) (xs : List V) (ts : List PV) (k : Nat), vs = [.ref d, .ref m, .ref nl, .int k] ∧ Dr H d sa ∧ Mk H m mk ∧ H nl = some (.lst xs) ∧ IsL H xs ts ∧ nl ≠ d ∧ 1 ≤ xs.length ∧ xs.length ≤ 10 ∧ (∀ t ∈ ts, Tm mk W c s t) ∧ 2 ≤ c ∧ 1 ≤ s ∧ k < n ∧
  ∀ v t H', Is H' v t → Tm mk W (k + c) (szB s k) t → Ex d H H' → Dr H' d sa → Q v H'
def spLaw (K : PySem.W.Frag) : Sp := fun vs H Q _ => ∃ (a : Addr) (ns : List Int), vs = [.ref a] ∧ SqL K H a (ns.map V.int) ∧ ns.length ≤ 63 ∧ ∀ H', Q (.bl true) H'
end Kx
namespace Kx
open PySem PySem.Spec PyProof.Rows L2
section
variable {P : Program} {w : World} {K : PySem.W.Frag} {mg : Str → Option Value} {base : Heap}
theorem fmb (a : Int) {b : Int} (hb : 0 < b) : 0 ≤ a.fmod b ∧ a.fmod b < b := ⟨Int.fmod_nonneg_of_pos a hb, Int.fmod_lt_of_pos a hb⟩
theorem at_int {ns : List Int} {i : Int} (h0 : 0 ≤ i) (h : i < ns.length) : ∃ x : Int, atI (ns.map V.int) i = some (.int x) := by
  have hk : i.toNat < ns.length := by omega
  have q : atI (ns.map V.int) ((i.toNat : Nat) : Int) = some (.int ns[i.toNat]) := atI_nat (by rw [List.getElem?_map, List.getElem?_eq_getElem hk] <;> rfl)
  rw [show ((i.toNat : Nat) : Int) = i by omega] at q
  exact ⟨_, q⟩
theorem ok_law_draws (T : Txt K mg)  : FnOk P w K mg base CX0 1 T.a_law_draws T.d_law_draws ["script"] (spDraws K) := by
  refine T.F_law_draws.ok sc_law_draws (fun vs H Q E h => ?_) (fun cdv A outer s H vs Q E hr h => ?_)
  · obtain ⟨a, ns, rfl, _⟩ := h; rfl
  · obtain ⟨a, ns, rfl, hS, hl, q⟩ := h
    refine ⟨_, (pss_one (ps_ret (pe_lst (pa_cons (pe_callTy call_list_of (by rfl) T.z_list (by decide +kernel) (pa_cons (pv 0) pa_nil)) (pa_cons pe_int (pa_cons pe_int (pa_cons pe_int pa_nil))))))), ?_⟩
    refine ⟨_, rfl, a, _, rfl, .inl hS, fun l hl1 => ?_⟩
    refine ⟨(by show 4 ≤ sizeLine; decide), fun d hd => ?_⟩
    have n1 : l ≠ d := ne_of_none upd_same hd
    refine q d l _ (Same.trans (same_upd hl1 _) (same_upd hd _)) ⟨ns, 0, 0, 1, upd_same, ?_, n1, by omega, by omega, by omega, by omega, hl⟩
    rw [upd_ne n1, upd_same]
theorem ok_law_draw (T : Txt K mg)  : FnOk P w K mg base CX0 1 T.a_law_draw T.d_law_draw ["draws", "limit"] spDraw := by
  refine T.F_law_draw.ok sc_law_draw (fun vs H Q E h => ?_) (fun cdv A outer s H vs Q E hr h => ?_)
  · obtain ⟨d, sa, n, rfl, _⟩ := h; rfl
  · obtain ⟨d, sa, n, rfl, hD, h1, h2, q⟩ := h
    refine ⟨_, (Evl.pss_cut (ps_if (PW.pt (pw_and (pt_cmpR op_eq (pe_ix ix_list (pv 0) pe_int (fun _ _ => rfl)) pe_int (nomark _)) (pw_and1 (pt_cmpR op_lt (pe_ix ix_list (pv 0) pe_int (fun _ _ => rfl)) (pe_callB call_len_seq (by rfl) T.z_len (by decide +kernel) (pa_cons (pe_ix ix_list (pv 0) pe_int (fun _ _ => rfl)) pa_nil)) (nomark _))))) (pss_cons (ps_set (i := 2) sc_law_draw.nd rfl (Or.inl rfl) (pe_callB call_abs (by rfl) T.z_abs (by decide +kernel) (pa_cons (pe_ix ix_list (pe_ix ix_list (pv 0) pe_int (fun _ _ => rfl)) (pe_ix ix_list (pv 0) pe_int (fun _ _ => rfl)) (fun _ _ => rfl)) pa_nil)))
    (pss_cons (ps_asg (pe_op op_add (pe_ix ix_list (pv 0) pe_int (fun _ _ => rfl)) pe_int) (pg_sub (pv 0) pe_int set_list))
    (pss_cons (ps_if (pt_cmpR op_ge (pv 2) (pe_op op_pow pe_int pe_int) (nomark _)) (pss_one (ps_asg (pv 2) (pg_sub (pv 0) pe_int set_list))) pss_nil)
    (pss_one (ps_asg (pe_op op_modN (pe_callTy call_int1 (by rfl) T.z_int (by decide +kernel) (pa_cons (pe_op op_add (pe_op op_add (pe_op op_mul (pe_ix ix_list (pv 0) pe_int (fun _ _ => rfl)) pe_int) (pv 2)) pe_int) pa_nil)) pe_int) (pg_sub (pv 0) pe_int set_list)))))) pss_nil)
    (pss_cons (ps_if (pt_cmpR op_gt (pe_ix ix_list (pv 0) pe_int (fun _ _ => rfl)) pe_int (nomark _)) (pss_cons (ps_set (i := 3) sc_law_draw.nd rfl (Or.inl rfl) (pe_op op_modN (pe_callTy call_int1 (by rfl) T.z_int (by decide +kernel) (pa_cons (pe_ix ix_list (pv 0) pe_int (fun _ _ => rfl)) pa_nil)) (pv 1)))
    (pss_cons (ps_asg (pe_op op_fdivN (pe_ix ix_list (pv 0) pe_int (fun _ _ => rfl)) (pv 1)) (pg_sub (pv 0) pe_int set_list))
    (pss_one (ps_ret (pv 3))))) pss_nil)
    (pss_cons (ps_asg (pe_op op_modN (pe_callTy call_int1 (by rfl) T.z_int (by decide +kernel) (pa_cons (pe_op op_add (pe_op op_mul (pe_ix ix_list (pv 0) pe_int (fun _ _ => rfl)) pe_int) pe_int) pa_nil)) pe_int) (pg_sub (pv 0) pe_int set_list))
    (pss_one (ps_ret (pe_op op_modN (pe_callTy call_int1 (by rfl) T.z_int (by decide +kernel) (pa_cons (pe_op op_fdivN (pe_ix ix_list (pv 0) pe_int (fun _ _ => rfl)) pe_int) pa_nil)) (pv 1))))))), ?_⟩
    refine ⟨fun σ H1 => ∃ y, σ = [some (.ref d), some (.int n), y, none] ∧ Dr H1 d sa ∧ Ex d H H1, ?_, fun σ' H' hm => ?_⟩
    · have hD0 := hD
      obtain ⟨ns, i, c, m, e, e2, hn, i0, c0, m0, m1, hl⟩ := hD
      refine ⟨_, rfl, d, _, _, _, rfl, rfl, SqL.of e, rfl, rfl, _, rfl, ?_⟩
      refine ite2 (fun cz => ?_) (fun cz => iteF ⟨none, rfl, hD0, .refl _ _⟩)
      refine ⟨_, rfl, d, _, _, _, rfl, rfl, SqL.of e, rfl, _, rfl, d, _, _, _, rfl, rfl, SqL.of e, rfl, sa, _, rfl, .inl (SqL.of e2), _, _, rfl, rfl, _, rfl, ?_⟩
      refine ite2 (fun ci => ?_) (fun ci => ⟨none, rfl, hD0, .refl _ _⟩)
      have ci' : i < (((ns.map V.int).length : Nat) : Int) := of_decide_eq_true ci
      rw [List.length_map] at ci'
      obtain ⟨x, hx⟩ := at_int i0 ci'
      refine ⟨_, rfl, d, _, _, _, rfl, rfl, SqL.of e, rfl, _, rfl, d, _, _, _, rfl, rfl, SqL.of e, rfl, sa, _, _, _, rfl, rfl, SqL.of e2, hx, _, rfl, ?_⟩
      refine ⟨_, rfl, d, _, _, _, rfl, rfl, SqL.of e, rfl, _, _, rfl, rfl, _, rfl, d, _, _, 1, rfl, rfl, e, rfl, ?_⟩
      refine ⟨_, rfl, _, _, rfl, rfl, ⟨by decide, by decide, by decide⟩, _, _, rfl, rfl, _, rfl, ?_⟩
      have ax : 0 ≤ (if x < 0 then -x else x) := by split <;> omega
      generalize (if x < 0 then -x else x) = cell at ax
      refine ite2 (fun cc => ?_) (fun cc => ?_)
      · refine ⟨_, rfl, _, rfl, d, _, _, 2, rfl, rfl, upd_same, rfl, ?_⟩
        refine ⟨_, rfl, d, _, _, _, rfl, rfl, SqL.of upd_same, rfl, _, _, rfl, rfl, .inl ⟨by omega, by omega⟩, _, rfl, _, _, rfl, rfl, _, _, rfl, rfl, .inl ⟨_, rfl, _, _, rfl, rfl, (by show (2147483647 : Int) ≠ 0; decide), _, rfl, d, _, _, 3, rfl, rfl, upd_same, rfl, ?_⟩⟩
        obtain ⟨b0, b1⟩ := fmb (m * 48271 + cell + 13) (b := 2147483647) (by decide)
        refine ⟨_, rfl, ⟨ns, i + 1, cell, _, upd_same, ?_, hn, by omega, ax, b0, by omega, hl⟩, ((Ex.set _).trans (.set _)).trans (.set _)⟩
        rw [upd_ne hn, upd_ne hn, upd_ne hn, e2]
      · refine ⟨_, rfl, d, _, _, _, rfl, rfl, SqL.of upd_same, rfl, _, _, rfl, rfl, .inl ⟨by omega, by omega⟩, _, rfl, _, _, rfl, rfl, _, _, rfl, rfl, .inl ⟨_, rfl, _, _, rfl, rfl, (by show (2147483647 : Int) ≠ 0; decide), _, rfl, d, _, _, 3, rfl, rfl, upd_same, rfl, ?_⟩⟩
        obtain ⟨b0, b1⟩ := fmb (m * 48271 + cell + 13) (b := 2147483647) (by decide)
        refine ⟨_, rfl, ⟨ns, i + 1, c, _, upd_same, ?_, hn, by omega, c0, b0, by omega, hl⟩, (Ex.set _).trans (.set _)⟩
        rw [upd_ne hn, upd_ne hn, e2]
    · obtain ⟨y, rfl, hD, hx⟩ := hm
      obtain ⟨ns, i, c, m, e, e2, hn, i0, c0, m0, m1, hl⟩ := hD
      have nz : n ≠ 0 := by omega
      refine ⟨_, rfl, d, _, _, _, rfl, rfl, SqL.of e, rfl, _, _, rfl, rfl, _, rfl, ?_⟩
      refine ite2 (fun cc => ?_) (fun cc => ?_)
      · refine ⟨_, rfl, d, _, _, _, rfl, rfl, SqL.of e, rfl, .inl ⟨_, rfl, _, rfl, _, _, rfl, rfl, nz, ?_⟩⟩
        refine ⟨_, rfl, d, _, _, _, rfl, rfl, SqL.of e, rfl, _, rfl, _, _, rfl, rfl, ⟨nz, by omega⟩, _, rfl, d, _, _, 2, rfl, rfl, e, rfl, _, rfl, ?_⟩
        obtain ⟨b0, b1⟩ := fmb c (b := n) (by omega)
        refine q _ _ b0 b1 (hx.trans (.set _)) ⟨ns, i, _, m, upd_same, ?_, hn, i0, Int.fdiv_nonneg c0 (by omega), m0, m1, hl⟩
        rw [upd_ne hn, e2]
      · refine ⟨_, rfl, d, _, _, _, rfl, rfl, SqL.of e, rfl, _, _, rfl, rfl, .inl ⟨by omega, by omega⟩, _, _, rfl, rfl, .inl ⟨_, rfl, _, _, rfl, rfl, (by show (2147483629 : Int) ≠ 0; decide), _, rfl, d, _, _, 3, rfl, rfl, e, rfl, ?_⟩⟩
        obtain ⟨b0, b1⟩ := fmb (m * 69621 + 7) (b := 2147483629) (by decide)
        refine ⟨_, rfl, d, _, _, _, rfl, rfl, SqL.of upd_same, rfl, _, _, rfl, rfl, ⟨by decide, by decide⟩, .inl ⟨_, rfl, _, rfl, _, _, rfl, rfl, nz, ?_⟩⟩
        obtain ⟨c0', c1⟩ := fmb (((m * 69621 + 7).fmod 2147483629).fdiv 11) (b := n) (by omega)
        refine q _ _ c0' c1 (hx.trans (.set _)) ⟨ns, i, c, _, upd_same, ?_, hn, i0, c0, b0, by omega, hl⟩
        rw [upd_ne hn, e2]
theorem ok_law_pick (T : Txt K mg) (G_law_draw : FnOk P w K mg base CX0 1 T.a_law_draw T.d_law_draw ["draws", "limit"] spDraw) : FnOk P w K mg base CX0 2 T.a_law_pick T.d_law_pick ["draws", "row"] (spPick K) := by
  refine T.F_law_pick.ok sc_law_pick (fun vs H Q E h => ?_) (fun cdv A outer s H vs Q E hr h => ?_)
  · obtain ⟨d, sa, p, xs, rfl, _⟩ := h; rfl
  · obtain ⟨d, sa, p, xs, rfl, hD, hP, hn, h1, h2, q⟩ := h
    have hr_law_draw := hr
    refine ⟨_, (pss_one (ps_ret (pe_ix ix_seq (pv 1) (pe_call G_law_draw hr_law_draw rfl T.m_law_draw T.F_law_draw.kp T.b_law_draw .nil pass0 (pa_cons (pv 0) (pa_cons (pe_callB call_len_seq (by rfl) T.z_len (by decide +kernel) (pa_cons (pv 1) pa_nil)) pa_nil))) (fun _ _ => rfl)))), ?_⟩
    have hD0 := hD.lst
    have seqs : ∀ H', Ex d H H' → H' p = some (.lst xs) ∨ SqT K H' p xs := fun H' x => by
      rcases hP with e | (e | ⟨o, e⟩) | e
      · exact .inl (x.but _ _ hn e)
      · exact .inr (.inl (.inl (x.but _ _ hn e)))
      · exact .inr (.inl (.inr ⟨o, x.but _ _ hn e⟩))
      · exact .inr (.inr e)
    refine ⟨_, rfl, _, rfl, _, rfl, p, xs, rfl, hP.imp SqL.of id, d, sa, _, rfl, hD, by omega, by omega, fun r H' r0 r1 hx hD' => ?_⟩
    have hk : r.toNat < xs.length := by omega
    have hat : atI xs r = some (xs[r.toNat]) := by
      have z : atI xs ((r.toNat : Nat) : Int) = some (xs[r.toNat]) := atI_nat (List.getElem?_eq_getElem hk)
      rwa [show ((r.toNat : Nat) : Int) = r by omega] at z
    have fin := q (xs[r.toNat]) H' (List.getElem_mem hk) hx hD'
    rcases seqs H' hx with e | e
    · exact .inl ⟨p, _, _, _, rfl, rfl, SqL.of e, hat, fin⟩
    · exact .inr (.inl ⟨p, _, _, _, rfl, rfl, e, hat, fin⟩)
end
end Kx
namespace Kx
open PySem PySem.Spec PyProof.Rows L2
section
variable {P : Program} {w : World} {K : PySem.W.Frag} {mg : Str → Option Value} {base : Heap}
theorem cut_from (xs : List V) {k : Nat} (h : k ≤ xs.length) : cutV xs (some (k : Int)) none = xs.drop k := by
  unfold cutV
  rw [HT.sIx_nat, HT.sIx_none, Nat.min_eq_left h, List.take_of_length_le (by rw [List.length_drop]; exact Nat.le_refl _)]
theorem cut_to (xs : List V) {k : Nat} (h : k ≤ xs.length) : cutV xs none (some (k : Int)) = xs.take k := by
  unfold cutV
  rw [HT.sIx_nat, HT.sIx_none, Nat.min_eq_left h]
  rfl
theorem pair_drop {α β : Type} {F : α → β → Prop} : ∀ (n : Nat) {l : List α} {m : List β}, Paired F l m → Paired F (l.drop n) (m.drop n)
  | 0, _, _, h => h
  | n + 1, _, _, .nil => .nil
  | n + 1, _, _, .cons _ t => pair_drop n t
theorem pair_take {α β : Type} {F : α → β → Prop} : ∀ (n : Nat) {l : List α} {m : List β}, Paired F l m → Paired F (l.take n) (m.take n)
  | 0, _, _, _ => .nil
  | n + 1, _, _, .nil => .nil
  | n + 1, _, _, .cons h t => .cons h (pair_take n t)
theorem pair_append {α β : Type} {F : α → β → Prop} : ∀ {l l' : List α} {m m' : List β}, Paired F l m → Paired F l' m' → Paired F (l ++ l') (m ++ m')
  | _, _, _, _, .nil, h => h
  | _, _, _, _, .cons h t, h' => .cons h (pair_append t h')
theorem pair_len {α β : Type} {F : α → β → Prop} : ∀ {l : List α} {m : List β}, Paired F l m → l.length = m.length
  | _, _, .nil => rfl
  | _, _, .cons _ t => by simp [pair_len t]
theorem mk_turn {mk : List (Str × Int)} (k : Nat) (h : MkOk mk) : MkOk (mk.drop k ++ mk.take k) := by
  have p : (mk.drop k ++ mk.take k).Perm mk := by
    have := List.perm_append_comm (l₁ := mk.drop k) (l₂ := mk.take k)
    rwa [List.take_append_drop] at this
  exact ⟨((p.map (·.1)).nodup_iff).mpr h.nd, h.zero.elim fun kv z => ⟨kv, p.mem_iff.mpr z.1, z.2⟩, fun kv z => h.low kv (p.mem_iff.mp z), by rw [p.length_eq]; exact h.len, fun kv z => h.good kv (p.mem_iff.mp z), p.mem_iff.mpr h.zz⟩
abbrev wds : List Str := ["next", "pair", "top", "x"]
theorem all_nd : ((Str.ofString "zero") :: wds).Nodup := by decide +kernel
theorem all_ok : ∀ z ∈ (Str.ofString "zero") :: wds, sok z = true := by decide +kernel
/-- what the loop has made so far -/
structure Rows (H : Hp) (l : Addr) (mk : List (Str × Int)) (i : Nat) : Prop where
  at_ : ∃ ps : List Addr, H l = some (.lst (ps.map V.ref)) ∧ Paired (fun p kv => H p = some (.tup (mkV kv))) ps mk
  sub : (mk.map (·.1)).Sublist ((Str.ofString "zero") :: wds.take i)
  zero : ∃ kv ∈ mk, kv.2 = 0
  low : ∀ kv ∈ mk, 0 ≤ kv.2 ∧ kv.2 ≤ 2
  zz : (Str.ofString "zero", (0 : Int)) ∈ mk
theorem Rows.len {H : Hp} {l : Addr} {mk : List (Str × Int)} {i : Nat} (h : Rows H l mk i) : mk.length ≤ 5 := by
  have a := h.sub.length_le
  rw [List.length_map, List.length_cons] at a
  have b : (wds.take i).length ≤ 4 := by rw [List.length_take]; exact Nat.min_le_right _ _
  omega
theorem Rows.okM {H : Hp} {l : Addr} {mk : List (Str × Int)} {i : Nat} (h : Rows H l mk i) : MkOk mk :=
  ⟨(h.sub.trans ((List.take_sublist i wds).cons_cons _)).nodup all_nd, h.zero, h.low, h.len, fun kv hk => all_ok _ ((h.sub.trans ((List.take_sublist i wds).cons_cons _)).subset (List.mem_map_of_mem hk)), h.zz⟩
theorem Rows.ex {d : Addr} {H H' : Hp} {l : Addr} {mk : List (Str × Int)} {i : Nat} (x : Ex d H H') (hd : ∃ xs, H d = some (.lst xs)) (hl : l ≠ d) (h : Rows H l mk i) : Rows H' l mk i := by
  obtain ⟨⟨ps, e, p⟩, a, b, c, zz⟩ := h
  exact ⟨⟨ps, x.but _ _ hl e, Paired.imp p fun _ _ q => x.keep q hd (fun _ q => by cases q)⟩, a, b, c, zz⟩
theorem ok_law_makers (T : Txt K mg) (G_law_draw : FnOk P w K mg base CX0 1 T.a_law_draw T.d_law_draw ["draws", "limit"] spDraw) : FnOk P w K mg base CX0 2 T.a_law_makers T.d_law_makers ["draws"] spMakers := by
  refine T.F_law_makers.ok sc_law_makers (fun vs H Q E h => ?_) (fun cdv A outer s H vs Q E hr h => ?_)
  · obtain ⟨d, sa, rfl, _⟩ := h; rfl
  · obtain ⟨d, sa, rfl, hD, q⟩ := h
    have hr_law_draw := hr
    refine ⟨_, (pss_cons (ps_set (i := 1) sc_law_makers.nd rfl (Or.inl rfl) (pe_lst (pa_cons (pe_tup (pa_cons pe_str (pa_cons pe_int pa_nil))) pa_nil)))
    (pss_cons (ps_for PassesOwn.never rfl (pi_list (pe_lst (pa_cons pe_str (pa_cons pe_str (pa_cons pe_str (pa_cons pe_str pa_nil)))))) (pg_name (i := 2) sc_law_makers.nd rfl (Or.inl rfl))
    (pss_one (ps_if (pt_cmpR op_gt (pe_call G_law_draw hr_law_draw rfl T.m_law_draw T.F_law_draw.kp T.b_law_draw .nil pass0 (pa_cons (pv 0) (pa_cons pe_int pa_nil))) pe_int (nomark _)) (pss_one (ps_expr (pe_bm PySem.F.plainAttrs_list PySem.F.slot_list_append PySem.F.type_list_append mt_append (pv 1) (pa_cons (pe_tup (pa_cons (pv 2) (pa_cons (pe_call G_law_draw hr_law_draw rfl T.m_law_draw T.F_law_draw.kp T.b_law_draw .nil pass0 (pa_cons (pv 0) (pa_cons pe_int pa_nil))) pa_nil))) pa_nil)))) pss_nil)))
    (pss_cons (ps_set (i := 3) sc_law_makers.nd rfl (Or.inl rfl) (pe_call G_law_draw hr_law_draw rfl T.m_law_draw T.F_law_draw.kp T.b_law_draw .nil pass0 (pa_cons (pv 0) (pa_cons (pe_callB call_len_seq (by rfl) T.z_len (by decide +kernel) (pa_cons (pv 1) pa_nil)) pa_nil))))
    (pss_one (ps_ret (pe_callTy call_tupleF (by rfl) T.z_tuple (by decide +kernel) (pa_cons (pe_op op_cat (pe_slice sl_list (pv 1) (po_some (pv 3)) po_none) (pe_slice sl_list (pv 1) po_none (po_some (pv 3)))) pa_nil))))))), ?_⟩
    refine ⟨(by show 2 ≤ sizeLine; decide), fun p1 hp1 => ⟨(by show 1 ≤ sizeLine; decide), fun l hl => ?_⟩⟩
    refine ⟨(by show 4 ≤ sizeLine; decide), fun wl hwl => ⟨wl, rfl, ⟨_, SqL.of upd_same⟩, ?_⟩⟩
    have nl1 : l ≠ p1 := fun e => by rw [e, upd_same] at hl; cases hl
    have nw1 : wl ≠ l := fun e => by rw [e, upd_same] at hwl; cases hwl
    have nw2 : wl ≠ p1 := fun e => by rw [e, upd_ne nl1.symm, upd_same] at hwl; cases hwl
    have s1 := same_upd hp1 (.tup [.str "zero", .int 0])
    have s2 := same_upd hl (.lst [.ref p1])
    have s3 := same_upd hwl (.lst (wds.map V.str))
    have s123 := (s1.trans s2).trans s3
    have fl : H l = none := s1.free hl
    have fw : H wl = none := (s1.trans s2).free hwl
    obtain ⟨nd1, ns1⟩ := hD.free (H1 := H) fl
    obtain ⟨ndw, nsw⟩ := hD.free (H1 := H) fw
    refine for_list (xs := wds.map V.str) (fun i σ H1 => ∃ y2 mk, σ = [some (.ref d), some (.ref l), y2, none] ∧ Dr H1 d sa ∧ Ex d H H1 ∧ H1 wl = some (.lst (wds.map V.str)) ∧ Rows H1 l mk i) ?_ ?_ ?_ ?_
    · refine ⟨none, [("zero", 0)], rfl, hD.same s123, .of s123, upd_same, ⟨[p1], ?_, ?_⟩, ?_, ⟨_, List.mem_singleton_self _, rfl⟩, ?_, List.mem_singleton_self _⟩
      · rw [upd_ne nw1.symm, upd_same]; rfl
      · refine .cons ?_ .nil
        rw [upd_ne nw2.symm, upd_ne nl1.symm, upd_same]; rfl
      · exact List.Sublist.refl _
      · intro kv hk
        rw [List.mem_singleton.mp hk]
        exact ⟨Int.le_refl _, by decide⟩
    · intro i σ H1 _ ⟨_, _, _, _, _, e, _⟩
      exact SqL.of e
    · intro i x σ H1 hx ⟨y2, mk, es, hD1, hx1, ew, hR⟩
      subst es
      refine ⟨_, rfl, d, sa, _, rfl, hD1, by omega, by omega, fun r H2 r0 r1 hx2 hD2 => ⟨_, _, rfl, rfl, _, rfl, ?_⟩⟩
      have hR2 := hR.ex hx2 hD1.lst nd1
      have ew2 := hx2.but _ _ ndw ew
      have hi : i < wds.length := by
        have := (List.getElem?_eq_some_iff.mp hx).1
        rwa [List.length_map] at this
      have xw : x = .str wds[i] := by
        rw [List.getElem?_map, List.getElem?_eq_getElem hi] at hx
        exact (Option.some.inj hx).symm
      subst xw
      have st : wds.take (i + 1) = wds.take i ++ [wds[i]] := List.take_succ_eq_append_getElem hi
      refine ite2 (fun _ => ?_) (fun _ => ?_)
      · obtain ⟨⟨ps, el, pp⟩, sb, zr, lw, zz⟩ := hR2
        have le5 : mk.length ≤ 5 := hR.len
        refine ⟨_, rfl, .inl ⟨rfl, _, SqL.of el⟩, _, rfl, _, rfl, d, sa, _, rfl, hD2, by omega, by omega, fun r2 H3 a0 a1 hx3 hD3 => ⟨(by show 2 ≤ sizeLine; decide), fun t ht => ?_⟩⟩
        have el3 := hx3.but _ _ nd1 el
        have nlt : l ≠ t := ne_of_none el3 ht
        have s4 := same_upd ht (.tup [.str wds[i], .int r2])
        refine ⟨l, _, _, rfl, rfl, s4 _ _ el3, ?_, ?_⟩
        · rw [List.length_map, pair_len pp]
          exact small1000 (by omega)
        · refine ⟨_, mk ++ [(wds[i], r2)], rfl, (hD3.same s4).own nd1 ns1, ((hx1.trans hx2).trans (hx3.trans (.of s4))).own fl _, ?_, ⟨ps ++ [t], ?_, ?_⟩, ?_, ?_, ?_, List.mem_append_left _ zz⟩
          · rw [upd_ne nw1]
            exact s4 _ _ (hx3.but _ _ ndw ew2)
          · rw [upd_same, List.map_append]; rfl
          · refine pair_append (Paired.imp pp fun a b e => ?_) (.cons ?_ .nil)
            · have e3 := hx3.keep e hD2.lst (fun _ q => by cases q)
              rw [upd_ne (ne_of e3 el3 (by intro z; cases z))]
              exact s4 _ _ e3
            · rw [upd_ne nlt.symm, upd_same]; rfl
          · rw [st, List.map_append, ← List.cons_append]
            exact sb.append (List.Sublist.refl _)
          · obtain ⟨kv, hk, z⟩ := zr
            exact ⟨kv, List.mem_append_left _ hk, z⟩
          · intro kv hk
            rcases List.mem_append.mp hk with hk | hk
            · exact lw kv hk
            · rw [List.mem_singleton.mp hk]
              exact ⟨a0, by show r2 ≤ 2; omega⟩
      · refine ⟨_, mk, rfl, hD2, hx1.trans hx2, ew2, ?_⟩
        obtain ⟨a, sb, zr, lw, zz⟩ := hR2
        refine ⟨a, ?_, zr, lw, zz⟩
        rw [st]
        exact sb.trans (((List.sublist_append_left _ _)).cons_cons _)
    · intro σ H1 ⟨y2, mk, es, hD1, hx1, ew, hR⟩
      subst es
      have hM := hR.okM
      obtain ⟨⟨ps, el, pp⟩, _⟩ := hR
      have hlen := pair_len pp
      have h5 := hM.len
      have h1 : 1 ≤ mk.length := by
        obtain ⟨kv, hk, _⟩ := hM.zero
        exact List.length_pos_of_mem hk
      refine ⟨_, rfl, _, rfl, l, _, rfl, .inl (SqL.of el), d, sa, _, rfl, hD1, ?_, ?_, fun r H2 r0 r1 hx2 hD2 => ?_⟩
      · rw [List.length_map]; omega
      · rw [List.length_map]; omega
      rw [List.length_map] at r1
      obtain ⟨k, rfl⟩ : ∃ k : Nat, r = (k : Int) := ⟨r.toNat, by omega⟩
      have hk : k ≤ (ps.map V.ref).length := by rw [List.length_map]; omega
      have el2 := hx2.but _ _ nd1 el
      refine ⟨_, rfl, _, rfl, _, rfl, l, _, rfl, SqL.of el2, fun c hc => ?_⟩
      have s5 := same_upd hc (.lst (cutV (ps.map V.ref) (some (k : Int)) none))
      refine ⟨_, rfl, _, rfl, _, rfl, l, _, rfl, SqL.of (s5 _ _ el2), fun c2 hc2 => ?_⟩
      have s6 := same_upd hc2 (.lst (cutV (ps.map V.ref) none (some (k : Int))))
      refine ⟨c, c2, _, _, rfl, rfl, s6 _ _ upd_same, upd_same, ?_, fun p hp => ?_⟩
      · have a := cutV_length (ps.map V.ref) (some (k : Int)) none
        have b := cutV_length (ps.map V.ref) none (some (k : Int))
        rw [List.length_map] at a b
        exact Nat.le_of_lt (small1000 (by omega))
      have s7 := same_upd hp (.lst (cutV (ps.map V.ref) (some (k : Int)) none ++ cutV (ps.map V.ref) none (some (k : Int))))
      refine ⟨p, _, rfl, SqL.of upd_same, fun a o ha od _ => ?_⟩
      have s8 := same_upd ha (.frz o (.tup (cutV (ps.map V.ref) (some (k : Int)) none ++ cutV (ps.map V.ref) none (some (k : Int)))))
      have s58 := ((s5.trans s6).trans s7).trans s8
      refine q a _ (mk.drop k ++ mk.take k) ⟨⟨o, ps.drop k ++ ps.take k, ?_, od, ?_⟩, mk_turn k hM⟩ ((hx1.trans hx2).trans (.of s58)) (hD2.same s58)
      · rw [upd_same, cut_from _ hk, cut_to _ hk, List.map_append, List.map_drop, List.map_take]
      · have pp2 := pair_append (pair_drop k pp) (pair_take k pp)
        exact Paired.imp pp2 fun x y e => s58 _ _ (hx2.keep e hD1.lst (fun _ q => by cases q))
end
end Kx
namespace Kx
open PySem PySem.Spec PyProof.Rows L2
section
variable {P : Program} {w : World} {K : PySem.W.Frag} {mg : Str → Option Value} {base : Heap}
theorem atT (x y : V) : atI [x, y] (1 : Int) = some y := rfl
theorem WfL_mem {mk : List (Str × Int)} : ∀ {l : List PV}, (∀ t ∈ l, Wf mk t) → WfL mk l
  | [], _ => trivial
  | t :: r, h => ⟨h t (List.mem_cons_self ..), WfL_mem fun x hx => h x (List.mem_cons_of_mem _ hx)⟩
theorem mem_WfL {mk : List (Str × Int)} : ∀ {l : List PV}, WfL mk l → ∀ t ∈ l, Wf mk t
  | a :: r, h, t, ht => by
    rcases List.mem_cons.mp ht with rfl | ht
    · exact h.1
    · exact mem_WfL h.2 t ht
theorem look_mem : ∀ {mk : List (Str × Int)}, (mk.map (·.1)).Nodup → ∀ {kv : Str × Int}, kv ∈ mk → look mk kv.1 = some kv.2
  | [], _, kv, h => by simp at h
  | a :: r, nd, kv, h => by
    rw [List.map_cons] at nd
    obtain ⟨n1, n2⟩ := List.nodup_cons.mp nd
    rcases List.mem_cons.mp h with rfl | h
    · simp [look]
    · have ne : ¬ a.1 = kv.1 := fun e => n1 (by rw [e]; exact List.mem_map_of_mem h)
      have ih := look_mem n2 h
      unfold look at ih ⊢
      rw [List.find?_cons_of_neg (by simpa using ne)]
      exact ih
/-- a list of values for terms that grow -/
theorem IsL.all {H : Hp} : ∀ {vs : List V} {ts : List PV}, IsL H vs ts → ∀ v ∈ vs, ∃ t ∈ ts, Is H v t
  | _, _, .nil, v, h => by simp at h
  | _, _, .cons a r, v, h => by
    rcases List.mem_cons.mp h with rfl | h
    · exact ⟨_, List.mem_cons_self .., a⟩
    · obtain ⟨t, ht, e⟩ := r.all v h
      exact ⟨t, List.mem_cons_of_mem _ ht, e⟩
theorem mk_at {H : Hp} {ps : List Addr} {mk : List (Str × Int)} (h : Paired (fun p kv => H p = some (.tup (mkV kv))) ps mk) {x : V} (hx : x ∈ ps.map V.ref) : ∃ p kv, x = .ref p ∧ kv ∈ mk ∧ H p = some (.tup (mkV kv)) := by
  induction h with
  | nil => simp at hx
  | cons a t ih =>
    rw [List.map_cons] at hx
    rcases List.mem_cons.mp hx with rfl | hx
    · exact ⟨_, _, rfl, List.mem_cons_self .., a⟩
    · obtain ⟨p, kv, e, m, z⟩ := ih hx
      exact ⟨p, kv, e, List.mem_cons_of_mem _ m, z⟩
theorem mk_get {H : Hp} {ps : List Addr} {mk : List (Str × Int)} (h : Paired (fun p kv => H p = some (.tup (mkV kv))) ps mk) : ∀ {i : Nat} {x : V}, (ps.map V.ref)[i]? = some x → ∃ p kv, x = .ref p ∧ mk[i]? = some kv ∧ H p = some (.tup (mkV kv)) := by
  induction h with
  | nil => intro i x hx; simp at hx
  | cons a t ih =>
    intro i x hx
    cases i with
    | zero => cases (Option.some.inj hx); exact ⟨_, _, rfl, rfl, a⟩
    | succ i => exact ih (by simpa using hx)
theorem pszL_le {B : Nat} : ∀ {l : List PV}, (∀ t ∈ l, psz t ≤ B) → pszL l ≤ l.length * B
  | [], _ => by simp [pszL]
  | t :: r, h => by
    have a := h t (List.mem_cons_self ..)
    have b := pszL_le (l := r) fun x hx => h x (List.mem_cons_of_mem _ hx)
    simp only [pszL, List.length_cons, Nat.succ_mul]; omega
theorem lvL_mem' {z : Str} : ∀ {l : List PV}, z ∈ lvL l → ∃ t ∈ l, z ∈ lv t
  | t :: r, h => by
    simp only [lvL] at h
    rcases List.mem_append.mp h with h | h
    · exact ⟨t, List.mem_cons_self .., h⟩
    · obtain ⟨u, hu, hz⟩ := lvL_mem' h
      exact ⟨u, List.mem_cons_of_mem _ hu, hz⟩
theorem ok_law_term {n : Nat} (T : Txt K mg) (G_law_draw : FnOk P w K mg base CX0 1 T.a_law_draw T.d_law_draw ["draws", "limit"] spDraw) (G_law_pick : FnOk P w K mg base CX0 2 T.a_law_pick T.d_law_pick ["draws", "row"] (spPick K)) (G_law_term : FnOk P w K mg base CX0 (n+3) T.a_law_term T.d_law_term ["draws", "makers", "names", "deep"] (spTerm n)) : FnOk P w K mg base CX0 (n+4) T.a_law_term T.d_law_term ["draws", "makers", "names", "deep"] (spTerm (n+1)) := by
  refine T.F_law_term.ok sc_law_term (fun vs H Q E h => ?_) (fun cdv A outer s H vs Q E hr h => ?_)
  · obtain ⟨d, sa, m, nl, mk, W, cc, sc, xsN, tsN, k, rfl, _⟩ := h; rfl
  · obtain ⟨d, sa, m, nl, mk, W, cc, sc, xsN, tsN, k, rfl, hD, hM, eN, hN, nN, z1, z2, tok, c2, s1', hk, q⟩ := h
    have szk := szB_le s1' k
    have hr_law_draw := hr.mono (show 1 ≤ n + 3 by omega)
    have hr_law_pick := hr.mono (show 2 ≤ n + 3 by omega)
    have hr_law_term := hr
    refine ⟨_, (pss_cons (ps_if (pt_cut (PW.pt (pw_or (pt_cmpR op_eq (pv 3) pe_int (nomark _)) (pw_or1 (pt_cmpR op_eq (pe_call G_law_draw hr_law_draw rfl T.m_law_draw T.F_law_draw.kp T.b_law_draw .nil pass0 (pa_cons (pv 0) (pa_cons pe_int pa_nil))) pe_int (nomark _)))))) (pss_cons (ps_if (pt_cmpR op_eq (pe_call G_law_draw hr_law_draw rfl T.m_law_draw T.F_law_draw.kp T.b_law_draw .nil pass0 (pa_cons (pv 0) (pa_cons pe_int pa_nil))) pe_int (nomark _)) (pss_one (ps_ret (pe_call G_law_pick hr_law_pick rfl T.m_law_pick T.F_law_pick.kp T.b_law_pick .nil pass0 (pa_cons (pv 0) (pa_cons (pe_lc (own := [("word", 4), ("parts", 5)]) (g := (gTup K 2 (gCons (gName 4) (gCons (gName 5) gNil)))) rfl sc_law_term.nd (pi_tup (pv 1)) (blkOk_by (own := [("word", 4), ("parts", 5)]) (N := ["draws", "makers", "names", "deep", "word", "parts", "k"]) (sc := defScope s_law_term) (by decide +kernel)) (fun _ _ _ _ _ => (pg_tup rfl (pgs_cons (pg_name (i := 4) sc_law_term.nd rfl (Or.inl rfl)) (pgs_cons (pg_name (i := 5) sc_law_term.nd rfl (Or.inl rfl)) pgs_nil)))) (fun _ _ _ _ _ => pts_one (pt_cmpR op_eq (pv 5) pe_int (nomark _))) (fun _ _ _ _ _ => (pe_tup (pa_cons (pv 4) pa_nil)))) pa_nil))))) pss_nil)
    (pss_one (ps_ret (pe_call G_law_pick hr_law_pick rfl T.m_law_pick T.F_law_pick.kp T.b_law_pick .nil pass0 (pa_cons (pv 0) (pa_cons (pv 2) pa_nil)))))) pss_nil)
    (pss_cons (ps_asg (pe_call G_law_pick hr_law_pick rfl T.m_law_pick T.F_law_pick.kp T.b_law_pick .nil pass0 (pa_cons (pv 0) (pa_cons (pv 1) pa_nil))) (pg_tup rfl (pgs_cons (pg_name (i := 4) sc_law_term.nd rfl (Or.inl rfl)) (pgs_cons (pg_name (i := 5) sc_law_term.nd rfl (Or.inl rfl)) pgs_nil))))
    (pss_one (ps_ret (pe_op op_catT (pe_tup (pa_cons (pv 4) pa_nil)) (pe_callTy call_tuple_of (by rfl) T.z_tuple (by decide +kernel) (pa_cons (pe_lc (own := [("k", 6)]) (g := (gName 6)) (tt := tYes) rfl sc_law_term.nd (pi_range1 (by rfl) T.z_range (pa_cons (pv 5) pa_nil)) (blkOk_by (own := [("k", 6)]) (N := ["draws", "makers", "names", "deep", "word", "parts", "k"]) (sc := defScope s_law_term) (by decide +kernel)) (fun _ _ _ _ _ => (pg_name (i := 6) sc_law_term.nd rfl (Or.inl rfl))) (fun _ _ _ _ _ => pts_nil) (fun _ _ _ _ _ => (pe_call G_law_term hr_law_term rfl T.m_law_term T.F_law_term.kp T.b_law_term .nil pass0 (pa_cons (pv 0) (pa_cons (pv 1) (pa_cons (pv 2) (pa_cons (pe_op op_sub (pv 3) pe_int) pa_nil))))))) pa_nil))))))), ?_⟩
    refine ⟨fun b H1 => Ex d H H1 ∧ Dr H1 d sa ∧ (b = false → k ≠ 0), ?_, fun b H1 ⟨x1, D1, kb⟩ => ?_⟩
    · refine ⟨_, rfl, rfl, _, rfl, ?_⟩
      refine ite2 (fun c => ⟨.refl _ _, hD, fun z => by cases z⟩) (fun c => ?_)
      refine ⟨_, rfl, d, sa, _, rfl, hD, by omega, by omega, fun r H1 r0 r1 hx1 hD1 => ⟨rfl, _, rfl, hx1, hD1, fun _ e => ?_⟩⟩
      subst e
      exact c rfl
    · have M1 := hM.ex x1 hD.lst
      have N1 := x1.but _ _ nN eN
      refine ite2 (fun _ => ?_) (fun hb => ?_)
      · refine ⟨_, rfl, d, sa, _, rfl, D1, by omega, by omega, fun r H2 r0 r1 x2 D2 => ⟨rfl, _, rfl, ?_⟩⟩
        have M2 := M1.ex x2 D1.lst
        have N2 := x2.but _ _ nN N1
        have x12 := x1.trans x2
        refine ite2 (fun _ => ?_) (fun _ => ?_)
        · obtain ⟨⟨o, ps, em, od, pp⟩, ok⟩ := M2
          refine ⟨_, rfl, _, rfl, m, rfl, ⟨_, .inl (.inr ⟨o, em⟩)⟩, fun D hD' => ?_⟩
          have nDd : D ≠ d := (D2.free (H1 := H2) hD').1
          refine lc_tup (K := K) (a := m) (xs := ps.map V.ref) (fun i H3 => Same H2 H3 ∧ ∃ acc, H3 D = some (.lst acc) ∧ (∀ v ∈ acc, ∃ w p, v = .ref p ∧ H3 p = some (.tup [.str w]) ∧ sok w = true ∧ look mk w = some 0) ∧ acc.length ≤ i ∧ ((∃ kv ∈ mk.take i, kv.2 = 0) → acc ≠ [])) ?_ ?_ ?_ ?_
          · refine ⟨same_upd hD' _, [], upd_same, fun v hv => by simp at hv, Nat.le_refl _, fun ⟨kv, h, _⟩ => by simp at h⟩
          · exact fun i H3 _ ⟨sm, _⟩ => .inl (.inr ⟨o, sm _ _ em⟩)
          · intro i x H3 hx ⟨sm, acc, ea, hA, hl, hz⟩
            obtain ⟨p, kv, rfl, hkv, ep⟩ := mk_get pp hx
            have hi : i < mk.length := (List.getElem?_eq_some_iff.mp hkv).1
            have m5 := ok.len
            have tk : mk.take (i + 1) = mk.take i ++ [kv] := by
              rw [List.take_succ_eq_append_getElem hi]
              congr 2
              exact (List.getElem?_eq_some_iff.mp hkv).2
            refine ⟨p, _, rfl, .inl (.inl (sm _ _ ep)), rfl, _, _, rfl, _, _, rfl, rfl, rfl, _, rfl, rfl, _, rfl, ?_⟩
            refine ite2 (fun cz => ?_) (fun c => ?_)
            · have kz : kv.2 = 0 := V.int.inj (of_decide_eq_true cz)
              have lk := look_mem ok.nd (List.mem_of_getElem? hkv)
              rw [kz] at lk
              refine ⟨_, rfl, (by show 1 ≤ sizeLine; decide), fun t ht => ⟨acc, ?_, small1000 (by omega), ?_⟩⟩
              · rw [upd_ne (ne_of_none ea ht)]; exact ea
              · have s2 := same_upd ht (.tup [.str kv.1])
                refine ⟨Kx.Same.own (sm.trans s2) hD' _, _, upd_same, fun v hv => ?_, by rw [List.length_append]; exact Nat.succ_le_succ hl, fun _ => by simp⟩
                rcases List.mem_append.mp hv with hv | hv
                · obtain ⟨w, p2, rfl, e2, kw⟩ := hA v hv
                  have e3 := s2 _ _ e2
                  refine ⟨w, p2, rfl, ?_, kw⟩
                  rw [upd_ne (ne_of e3 (s2 _ _ ea) (by intro z; cases z))]
                  exact e3
                · rw [List.mem_singleton.mp hv]
                  refine ⟨kv.1, t, rfl, ?_, ok.good kv (List.mem_of_getElem? hkv), lk⟩
                  rw [upd_ne (ne_of_none ea ht).symm, upd_same]
            · refine ⟨sm, acc, ea, hA, Nat.le_succ_of_le hl, fun ⟨kv', h, e⟩ => hz ?_⟩
              rw [tk] at h
              rcases List.mem_append.mp h with h | h
              · exact ⟨kv', h, e⟩
              · rw [List.mem_singleton.mp h] at e
                exact absurd (by show decide (V.int kv.2 = V.int 0) = true; rw [e]; exact decide_eq_true rfl) c
          · intro H3 ⟨sm, acc, ea, hA, hl, hz⟩
            have m5 := ok.len
            rw [List.length_map, pair_len pp] at hl hz
            rw [List.take_length] at hz
            have ne := hz ok.zero
            refine ⟨d, sa, D, acc, rfl, D2.same sm, .inl ea, nDd, List.length_pos_iff.mpr ne, by omega, fun x H4 hx x4 D4 => ?_⟩
            obtain ⟨w, p, rfl, e, kw, lk⟩ := hA x hx
            refine q _ (.tup w []) H4 (.tup (x4.keep e (D2.same sm).lst fun _ z => by cases z) kw .nil) ⟨⟨lk, Nat.zero_le _, trivial⟩, by simp only [dep, depL]; omega, by simp only [psz, pszL]; omega, fun z hz => by simp [lv, lvL] at hz⟩ ((x12.trans (.of sm)).trans x4) D4
        · have I2 := (hN.ex x1 hD.lst).ex x2 D1.lst
          refine ⟨_, rfl, _, rfl, d, sa, nl, _, rfl, D2, .inl N2, nN, z1, by omega, fun x H3 hx x3 D3 => ?_⟩
          obtain ⟨t, ht, hi⟩ := I2.all x hx
          exact q _ t H3 (hi.ex x3 D2.lst) ⟨(tok t ht).wf, by have := (tok t ht).dp; omega, by have := (tok t ht).sz; omega, (tok t ht).vs⟩ (x12.trans x3) D3
      · have kn : k ≠ 0 := kb (by cases b with | true => exact absurd rfl hb | false => rfl)
        have k1 : (k : Int) - 1 = ((k - 1 : Nat) : Int) := by omega
        obtain ⟨⟨o, ps, em, od, pp⟩, ok⟩ := id M1
        obtain ⟨xs1, ed1⟩ := D1.lst
        have nm : m ≠ d := ne_of em ed1 (by intro z; cases z)
        have l1 : 1 ≤ mk.length := ok.zero.elim fun kv z => List.length_pos_of_mem z.1
        have l5 := ok.len
        refine ⟨_, rfl, _, rfl, d, sa, m, _, rfl, D1, .inr (.inl (.inr ⟨o, em⟩)), nm, ?_, ?_, fun x H2 hx x2 D2 => ?_⟩
        · rw [List.length_map, pair_len pp]; exact l1
        · rw [List.length_map, pair_len pp]; omega
        obtain ⟨p, kv, rfl, hkv, ep⟩ := mk_at pp hx
        have ep2 := x2.keep ep D1.lst (fun _ z => by cases z)
        obtain ⟨lo, hi⟩ := ok.low kv hkv
        refine ⟨p, _, rfl, .inl (.inl ep2), rfl, _, _, rfl, _, _, rfl, rfl, ?_⟩
        refine ⟨_, rfl, (by show 1 ≤ sizeLine; decide), fun t1 ht1 => ?_⟩
        have s3 := same_upd ht1 (.tup [.str kv.1])
        have M3 := (M1.ex x2 D1.lst).same s3
        have N3 := s3 _ _ (x2.but _ _ nN N1)
        have D3 := D2.same s3
        refine ⟨_, rfl, _, rfl, by omega, by omega, fun D hDn => ?_⟩
        obtain ⟨nDd, nDs⟩ := D3.free (H1 := H) hDn
        have lk := look_mem ok.nd hkv
        refine lc_range (lo := 0) (n := kv.2.toNat) (fun i H4 => ∃ vs ts, Ex d (upd H2 t1 (.tup [.str kv.1])) H4 ∧ Dr H4 d sa ∧ H4 D = some (.lst vs) ∧ IsL H4 vs ts ∧ (∀ t ∈ ts, Tm mk W (k - 1 + cc) (szB sc (k - 1)) t) ∧ ts.length = i) ?_ ?_ ?_
        · exact ⟨[], [], .new hDn _, D3.own nDd nDs, upd_same, .nil, fun t ht => by simp at ht, rfl⟩
        · intro i H4 hi2 ⟨vs, ts, x4, D4, eD, hI, hT, hl⟩
          refine ⟨rfl, yes_if ?_⟩
          refine ⟨_, rfl, _, rfl, _, rfl, _, rfl, _, _, rfl, rfl, d, sa, m, nl, mk, W, cc, sc, xsN, tsN, k - 1, ?_, D4, M3.ex x4 D3.lst, x4.but _ _ nN N3, (((hN.ex x1 hD.lst).ex x2 D1.lst).same s3).ex x4 D3.lst, nN, z1, z2, tok, c2, s1', by omega, fun v t H5 hv ht x5 D5 => ?_⟩
          · rw [← k1]; rfl
          · have eD5 := x5.but _ _ nDd eD
            have x45 := x4.trans x5
            refine ⟨vs, eD5, ?_, ?_⟩
            · rw [hI.len, hl]; exact small1000 (by omega)
            have I5 : IsL H5 vs ts := hI.ex x5 D4.lst
            have xx : Ex D H5 (upd H5 D (.lst (vs ++ [v]))) := .set _
            refine ⟨vs ++ [v], ts ++ [t], x45.own hDn _, D5.own nDd nDs, upd_same, (I5.append (.cons hv .nil)).ex xx ⟨_, eD5⟩, fun t' ht' => ?_, by rw [List.length_append, hl]; rfl⟩
            rcases List.mem_append.mp ht' with h | h
            · exact hT t' h
            · rw [List.mem_singleton.mp h]
              exact ht
        · intro H4 ⟨vs, ts, x4, D4, eD, hI, hT, hl⟩
          have e1 := x4.keep upd_same D3.lst (fun _ z => by cases z)
          have hlen := hI.len
          have cb := depL_le (l := ts) (c := k - 1 + cc) (by omega) fun t ht => (hT t ht).dp
          have pb := pszL_le (l := ts) (B := szB sc (k - 1)) fun t ht => (hT t ht).sz
          have l2 : ts.length ≤ 2 := by omega
          have pb2 : pszL ts ≤ 2 * szB sc (k - 1) := Nat.le_trans pb (Nat.mul_le_mul_right _ l2)
          have ek : szB sc k = 1 + 2 * szB sc (k - 1) := by
            have : k = (k - 1) + 1 := by omega
            rw [this]; rfl
          have vl : ∀ z ∈ lvL ts, z ∈ W := fun z hz => by
            obtain ⟨t, ht, hz⟩ := lvL_mem' hz
            exact (hT t ht).vs z hz
          refine ⟨D, vs, rfl, .inl ⟨SqL.of eD, fun l hl2 => ?_⟩⟩
          have s5 := same_upd hl2 (.tup vs)
          refine ⟨t1, l, _, _, rfl, rfl, .inl (.inl (s5 _ _ e1)), .inl (.inl upd_same), by simp, ?_, fun _ => ?_, fun _ p hp => ?_⟩
          · rw [List.length_singleton, hlen]; exact Nat.le_of_lt (small1000 (by omega))
          · refine q _ (.tup kv.1 []) _ (.tup (s5 _ _ e1) (ok.good kv hkv) .nil) ⟨⟨?_, Nat.zero_le _, trivial⟩, ?_, by simp only [psz, pszL]; omega, fun z hz => by simp [lv, lvL] at hz⟩ (((x1.trans x2).trans (.of s3)).trans (x4.trans (.of s5))) (D4.same s5)
            · have e0 : ts.length = 0 := by
                have := congrArg List.length (show vs = [] by assumption)
                rw [hlen] at this
                exact this
              rw [lk]; show some kv.2 = some 0; rw [show kv.2 = 0 by omega]
            · simp only [dep, depL]; omega
          · have s6 := same_upd hp (.tup ([V.str kv.1] ++ vs))
            refine q _ (.tup kv.1 ts) _ (.tup upd_same (ok.good kv hkv) (hI.same (s5.trans s6))) ⟨⟨?_, by omega, WfL_mem fun t ht => (hT t ht).wf⟩, ?_, by rw [ek]; simp only [psz]; omega, fun z hz => vl z (by simpa only [lv] using hz)⟩ (((x1.trans x2).trans (.of s3)).trans (x4.trans (.of (s5.trans s6)))) (D4.same (s5.trans s6))
            · rw [lk, hl]; congr 1; omega
            · simp only [dep, depL]; omega
end
end Kx
namespace Kx
open PySem PySem.Spec PyProof.Rows L2
section
variable {P : Program} {w : World} {K : PySem.W.Frag} {mg : Str → Option Value} {base : Heap}
/-- all but the dict at f stands -/
def ExD (f : Addr) (H H' : Hp) : Prop := ∀ b o, b ≠ f → H b = some o → H' b = some o
theorem ExD.refl (f : Addr) (H : Hp) : ExD f H H := fun _ _ _ h => h
theorem ExD.trans {f : Addr} {H H1 H2 : Hp} (a : ExD f H H1) (b : ExD f H1 H2) : ExD f H H2 := fun c o n h => b c o n (a c o n h)
theorem ExD.of {f : Addr} {H H' : Hp} (s : Same H H') : ExD f H H' := fun b o _ h => s b o h
theorem ExD.set {f : Addr} {H : Hp} (o : HO) : ExD f H (upd H f o) := fun b u n h => by rw [upd_ne n]; exact h
def isD (H : Hp) (f : Addr) : Prop := ∃ kvs : List (Key × V), H f = some (.dK kvs)
theorem ExD.tup {f : Addr} {H H' : Hp} (x : ExD f H H') (hf : isD H f) {a : Addr} {vs : List V} (e : H a = some (.tup vs)) : H' a = some (.tup vs) := x a _ (fun q => by
  subst q
  obtain ⟨kvs, h⟩ := hf
  rw [e] at h
  cases h) e
mutual
theorem Is.exD {f : Addr} {H H' : Hp} (x : ExD f H H') (hf : isD H f) : ∀ {v : V} {t : PV}, Is H v t → Is H' v t
  | _, _, .str z k => .str z k
  | _, _, .tup e k h => .tup (x.tup hf e) k (IsL.exD x hf h)
theorem IsL.exD {f : Addr} {H H' : Hp} (x : ExD f H H') (hf : isD H f) : ∀ {v : List V} {t : List PV}, IsL H v t → IsL H' v t
  | _, _, .nil => .nil
  | _, _, .cons h r => .cons (Is.exD x hf h) (IsL.exD x hf r)
end
/-- the dict at p stands for the assignment -/
def AsD (H : Hp) (p : Addr) (al : AL) : Prop := ∃ kvs : List (Key × V), H p = some (.dK kvs) ∧ Paired (fun kv zt => kv.1 = Sum.inr zt.1 ∧ Is H kv.2 zt.2) kvs al
/-! ### what an assignment's dict says -/
theorem AsD.isD {H : Hp} {p : Addr} {al : AL} (h : AsD H p al) : isD H p := let ⟨kvs, e, _⟩ := h; ⟨kvs, e⟩
theorem pair_val {H : Hp} (z : Str) : ∀ {kvs : List (Key × V)} {al : AL}, Paired (fun kv zt => kv.1 = Sum.inr zt.1 ∧ Is H kv.2 zt.2) kvs al → (valV kvs (Sum.inr z) = none ∧ get al z = none) ∨ ∃ v t, valV kvs (Sum.inr z) = some v ∧ get al z = some t ∧ Is H v t
  | _, _, .nil => .inl ⟨rfl, rfl⟩
  | _, _, .cons (a := kv) (b := zt) ⟨e, h⟩ t => by
    by_cases q : zt.1 = z
    · exact .inr ⟨kv.2, zt.2, valV_pos (by rw [e, q]), by simp [Kx.get, q], h⟩
    · rw [valV_neg (by rw [e]; intro x; exact q (Sum.inr.inj x))]
      rcases pair_val z t with ⟨a, b⟩ | ⟨v, u, a, b, c⟩
      · exact .inl ⟨a, by simpa [Kx.get, q] using b⟩
      · exact .inr ⟨v, u, a, by simpa [Kx.get, q] using b, c⟩
theorem AsD.imp {H H' : Hp} {p : Addr} {al : AL} (h : AsD H p al) (e : ∀ o, H p = some o → H' p = some o) (k : ∀ v t, Is H v t → Is H' v t) : AsD H' p al := by
  obtain ⟨kvs, a, b⟩ := h
  exact ⟨kvs, e _ a, Paired.imp b fun _ _ ⟨x, y⟩ => ⟨x, k _ _ y⟩⟩
theorem AsD.same {H H' : Hp} {p : Addr} {al : AL} (h : AsD H p al) (s : Same H H') : AsD H' p al := h.imp (fun o e => s _ _ e) fun _ _ x => x.same s
theorem AsD.ex {d : Addr} {H H' : Hp} {p : Addr} {al : AL} (h : AsD H p al) (x : Ex d H H') (hd : ∃ xs, H d = some (.lst xs)) : AsD H' p al := by
  obtain ⟨kvs, a, b⟩ := h
  exact ⟨kvs, x.keep a hd (fun _ q => by cases q), Paired.imp b fun _ _ ⟨q, y⟩ => ⟨q, y.ex x hd⟩⟩
theorem AsD.len {H : Hp} {p : Addr} {al : AL} (h : AsD H p al) : ∃ kvs : List (Key × V), H p = some (.dK kvs) ∧ kvs.length = al.length := by
  obtain ⟨kvs, a, b⟩ := h
  exact ⟨kvs, a, Paired.length b⟩
theorem AsD.put {H : Hp} {p : Addr} {al : AL} {kvs : List (Key × V)} {z : Str} {v : V} {t : PV} (e : H p = some (.dK kvs)) (b : Paired (fun kv zt => kv.1 = Sum.inr zt.1 ∧ Is H kv.2 zt.2) kvs al) (n : valV kvs (Sum.inr z) = none) (h : Is H v t) :
    AsD (upd H p (.dK (putK kvs (Sum.inr z) v))) p (al ++ [(z, t)]) := by
  have x : ExD p H (upd H p (.dK (putK kvs (Sum.inr z) v))) := .set _
  refine ⟨_, upd_same, ?_⟩
  rw [putK_new _ n] at x ⊢
  exact pair_snoc (Paired.imp b fun _ _ ⟨q, y⟩ => ⟨q, y.exD x ⟨_, e⟩⟩) ⟨rfl, h.exD x ⟨_, e⟩⟩
theorem slice1 {x : V} {vs : List V} : ¬ (HT.sIx (x :: vs).length 0 (some (1 : Int)) = 0 ∧ HT.sIx (x :: vs).length (x :: vs).length none = (x :: vs).length) := by
  intro e
  have h := e.1
  rw [show (1 : Int) = ((1 : Nat) : Int) from rfl, HT.sIx_nat, List.length_cons] at h
  omega
theorem cut1 {x : V} {vs : List V} : cutV (x :: vs) (some (1 : Int)) none = vs := cut_from (k := 1) (x :: vs) (by rw [List.length_cons]; omega)
theorem term_inv {mk : List (Str × Int)} {H : Hp} {v : V} {t : PV} (hI : Is H v t) (hT : Wf mk t) (c : isStr t = false) : ∃ a w vs ts, v = .ref a ∧ t = .tup w ts ∧ H a = some (.tup (.str w :: vs)) ∧ IsL H vs ts ∧ sok w = true ∧ look mk w = some (ts.length : Int) ∧ ts.length ≤ 2 ∧ WfL mk ts := by
  cases t with
  | str z => cases c
  | tup w ts =>
    obtain ⟨a, vs, rfl, ea, hL, k⟩ := hI.tup_inv
    exact ⟨a, w, vs, ts, rfl, rfl, ea, hL, k, hT.1, hT.2.1, hT.2.2⟩
theorem get_is {H : Hp} {p : Addr} {al : AL} (h : AsD H p al) (z : Str) : ∃ (kvs : List (Key × V)), H p = some (.dK kvs) ∧ kvs.length = al.length ∧ ((valV kvs (Sum.inr z) = none ∧ get al z = none) ∨ ∃ v t, valV kvs (Sum.inr z) = some v ∧ get al z = some t ∧ Is H v t) := by
  obtain ⟨kvs, e, b⟩ := h
  exact ⟨kvs, e, Paired.length b, pair_val z b⟩
theorem psub_free {al : AL} {z : Str} (h : get al z = none) : psub al (.str z) = .str z := by
  show fn al z = _
  unfold fn; rw [h]; rfl
theorem psub_got {al : AL} {z : Str} {t : PV} (h : get al z = some t) : psub al (.str z) = t := by
  show fn al z = _
  unfold fn; rw [h]; rfl
theorem subL_map (σ : Str → PV) : ∀ l, subL σ l = l.map (sub σ)
  | [] => rfl
  | t :: r => by simp only [subL, List.map_cons, subL_map σ r]
theorem subL_take {al : AL} {ts : List PV} {i : Nat} {y : PV} (h : ts[i]? = some y) : subL (fn al) (ts.take (i + 1)) = subL (fn al) (ts.take i) ++ [psub al y] := by
  obtain ⟨hi, e⟩ := List.getElem?_eq_some_iff.mp h
  rw [List.take_succ_eq_append_getElem hi, e, subL_map, subL_map, List.map_append]
  rfl
/-- the dict at p stands for the assignment, also while it is walked -/
def AsR (H : Hp) (p : Addr) (al : AL) : Prop := ∃ kvs : List (Key × V), Rd H p (.dK kvs) ∧ Paired (fun kv zt => kv.1 = Sum.inr zt.1 ∧ Is H kv.2 zt.2) kvs al
theorem AsD.r {H : Hp} {p : Addr} {al : AL} (h : AsD H p al) : AsR H p al := let ⟨kvs, e, b⟩ := h; ⟨kvs, .inl e, b⟩
theorem AsR.same {H H' : Hp} {p : Addr} {al : AL} (h : AsR H p al) (s : Same H H') : AsR H' p al := by
  obtain ⟨kvs, e, b⟩ := h
  refine ⟨kvs, ?_, Paired.imp b fun _ _ ⟨x, y⟩ => ⟨x, y.same s⟩⟩
  rcases e with e | ⟨o, e⟩
  · exact .inl (s _ _ e)
  · exact .inr ⟨o, s _ _ e⟩
theorem get_isR {H : Hp} {p : Addr} {al : AL} (h : AsR H p al) (z : Str) : ∃ (kvs : List (Key × V)), Rd H p (.dK kvs) ∧ kvs.length = al.length ∧ ((valV kvs (Sum.inr z) = none ∧ get al z = none) ∨ ∃ v t, valV kvs (Sum.inr z) = some v ∧ get al z = some t ∧ Is H v t) := by
  obtain ⟨kvs, e, b⟩ := h
  exact ⟨kvs, e, Paired.length b, pair_val z b⟩
def spPut (n : Nat) : Sp := fun vs H Q _ => ∃ (p : Addr) (mk : List (Str × Int)) (v : V) (t : PV) (al : AL), vs = [v, .ref p] ∧ AsR H p al ∧ Is H v t ∧ Wf mk t ∧ dep t ≤ n ∧ ∀ v' H', Same H H' → Is H' v' (psub al t) → Q v' H'
/-- what _followed gives, and that it ends -/
def spFo : Sp := fun vs H Q _ => ∃ (p : Addr) (v : V) (t r : PV) (al : AL) (m : Nat), vs = [v, .ref p] ∧ AsD H p al ∧ Is H v t ∧ Fo al m t r ∧ ∀ v' H', Same H H' → Is H' v' r → Q v' H'
theorem ok_followed (T : Txt K mg)  : FnOk P w K mg base CX0 1 T.a_followed T.d_followed ["term", "bound"] spFo := by
  refine T.F_followed.ok sc_followed (fun vs H Q E h => ?_) (fun cdv A outer s H vs Q E hr h => ?_)
  · obtain ⟨p, v, t, r, al, m, rfl, _⟩ := h; rfl
  · obtain ⟨p, v, t, r, al, m, rfl, hA, hI, hF, q⟩ := h
    have hu := hu_of hr
    refine ⟨_, (pss_cons (ps_while PassesOwn.never (PW.pt (pw_and (pt_val (pe_callB call_isi (by rfl) T.z_isinstance (by decide +kernel) (pa_cons (pv 0) (pa_cons (pe_bltn rfl T.z_str (by decide +kernel) (show RelV (V.ty "str") (Value.type "str") from rfl)) pa_nil)))) (pw_and1 (pt_cmp (pc_din hu (pv 0) (pv 1))))))
    (pss_one (ps_set (i := 0) sc_followed.nd rfl (Or.inl rfl) (pe_dget hu (pv 1) (pv 0) (fun _ _ => rfl)))))
    (pss_one (ps_ret (pv 0)))), ?_⟩
    refine ⟨fun m σ H1 => H1 = H ∧ ∃ v t, σ = [some v, some (.ref p)] ∧ Is H v t ∧ Fo al m t r, ⟨m, rfl, v, t, rfl, hI, hF⟩, ?_⟩
    rintro m σ _ ⟨rfl, v, t, rfl, hI, hF⟩
    obtain ⟨u, ty, kt⟩ := hI.ty (K := K)
    refine ⟨_, rfl, _, _, u, _, _, rfl, .ty _, ty, kit_str kt, _, rfl, ite2 (fun c => ?_) (fun c => ?_)⟩
    · cases t with
      | tup w ts => cases c
      | str z =>
      cases hI with
      | str z k =>
      obtain ⟨kvs, e, _, hv⟩ := get_is hA z
      have g : DGet _ p (.str z) (valV kvs (Sum.inr z)) := DGet.k (k := Sum.inr z) e
      rcases hv with ⟨a, b⟩ | ⟨v, t, a, b, hv⟩
      · rw [a] at g
        refine ⟨_, rfl, _, rfl, p, none, rfl, g, _, rfl, iteF ?_⟩
        cases hF with
        | free h => exact ⟨_, rfl, q _ _ (.refl _) (.str z k)⟩
        | step h _ => rw [b] at h; cases h
      · rw [a] at g
        refine ⟨_, rfl, _, rfl, p, some v, rfl, g, _, rfl, iteT ?_⟩
        cases hF with
        | free h => rw [b] at h; cases h
        | step h hk =>
          rw [b] at h
          cases h
          exact ⟨_, fun _ _ z => z, _, rfl, _, rfl, p, v, rfl, g, _, Nat.lt_succ_self _, rfl, v, t, rfl, hv, hk⟩
    · cases t with
      | str z => exact absurd rfl c
      | tup w ts =>
        cases hF
        exact iteF ⟨_, rfl, q v _ (.refl _) hI⟩
theorem ok_put {n : Nat} (T : Txt K mg) (G_put : FnOk P w K mg base CX0 (n+1) T.a_put T.d_put ["term", "assignment"] (spPut n)) : FnOk P w K mg base CX0 (n+2) T.a_put T.d_put ["term", "assignment"] (spPut (n+1)) := by
  refine T.F_put.ok sc_put (fun vs H Q E h => ?_) (fun cdv A outer s H vs Q E hr h => ?_)
  · obtain ⟨p, mk, v, t, al, rfl, _⟩ := h; rfl
  · obtain ⟨p, mk, v, t, al, rfl, hA, hI, hW, hn, q⟩ := h
    have hu := hu_of hr
    have hr_put := hr
    refine ⟨_, (pss_cons (ps_if (pt_val (pe_callB call_isi (by rfl) T.z_isinstance (by decide +kernel) (pa_cons (pv 0) (pa_cons (pe_bltn rfl T.z_str (by decide +kernel) (show RelV (V.ty "str") (Value.type "str") from rfl)) pa_nil)))) (pss_one (ps_ret (pe_dget2 hu (pv 1) (pv 0) (pv 0) ⟨rfl, rfl, rfl, rfl⟩))) pss_nil)
    (pss_cons (ps_set (i := 2) sc_put.nd rfl (Or.inl rfl) (pe_lst (pa_cons (pe_ix ix_tup (pv 0) pe_int (fun _ _ => rfl)) pa_nil)))
    (pss_cons (ps_for PassesOwn.never rfl (pi_tup (pe_slice sl_tup (pv 0) (po_some pe_int) po_none)) (pg_name (i := 3) sc_put.nd rfl (Or.inl rfl))
    (pss_one (ps_expr (pe_bm PySem.F.plainAttrs_list PySem.F.slot_list_append PySem.F.type_list_append mt_append (pv 2) (pa_cons (pe_call G_put hr_put rfl T.m_put T.F_put.kp T.b_put .nil pass0 (pa_cons (pv 3) (pa_cons (pv 1) pa_nil))) pa_nil)))))
    (pss_one (ps_ret (pe_callTy call_tuple_of (by rfl) T.z_tuple (by decide +kernel) (pa_cons (pv 2) pa_nil))))))), ?_⟩
    obtain ⟨u, ty, kt⟩ := hI.ty (K := K)
    refine ⟨_, rfl, _, _, u, _, _, rfl, .ty _, ty, kit_str kt, _, rfl, ite2 (fun c => ?_) (fun c => ?_)⟩
    · cases t with
      | tup w ts => cases c
      | str z =>
      cases hI with
      | str z k =>
      obtain ⟨kvs, e, _, hv⟩ := get_isR hA z
      refine ⟨_, rfl, p, rfl, .inl ⟨_, e⟩, _, rfl, _, rfl, _, (.inl ⟨kvs, Sum.inr z, e, rfl, rfl⟩), ?_⟩
      rcases hv with ⟨a, b⟩ | ⟨v, t, a, b, hI⟩
      · rw [a]
        exact q _ H (.refl _) (by rw [psub_free b]; exact .str z k)
      · rw [a]
        exact q _ H (.refl _) (by rw [psub_got b]; exact hI)
    · obtain ⟨a, w, vs, ts, rfl, rfl, ea, hL, kw, lk, l2, hWl⟩ := term_inv hI hW (Bool.eq_false_iff.mpr c)
      have hlen := hL.len
      simp only [dep] at hn
      refine ⟨_, rfl, a, _, _, _, rfl, rfl, .inl (.inl ea), atI_nat (j := 0) rfl, (by show 1 ≤ sizeLine; decide), fun il hil => ?_⟩
      have s0 := same_upd hil (.lst [.str w])
      refine ⟨_, rfl, _, rfl, a, _, rfl, .inl (.inl (s0 _ _ ea)), slice1, fun p1 h1 => ?_⟩
      rw [cut1]
      have s1 := same_upd h1 (.tup vs)
      have s01 := s0.trans s1
      have n1 : il ≠ p1 := ne_of_none upd_same h1
      refine ⟨p1, rfl, ⟨_, .inl (.inl upd_same)⟩, ?_⟩
      refine for_tup (K := K) (a := p1) (xs := vs) (fun i σ H2 => ∃ y3 ws, σ = [some (.ref a), some (.ref p), some (.ref il), y3] ∧ Same H H2 ∧ H2 p1 = some (.tup vs) ∧ H2 il = some (.lst (.str w :: ws)) ∧ IsL H2 ws (subL (fn al) (ts.take i)) ∧ ws.length = i) ?_ ?_ ?_ ?_
      · exact ⟨none, [], rfl, s01, upd_same, by rw [upd_ne n1, upd_same], .nil, rfl⟩
      · exact fun i σ H2 _ ⟨_, _, _, _, e, _⟩ => .inl (.inl e)
      · intro i x σ H2 hx ⟨y3, ws, es, sm, e1, el, hW2, wl⟩
        subst es
        obtain ⟨y, ey, hy⟩ := hL.get hx
        have hm := List.mem_of_getElem? ey
        have dy := depL_mem hm
        refine ⟨_, rfl, .inl ⟨rfl, _, SqL.of el⟩, _, rfl, _, rfl, p, mk, x, y, al, rfl, hA.same sm, hy.same sm, mem_WfL hWl y hm, by omega, fun v' H3 s3 hv' => ?_⟩
        have hi := (List.getElem?_eq_some_iff.mp hx).1
        refine ⟨il, _, _, rfl, rfl, s3 _ _ el, ?_, ?_⟩
        · rw [List.length_cons]; exact small1000 (by omega)
        · have xx : Ex il H3 (upd H3 il (.lst (.str w :: ws ++ [v']))) := .set _
          refine ⟨_, ws ++ [v'], rfl, Kx.Same.own (sm.trans s3) hil _, ?_, by rw [upd_same]; rfl, ?_, by rw [List.length_append, wl]; rfl⟩
          · rw [upd_ne n1.symm]; exact s3 _ _ e1
          · rw [subL_take ey]
            exact ((hW2.same s3).append (.cons hv' .nil)).ex xx ⟨_, s3 _ _ el⟩
      · intro σ H2 ⟨y3, ws, es, sm, e1, el, hW2, wl⟩
        subst es
        rw [hlen, List.take_length] at hW2
        refine ⟨_, rfl, il, _, rfl, .inl ⟨SqL.of el, fun l hl => ?_⟩⟩
        have s5 := same_upd hl (.tup (.str w :: ws))
        exact q _ _ (sm.trans s5) (.tup upd_same kw (hW2.same s5))
theorem ok_law_put {n : Nat} (T : Txt K mg) (G_law_put : FnOk P w K mg base CX0 (n+1) T.a_law_put T.d_law_put ["term", "assignment"] (spPut n)) : FnOk P w K mg base CX0 (n+2) T.a_law_put T.d_law_put ["term", "assignment"] (spPut (n+1)) := by
  refine T.F_law_put.ok sc_law_put (fun vs H Q E h => ?_) (fun cdv A outer s H vs Q E hr h => ?_)
  · obtain ⟨p, mk, v, t, al, rfl, _⟩ := h; rfl
  · obtain ⟨p, mk, v, t, al, rfl, hA, hI, hW, hn, q⟩ := h
    have hu := hu_of hr
    have hr_law_put := hr
    refine ⟨_, (pss_cons (ps_if (pt_val (pe_callB call_isi (by rfl) T.z_isinstance (by decide +kernel) (pa_cons (pv 0) (pa_cons (pe_bltn rfl T.z_str (by decide +kernel) (show RelV (V.ty "str") (Value.type "str") from rfl)) pa_nil)))) (pss_one (ps_ret (pe_dget2 hu (pv 1) (pv 0) (pv 0) ⟨rfl, rfl, rfl, rfl⟩))) pss_nil)
    (pss_one (ps_ret (pe_op op_catT (pe_tup (pa_cons (pe_ix ix_tup (pv 0) pe_int (fun _ _ => rfl)) pa_nil)) (pe_callTy call_tuple_of (by rfl) T.z_tuple (by decide +kernel) (pa_cons (pe_lc (own := [("part", 2)]) (g := (gName 2)) (tt := tYes) rfl sc_law_put.nd (pi_tup (pe_slice sl_tup (pv 0) (po_some pe_int) po_none)) (blkOk_by (own := [("part", 2)]) (N := ["term", "assignment", "part"]) (sc := defScope s_law_put) (by decide +kernel)) (fun _ _ _ _ _ => (pg_name (i := 2) sc_law_put.nd rfl (Or.inl rfl))) (fun _ _ _ _ _ => pts_nil) (fun _ _ _ _ _ => (pe_call G_law_put hr_law_put rfl T.m_law_put T.F_law_put.kp T.b_law_put .nil pass0 (pa_cons (pv 2) (pa_cons (pv 1) pa_nil))))) pa_nil)))))), ?_⟩
    obtain ⟨u, ty, kt⟩ := hI.ty (K := K)
    refine ⟨_, rfl, _, _, u, _, _, rfl, .ty _, ty, kit_str kt, _, rfl, ite2 (fun c => ?_) (fun c => ?_)⟩
    · cases t with
      | tup w ts => cases c
      | str z =>
      cases hI with
      | str z k =>
      obtain ⟨kvs, e, _, hv⟩ := get_isR hA z
      refine ⟨_, rfl, p, rfl, .inl ⟨_, e⟩, _, rfl, _, rfl, _, (.inl ⟨kvs, Sum.inr z, e, rfl, rfl⟩), ?_⟩
      rcases hv with ⟨a, b⟩ | ⟨v, t, a, b, hI⟩
      · rw [a]
        exact q _ H (.refl _) (by rw [psub_free b]; exact .str z k)
      · rw [a]
        exact q _ H (.refl _) (by rw [psub_got b]; exact hI)
    · obtain ⟨a, w, vs, ts, rfl, rfl, ea, hL, kw, lk, l2, hWl⟩ := term_inv hI hW (Bool.eq_false_iff.mpr c)
      have hlen := hL.len
      simp only [dep] at hn
      refine ⟨_, rfl, a, _, _, _, rfl, rfl, .inl (.inl ea), atI_nat (j := 0) rfl, (by show 1 ≤ sizeLine; decide), fun t1 ht1 => ?_⟩
      have s0 := same_upd ht1 (.tup [.str w])
      refine ⟨_, rfl, _, rfl, a, _, rfl, .inl (.inl (s0 _ _ ea)), slice1, fun p1 h1 => ?_⟩
      rw [cut1]
      have s1 := same_upd h1 (.tup vs)
      have s01 := s0.trans s1
      refine ⟨p1, rfl, ⟨_, .inl (.inl upd_same)⟩, fun D hD => ?_⟩
      refine lc_tup (K := K) (a := p1) (xs := vs) (fun i H2 => Same (upd (upd H t1 (.tup [.str w])) p1 (.tup vs)) H2 ∧ ∃ ws, H2 D = some (.lst ws) ∧ IsL H2 ws (subL (fn al) (ts.take i)) ∧ ws.length = i) ?_ ?_ ?_ ?_
      · exact ⟨same_upd hD _, [], upd_same, .nil, rfl⟩
      · exact fun i H2 _ ⟨sm, _⟩ => .inl (.inl (sm _ _ upd_same))
      · intro i x H2 hx ⟨sm, ws, eD, hW2, wl⟩
        obtain ⟨y, ey, hy⟩ := hL.get hx
        have hm := List.mem_of_getElem? ey
        have dy := depL_mem hm
        have hi := (List.getElem?_eq_some_iff.mp hx).1
        have s02 := s01.trans sm
        refine ⟨rfl, yes_if ?_⟩
        refine ⟨_, rfl, _, rfl, p, mk, x, y, al, rfl, hA.same s02, hy.same s02, mem_WfL hWl y hm, by omega, fun v' H3 s3 hv' => ?_⟩
        have xx : Ex D H3 (upd H3 D (.lst (ws ++ [v']))) := .set _
        refine ⟨ws, s3 _ _ eD, small1000 (by omega), Kx.Same.own (sm.trans s3) hD _, ws ++ [v'], upd_same, ?_, by rw [List.length_append, wl]; rfl⟩
        rw [subL_take ey]
        exact ((hW2.same s3).append (.cons hv' .nil)).ex xx ⟨_, s3 _ _ eD⟩
      · intro H2 ⟨sm, ws, eD, hW2, wl⟩
        rw [hlen, List.take_length] at hW2
        have e1 := sm _ _ (s1 _ _ upd_same)
        refine ⟨D, ws, rfl, .inl ⟨SqL.of eD, fun l hl => ?_⟩⟩
        have s5 := same_upd hl (.tup ws)
        have s25 := (s01.trans sm).trans s5
        refine ⟨t1, l, _, _, rfl, rfl, .inl (.inl (s5 _ _ e1)), .inl (.inl upd_same), by simp, ?_, fun e => ?_, fun _ p5 h5 => ?_⟩
        · rw [List.length_singleton, wl]; exact Nat.le_of_lt (small1000 (by omega))
        · have e0 : ws.length = 0 := by rw [e]; rfl
          have t0 : ts = [] := List.length_eq_zero_iff.mp (by omega)
          refine q _ _ s25 ?_
          subst t0
          exact .tup (s5 _ _ e1) kw .nil
        · have s6 := same_upd h5 (.tup ([V.str w] ++ ws))
          refine q _ _ (s25.trans s6) ?_
          exact .tup upd_same kw (hW2.same (s5.trans s6))
end
end Kx
namespace Kx
open PySem PySem.Spec PyProof.Rows L2
section
variable {P : Program} {w : World} {K : PySem.W.Frag} {mg : Str → Option Value} {base : Heap}
def add1 (f : List Str) (x : Str) : List Str := if x ∈ f then f else f ++ [x]
def dd (f ys : List Str) : List Str := ys.foldl add1 f
theorem dd_append (f a b : List Str) : dd f (a ++ b) = dd (dd f a) b := by simp [dd]
theorem inV_str (z : Str) : ∀ f : List Str, inV (.str z) (f.map V.str) = decide (z ∈ f)
  | [] => rfl
  | x :: r => by
    have ih := inV_str z r
    show ((x == z) || inV (.str z) (r.map V.str)) = _
    rw [ih]
    by_cases h : x = z
    · subst h; simp
    · have h2 : ¬ z = x := fun e => h e.symm
      simp [h, h2]
theorem flat_str : ∀ f : List Str, (f.map V.str).all flatV = true
  | [] => rfl
  | _ :: r => flat_str r
theorem psz_tup (w : Str) (r : List PV) : psz (.tup w r) = 1 + pszL r := rfl
theorem pszL_append : ∀ a b : List PV, pszL (a ++ b) = pszL a + pszL b
  | [], b => by simp [pszL]
  | x :: a, b => by simp only [List.cons_append, pszL, pszL_append a b]; omega
theorem pszL_reverse : ∀ a : List PV, pszL a.reverse = pszL a
  | [] => rfl
  | x :: a => by rw [List.reverse_cons, pszL_append, pszL_reverse a]; simp only [pszL]; omega
theorem pszL_len : ∀ l : List PV, l.length ≤ pszL l
  | [] => by simp [pszL]
  | t :: r => by
    have := pszL_len r
    have := psz_pos t
    simp only [pszL, List.length_cons]; omega
theorem lvL_append : ∀ a b : List PV, lvL (a ++ b) = lvL a ++ lvL b
  | [], b => by simp [lvL]
  | x :: a, b => by simp only [List.cons_append, lvL, lvL_append a b, List.append_assoc]
/-- the names, each once -/
def nms (t : PV) : List Str := dd [] (lv t)
theorem term_inv0 {mk : List (Str × Int)} {H : Hp} {v : V} {t : PV} (hI : Is H v t) (hT : Wf mk t) (c : isStr t = false) : ∃ a w vs ts, v = .ref a ∧ t = .tup w ts ∧ H a = some (.tup (.str w :: vs)) ∧ IsL H vs ts ∧ WfL mk ts := by
  obtain ⟨a, w, vs, ts, e1, e2, e3, e4, _, _, _, e5⟩ := term_inv hI hT c
  exact ⟨a, w, vs, ts, e1, e2, e3, e4, e5⟩
def spNames : Sp := fun vs H Q _ => ∃ (mk : List (Str × Int)) (v : V) (t : PV), vs = [v] ∧ Is H v t ∧ Wf mk t ∧ psz t ≤ 900 ∧ ∀ a H', Same H H' → H a = none → H' a = some (.lst ((nms t).map V.str)) → Q (.ref a) H'
theorem ok_names_of (T : Txt K mg)  : FnOk P w K mg base CX0 1 T.a_names_of T.d_names_of ["term"] spNames := by
  refine T.F_names_of.ok sc_names_of (fun vs H Q E h => ?_) (fun cdv A outer s H vs Q E hr h => ?_)
  · obtain ⟨mk, v, t, rfl, _⟩ := h; rfl
  · obtain ⟨mk, v, t, rfl, hI, hT, h100, q⟩ := h
    refine ⟨_, (pss_cons (ps_set (i := 1) sc_names_of.nd rfl (Or.inl rfl) (pe_lst pa_nil))
    (pss_cons (ps_set (i := 2) sc_names_of.nd rfl (Or.inl rfl) (pe_lst (pa_cons (pv 0) pa_nil)))
    (pss_cons (ps_while PassesOwn.never (pt_truth (pv 2) (by intro _; rfl))
    (pss_cons (ps_set (i := 3) sc_names_of.nd rfl (Or.inl rfl) (pe_bm0 PySem.F.plainAttrs_list PySem.F.slot_list_pop PySem.F.type_list_pop mt_pop (pv 2)))
    (pss_one (ps_if (pt_val (pe_callB call_isi (by rfl) T.z_isinstance (by decide +kernel) (pa_cons (pv 3) (pa_cons (pe_bltn rfl T.z_tuple (by decide +kernel) (show RelV (V.ty "tuple") (Value.type "tuple") from rfl)) pa_nil)))) (pss_one (ps_expr (pe_bm PySem.F.plainAttrs_list PySem.F.slot_list_extend PySem.F.type_list_extend mt_extT (pv 2) (pa_cons (pe_cutback (pv 3)) pa_nil)))) (pss_one (ps_if (pt_cmpR op_notIn_seq (pv 3) (pv 1) (by rfl)) (pss_one (ps_expr (pe_bm PySem.F.plainAttrs_list PySem.F.slot_list_append PySem.F.type_list_append mt_append (pv 1) (pa_cons (pv 3) pa_nil)))) pss_nil))))))
    (pss_one (ps_ret (pv 1)))))), ?_⟩
    refine ⟨(by show 0 ≤ sizeLine; decide), fun fa hf => ?_⟩
    refine ⟨_, rfl, (by show 1 ≤ sizeLine; decide), fun ta ht => ?_⟩
    have s1 := same_upd hf (.lst [])
    have s2 := same_upd ht (.lst [v])
    have ft : H ta = none := s1.free ht
    have nft : fa ≠ ta := ne_of_none upd_same ht
    refine ⟨fun m σ H2 => ∃ y3 vs ts f, σ = [some v, some (.ref fa), some (.ref ta), y3] ∧ Same H H2 ∧ H2 fa = some (.lst (f.map V.str)) ∧ H2 ta = some (.lst vs) ∧ IsL H2 vs ts ∧ (∀ x ∈ ts, Wf mk x) ∧ pszL ts = m ∧ f.length + pszL ts ≤ 900 ∧ dd f (lvL ts.reverse) = nms t, ⟨psz t, ?_⟩, ?_⟩
    · refine ⟨none, [v], [t], [], rfl, s1.trans s2, ?_, upd_same, .cons ((hI.same s1).same s2) .nil, fun x hx => by rw [List.mem_singleton.mp hx]; exact hT, by simp [pszL], ?_, ?_⟩
      · rw [upd_ne nft, upd_same]; rfl
      · simp [pszL]; exact h100
      · simp [lvL, nms]
    · intro m σ H2 ⟨y3, vs, ts, f, es, sm, ef, et, hL, hTs, hm, hb, hd⟩
      subst es
      refine ⟨_, rfl, _, .inl ⟨_, SqL.of et, rfl⟩, ?_⟩
      refine ite2 (fun cv => ?_) (fun cv => ?_)
      case refine_2 =>
        have hv : vs = [] := by cases vs with | nil => rfl | cons _ _ => exact absurd rfl cv
        subst hv
        cases hL
        have e : f = nms t := hd
        rw [e] at ef
        exact ⟨_, rfl, q fa H2 sm hf ef⟩
      have hne : vs ≠ [] := by intro e; rw [e] at cv; cases cv
      have hlast : vs[vs.length - 1]? = some (vs.getLast hne) := by
        rw [List.getLast_eq_getElem, List.getElem?_eq_getElem]
      obtain ⟨ts', y, ets, hy, hL'⟩ := hL.snoc_inv hlast hne
      have hlen := hL'.len
      have cts : pszL ts = pszL ts' + psz y := by rw [ets, pszL_append]; simp [pszL]
      have cy := psz_pos y
      refine ⟨fun σ' H' => ∃ m', m' < m ∧ ∃ y3 vs ts f, σ' = [some v, some (.ref fa), some (.ref ta), y3] ∧ Same H H' ∧ H' fa = some (.lst (f.map V.str)) ∧ H' ta = some (.lst vs) ∧ IsL H' vs ts ∧ (∀ x ∈ ts, Wf mk x) ∧ pszL ts = m' ∧ f.length + pszL ts ≤ 900 ∧ dd f (lvL ts.reverse) = nms t, fun σ' H' z => z, ?_⟩
      refine ⟨_, rfl, .inl ⟨rfl, _, SqL.of et⟩, ta, vs, _, rfl, rfl, et, hlast, ?_⟩
      have x3 : Ex ta H2 (upd H2 ta (.lst vs.dropLast)) := .set _
      have sm3 : Same H (upd H2 ta (.lst vs.dropLast)) := Kx.Same.own sm ft _
      have hy3 := hy.ex x3 ⟨_, et⟩
      have hL3 := hL'.ex x3 ⟨_, et⟩
      have ef3 : (upd H2 ta (.lst vs.dropLast)) fa = some (.lst (f.map V.str)) := by rw [upd_ne nft]; exact ef
      have yT : Wf mk y := hTs y (by rw [ets]; simp)
      have hTs' : ∀ x ∈ ts', Wf mk x := fun x hx => hTs x (by rw [ets]; exact List.mem_append_left _ hx)
      obtain ⟨u, ty, kt⟩ := hy3.ty (K := K)
      have lrev : lvL ts.reverse = lv y ++ lvL ts'.reverse := by rw [ets, List.reverse_append]; rfl
      refine ⟨_, rfl, _, _, u, _, _, rfl, .ty _, ty, kit_tup kt, _, rfl, ite2 (fun c => ?_) (fun c => ?_)⟩
      · obtain ⟨a, w, vs2, r, ev, rfl, ea, hL2, hr2⟩ := term_inv0 hy3 yT (by cases y with | str z => cases c | tup w l => rfl)
        rw [ev]
        refine ⟨_, rfl, .inl ⟨rfl, _, SqL.of upd_same⟩, _, rfl, a, _, rfl, .inl (.inl ea), by simp, fun p o hp od os => ?_⟩
        have s4 := same_upd hp (.frz o (.tup ((V.str w :: vs2).drop 1).reverse))
        rw [psz_tup] at cts cy
        have hlen2 := hL2.len
        have cl := pszL_len r
        have cl2 := pszL_len ts'
        refine ⟨ta, p, _, _, rfl, rfl, s4 _ _ upd_same, ⟨o, upd_same, od, os⟩, ?_, ?_⟩
        · rw [List.length_reverse, List.drop_one, List.tail_cons, hlen, hlen2]
          exact Nat.le_of_lt (small1000 (by omega))
        · have x5 : Ex ta (upd H2 ta (.lst vs.dropLast)) (upd (upd (upd H2 ta (.lst vs.dropLast)) p (.frz o (.tup ((V.str w :: vs2).drop 1).reverse))) ta (.lst (vs.dropLast ++ ((V.str w :: vs2).drop 1).reverse))) := (Ex.of s4).trans (.set _)
          refine ⟨pszL (ts' ++ r.reverse), ?_, _, _, ts' ++ r.reverse, f, rfl, Kx.Same.own (sm3.trans s4) ft _, ?_, upd_same, (hL3.append hL2.reverse).ex x5 ⟨_, upd_same⟩, ?_, rfl, ?_, ?_⟩
          · rw [pszL_append, pszL_reverse]; omega
          · rw [upd_ne nft]; exact s4 _ _ ef3
          · intro x hx
            rcases List.mem_append.mp hx with h | h
            · exact hTs' x h
            · exact mem_WfL hr2 x (List.mem_reverse.mp h)
          · rw [pszL_append, pszL_reverse]; omega
          · rw [← hd, lrev, List.reverse_append, List.reverse_reverse, lvL_append]
            rfl
      · cases y with
        | tup w l => exact absurd rfl c
        | str z =>
        rw [hy.str_inv]
        refine ⟨_, rfl, _, rfl, fa, _, rfl, .inl (SqL.of ef3), rfl, flat_str f, _, rfl, ?_⟩
        rw [inV_str]
        have e1 : dd f (lvL ts.reverse) = dd (add1 f z) (lvL ts'.reverse) := by rw [lrev]; rfl
        have c1 : psz (.str z) = 1 := by simp [psz]
        refine ite2 (fun c2 => ?_) (fun c2 => ?_)
        · have nz : z ∉ f := by simpa using c2
          have ea1 : add1 f z = f ++ [z] := by simp [add1, nz]
          refine ⟨_, rfl, .inl ⟨rfl, _, SqL.of ef3⟩, _, rfl, fa, _, _, rfl, rfl, ef3, ?_, ?_⟩
          · rw [List.length_map]; exact small1000 (by omega)
          · have x6 : Ex fa (upd H2 ta (.lst vs.dropLast)) (upd (upd H2 ta (.lst vs.dropLast)) fa (.lst (f.map V.str ++ [.str z]))) := .set _
            refine ⟨pszL ts', by omega, _, _, ts', f ++ [z], rfl, Kx.Same.own sm3 hf _, ?_, ?_, hL3.ex x6 ⟨_, ef3⟩, hTs', rfl, ?_, ?_⟩
            · rw [upd_same, List.map_append]; rfl
            · rw [upd_ne nft.symm, upd_same]
            · rw [List.length_append, List.length_singleton]; omega
            · rw [← hd, e1, ea1]
        · have nz : z ∈ f := by simpa using c2
          have ea1 : add1 f z = f := by simp [add1, nz]
          refine ⟨pszL ts', by omega, _, _, ts', f, rfl, sm3, ef3, upd_same, hL3, hTs', rfl, by omega, ?_⟩
          rw [← hd, e1, ea1]
end
end Kx
namespace Kx
open PySem PySem.Spec PyProof.Rows L2
section
variable {P : Program} {w : World} {K : PySem.W.Frag} {mg : Str → Option Value} {base : Heap}
def spWhole (n : Nat) : Sp := fun vs H Q _ => ∃ (p : Addr) (mk : List (Str × Int)) (v : V) (t : PV) (f b : AL) (ρ : Str → Nat), vs = [v, .ref p] ∧ AsD H p b ∧ Sol f b ρ ∧ BWf mk b ∧ Is H v t ∧ Wf mk t ∧ dep (psub f t) ≤ n ∧ ∀ v' H', Same H H' → Is H' v' (psub f t) → Q v' H'
theorem ok_whole {n : Nat} (T : Txt K mg) (G_followed : FnOk P w K mg base CX0 1 T.a_followed T.d_followed ["term", "bound"] spFo) (G_whole : FnOk P w K mg base CX0 (n+1) T.a_whole T.d_whole ["term", "bound"] (spWhole n)) : FnOk P w K mg base CX0 (n+2) T.a_whole T.d_whole ["term", "bound"] (spWhole (n+1)) := by
  refine T.F_whole.ok sc_whole (fun vs H Q E h => ?_) (fun cdv A outer s H vs Q E hr h => ?_)
  · obtain ⟨p, mk, v, t, f, b, ρ, rfl, _⟩ := h; rfl
  · obtain ⟨p, mk, v, t, f, b, ρ, rfl, hA, S, hB, hI, hW, hn, q⟩ := h
    have hu := hu_of hr
    have hr_followed := hr.mono (show 1 ≤ n + 1 by omega)
    have hr_whole := hr
    refine ⟨_, (pss_cons (ps_set (i := 2) sc_whole.nd rfl (Or.inl rfl) (pe_call G_followed hr_followed rfl T.m_followed T.F_followed.kp T.b_followed .nil pass0 (pa_cons (pv 0) (pa_cons (pv 1) pa_nil))))
    (pss_cons (ps_if (pt_val (pe_callB call_isi (by rfl) T.z_isinstance (by decide +kernel) (pa_cons (pv 2) (pa_cons (pe_bltn rfl T.z_str (by decide +kernel) (show RelV (V.ty "str") (Value.type "str") from rfl)) pa_nil)))) (pss_one (ps_ret (pv 2))) pss_nil)
    (pss_cons (ps_set (i := 3) sc_whole.nd rfl (Or.inl rfl) (pe_lst (pa_cons (pe_ix ix_tup (pv 2) pe_int (fun _ _ => rfl)) pa_nil)))
    (pss_cons (ps_for PassesOwn.never rfl (pi_tup (pe_slice sl_tup (pv 2) (po_some pe_int) po_none)) (pg_name (i := 4) sc_whole.nd rfl (Or.inl rfl))
    (pss_one (ps_expr (pe_bm PySem.F.plainAttrs_list PySem.F.slot_list_append PySem.F.type_list_append mt_append (pv 3) (pa_cons (pe_call G_whole hr_whole rfl T.m_whole T.F_whole.kp T.b_whole .nil pass0 (pa_cons (pv 4) (pa_cons (pv 1) pa_nil))) pa_nil)))))
    (pss_one (ps_ret (pe_callTy call_tuple_of (by rfl) T.z_tuple (by decide +kernel) (pa_cons (pv 3) pa_nil)))))))), ?_⟩
    obtain ⟨m, r, hF⟩ := S.fo t
    have im := hF.same S
    have hWr := hF.wf hB hW
    refine ⟨_, rfl, _, rfl, p, v, t, r, b, m, rfl, hA, hI, hF, fun v1 H1 s1 hI1 => ?_⟩
    rw [← im] at hn q
    obtain ⟨u, ty, kt⟩ := hI1.ty (K := K)
    refine ⟨_, rfl, _, _, u, _, _, rfl, .ty _, ty, kit_str kt, _, rfl, ite2 (fun c => ?_) (fun c => ?_)⟩
    · cases r with
      | tup w ts => cases c
      | str z =>
        have e := (hF.im_str S).2
        rw [free_im e] at q
        exact ⟨_, rfl, q v1 H1 s1 hI1⟩
    · obtain ⟨a, w, vs, ts, rfl, rfl, ea, hL, kw, lk, l2, hWl⟩ := term_inv hI1 hWr (Bool.eq_false_iff.mpr c)
      have hlen := hL.len
      have edep : dep (psub f (.tup w ts)) = 1 + depL (subL (fn f) ts) := rfl
      rw [edep] at hn
      refine ⟨_, rfl, a, _, _, _, rfl, rfl, .inl (.inl ea), atI_nat (j := 0) rfl, (by show 1 ≤ sizeLine; decide), fun il hil => ?_⟩
      have s0 := same_upd hil (.lst [.str w])
      refine ⟨_, rfl, _, rfl, a, _, rfl, .inl (.inl (s0 _ _ ea)), slice1, fun p1 h1 => ?_⟩
      rw [cut1]
      have s2 := same_upd h1 (.tup vs)
      have s02 := s0.trans s2
      have n1 : il ≠ p1 := ne_of_none upd_same h1
      refine ⟨p1, rfl, ⟨_, .inl (.inl upd_same)⟩, ?_⟩
      refine for_tup (K := K) (a := p1) (xs := vs) (fun i σ H2 => ∃ y4 ws, σ = [some v, some (.ref p), some (.ref a), some (.ref il), y4] ∧ Same H1 H2 ∧ H2 p1 = some (.tup vs) ∧ H2 il = some (.lst (.str w :: ws)) ∧ IsL H2 ws (subL (fn f) (ts.take i)) ∧ ws.length = i) ?_ ?_ ?_ ?_
      · exact ⟨none, [], rfl, s02, upd_same, by rw [upd_ne n1, upd_same], .nil, rfl⟩
      · exact fun i σ H2 _ ⟨_, _, _, _, e, _⟩ => .inl (.inl e)
      · intro i x σ H2 hx ⟨y4, ws, es, sm, e1, el, hW2, wl⟩
        subst es
        obtain ⟨y, ey, hy⟩ := hL.get hx
        have hm := List.mem_of_getElem? ey
        have dy : dep (psub f y) ≤ depL (subL (fn f) ts) := depL_mem (by rw [subL_map]; exact List.mem_map_of_mem hm)
        have sA := s1.trans sm
        refine ⟨_, rfl, .inl ⟨rfl, _, SqL.of el⟩, _, rfl, _, rfl, p, mk, x, y, f, b, ρ, rfl, hA.same sA, S, hB, hy.same sm, mem_WfL hWl y hm, by omega, fun v' H3 s3 hv' => ?_⟩
        have hi := (List.getElem?_eq_some_iff.mp hx).1
        refine ⟨il, _, _, rfl, rfl, s3 _ _ el, ?_, ?_⟩
        · rw [List.length_cons]; exact small1000 (by omega)
        · have xx : Ex il H3 (upd H3 il (.lst (.str w :: ws ++ [v']))) := .set _
          refine ⟨_, ws ++ [v'], rfl, Kx.Same.own (sm.trans s3) hil _, ?_, by rw [upd_same]; rfl, ?_, by rw [List.length_append, wl]; rfl⟩
          · rw [upd_ne n1.symm]; exact s3 _ _ e1
          · rw [subL_take ey]
            exact ((hW2.same s3).append (.cons hv' .nil)).ex xx ⟨_, s3 _ _ el⟩
      · intro σ H2 ⟨y4, ws, es, sm, e1, el, hW2, wl⟩
        subst es
        rw [hlen, List.take_length] at hW2
        refine ⟨_, rfl, il, _, rfl, .inl ⟨SqL.of el, fun l hl => ?_⟩⟩
        have s5 := same_upd hl (.tup (.str w :: ws))
        exact q _ _ ((s1.trans sm).trans s5) (.tup upd_same kw (hW2.same s5))
end
end Kx
/-! list(zip(a, b)) of two tuples of one length. -/
namespace Kx
open PySem PySem.Spec PyProof.Rows L2
theorem zl_len0 : typeLookup (.type "zip") "__len__" = pure none := by rw [typeLookup_type, builtinLookup_eq_fast]; kernel_rfl
theorem zl_hint0 : typeLookup (.type "zip") "__length_hint__" = pure none := by rw [typeLookup_type, builtinLookup_eq_fast]; kernel_rfl
/-- where a zip stands that is walked by list(..): the pairs it gave are kept -/
structure ZS (H : Hp) (h : Heap) (z TI TO j1 j2 a b : Addr) (i : Nat) : Prop where
  zs : IsZip h z TI TO .none ∨ ∃ (T : Addr) (f : Bool) (vs : List V), IsZipHeld h z TI TO T f ∧ H T = some (.tup vs)
  ti : PySem.IsPair h TI (.ref j1) (.ref j2)
  tup : ∃ x y, PySem.IsPair h TO x y
  w1 : h.IsTupleIter j1 a i
  w2 : h.IsTupleIter j2 b i
section
variable {P : Program} {w : World} {A : Around} {E : Value → Shared → Prop} {s : Shared}
theorem zl_step {z TI TO T j1 j2 a b : Addr} {f : Bool} {oT : Obj} {k : Nat} {us vs : Array Value} {u v : Value} {Q : Value → Shared → Prop} (D : ZipApart z TI TO j1 j2 a b)
    (hz : IsZipHeld s.heap z TI TO T f) (hT : s.heap.get? T = some oT) (hI : PySem.IsPair s.heap TI (.ref j1) (.ref j2))
    (g1 : s.heap.IsTupleIter j1 a k) (g2 : s.heap.IsTupleIter j2 b k) (p1 : s.heap.IsTuple a us) (p2 : s.heap.IsTuple b vs) (e1 : us[k]? = some u) (e2 : vs[k]? = some v)
    (fin : ∀ h', IsZipHeld h' z TI TO T true → h'.IsTupleIter j1 a (k + 1) → h'.IsTupleIter j2 b (k + 1) → PySem.IsPair h' s.heap.objs.size u v → h'.objs.size = s.heap.objs.size + 1 →
      (∀ c o, c ≠ z → c ≠ j1 → c ≠ j2 → s.heap.get? c = some o → h'.get? c = some o) → Q (.ref s.heap.objs.size) { s with heap := h' }) :
    wpAny (model P w) A (Builtin.«zip.__next__» ⟨[.ref z], []⟩) (fun r t => ∃ x, r = .done (.ret x) ∧ Q x t) E s := by
  show wpAny _ _ (field (.ref z) 2 >>= _) _ _ _
  refine wpAny_bind (wpAny_field (x := .bool false) hz rfl rfl ?_)
  show wpAny _ _ (field (.ref z) 3 >>= _) _ _ _
  refine wpAny_bind (wpAny_field (x := .ref TI) hz rfl rfl (wpAny_bind (wpAny_seqItems hI rfl ?_)))
  show wpAny _ _ (Builtin.SmallTypes.ownedTupleIsFree (.ref z) >>= _) _ _ _
  refine wpAny_bind (wpAny_tupleHeld_zip hz hT fun ha za sa => ?_)
  simp only [Bool.false_eq_true, if_false]
  refine wpAny_bind ?_
  rw [← Array.forIn_toList]
  simp only [List.forIn_cons, List.forIn_nil]
  refine wpAny_bind (wpAny_bind (wpAny_holding ?_))
  show wpAny _ _ (Builtin.SmallTypes.nextOf (.ref j1) >>= _) _ _ _
  refine wpAny_bind (RZ.nextOf_tuple_item (s := { s with heap := ha }) (g1.extBut sa.extBut D.i1z) (p1.extBut sa.extBut D.l1z) e1 fun hb g1' sb => wpAny_pure (wpAny_pure ?_))
  refine wpAny_bind (wpAny_bind (wpAny_holding ?_))
  show wpAny _ _ (Builtin.SmallTypes.nextOf (.ref j2) >>= _) _ _ _
  refine wpAny_bind (RZ.nextOf_tuple_item (s := { s with heap := hb }) ((g2.extBut sa.extBut D.i2z).extBut sb.extBut D.i12.symm) ((p2.extBut sa.extBut D.l2z).extBut sb.extBut D.l2i1) e2 fun hc g2' sc => wpAny_pure (wpAny_pure (wpAny_pure ?_)))
  show wpAny _ _ (newTuple [u, v] >>= _) _ _ _
  refine wpAny_bind (wpAny_newTuple ?_)
  have big : hc.objs.size = s.heap.objs.size := by rw [sc.1, sb.1, sa.1]
  have zc : IsZipHeld hc z TI TO T true := sc.extBut _ _ D.i2z.symm (sb.extBut _ _ D.i1z.symm za)
  have kp : ∀ c o, c ≠ z → c ≠ j1 → c ≠ j2 → s.heap.get? c = some o → hc.get? c = some o := fun c o n1 n2 n3 e => sc.extBut _ _ n3 (sb.extBut _ _ n2 (sa.extBut _ _ n1 e))
  have g1c : hc.IsTupleIter j1 a (k + 1) := g1'.extBut sc.extBut D.i12
  refine wpAny_pure ⟨_, rfl, ?_⟩
  show Q (.ref hc.objs.size) _
  have hp : PySem.IsPair (hc.push { cls := .type "tuple", data := .seq #[u, v] }) hc.objs.size u v := Heap.get?_push_size _ rfl
  have sz : (hc.push { cls := .type "tuple", data := .seq #[u, v] }).objs.size = hc.objs.size + 1 := Heap.size_push ..
  rw [big] at hp sz ⊢
  exact fin _ (Heap.get?_push_of_some _ zc) (g1c.at fun o e => Heap.get?_push_of_some _ e) (g2'.at fun o e => Heap.get?_push_of_some _ e) hp sz fun c o n1 n2 n3 e => Heap.get?_push_of_some _ (kp c o n1 n2 n3 e)
theorem zl_last {z TI TO T j1 j2 a b : Addr} {f : Bool} {oT : Obj} {k : Nat} {us vs : Array Value} {Q : Fin → Shared → Prop} (hh : A.handled = none) (D : ZipApart z TI TO j1 j2 a b)
    (hz : IsZipHeld s.heap z TI TO T f) (hT : s.heap.get? T = some oT) (hI : PySem.IsPair s.heap TI (.ref j1) (.ref j2))
    (g1 : s.heap.IsTupleIter j1 a k) (g2 : s.heap.IsTupleIter j2 b k) (p1 : s.heap.IsTuple a us) (p2 : s.heap.IsTuple b vs) (e1 : us[k]? = none ∨ vs[k]? = none)
    (fin : ∀ h' e, (∀ c o, c ≠ z → c ≠ j1 → c ≠ j2 → s.heap.get? c = some o → h'.get? c = some o) → (∃ o, h'.get? e = some o ∧ o.cls = .type "StopIteration") → E (.ref e) { s with heap := h' }) :
    wpAny (model P w) A (Builtin.«zip.__next__» ⟨[.ref z], []⟩) Q E s := by
  show wpAny _ _ (field (.ref z) 2 >>= _) _ _ _
  refine wpAny_bind (wpAny_field (x := .bool false) hz rfl rfl ?_)
  show wpAny _ _ (field (.ref z) 3 >>= _) _ _ _
  refine wpAny_bind (wpAny_field (x := .ref TI) hz rfl rfl (wpAny_bind (wpAny_seqItems hI rfl ?_)))
  show wpAny _ _ (Builtin.SmallTypes.ownedTupleIsFree (.ref z) >>= _) _ _ _
  refine wpAny_bind (wpAny_tupleHeld_zip hz hT fun ha za sa => ?_)
  simp only [Bool.false_eq_true, if_false]
  refine wpAny_bind ?_
  rw [← Array.forIn_toList]
  simp only [List.forIn_cons, List.forIn_nil]
  refine wpAny_bind (wpAny_bind (wpAny_holding ?_))
  show wpAny _ _ (Builtin.SmallTypes.nextOf (.ref j1) >>= _) _ _ _
  cases eu : us[k]? with
  | none => exact wpAny_bind (RZ.nextOf_tuple_end (s := { s with heap := ha }) hh (g1.extBut sa.extBut D.i1z) (p1.extBut sa.extBut D.l1z) eu fun hb e sb he => fin hb e (fun c o n1 n2 _ x => sb _ _ n2 (sa.extBut _ _ n1 x)) he)
  | some u =>
    have ev : vs[k]? = none := by
      rcases e1 with h | h
      · rw [h] at eu; cases eu
      · exact h
    refine wpAny_bind (RZ.nextOf_tuple_item (s := { s with heap := ha }) (g1.extBut sa.extBut D.i1z) (p1.extBut sa.extBut D.l1z) eu fun hb g1' sb => wpAny_pure (wpAny_pure ?_))
    refine wpAny_bind (wpAny_bind (wpAny_holding ?_))
    show wpAny _ _ (Builtin.SmallTypes.nextOf (.ref j2) >>= _) _ _ _
    exact wpAny_bind (RZ.nextOf_tuple_end (s := { s with heap := hb }) hh ((g2.extBut sa.extBut D.i2z).extBut sb.extBut D.i12.symm) ((p2.extBut sa.extBut D.l2z).extBut sb.extBut D.l2i1) ev fun hc e sc he => fin hc e (fun c o n1 n2 n3 x => sc _ _ n3 (sb.extBut _ _ n2 (sa.extBut _ _ n1 x))) he)
end
section
variable {X : Cx} {pins : List (Addr × Obj)} {σ : L2.St} {H : Hp} {s : Shared} {z TI TO j1 j2 a b : Addr}
theorem FpOk.up {c T : Addr} {o : HO} (h : FpOk X pins H c) (n : T ≠ c) : FpOk X pins (upd H T o) c := ⟨by rw [upd_ne n.symm]; exact h.1, h.2⟩
theorem zl_item {i : Nat} {xs ys : List V} {x y : V} {A1 : Around} {E : Value → Shared → Prop} {Q : Option Value → Shared → Prop} (I : Inv X pins σ H s) (D : ZipApart z TI TO j1 j2 a b) (hf : ∀ c ∈ [z, TI, TO, j1, j2], FpOk X pins H c) (S : ZS H s.heap z TI TO j1 j2 a b i)
    (hx : SqT X.K H a xs) (hy : SqT X.K H b ys) (ex : xs[i]? = some x) (ey : ys[i]? = some y)
    (fin : ∀ T s', H T = none → Inv X pins σ (upd H T (.tup [x, y])) s' → ZS (upd H T (.tup [x, y])) s'.heap z TI TO j1 j2 a b (i + 1) → (∀ c ∈ [z, TI, TO, j1, j2], c ≠ T) → Q (some (.ref T)) s') :
    wpAny (model X.prog X.w) A1 (pyNext (.ref z)) Q E s := by
  obtain ⟨its, rv, p, _⟩ := I.tuple hx
  obtain ⟨its2, rv2, p2, _⟩ := I.tuple hy
  obtain ⟨u, hu, ru⟩ := rv.get ex
  obtain ⟨u2, hu2, ru2⟩ := rv2.get ey
  have hT0 : H s.heap.objs.size = none := I.hok.fresh (Nat.le_refl _)
  obtain ⟨zs, ti, ⟨x0, y0, to⟩, w1, w2⟩ := S
  have lz : z < s.heap.objs.size := by
    rcases zs with e | ⟨_, _, _, e, _⟩
    · exact Heap.lt_size e
    · exact Heap.lt_size e
  have l1 : j1 < s.heap.objs.size := by obtain ⟨_, e, _⟩ := w1; exact Heap.lt_size e
  have l2 : j2 < s.heap.objs.size := by obtain ⟨_, e, _⟩ := w2; exact Heap.lt_size e
  have lti := Heap.lt_size ti
  have lto := Heap.lt_size to
  have far : ∀ c ∈ [z, TI, TO, j1, j2], c ≠ s.heap.objs.size := fun c hc => by
    have q : c = z ∨ c = TI ∨ c = TO ∨ c = j1 ∨ c = j2 := by simpa using hc
    rcases q with q | q | q | q | q <;> rw [q] <;> apply Nat.ne_of_lt <;> assumption
  have new : ∀ h' : Heap, PySem.IsPair h' s.heap.objs.size u u2 → ObjOk X.prog X.w (upd H s.heap.objs.size (.tup [x, y])) h' s.heap.objs.size (.tup [x, y]) := fun h' e =>
    ⟨by show 2 ≤ sizeLine; decide, [u, u2], .cons ru (.cons ru2 .nil), ⟨_, e, rfl, _, rfl⟩⟩
  rcases zs with e0 | ⟨T, f, vs, e0, eT⟩
  · refine RZ.pyNext_zipT_item D e0 ti to w1 w2 p p2 (x := u) (y := u2) (by simpa using hu) (by simpa using hu2) fun h' z' t' v1 v2 pr sz kp => ?_
    refine fin _ _ hT0 (I.turnedNew (t' := s.toks) (ch := [z, TI, TO, j1, j2]) (fun c o nc e => kp c o (fun q => nc (by simp [q])) (fun q => nc (by simp [q])) (fun q => nc (by simp [q])) (fun q => nc (by simp [q])) e) hf (Nat.le_refl _) (new h' pr)) ⟨.inr ⟨_, false, _, z', upd_same⟩, kp TI _ D.TIz D.TITO D.TIi1 D.TIi2 ti, ⟨_, _, t'⟩, v1, v2⟩ far
  · obtain ⟨_, itsT, _, oT, hoT, _⟩ := (show ObjOk X.prog X.w H s.heap T (.tup vs) from I.hok T _ eT)
    have hTy : s.TypeIs (.ref z) "zip" := ⟨_, e0, rfl⟩
    unfold pyNext
    refine wpAny_bind (wpAny_attempt (wpAny_callSpecial?_slot (name := Str.ofString "__next__") hTy F.slot_zip_next
      (wpAny_call_entry F.slot_zip_next hTy F.entry_zip_next (zl_step D e0 hoT ti w1 w2 p p2 (u := u) (v := u2) (by simpa using hu) (by simpa using hu2) fun h' z' v1 v2 pr sz kp => wpAny_pure ?_) (F.args_zip_next_1 _))))
    have nT : T ≠ s.heap.objs.size := ne_of_none eT hT0
    refine fin _ _ hT0 (I.turnedNew (t' := s.toks) (ch := [z, TI, TO, j1, j2]) (fun c o nc e => kp c o (fun q => nc (by simp [q])) (fun q => nc (by simp [q])) (fun q => nc (by simp [q])) e) hf (Nat.le_refl _) (new h' pr)) ⟨.inr ⟨T, true, vs, z', by rw [upd_ne nT]; exact eT⟩, kp TI _ D.TIz D.TIi1 D.TIi2 ti, ⟨_, _, kp TO _ D.TOz D.TOi1 D.TOi2 to⟩, v1, v2⟩ far
theorem zl_end {i : Nat} {xs : List V} {ys : List V} {A1 : Around} {E : Value → Shared → Prop} {Q : Option Value → Shared → Prop} (hh : A1.handled = none) (I : Inv X pins σ H s) (D : ZipApart z TI TO j1 j2 a b) (hf : ∀ c ∈ [z, TI, TO, j1, j2], FpOk X pins H c) (S : ZS H s.heap z TI TO j1 j2 a b i)
    (hx : SqT X.K H a xs) (hy : SqT X.K H b ys) (he : xs.length ≤ i ∨ ys.length ≤ i) (fin : ∀ s', Inv X pins σ H s' → Q none s') :
    wpAny (model X.prog X.w) A1 (pyNext (.ref z)) Q E s := by
  obtain ⟨its, rv, p, _⟩ := I.tuple hx
  obtain ⟨its2, rv2, p2, _⟩ := I.tuple hy
  have l1 := rv.length
  obtain ⟨zs, ti, ⟨x0, y0, to⟩, w1, w2⟩ := S
  have l2 := rv2.length
  have no : its.toArray[i]? = none ∨ its2.toArray[i]? = none := by
    rcases he with h | h
    · exact .inl (by simp; omega)
    · exact .inr (by simp; omega)
  rcases zs with e0 | ⟨T, f, vs, e0, eT⟩
  · exact RZ.pyNext_zipT_end hh D e0 ti to w1 w2 p p2 no fun h' kp => fin _ (I.turnedL (t' := s.toks) (ch := [z, TI, TO, j1, j2]) (fun c o nc e => kp c o (fun q => nc (by simp [q])) (fun q => nc (by simp [q])) (fun q => nc (by simp [q])) (fun q => nc (by simp [q])) e) hf)
  · obtain ⟨_, itsT, _, oT, hoT, _⟩ := (show ObjOk X.prog X.w H s.heap T (.tup vs) from I.hok T _ eT)
    have hTy : s.TypeIs (.ref z) "zip" := ⟨_, e0, rfl⟩
    unfold pyNext
    refine wpAny_bind (wpAny_attempt (wpAny_callSpecial?_slot (name := Str.ofString "__next__") hTy F.slot_zip_next
      (wpAny_call_entry F.slot_zip_next hTy F.entry_zip_next (zl_last hh D e0 hoT ti w1 w2 p p2 no fun h' e kp hs => ?_) (F.args_zip_next_1 _))))
    obtain ⟨o, ho, hc⟩ := hs
    refine wpAny_bind (wpAny_isInstance (T := "StopIteration") (b := true) ⟨o, ho, hc⟩ isSubtype_stop ?_)
    exact wpAny_pure (fin _ (I.turnedL (t' := s.toks) (ch := [z, TI, TO, j1, j2]) (fun c o nc e => kp c o (fun q => nc (by simp [q])) (fun q => nc (by simp [q])) (fun q => nc (by simp [q])) e) hf))
/-- the pairs so far -/
structure ZP (H : Hp) (q : Addr) (Ts : List Addr) (xs ys : List V) : Prop where
  lst : H q = some (.lst (Ts.map V.ref))
  pr : ∀ (j : Nat) (T : Addr) (x y : V), Ts[j]? = some T → xs[j]? = some x → ys[j]? = some y → H T = some (.tup [x, y])
theorem sq_stay {K : PySem.W.Frag} {H H' : Hp} {a : Addr} {xs : List V} (h : SqT K H a xs) (s : ∀ c o, (∀ v, o ≠ .lst v) → H c = some o → H' c = some o) : SqT K H' a xs := by
  rcases h with (e | ⟨o, e⟩) | e
  · exact .inl (.inl (s _ _ (fun v q => by cases q) e))
  · exact .inl (.inr ⟨o, s _ _ (fun v q => by cases q) e⟩)
  · exact .inr e
theorem zl_loop {xs ys : List V} {q : Addr} {H0 : Hp} {A1 : Around} {Rs : Result → Shared → Prop} (hh : A1.in1.handled = none) (D : ZipApart z TI TO j1 j2 a b) {n0 : Nat} (hn1 : n0 ≤ xs.length) (hn2 : n0 ≤ ys.length) (hend : xs.length ≤ n0 ∨ ys.length ≤ n0) (hb : n0 ≤ 1000) (hq0 : H0 q = none) (hx : SqT X.K H0 a xs) (hy : SqT X.K H0 b ys)
    (fin : ∀ H' s' Ts, Inv X pins σ H' s' → Same H0 H' → Ts.length = n0 → ZP H' q Ts xs ys → Rs (.ok (.ret .none)) s') :
    ∀ (k i : Nat) (H : Hp) (s : Shared) (Ts : List Addr), n0 - i = k → i ≤ n0 → Inv X pins σ H s → (∀ c ∈ [z, TI, TO, j1, j2], FpOk X pins H c) → ZS H s.heap z TI TO j1 j2 a b i → Same H0 H → Ts.length = i → ZP H q Ts xs ys →
      codeAny (model X.prog X.w) A1 (.builtin "list.extend.loop" ⟨[.ref q, .ref z, .none], []⟩) Rs s := by
  intro k
  induction k with
  | zero =>
    intro i H s Ts hk hi I hf S sm tl P
    refine codeAny_builtin PySem.F.entry_extend_loop ?_
    rw [Around.under_plainId PySem.F.plain_extend_loop _]
    show wpAny _ A1.in1 (pyNext (.ref z) >>= _) _ _ s
    exact wpAny_bind (zl_end hh I D hf S (sq_stay hx fun c o _ e => sm _ _ e) (sq_stay hy fun c o _ e => sm _ _ e) (by omega) fun s' I' => wpAny_pure (fin H s' Ts I' sm (by omega) P))
  | succ k ih =>
    intro i H s Ts hk hi I hf S sm tl P
    refine codeAny_builtin PySem.F.entry_extend_loop ?_
    rw [Around.under_plainId PySem.F.plain_extend_loop _]
    show wpAny _ A1.in1 (pyNext (.ref z) >>= _) _ _ s
    have hlt : i < xs.length := by omega
    have hlt2 : i < ys.length := by omega
    refine wpAny_bind (zl_item I D hf S (sq_stay hx fun c o _ e => sm _ _ e) (sq_stay hy fun c o _ e => sm _ _ e) (List.getElem?_eq_getElem hlt) (List.getElem?_eq_getElem hlt2) fun T s1 hT I1 S1 far => ?_)
    show wpAny _ A1.in1 (updateSeq q (·.push (.ref T)) >>= _) _ _ _
    have nqT : q ≠ T := ne_of_none P.lst hT
    have lq1 : (upd H T (.tup [xs[i], ys[i]])) q = some (.lst (Ts.map V.ref)) := by rw [upd_ne nqT]; exact P.lst
    obtain ⟨zz, its, n, r2, hlq, e⟩ := I1.lstM lq1
    have sl : its.length = Ts.length := by rw [← r2.length, List.length_map]
    have big : (1000 : Nat) + 1 ≤ sizeLine := by decide
    have nq : ∀ c ∈ [z, TI, TO, j1, j2], c ≠ q := fun c hc e => by
      have := (hf c hc).1
      rw [e, P.lst] at this; cases this
    refine wpAny_bind (wpAny_updateSeq e rfl (wpAny_pure ⟨plainId_quiet PySem.F.plain_extend_loop _, ?_⟩) (by rw [List.size_toArray]; omega) (by show (its.toArray.push _).size ≤ sizeLine + 1; rw [Array.size_push, List.size_toArray]; omega))
    have I2 := I1.lset (f := (·.push (.ref T))) (its' := its ++ [.ref T]) (ys := Ts.map V.ref ++ [.ref T]) (t' := s1.toks) lq1 e (by simp) (r2.append (.cons (show RelV (.ref T) (.ref T) from rfl) .nil)) (by rw [List.length_append, List.length_singleton, List.length_map]; omega)
    have keep : ∀ c ∈ [z, TI, TO, j1, j2], ∀ o, s1.heap.get? c = some o → (s1.heap.update q (Obj.mapSeq (·.push (.ref T)))).get? c = some o := fun c hc o e => (Heap.get?_update_other _ _ (nq c hc).symm).trans e
    refine ih (i + 1) _ _ (Ts ++ [T]) (by omega) (by omega) I2 (fun c hc => FpOk.up (FpOk.up (hf c hc) (far c hc).symm) (nq c hc).symm) ⟨?_, keep TI (by simp) _ S1.ti, ?_, S1.w1.at fun o e => keep j1 (by simp) o e, S1.w2.at fun o e => keep j2 (by simp) o e⟩ ?_ (by rw [List.length_append, List.length_singleton, tl]) ⟨?_, ?_⟩
    · rcases S1.zs with e0 | ⟨T', f, vs, e0, eT⟩
      · exact .inl (keep z (by simp) _ e0)
      · refine .inr ⟨T', f, vs, keep z (by simp) _ e0, ?_⟩
        rw [upd_ne (ne_of eT lq1 (fun z => nomatch z))]; exact eT
    · obtain ⟨x, y, e⟩ := S1.tup
      exact ⟨x, y, keep TO (by simp) _ e⟩
    · exact fun c o e => by
        rw [upd_ne (ne_of_none e hq0), upd_ne (ne_of_none (sm _ _ e) hT)]
        exact sm _ _ e
    · rw [upd_same, List.map_append]; rfl
    · intro j T' x y eT e1 e2
      have nq2 : ∀ (c : Addr) (vs : List V), (upd H T (.tup [xs[i], ys[i]])) c = some (.tup vs) → c ≠ q := fun c vs e => ne_of e lq1 (fun z => nomatch z)
      rcases Nat.lt_or_ge j Ts.length with hj | hj
      · rw [List.getElem?_append_left hj] at eT
        have h1 := P.pr j T' x y eT e1 e2
        have h2 : (upd H T (.tup [xs[i], ys[i]])) T' = some (.tup [x, y]) := by rw [upd_ne (ne_of_none h1 hT)]; exact h1
        rw [upd_ne (nq2 _ _ h2)]; exact h2
      · rw [List.getElem?_append_right hj] at eT
        have j0 : j - Ts.length = 0 := by
          rcases Nat.eq_zero_or_pos (j - Ts.length) with h | h
          · exact h
          · rw [List.getElem?_eq_none (by simp; omega)] at eT; cases eT
        have ej : j = i := by omega
        rw [j0] at eT
        cases (Option.some.inj eT)
        subst ej
        rw [List.getElem?_eq_getElem hlt] at e1
        rw [List.getElem?_eq_getElem hlt2] at e2
        cases e1
        cases e2
        rw [upd_ne nqT.symm, upd_same]
end
def tListZip (K : PySem.W.Frag) (ta : TA) : TE := fun σ H Q => ta σ H fun vs H1 => ∃ (a b : Addr) (xs ys : List V), vs = [.ref a, .ref b] ∧ SqT K H1 a xs ∧ SqT K H1 b ys ∧ xs.length ≤ 1000 ∧
  ∀ q H2 Ts, H1 q = none → Same H1 H2 → Ts.length = min xs.length ys.length → ZP H2 q Ts xs ys → Q (.ref q) H2
theorem pe_listZip {X : Cx} {e e2 : Expr} {ta : TA} {p p2 pos pos2 : Pos} (hc : X.calm = true) (hm1 : X.mg "list" = none) (hg1 : Gl X "list") (hm2 : X.mg "zip" = none) (hg2 : Gl X "zip") (ha : PA X [e, e2] ta)
    (hs : starEach [e, e2] X.env = (false, eval e X.env) :: starEach [e2] X.env := by rfl) (hpl : (backTo pos2 (starEach [e2] X.env)).any (·.1) = false := by rfl)
    (na : starEach [Expr.Call (.Name "zip" p2) [e, e2] [] pos2] X.env = (false, eval (Expr.Call (.Name "zip" p2) [e, e2] [] pos2) X.env) :: starEach [] X.env := by rfl) :
    PE X (.Call (.Name "list" p) [.Call (.Name "zip" p2) [e, e2] [] pos2] [] pos) (tListZip X.K ta) := by
  refine ⟨fun pins s σ H R I h => ?_⟩
  refine Call_ (ld_blt I hg1 hm1 boot_list ?_)
  refine PyProof.Rows.callWith_type1 (PyProof.Rows.args_cons ?_ na) na rfl
  refine Call_ (ld_blt I hg2 hm2 PyProof.Rows.boot_zip (PyProof.Rows.callWith_type1 (thn (ha.run pos2 pins s σ H _ I h) fun us s1 ⟨vs, H1, I1, r1, q1⟩ => ?_) hs hpl))
  obtain ⟨a, b, xs, ys, ev, hx, hy, hb, fin⟩ := q1
  subst ev
  obtain ⟨u1, u2, rfl, ra, rb⟩ := vals2 r1
  cases ra
  cases rb
  obtain ⟨its, rv, p1, _⟩ := I1.tuple hx
  obtain ⟨its2, rv2, p2, _⟩ := I1.tuple hy
  obtain ⟨o1, ho1, _⟩ := id p1
  obtain ⟨o2, ho2, _⟩ := id p2
  refine RZ.call_zipT (show s1.heap.IsTuple a its.toArray from p1) (show s1.heap.IsTuple b its2.toArray from p2) fun h2 hz hI hO g1 g2 sz kp => PyProof.Rows.args_nil ?_
  have I2 : Inv X pins σ H1 { s1 with heap := h2 } := I1.kept (t' := s1.toks) kp
  have D := PySem.W.ktu_apart s1.heap.objs.size a b (Heap.lt_size ho1) (Heap.lt_size ho2)
  have ff : ∀ c ∈ [s1.heap.objs.size + 4, s1.heap.objs.size + 2, s1.heap.objs.size + 3, s1.heap.objs.size, s1.heap.objs.size + 1], FpOk X pins H1 c ∧ c < h2.objs.size := fun c hcm => by
    have q : c = s1.heap.objs.size + 4 ∨ c = s1.heap.objs.size + 2 ∨ c = s1.heap.objs.size + 3 ∨ c = s1.heap.objs.size ∨ c = s1.heap.objs.size + 1 := by simpa using hcm
    have hle : s1.heap.objs.size ≤ c ∧ c < h2.objs.size := by omega
    exact ⟨I1.fpOk hle.1 (I1.hok.fresh hle.1), hle.2⟩
  refine callType_codes (Q₁ := fun obj s₁ => obj = .ref h2.objs.size ∧ s₁ = { s1 with heap := h2.push { cls := .type "list", data := .seq #[] } }) PySem.F.called_list (PySem.F.typeCall_list_1 _) PySem.F.entry_list_init
    (code_list_new _ ⟨rfl, rfl⟩) fun obj s₁ h₁ => ?_
  generalize s1.heap.objs.size + 4 = z at *
  generalize s1.heap.objs.size + 2 = TI at *
  generalize s1.heap.objs.size + 3 = TO at *
  generalize s1.heap.objs.size + 1 = j2 at *
  generalize s1.heap.objs.size = j1 at *
  obtain ⟨rfl, rfl⟩ := h₁
  have hS : (h2.push { cls := .type "list", data := .seq #[] }).get? h2.objs.size = some { cls := .type "list", data := .seq #[] } := Heap.get?_push_size _ rfl
  have fr : H1 h2.objs.size = none := I2.hok.fresh (Nat.le_refl _)
  have I3 : Inv X pins σ (upd H1 h2.objs.size (.lst [])) { s1 with heap := h2.push { cls := .type "list", data := .seq #[] } } := I2.lnew (its := []) (ys := []) (t' := s1.toks) .nil (Nat.zero_le _)
  have far : ∀ c ∈ [z, TI, TO, j1, j2], c ≠ h2.objs.size := fun c hc => Nat.ne_of_lt (ff c hc).2
  have st0 : ∀ c o, h2.get? c = some o → (h2.push { cls := .type "list", data := .seq #[] }).get? c = some o := fun c o e => Heap.get?_push_of_some _ e
  refine ⟨⟨_, hS, rfl⟩, PySem.F.args_list_init_2 _ _, ?_⟩
  generalize hh3 : h2.push { cls := .type "list", data := .seq #[] } = h3 at *
  generalize h2.objs.size = q at *
  show wpAny _ _ (do let was ← Builtin.List.listItems (.ref q); Builtin.List.listUpdate (.ref q) (fun _ => #[]); letGo was.toList.reverse; Builtin.List.listExtendWith (.ref q) (.ref z) .none) _ _ _
  refine wpAny_bind ?_
  unfold Builtin.List.listItems
  refine wpAny_bind (wpAny_seqItems hS rfl (wpAny_pure ?_))
  show wpAny _ _ (updateSeq q (fun _ => #[]) >>= fun _ => letGo (#[] : Array Value).toList.reverse >>= fun _ => Builtin.List.listExtendWith (.ref q) (.ref z) .none) _ _ _
  refine wpAny_bind (wpAny_updateSeq hS rfl ?_)
  have I4 := I3.lset (f := fun _ => #[]) (its := []) (its' := []) (ys := []) (t' := s1.toks) upd_same hS rfl .nil (Nat.zero_le _)
  rw [upd_upd] at I4
  have st1 : ∀ c ∈ [z, TI, TO, j1, j2], ∀ o, h2.get? c = some o → (h3.update q (Obj.mapSeq fun _ => #[])).get? c = some o := fun c hc o e => (Heap.get?_update_other _ _ (far c hc).symm).trans (st0 _ _ e)
  generalize h3.update q (Obj.mapSeq fun _ => #[]) = h4 at *
  refine wpAny_bind (wpAny_letGo ?_)
  have hz4 : IsZip h4 z TI TO .none := st1 z (by simp) _ hz
  have ty4 : Shared.TypeIs { s1 with heap := h4 } (.ref z) "zip" := ⟨_, hz4, rfl⟩
  have nqz : q ≠ z := (far z (by simp)).symm
  unfold Builtin.List.listExtendWith
  refine wpAny_bind (wpAny_typeOf ty4 ?_)
  have t1 : Builtin.List.listSameRef (.ref q) (.ref z) = false := by simp [Builtin.List.listSameRef, nqz]
  have t2 : (Value.type "zip" == Value.type "list") = false := by decide
  have t3 : (Value.type "zip" == Value.type "tuple") = false := by decide
  simp only [t1, t2, t3, Bool.or_false, Bool.false_eq_true, if_false]
  refine wpAny_bind (wpAny_pyIter_zip hz4 (wpAny_bind (wpAny_holding ?_)))
  unfold Builtin.List.listLengthHint
  refine wpAny_bind (wpAny_specialOf ty4 zl_len0 ?_)
  show wpAny _ _ (specialOf (Value.ref z) (Str.ofString "__length_hint__") >>= _) _ _ _
  refine wpAny_bind (wpAny_specialOf ty4 zl_hint0 (wpAny_pure ?_))
  replace I4 : Inv X pins σ (upd H1 q (.lst [])) { s1 with heap := h4 } := I4
  have room : (1 : Nat) ≤ sizeLine := by decide
  refine wpAny_ite_split (fun _ => wpAny_bind (wpAny_rule (wpAny_bind ?_))) (fun n => absurd rfl n)
  obtain ⟨_, itsA, kA, rA, _, eA⟩ := I4.lstM upd_same
  cases rA
  show wpAny _ _ (updateSeq q (·.push .none) >>= fun _ => updateSeq q (·.pop)) _ _ _
  refine wpAny_bind (wpAny_updateSeq eA rfl ?_)
  have I5 : Inv X pins σ (upd H1 q (.lst [.non])) { s1 with heap := h4.update q (Obj.mapSeq (·.push Value.none)) } := by
    have z := I4.lset (f := (·.push Value.none)) (its' := [Value.none]) (ys := [.non]) (t' := s1.toks) upd_same eA (by simp) (.cons rfl .nil) room
    rw [upd_upd] at z
    exact z
  have st2 : ∀ c ∈ [z, TI, TO, j1, j2], ∀ o, h2.get? c = some o → (h4.update q (Obj.mapSeq (·.push Value.none))).get? c = some o := fun c hc o e => (Heap.get?_update_other _ _ (far c hc).symm).trans (st1 c hc o e)
  generalize h4.update q (Obj.mapSeq (·.push Value.none)) = h5 at *
  obtain ⟨_, itsB, kB, rB, _, eB⟩ := I5.lstM upd_same
  obtain ⟨uB, rfl, ruB⟩ := rB.one
  refine wpAny_updateSeq eB rfl ?_ room (Nat.zero_le _)
  have I6 : Inv X pins σ (upd H1 q (.lst [])) { s1 with heap := h5.update q (Obj.mapSeq (·.pop)) } := by
    have z := I5.lset (f := (·.pop)) (its' := []) (ys := []) (t' := s1.toks) upd_same eB (by rfl) .nil (Nat.zero_le _)
    rw [upd_upd] at z
    exact z
  have st3 : ∀ c ∈ [z, TI, TO, j1, j2], ∀ o, h2.get? c = some o → (h5.update q (Obj.mapSeq (·.pop))).get? c = some o := fun c hc o e => (Heap.get?_update_other _ _ (far c hc).symm).trans (st2 c hc o e)
  refine wpAny_pure ⟨plainId_quiet PySem.F.plain_extend_loop _, zl_loop (H0 := H1) (A1 := X.A.in1) (Rs := wants (fun r s₂ => r = .none ∧ EP X pins σ R (.ref q) s₂) X.xe) (I.ok.hd hc) D (n0 := min xs.length ys.length) (Nat.min_le_left _ _) (Nat.min_le_right _ _) (by omega) (by omega) fr hx hy (fun H' s' Ts I' sm tl P => ⟨rfl, .ref q, H', I', rfl, fin q H' Ts fr sm tl P⟩) _ 0 _ _ [] rfl (Nat.zero_le _) I6 (fun c hc => FpOk.up (ff c hc).1 (far c hc).symm)
    ⟨.inl (st3 z (by simp) _ hz), st3 TI (by simp) _ hI, ⟨_, _, st3 TO (by simp) _ hO⟩, g1.at fun o e => st3 j1 (by simp) o e, g2.at fun o e => st3 j2 (by simp) o e⟩ (fun c o e => by rw [upd_ne (ne_of_none e fr)]; exact e) rfl ⟨upd_same, fun j T x y e => by simp at e⟩⟩
end Kx
/-! == of deep data within comprehensions; != of two dicts of the same data; loops over a list or a tuple. -/
namespace Kx
open PySem PySem.Spec PyProof.Rows L2
theorem opK_eqDD {X : Cx} {K : PySem.W.Frag} (hK : X.K = K) (hu : X.A.units + 200 < cLine) : OpR X (compareOp .Eq) (rEqDD K) := by
  subst hK
  exact op_eqDD hu
/-- all that stands in the one stands in the other -/
theorem hits_data {A : Around} {X : Cx} {pins : List (Addr × Obj)} {σ : L2.St} {H : Hp} {s : Shared} (I : Inv X pins σ H s) (hu : A.units + 195 < cLine) {ls : List (Key × V)} {vb : List (Key × Value)} (rb : KV ls vb) :
    ∀ {ks : List (Key × V)} {va : List (Key × Value)}, KV ks va → (∀ p ∈ ks, ∃ v t, valV ls p.1 = some v ∧ Is H p.2 t ∧ Is H v t ∧ dep t ≤ 190) → PySem.W.KeqHits A s vb va true
  | _, _, .nil, _ => .nil
  | _, _, .cons (a := p) (b := q) ⟨e, ry⟩ t, h => by
    obtain ⟨v, d, h1, h2, h3, h4⟩ := h p (List.mem_cons_self ..)
    have k := hits_data I hu rb t fun p' hm => h p' (List.mem_cons_of_mem _ hm)
    obtain ⟨q1, q2⟩ := q
    simp only at e ry
    subst e
    have z := rb.val p.1
    rw [h1] at z
    cases hv : valueAt vb p.1 with
    | none => rw [hv] at z; exact (show False from z).elim
    | some u =>
      rw [hv] at z
      obtain ⟨as, r1⟩ := Dp.reads I (toD d) p.2 q2 h2.dp ry
      obtain ⟨bs, r2⟩ := Dp.reads I (toD d) v u h3.dp z
      have eq : SeqAt.EqAt A s q2 u (PyData.eqv (toD d) (toD d)) := SeqAt.eqAt_reads _ _ A s q2 u as bs r1 r2 h2.lay h2.lay (by have := toD_depth d; rw [Nat.min_self]; omega)
      rw [eqv_self] at eq
      exact .hit (e := true) hv eq k
def rNeSame : R2 := fun x y H Q => (x = .non ∧ y = .non ∧ Q (.bl false) H) ∨ ∃ a b ks ls, x = .ref a ∧ y = .ref b ∧ H a = some (.dK ks) ∧ H b = some (.dK ls) ∧ ks.length = ls.length ∧ (∀ p ∈ ks, ∃ v t, valV ls p.1 = some v ∧ Is H p.2 t ∧ Is H v t ∧ dep t ≤ 190) ∧ Q (.bl false) H
section
variable {X : Cx}
theorem op_neSame (hu : X.A.units + 200 < cLine) : OpR X (compareOp .NotEq) rNeSame := by
  intro pins s σ H x y v u Q I rx ry hyp
  rcases hyp with ⟨rfl, rfl, q⟩ | ⟨a, b, ks, ls, rfl, rfl, ea, eb, hlen, hp, fin⟩
  · exact op_ne pins s σ H .non .non v u Q I rx ry ⟨rfl, q⟩
  cases (show v = Value.ref a from rx)
  cases (show u = Value.ref b from ry)
  obtain ⟨_, y1, va, ra, da⟩ := (show ObjOk X.prog X.w H s.heap a (.dK ks) from I.hok a _ ea)
  obtain ⟨_, y2, vb, rb, db⟩ := (show ObjOk X.prog X.w H s.heap b (.dK ls) from I.hok b _ eb)
  have few : va.length = vb.length := by rw [← ra.length, ← rb.length]; exact hlen
  exact PySem.W.keq_ne (knd := mixKind X.prog X.w) (r := true) y1 y2 da db (by omega) (fun _ => hits_data I (by show X.A.units + 1 + 195 < cLine; omega) rb ra hp) (fin_bl I fin (by simp [few]))
/-! ### for x in s: a list or a tuple -/
def iSeq (K : PySem.W.Frag) (tl : TE) : TI := fun σ H R => tl σ H fun x H1 => ∃ a, x = .ref a ∧ (((∃ xs, SqL K H1 a xs) ∧ R (Itl K a) H1) ∨ ((∃ xs, SqT K H1 a xs) ∧ R (Itt K a) H1))
theorem pi_seq {tg l : Expr} {tl : TE} (hl : PE X l tl) : PI X tg l (iSeq X.K tl) := by
  refine ⟨fun pins s σ H R I h => thn (hl.run pins s σ H _ I h) fun v s1 ⟨x, H1, I1, r1, q1⟩ => ?_⟩
  obtain ⟨a, e, q⟩ := q1
  subst e
  cases r1
  have far : ∀ b ∈ [s1.heap.objs.size], FpOk X pins H1 b := fun b hb => by
    rw [List.mem_singleton.mp hb]
    exact I1.fpOk (Nat.le_refl _) (I1.hok.fresh (Nat.le_refl _))
  rcases q with ⟨⟨xs, hq⟩, q⟩ | ⟨⟨xs, hq⟩, q⟩
  · obtain ⟨its, rv, p, _⟩ := I1.list hq
    exact wpAny_pyIter_list p.isList ⟨_, [s1.heap.objs.size], _, _, H1, rfl, I1.kept (t' := s1.toks) fun b o e => Heap.get?_push_of_some _ e, turn_list a _, ⟨_, Heap.get?_push_size _ rfl, rfl, rfl⟩, far, q⟩
  · obtain ⟨its, rv, p, _⟩ := I1.tuple hq
    exact wpAny_pyIter_tuple (show s1.heap.IsTuple a its.toArray from p) ⟨_, [s1.heap.objs.size], _, _, H1, rfl, I1.kept (t' := s1.toks) fun b o e => Heap.get?_push_of_some _ e, turn_tuple a _, ⟨_, Heap.get?_push_size _ rfl, rfl, rfl⟩, far, q⟩
end
end Kx
namespace Kx
open PySem PySem.Spec PyProof.Rows L2
section
variable {P : Program} {w : World} {K : PySem.W.Frag} {mg : Str → Option Value} {base : Heap}
/-- a term, or what is bound: made of few names and makers -/
structure TOk (mk : List (Str × Int)) (Ns : List Str) (t : PV) : Prop where
  wf : Wf mk t
  sz : psz t ≤ 31
  dp : dep t ≤ 16
  vs : ∀ z ∈ lv t, z ∈ Ns
def BOk (mk : List (Str × Int)) (Ns : List Str) (b : AL) : Prop := ∀ z t, get b z = some t → TOk mk Ns t
mutual
theorem dep_psz : ∀ t : PV, dep t ≤ psz t + 1
  | .str _ => by simp [dep, psz]
  | .tup w r => by
    have := depL_pszL r
    simp only [dep, psz]; omega
theorem depL_pszL : ∀ l : List PV, depL l ≤ pszL l + 1
  | [] => by simp [depL, pszL]
  | t :: r => by
    have a := dep_psz t
    have b := depL_pszL r
    have c := psz_pos t
    simp only [depL, pszL]; omega
end
theorem pszL_mem : ∀ {l : List PV} {t : PV}, t ∈ l → psz t ≤ pszL l
  | a :: r, t, h => by
    rcases List.mem_cons.mp h with rfl | h
    · simp only [pszL]; omega
    · have := pszL_mem h
      simp only [pszL]; omega
theorem lvL_mem : ∀ {l : List PV} {t : PV}, t ∈ l → ∀ z ∈ lv t, z ∈ lvL l
  | a :: r, t, h, z, hz => by
    simp only [lvL]
    rcases List.mem_cons.mp h with rfl | h
    · exact List.mem_append_left _ hz
    · exact List.mem_append_right _ (lvL_mem h z hz)
theorem TOk.part {mk : List (Str × Int)} {Ns : List Str} {w : Str} {r : List PV} (h : TOk mk Ns (.tup w r)) {t : PV} (ht : t ∈ r) : TOk mk Ns t :=
  ⟨mem_WfL h.wf.2.2 t ht, by
    have := pszL_mem ht
    have := h.sz
    simp only [psz] at this
    omega, by
    have := depL_mem ht
    have := h.dp
    simp only [dep] at this
    omega, fun z hz => h.vs z (by simpa only [lv] using lvL_mem ht z hz)⟩
theorem BOk.wf {mk : List (Str × Int)} {Ns : List Str} {b : AL} (h : BOk mk Ns b) : BWf mk b := fun z t e => (h z t e).wf
theorem BOk.nil (mk : List (Str × Int)) (Ns : List Str) : BOk mk Ns [] := fun z t e => by simp [get_nil] at e
theorem BOk.snoc {mk : List (Str × Int)} {Ns : List Str} {b : AL} (h : BOk mk Ns b) {n : Str} {t : PV} (ht : TOk mk Ns t) : BOk mk Ns (b ++ [(n, t)]) := fun z u e => by
  rw [get_snoc] at e
  cases eb : get b z with
  | some v =>
    rw [eb] at e
    cases e
    exact h z _ eb
  | none =>
    rw [eb] at e
    simp only [Option.none_or] at e
    split at e
    · cases e; exact ht
    · cases e
theorem Fo.ok {mk : List (Str × Int)} {Ns : List Str} {b : AL} (hb : BOk mk Ns b) : ∀ {m : Nat} {t r : PV}, Fo b m t r → TOk mk Ns t → TOk mk Ns r
  | _, _, _, .tup _ _, h => h
  | _, _, _, .free _, h => h
  | _, _, _, .step e k, _ => k.ok hb (hb _ _ e)
theorem deep_ok {mk : List (Str × Int)} {Ns : List Str} {t : PV} {H : Hp} {v : V} (h : TOk mk Ns t) (hI : Is H v t) : deep (toD t) = true := by
  have a := toD_depth t
  have c := h.dp
  unfold deep
  rw [hI.lay, decide_eq_true (by omega)]; rfl
theorem mem_dd (z : Str) : ∀ (ys f : List Str), z ∈ dd f ys ↔ z ∈ f ∨ z ∈ ys
  | [], f => by simp [dd]
  | y :: ys, f => by
    show z ∈ dd (add1 f y) ys ↔ _
    rw [mem_dd z ys (add1 f y)]
    unfold add1
    by_cases h : y ∈ f
    · rw [if_pos h]
      constructor
      · rintro (a | a)
        · exact .inl a
        · exact .inr (List.mem_cons_of_mem _ a)
      · rintro (a | a)
        · exact .inl a
        · rcases List.mem_cons.mp a with rfl | a
          · exact .inl h
          · exact .inr a
    · rw [if_neg h]
      simp [or_assoc]
theorem mem_nms {z : Str} {t : PV} : z ∈ nms t ↔ z ∈ lv t := by
  unfold nms
  rw [mem_dd]; simp
/-- all names of the term are looked at -/
def Dn (b : AL) (x : Str) (S : List Str) (T : PV) : Prop := ∀ u ∈ lv T, ∀ m r, Fo b m (.str u) r → r ≠ .str x ∧ (isTup r = true → u ∈ S)
theorem Dn.mono {b : AL} {x : Str} {S S' : List Str} {T : PV} (h : Dn b x S T) (s : ∀ z ∈ S, z ∈ S') : Dn b x S' T := fun u hu m r k => ⟨(h u hu m r k).1, fun q => s u ((h u hu m r k).2 q)⟩
theorem no_occ {b : AL} {x : Str} {S : List Str} (hS : ∀ z ∈ S, ∃ m r, Fo b m (.str z) r ∧ Dn b x S r) : ∀ {T : PV}, Occ b x T → Dn b x S T → False
  | _, .here hz k, h => (h _ hz _ _ k).1 rfl
  | _, .in_ hz k o, h => by
    obtain ⟨m, r, k', d⟩ := hS _ ((h _ hz _ _ k).2 rfl)
    have := k.uniq k'
    subst this
    exact no_occ hS o d
theorem valV_seen (z : Str) : ∀ S : List Str, valV (S.map fun u => ((Sum.inr u : Key), V.bl true)) (Sum.inr z) = if z ∈ S then some (.bl true) else none
  | [] => rfl
  | u :: S => by
    by_cases e : u = z
    · subst e
      rw [if_pos (List.mem_cons_self ..)]
      exact valV_pos rfl
    · rw [List.map_cons, valV_neg (fun q => e (Sum.inr.inj q)), valV_seen z S]
      have : (z ∈ u :: S) ↔ z ∈ S := by
        rw [List.mem_cons]
        exact ⟨fun h => h.elim (fun q => absurd q.symm e) id, .inr⟩
      by_cases h : z ∈ S
      · rw [if_pos h, if_pos (this.mpr h)]
      · rw [if_neg h, if_neg (fun q => h (this.mp q))]
mutual
theorem lv_ok {H : Hp} : ∀ {v : V} {t : PV}, Is H v t → ∀ z ∈ lv t, sok z = true
  | _, _, .str z k, y, hy => by
    simp only [lv, List.mem_singleton] at hy
    rw [hy]; exact k
  | _, _, .tup e k h, y, hy => lvL_ok h y (by simpa only [lv] using hy)
theorem lvL_ok {H : Hp} : ∀ {v : List V} {t : List PV}, IsL H v t → ∀ z ∈ lvL t, sok z = true
  | _, _, .nil, y, hy => by simp [lvL] at hy
  | _, _, .cons h r, y, hy => by
    simp only [lvL] at hy
    rcases List.mem_append.mp hy with hy | hy
    · exact lv_ok h y hy
    · exact lvL_ok r y hy
end
/-- all names are bound to something in the end -/
def EndsB (b : AL) : Prop := ∀ t, ∃ m r, Fo b m t r
theorem EndsB.nil : EndsB [] := fun t => match t with
  | .str _ => ⟨_, _, .free rfl⟩
  | .tup w r => ⟨_, _, .tup w r⟩
theorem EndsB.snoc {b : AL} {x : Str} {t : PV} (h : EndsB b) (hx : get b x = none) (ht : ∀ y, t = .str y → get b y = none ∧ y ≠ x) : EndsB (b ++ [(x, t)]) := by
  have atx : get (b ++ [(x, t)]) x = some t := by rw [get_snoc, hx, if_pos rfl]; rfl
  have ends : ∃ m r, Fo (b ++ [(x, t)]) m t r := by
    cases t with
    | tup w r => exact ⟨_, _, .tup w r⟩
    | str y =>
      obtain ⟨a, c⟩ := ht y rfl
      exact ⟨_, _, .free (by rw [get_snoc, a, if_neg (fun e => c e.symm)]; rfl)⟩
  have up : ∀ {m : Nat} {s r : PV}, Fo b m s r → ∃ m' r', Fo (b ++ [(x, t)]) m' s r' := by
    intro m s r k
    induction k with
    | tup w r => exact ⟨_, _, .tup w r⟩
    | @free z hz =>
      by_cases e : z = x
      · subst e
        obtain ⟨m, r, k⟩ := ends
        exact ⟨_, _, .step atx k⟩
      · exact ⟨_, _, .free (by rw [get_snoc, hz, if_neg (fun q => e q.symm)]; rfl)⟩
    | @step m z u r hz k ih =>
      obtain ⟨m', r', k'⟩ := ih
      exact ⟨_, _, .step (by rw [get_snoc, hz]; rfl) k'⟩
  intro s
  obtain ⟨m, r, k⟩ := h s
  exact up k
def unseen (Ns S : List Str) : Nat := (Ns.filter fun z => decide (z ∉ S)).length
theorem unseen_snoc {Ns S : List Str} {z : Str} (hV : z ∈ Ns) (hn : z ∉ S) : unseen Ns (S ++ [z]) < unseen Ns S := by
  unfold unseen
  have key : ∀ l : List Str, (l.filter fun y => decide (y ∉ S ++ [z])).length ≤ (l.filter fun y => decide (y ∉ S)).length ∧ (z ∈ l → (l.filter fun y => decide (y ∉ S ++ [z])).length < (l.filter fun y => decide (y ∉ S)).length) := by
    intro l
    induction l with
    | nil => exact ⟨Nat.le_refl _, fun h => by simp at h⟩
    | cons y l ih =>
      simp only [List.filter_cons]
      by_cases e : y = z
      · subst e
        have h1 : decide (y ∉ S ++ [y]) = false := by simp
        have h2 : decide (y ∉ S) = true := by simpa using hn
        rw [h1, h2]
        simp only [Bool.false_eq_true, if_false, if_true, List.length_cons]
        exact ⟨by omega, fun _ => by omega⟩
      · have h3 : decide (y ∉ S ++ [z]) = decide (y ∉ S) := by simp [e]
        rw [h3]
        split
        · simp only [List.length_cons]
          refine ⟨by omega, fun h => ?_⟩
          have := ih.2 ((List.mem_cons.mp h).resolve_left (fun q => e q.symm))
          omega
        · refine ⟨ih.1, fun h => ih.2 ((List.mem_cons.mp h).resolve_left (fun q => e q.symm))⟩
  exact (key Ns).2 hV
def spOccurs : Sp := fun vs H Q _ => ∃ (p : Addr) (mk : List (Str × Int)) (W : List Str) (x : Str) (v : V) (t : PV) (b : AL), vs = [.str x, v, .ref p] ∧ AsD H p b ∧ EndsB b ∧ BOk mk W b ∧ sok x = true ∧ Is H v t ∧ TOk mk W t ∧ W.length ≤ 100 ∧ ∀ r H', Same H H' → (r = true ↔ Occ b x t) → Q (.bl r) H'
theorem ok_occurs (T : Txt K mg) (G_names_of : FnOk P w K mg base CX0 1 T.a_names_of T.d_names_of ["term"] spNames) (G_followed : FnOk P w K mg base CX0 1 T.a_followed T.d_followed ["term", "bound"] spFo) : FnOk P w K mg base CX0 2 T.a_occurs T.d_occurs ["name", "term", "bound"] spOccurs := by
  refine T.F_occurs.ok sc_occurs (fun vs H Q E h => ?_) (fun cdv A outer s H vs Q E hr h => ?_)
  · obtain ⟨p, mk, W, x, v, t, b, rfl, _⟩ := h; rfl
  · obtain ⟨p, mk, W, x, v, t, b, rfl, hA, S0, hB, kx, hI, hT, w100, q⟩ := h
    have hu := hu_of hr
    have hr_names_of := hr.mono (show 1 ≤ 1 by omega)
    have hr_followed := hr.mono (show 1 ≤ 1 by omega)
    refine ⟨_, (pss_cons (ps_set (i := 3) sc_occurs.nd rfl (Or.inl rfl) pe_dnewK)
    (pss_cons (ps_set (i := 4) sc_occurs.nd rfl (Or.inl rfl) (pe_lst (pa_cons (pv 1) pa_nil)))
    (pss_cons (ps_while PassesOwn.never (pt_truth (pv 4) (by intro _; rfl))
    (pss_cons (ps_set (i := 5) sc_occurs.nd rfl (Or.inl rfl) (pe_bm0 PySem.F.plainAttrs_list PySem.F.slot_list_pop PySem.F.type_list_pop mt_pop (pv 4)))
    (pss_one (ps_for PassesOwn.never rfl (pi_list (pe_call G_names_of hr_names_of rfl T.m_names_of T.F_names_of.kp T.b_names_of .nil pass0 (pa_cons (pv 5) pa_nil))) (pg_name (i := 6) sc_occurs.nd rfl (Or.inl rfl))
    (pss_cons (ps_set (i := 7) sc_occurs.nd rfl (Or.inl rfl) (pe_call G_followed hr_followed rfl T.m_followed T.F_followed.kp T.b_followed .nil pass0 (pa_cons (pv 6) (pa_cons (pv 2) pa_nil))))
    (pss_cons (ps_if (pt_cmpR (opK_eqDD (K := K) rfl (units200 hr)) (pv 7) (pv 0) (nomark _)) (pss_one (ps_ret pe_bl)) pss_nil)
    (pss_one (ps_if (PW.pt (pw_and (pt_val (pe_callB call_isi (by rfl) T.z_isinstance (by decide +kernel) (pa_cons (pv 7) (pa_cons (pe_bltn rfl T.z_tuple (by decide +kernel) (show RelV (V.ty "tuple") (Value.type "tuple") from rfl)) pa_nil)))) (pw_and1 (pt_cmp (pc_dnotin hu (pv 6) (pv 3)))))) (pss_cons (ps_dput hu (pv 3) (pv 6) pe_bl rfl)
    (pss_one (ps_expr (pe_bm PySem.F.plainAttrs_list PySem.F.slot_list_append PySem.F.type_list_append mt_append (pv 4) (pa_cons (pv 7) pa_nil))))) pss_nil))))))))
    (pss_one (ps_ret pe_bl))))), ?_⟩
    refine fun sa hsa => ⟨_, rfl, (by show 1 ≤ sizeLine; decide), fun ta hta => ?_⟩
    have s1 := same_upd hsa (.dK [])
    have s2 := same_upd hta (.lst [v])
    have ft : H ta = none := s1.free hta
    have nst : sa ≠ ta := ne_of_none upd_same hta
    refine ⟨fun m σ H2 => ∃ y5 y6 y7 vs ts S, σ = [some (.str x), some v, some (.ref p), some (.ref sa), some (.ref ta), y5, y6, y7] ∧ Same H H2 ∧ H2 sa = some (.dK (S.map fun u => ((Sum.inr u : Key), V.bl true))) ∧ H2 ta = some (.lst vs) ∧ IsL H2 vs ts ∧ (∀ T ∈ ts, TOk mk W T) ∧ 2 * unseen W S + ts.length = m ∧ m ≤ 300 ∧ S.length + 2 * unseen W S ≤ 300 ∧ (Dn b x S t ∨ t ∈ ts) ∧ (∀ z ∈ S, ∃ k r, Fo b k (.str z) r ∧ (Dn b x S r ∨ r ∈ ts)) ∧ ∀ T ∈ ts, Occ b x T → Occ b x t, ⟨2 * unseen W [] + 1, ?_⟩, ?_⟩
    · have : unseen W [] ≤ W.length := List.length_filter_le _ _
      refine ⟨none, none, none, [v], [t], [], rfl, s1.trans s2, ?_, upd_same, .cons ((hI.same s1).same s2) .nil, fun T hT' => by rw [List.mem_singleton.mp hT']; exact hT, rfl, by omega, by rw [List.length_nil]; omega, .inr (List.mem_singleton_self _), fun z hz => by simp at hz, fun T hT' o => by rw [List.mem_singleton.mp hT'] at o; exact o⟩
      rw [upd_ne nst, upd_same]; rfl
    · intro m σ H2 ⟨y5, y6, y7, vs, ts, S, es, sm, es2, et, hL, hTs, hm, hb, hS3, hD1, hD2, hO⟩
      subst es
      refine ⟨_, rfl, _, .inl ⟨_, SqL.of et, rfl⟩, ?_⟩
      refine ite2 (fun cv => ?_) (fun cv => ?_)
      case refine_2 =>
        have hv : vs = [] := by cases vs with | nil => rfl | cons _ _ => exact absurd rfl cv
        subst hv
        cases hL
        refine q false H2 sm ⟨fun z => (by cases z), fun o => ?_⟩
        exact (no_occ (fun z hz => let ⟨k, r, f1, d⟩ := hD2 z hz; ⟨k, r, f1, d.resolve_right (by simp)⟩) o (hD1.resolve_right (by simp))).elim
      have hne : vs ≠ [] := by intro e; rw [e] at cv; cases cv
      have hlast : vs[vs.length - 1]? = some (vs.getLast hne) := by
        rw [List.getLast_eq_getElem, List.getElem?_eq_getElem]
      obtain ⟨ts', y, ets, hy, hL'⟩ := hL.snoc_inv hlast hne
      have lts : ts.length = ts'.length + 1 := by rw [ets, List.length_append]; rfl
      refine ⟨fun σ' H' => ∃ m', m' < m ∧ ∃ y5 y6 y7 vs ts S, σ' = [some (.str x), some v, some (.ref p), some (.ref sa), some (.ref ta), y5, y6, y7] ∧ Same H H' ∧ H' sa = some (.dK (S.map fun u => ((Sum.inr u : Key), V.bl true))) ∧ H' ta = some (.lst vs) ∧ IsL H' vs ts ∧ (∀ T ∈ ts, TOk mk W T) ∧ 2 * unseen W S + ts.length = m' ∧ m' ≤ 300 ∧ S.length + 2 * unseen W S ≤ 300 ∧ (Dn b x S t ∨ t ∈ ts) ∧ (∀ z ∈ S, ∃ k r, Fo b k (.str z) r ∧ (Dn b x S r ∨ r ∈ ts)) ∧ ∀ T ∈ ts, Occ b x T → Occ b x t, fun σ' H' z => z, ?_⟩
      refine ⟨_, rfl, .inl ⟨rfl, _, SqL.of et⟩, ta, vs, _, rfl, rfl, et, hlast, ?_⟩
      have x3 : Ex ta H2 (upd H2 ta (.lst vs.dropLast)) := .set _
      have sm3 : Same H (upd H2 ta (.lst vs.dropLast)) := Kx.Same.own sm ft _
      have hy3 := hy.ex x3 ⟨_, et⟩
      have hL3 := hL'.ex x3 ⟨_, et⟩
      have es3 : (upd H2 ta (.lst vs.dropLast)) sa = some (.dK (S.map fun u => ((Sum.inr u : Key), V.bl true))) := by rw [upd_ne nst]; exact es2
      have yT : TOk mk W y := hTs y (by rw [ets]; simp)
      have yO : Occ b x y → Occ b x t := hO y (by rw [ets]; simp)
      refine ⟨_, rfl, mk, _, y, rfl, hy3, yT.wf, by have := yT.sz; omega, fun na H3 s3 fna ena => ?_⟩
      have et3 := s3 _ _ (show (upd H2 ta (.lst vs.dropLast)) ta = _ from upd_same)
      have es4 := s3 _ _ es3
      have nna : na ≠ ta ∧ na ≠ sa := ⟨fun e => (by rw [e, upd_same] at fna; cases fna), fun e => (by rw [e, es3] at fna; cases fna)⟩
      refine ⟨na, rfl, ⟨_, SqL.of ena⟩, ?_⟩
      refine for_list (xs := (nms y).map V.str) (fun i σ H4 => ∃ y6 y7 vs1 ts1 S1, σ = [some (.str x), some v, some (.ref p), some (.ref sa), some (.ref ta), some (vs.getLast hne), y6, y7] ∧ Same H H4 ∧ H4 na = some (.lst ((nms y).map V.str)) ∧ H4 sa = some (.dK (S1.map fun u => ((Sum.inr u : Key), V.bl true))) ∧ H4 ta = some (.lst vs1) ∧ IsL H4 vs1 ts1 ∧ (∀ T ∈ ts1, TOk mk W T) ∧ 2 * unseen W S1 + ts1.length + 1 ≤ m ∧ S1.length + 2 * unseen W S1 ≤ S.length + 2 * unseen W S ∧ (Dn b x S1 t ∨ t ∈ ts1 ∨ t = y) ∧ (∀ z ∈ S1, ∃ k r, Fo b k (.str z) r ∧ (Dn b x S1 r ∨ r ∈ ts1 ∨ r = y)) ∧ (∀ T ∈ ts1, Occ b x T → Occ b x t) ∧ ∀ u ∈ (nms y).take i, ∀ k r, Fo b k (.str u) r → r ≠ .str x ∧ (isTup r = true → u ∈ S1)) ?_ ?_ ?_ ?_
      · refine ⟨y6, y7, _, ts', S, rfl, sm3.trans s3, ena, es4, et3, hL3.same s3, fun T h => hTs T (by rw [ets]; exact List.mem_append_left _ h), by omega, Nat.le_refl _, ?_, fun z hz => ?_, fun T h => hO T (by rw [ets]; exact List.mem_append_left _ h), fun u hu' => by simp at hu'⟩
        · rcases hD1 with h | h
          · exact .inl h
          · rw [ets] at h
            rcases List.mem_append.mp h with h | h
            · exact .inr (.inl h)
            · exact .inr (.inr (List.mem_singleton.mp h))
        · obtain ⟨k, r, f1, h⟩ := hD2 z hz
          refine ⟨k, r, f1, ?_⟩
          rcases h with h | h
          · exact .inl h
          · rw [ets] at h
            rcases List.mem_append.mp h with h | h
            · exact .inr (.inl h)
            · exact .inr (.inr (List.mem_singleton.mp h))
      · exact fun i σ H4 _ ⟨_, _, _, _, _, _, _, e, _⟩ => SqL.of e
      · intro i x1 σ H4 hx1 ⟨y6, y7, vs1, ts1, S1, es, sm4, en4, es4, et4, hL4, hT4, hm4, hS4, hD14, hD24, hO4, hU4⟩
        subst es
        rw [List.getElem?_map] at hx1
        obtain ⟨u, eu, rfl⟩ : ∃ u, (nms y)[i]? = some u ∧ V.str u = x1 := by
          cases e : (nms y)[i]? with
          | none => rw [e] at hx1; cases hx1
          | some u => rw [e] at hx1; exact ⟨u, rfl, Option.some.inj hx1⟩
        have uy : u ∈ lv y := mem_nms.mp (List.mem_of_getElem? eu)
        have ku := lv_ok hy3 u uy
        have tku : (nms y).take (i + 1) = (nms y).take i ++ [u] := by
          have hi := (List.getElem?_eq_some_iff.mp eu)
          rw [List.take_succ_eq_append_getElem hi.1, hi.2]
        obtain ⟨k, r, hF⟩ := S0 (.str u)
        have hTu : TOk mk W (.str u) := ⟨trivial, by simp [psz], by simp [dep], fun z hz => by simp [lv] at hz; subst hz; exact yT.vs _ uy⟩
        have hTr := hF.ok hB hTu
        refine ⟨_, rfl, _, rfl, p, _, _, r, b, k, rfl, hA.same sm4, .str u ku, hF, fun v' H5 s5 hv' => ?_⟩
        refine ⟨_, rfl, _, rfl, toD r, toD (.str x), hv'.dp, .str x, deep_ok hTr hv', deep_ok (Ns := [x]) (mk := mk) ⟨trivial, by simp [psz], by simp [dep], fun z hz => by simpa [lv] using hz⟩ (.str (H := H5) x kx), ?_⟩
        refine ⟨_, rfl, ite2 (fun c => ?_) (fun c => ?_)⟩
        · have e := eqv_eq c
          subst e
          exact q true H5 (sm4.trans s5) ⟨fun _ => yO (.here uy hF), fun _ => rfl⟩
        have nr : r ≠ .str x := fun e => c (by rw [e]; exact eqv_self _)
        obtain ⟨u2, ty, kt⟩ := hv'.ty (K := K)
        refine ⟨_, rfl, _, _, u2, _, _, rfl, .ty _, ty, kit_tup kt, _, rfl, ?_⟩
        have sm5 := sm4.trans s5
        have hL5 := hL4.same s5
        have es5 := s5 _ _ es4
        have et5 := s5 _ _ et4
        have en5 := s5 _ _ en4
        have goU : ∀ S' : List Str, (∀ z ∈ S1, z ∈ S') → (isTup r = true → u ∈ S') → ∀ u' ∈ (nms y).take (i + 1), ∀ k r, Fo b k (.str u') r → r ≠ .str x ∧ (isTup r = true → u' ∈ S') := fun S' hs hr' u' hu' k2 r2 f2 => by
          rw [tku] at hu'
          rcases List.mem_append.mp hu' with h | h
          · exact ⟨(hU4 u' h k2 r2 f2).1, fun q => hs _ ((hU4 u' h k2 r2 f2).2 q)⟩
          · have e := List.mem_singleton.mp h
            subst e
            have e2 := f2.uniq hF
            subst e2
            exact ⟨nr, hr'⟩
        refine ite2 (fun c2 => ?_) (fun c2 => ?_)
        case refine_2 =>
          exact iteF ⟨_, _, vs1, ts1, S1, rfl, sm5, en5, es5, et5, hL5, hT4, hm4, hS4, hD14, hD24, hO4, goU S1 (fun z h => h) fun q => absurd q c2⟩
        have gD : DGet H5 sa (.str u) (valV (S1.map fun u => ((Sum.inr u : Key), V.bl true)) (Sum.inr u)) := DGet.k (k := Sum.inr u) es5
        rw [valV_seen] at gD
        by_cases hin : u ∈ S1
        · rw [if_pos hin] at gD
          exact ⟨_, rfl, _, rfl, sa, _, rfl, gD, _, rfl, iteF ⟨_, _, vs1, ts1, S1, rfl, sm5, en5, es5, et5, hL5, hT4, hm4, hS4, hD14, hD24, hO4, goU S1 (fun z h => h) fun _ => hin⟩⟩
        · rw [if_neg hin] at gD
          have uW : u ∈ W := yT.vs u uy
          have less := unseen_snoc uW hin
          have few : S1.length < 900 := by omega
          refine ⟨_, rfl, _, rfl, sa, _, rfl, gD, _, rfl, iteT ?_⟩
          refine ⟨_, rfl, _, rfl, sa, _, rfl, DPut.k (k := Sum.inr u) es5 (by rw [List.length_map]; exact small1000 (by omega)), ?_⟩
          have vn : valV (S1.map fun u => ((Sum.inr u : Key), V.bl true)) (Sum.inr u) = none := by rw [valV_seen, if_neg hin]
          rw [putK_new _ vn]
          have smD : Same H (upd H5 sa (.dK ((S1.map fun u => ((Sum.inr u : Key), V.bl true)) ++ [(Sum.inr u, .bl true)]))) := Kx.Same.own sm5 hsa _
          refine ⟨_, rfl, .inl ⟨rfl, _, SqL.of (by rw [upd_ne nst.symm]; exact et5)⟩, _, rfl, ta, _, _, rfl, rfl, by rw [upd_ne nst.symm]; exact et5, ?_, ?_⟩
          · rw [hL5.len]; exact small1000 (by omega)
          have hmono : ∀ z ∈ S1, z ∈ S1 ++ [u] := fun z h => List.mem_append_left _ h
          have xD : ExD sa H5 (upd H5 sa (.dK ((S1.map fun u => ((Sum.inr u : Key), V.bl true)) ++ [(Sum.inr u, .bl true)]))) := .set _
          have hL6 : IsL (upd H5 sa (.dK ((S1.map fun u => ((Sum.inr u : Key), V.bl true)) ++ [(Sum.inr u, .bl true)]))) (vs1 ++ [v']) (ts1 ++ [r]) := (hL5.exD xD ⟨_, es5⟩).append (.cons (hv'.exD xD ⟨_, es5⟩) .nil)
          have et6 : (upd H5 sa (.dK ((S1.map fun u => ((Sum.inr u : Key), V.bl true)) ++ [(Sum.inr u, .bl true)]))) ta = some (.lst vs1) := by rw [upd_ne nst.symm]; exact et5
          have x7 : Ex ta (upd H5 sa (.dK ((S1.map fun u => ((Sum.inr u : Key), V.bl true)) ++ [(Sum.inr u, .bl true)]))) (upd (upd H5 sa (.dK ((S1.map fun u => ((Sum.inr u : Key), V.bl true)) ++ [(Sum.inr u, .bl true)]))) ta (.lst (vs1 ++ [v']))) := .set _
          refine ⟨_, _, vs1 ++ [v'], ts1 ++ [r], S1 ++ [u], rfl, Kx.Same.own smD ft _, ?_, ?_, upd_same, hL6.ex x7 ⟨_, et6⟩, ?_, ?_, ?_, ?_, ?_, ?_, goU _ hmono fun _ => List.mem_append_right _ (List.mem_singleton_self _)⟩
          · rw [upd_ne nna.1, upd_ne nna.2]; exact en5
          · rw [upd_ne nst, upd_same, List.map_append]; rfl
          · intro T hT'
            rcases List.mem_append.mp hT' with h | h
            · exact hT4 T h
            · rw [List.mem_singleton.mp h]; exact hTr
          · rw [List.length_append, List.length_singleton]; omega
          · rw [List.length_append, List.length_singleton]; omega
          · rcases hD14 with h | h | h
            · exact .inl (h.mono hmono)
            · exact .inr (.inl (List.mem_append_left _ h))
            · exact .inr (.inr h)
          · intro z hz
            rcases List.mem_append.mp hz with h | h
            · obtain ⟨k2, r2, f2, d⟩ := hD24 z h
              refine ⟨k2, r2, f2, ?_⟩
              rcases d with h | h | h
              · exact .inl (h.mono hmono)
              · exact .inr (.inl (List.mem_append_left _ h))
              · exact .inr (.inr h)
            · rw [List.mem_singleton.mp h]
              exact ⟨k, r, hF, .inr (.inl (List.mem_append_right _ (List.mem_singleton_self _)))⟩
          · intro T hT' o
            rcases List.mem_append.mp hT' with h | h
            · exact hO4 T h o
            · rw [List.mem_singleton.mp h] at o
              cases r with
              | str z => cases c2
              | tup w l => exact yO (.in_ uy hF o)
      · intro σ H4 ⟨y6, y7, vs1, ts1, S1, es, sm4, en4, es4, et4, hL4, hT4, hm4, hS4, hD14, hD24, hO4, hU4⟩
        subst es
        rw [List.length_map, List.take_length] at hU4
        have dy : Dn b x S1 y := fun u hu' => hU4 u (mem_nms.mpr hu')
        refine ⟨2 * unseen W S1 + ts1.length, by omega, _, _, _, vs1, ts1, S1, rfl, sm4, es4, et4, hL4, hT4, rfl, by omega, by omega, ?_, fun z hz => ?_, hO4⟩
        · rcases hD14 with h | h | h
          · exact .inl h
          · exact .inr h
          · exact .inl (by rw [h]; exact dy)
        · obtain ⟨k, r, f1, h⟩ := hD24 z hz
          refine ⟨k, r, f1, ?_⟩
          rcases h with h | h | h
          · exact .inl h
          · exact .inr h
          · exact .inl (by rw [h]; exact dy)
end
end Kx
namespace Kx
open PySem PySem.Spec PyProof.Rows L2
section
variable {P : Program} {w : World} {K : PySem.W.Frag} {mg : Str → Option Value} {base : Heap}
/-- the later and the earlier of two names -/
def mmS (x y : Str) : Str × Str := (if ltS x y = true then y else x, if ltS y x = true then y else x)
theorem mmS_ok : MM mmS := fun x y => by
  unfold mmS
  by_cases e : x = y
  · subst e; exact .inl (by simp)
  · rcases mm_two e with ⟨a, b⟩ | ⟨a, b⟩
    · rw [a, b]; exact .inr rfl
    · rw [a, b]; exact .inl rfl
open Classical in
/-- what binding a free name makes of what is bound -/
noncomputable def bindP (x : Str) (t : PV) (b : AL) : Option AL := match t with
  | .str y => some (b ++ [((mmS x y).1, .str (mmS x y).2)])
  | .tup w r => if Occ b x (.tup w r) then none else some (b ++ [(x, .tup w r)])
theorem AsD.snoc {H : Hp} {p : Addr} {b : AL} {z : Str} {v : V} {t : PV} (h : AsD H p b) (n : get b z = none) (hI : Is H v t) :
    ∃ kvs : List (Key × V), H p = some (.dK kvs) ∧ kvs.length = b.length ∧ AsD (upd H p (.dK (putK kvs (Sum.inr z) v))) p (b ++ [(z, t)]) := by
  obtain ⟨kvs, e, l, hv⟩ := get_is h z
  refine ⟨kvs, e, l, ?_⟩
  rcases hv with ⟨a, _⟩ | ⟨_, _, _, c, _⟩
  · obtain ⟨kvs', e', pr⟩ := h
    rw [e] at e'
    cases e'
    exact AsD.put e pr a hI
  · rw [n] at c; cases c
def spBind : Sp := fun vs H Q _ => ∃ (p : Addr) (mk : List (Str × Int)) (W : List Str) (x : Str) (v : V) (t : PV) (b : AL), vs = [.str x, v, .ref p] ∧ AsD H p b ∧ EndsB b ∧ BOk mk W b ∧ sok x = true ∧ get b x = none ∧ Is H v t ∧ TOk mk W t ∧ (∀ y, t = .str y → get b y = none) ∧ W.length ≤ 100 ∧ b.length ≤ 900 ∧
  (∀ H', bindP x t b = none → Same H H' → Q (.bl false) H') ∧ ∀ b' H', bindP x t b = some b' → ExD p H H' → AsD H' p b' → Q (.bl true) H'
theorem ok_bind (T : Txt K mg) (G_occurs : FnOk P w K mg base CX0 2 T.a_occurs T.d_occurs ["name", "term", "bound"] spOccurs) : FnOk P w K mg base CX0 3 T.a_bind T.d_bind ["name", "term", "bound"] spBind := by
  refine T.F_bind.ok sc_bind (fun vs H Q E h => ?_) (fun cdv A outer s H vs Q E hr h => ?_)
  · obtain ⟨p, mk, W, x, v, t, b, rfl, _⟩ := h; rfl
  · obtain ⟨p, mk, W, x, v, t, b, rfl, hA, S0, hB, kx, fx, hI, hT, hf, w100, b9, q0, q1⟩ := h
    have hu := hu_of hr
    have hr_occurs := hr
    refine ⟨_, (pss_cons (ps_if (pt_val (pe_callB call_isi (by rfl) T.z_isinstance (by decide +kernel) (pa_cons (pv 1) (pa_cons (pe_bltn rfl T.z_str (by decide +kernel) (show RelV (V.ty "str") (Value.type "str") from rfl)) pa_nil)))) (pss_cons (ps_dput hu (pv 2) (pe_callB (call_maxS rfl hr.units) (by rfl) T.z_max (by decide +kernel) (pa_cons (pv 0) (pa_cons (pv 1) pa_nil))) (pe_callB (call_minS rfl hr.units) (by rfl) T.z_min (by decide +kernel) (pa_cons (pv 0) (pa_cons (pv 1) pa_nil))) rfl)
    (pss_one (ps_ret pe_bl))) pss_nil)
    (pss_cons (ps_if (pt_val (pe_call G_occurs hr_occurs rfl T.m_occurs T.F_occurs.kp T.b_occurs .nil pass0 (pa_cons (pv 0) (pa_cons (pv 1) (pa_cons (pv 2) pa_nil))))) (pss_one (ps_ret pe_bl)) pss_nil)
    (pss_cons (ps_dput hu (pv 2) (pv 0) (pv 1) rfl)
    (pss_one (ps_ret pe_bl))))), ?_⟩
    obtain ⟨u, ty, kt⟩ := hI.ty (K := K)
    refine ⟨_, rfl, _, _, u, _, _, rfl, .ty _, ty, kit_str kt, _, rfl, ite2 (fun c => ?_) (fun c => ?_)⟩
    · cases t with
      | tup w ts => cases c
      | str y =>
      cases hI with
      | str y k =>
      have f1 : get b (mmS x y).1 = none := by
        rcases mmS_ok x y with e | e
        · rw [e]; exact fx
        · rw [e]; exact hf y rfl
      have k2 : sok (mmS x y).2 = true := by
        rcases mmS_ok x y with e | e
        · rw [e]; exact k
        · rw [e]; exact kx
      obtain ⟨kvs, e, l, hA2⟩ := hA.snoc f1 (Is.str (H := H) _ k2)
      refine ⟨_, rfl, _, rfl, x, y, rfl, _, rfl, _, rfl, _, rfl, x, y, rfl, p, _, rfl, DPut.k (k := Sum.inr (mmS x y).1) e (small1000 (by omega)), ?_⟩
      exact q1 _ _ rfl (.set _) hA2
    · obtain ⟨a, w, vs, ts, rfl, rfl, ea, hL, kw, _⟩ := term_inv hI hT.wf (Bool.eq_false_iff.mpr c)
      refine ⟨_, rfl, _, rfl, _, rfl, p, mk, W, x, _, _, b, rfl, hA, S0, hB, kx, hI, hT, w100, fun r H' s hro => ?_⟩
      refine ⟨r, rfl, ite2 (fun cr => ?_) (fun cr => ?_)⟩
      · exact q0 H' (by unfold bindP; simp only [if_pos (hro.mp cr)]) s
      · have no : ¬ Occ b x (.tup w ts) := fun o => cr (hro.mpr o)
        obtain ⟨kvs, e, l, hA2⟩ := (hA.same s).snoc fx (hI.same s)
        refine ⟨_, rfl, _, rfl, _, rfl, p, _, rfl, DPut.k (k := Sum.inr x) e (small1000 (by omega)), ?_⟩
        exact q1 _ _ (by unfold bindP; simp only [if_neg no]) ((ExD.of s).trans (.set _)) hA2
end
end Kx
namespace Kx
open PySem PySem.Spec PyProof.Rows L2
section
variable {P : Program} {w : World} {K : PySem.W.Frag} {mg : Str → Option Value} {base : Heap}
/-- the pairs of terms that a row of values stands for -/
def Prs (H : Hp) (xs : List V) (st : List (PV × PV)) : Prop := Paired (fun v pr => ∃ q a b, v = .ref q ∧ H q = some (.tup [a, b]) ∧ Is H a pr.1 ∧ Is H b pr.2) xs st
theorem Prs.same {H H' : Hp} {xs : List V} {st : List (PV × PV)} (h : Prs H xs st) (s : Same H H') : Prs H' xs st :=
  Paired.imp h fun _ _ ⟨q, a, b, e, e1, h1, h2⟩ => ⟨q, a, b, e, s _ _ e1, h1.same s, h2.same s⟩
theorem pair_at {α β : Type} {F : α → β → Prop} {l : List α} {m : List β} (h : Paired F l m) {i : Nat} {x : α} (e : l[i]? = some x) : ∃ y, m[i]? = some y ∧ F x y := by
  obtain ⟨hi, e2⟩ := List.getElem?_eq_some_iff.mp e
  have hl := pair_len h
  refine ⟨m[i]'(by omega), List.getElem?_eq_getElem (by omega), ?_⟩
  rw [← e2]
  exact pair_get h hi (by omega)
theorem for_either {K : PySem.W.Frag} {a : Addr} {xs : List V} {g : TG} {tb : TS} {D : Ends} {σ : L2.St} {H0 H : Hp} (hP : SqL K H0 a xs ∨ SqT K H0 a xs) (s0 : Same H0 H) (Pv : Nat → L2.St → Hp → Prop) (h0 : Pv 0 σ H) (hl : ∀ i σ H, i ≤ xs.length → Pv i σ H → Same H0 H)
    (hs : ∀ i x σ H, xs[i]? = some x → Pv i σ H → g x σ H fun σ2 H2 => tb { D with nx := Pv (i + 1), ct := Pv (i + 1), bk := D.nx } σ2 H2) (hd : ∀ σ H, Pv xs.length σ H → D.nx σ H) :
    ((∃ xs, SqL K H a xs) ∧ ∃ W : Nat → Nat → L2.St → Hp → Prop, (∃ m, W 0 m σ H) ∧ ∀ i m σ H, W i m σ H →
      ((Itl K a).stop i H ∧ D.nx σ H) ∨ ((Itl K a).go i H ∧ ∃ N : L2.St → Hp → Prop, (∀ σ' H', N σ' H' → ∃ m', m' < m ∧ W (i + 1) m' σ' H') ∧ ∀ x H', (Itl K a).yld i H x H' → g x σ H' fun σ2 H2 => tb { D with nx := N, ct := N, bk := D.nx } σ2 H2)) ∨
    ((∃ xs, SqT K H a xs) ∧ ∃ W : Nat → Nat → L2.St → Hp → Prop, (∃ m, W 0 m σ H) ∧ ∀ i m σ H, W i m σ H →
      ((Itt K a).stop i H ∧ D.nx σ H) ∨ ((Itt K a).go i H ∧ ∃ N : L2.St → Hp → Prop, (∀ σ' H', N σ' H' → ∃ m', m' < m ∧ W (i + 1) m' σ' H') ∧ ∀ x H', (Itt K a).yld i H x H' → g x σ H' fun σ2 H2 => tb { D with nx := N, ct := N, bk := D.nx } σ2 H2)) := by
  rcases hP with e | e
  · have up : ∀ H', Same H0 H' → SqL K H' a xs := fun H' s => by
      rcases e with (e | ⟨o, e⟩) | e
      · exact .inl (.inl (s _ _ e))
      · exact .inl (.inr ⟨o, s _ _ e⟩)
      · exact .inr e
    exact .inl ⟨⟨xs, up H s0⟩, for_list Pv h0 (fun i σ H hi p => up H (hl i σ H hi p)) hs hd⟩
  · have up : ∀ H', Same H0 H' → SqT K H' a xs := fun H' s => sq_stay e fun c o _ q => s _ _ q
    exact .inr ⟨⟨xs, up H s0⟩, for_tup Pv h0 (fun i σ H hi p => up H (hl i σ H hi p)) hs hd⟩
/-- what is told of the names, in the order in which they are met -/
def addT (f al : AL) (z : Str) : AL := if (get f z).isSome = true ∧ get al z = none then al ++ [(z, fn f z)] else al
def toldN (f al : AL) (ns : List Str) : AL := ns.foldl (addT f) al
def nm2 (pr : PV × PV) : List Str := nms pr.1 ++ nms pr.2
def TL (f : AL) (st : List (PV × PV)) : AL := toldN f [] (st.flatMap nm2)
theorem toldN_append (f al : AL) (a b : List Str) : toldN f al (a ++ b) = toldN f (toldN f al a) b := by simp [toldN]
theorem toldN_snoc (f al : AL) (a : List Str) (z : Str) : toldN f al (a ++ [z]) = addT f (toldN f al a) z := by simp [toldN]
theorem take_snoc {α : Type} {l : List α} {i : Nat} {y : α} (e : l[i]? = some y) : l.take (i + 1) = l.take i ++ [y] := by
  obtain ⟨hi, e2⟩ := List.getElem?_eq_some_iff.mp e
  rw [List.take_succ_eq_append_getElem hi, e2]
def spTold (K : PySem.W.Frag) (n : Nat) : Sp := fun vs H Q _ => ∃ (a p : Addr) (mk : List (Str × Int)) (W : List Str) (xs : List V) (st : List (PV × PV)) (f b : AL) (ρ : Str → Nat), vs = [.ref a, .ref p] ∧ (SqL K H a xs ∨ SqT K H a xs) ∧ Prs H xs st ∧ AsD H p b ∧ Sol f b ρ ∧ BOk mk W b ∧ (∀ pr ∈ st, TOk mk W pr.1 ∧ TOk mk W pr.2) ∧ (∀ z, dep (fn f z) ≤ n) ∧ W.length ≤ 100 ∧
  ∀ q H', Same H H' → H q = none → AsD H' q (TL f st) → Q (.ref q) H'
theorem ok_told {n : Nat} (T : Txt K mg) (G_names_of : FnOk P w K mg base CX0 1 T.a_names_of T.d_names_of ["term"] spNames) (G_whole : FnOk P w K mg base CX0 (n+1) T.a_whole T.d_whole ["term", "bound"] (spWhole n)) : FnOk P w K mg base CX0 (n+2) T.a_told T.d_told ["pairs", "bound"] (spTold K n) := by
  refine T.F_told.ok sc_told (fun vs H Q E h => ?_) (fun cdv A outer s H vs Q E hr h => ?_)
  · obtain ⟨a, p, mk, W, xs, st, f, b, ρ, rfl, _⟩ := h; rfl
  · obtain ⟨a, p, mk, W, xs, st, f, b, ρ, rfl, hP, hR, hA, S0, hB, hT, hn, w100, q⟩ := h
    have hu := hu_of hr
    have hr_names_of := hr.mono (show 1 ≤ n + 1 by omega)
    have hr_whole := hr
    refine ⟨_, (pss_cons (ps_set (i := 2) sc_told.nd rfl (Or.inl rfl) pe_dnewK)
    (pss_cons (ps_for PassesOwn.never rfl (pi_seq (pv 0)) (pg_name (i := 3) sc_told.nd rfl (Or.inl rfl))
    (pss_one (ps_for PassesOwn.never rfl (pi_tup (pv 3)) (pg_name (i := 4) sc_told.nd rfl (Or.inl rfl))
    (pss_one (ps_for PassesOwn.never rfl (pi_list (pe_call G_names_of hr_names_of rfl T.m_names_of T.F_names_of.kp T.b_names_of .nil pass0 (pa_cons (pv 4) pa_nil))) (pg_name (i := 5) sc_told.nd rfl (Or.inl rfl))
    (pss_one (ps_if (PW.pt (pw_and (pt_cmp (pc_din hu (pv 5) (pv 1))) (pw_and1 (pt_cmp (pc_dnotin hu (pv 5) (pv 2)))))) (pss_one (ps_dput hu (pv 2) (pv 5) (pe_call G_whole hr_whole rfl T.m_whole T.F_whole.kp T.b_whole .nil pass0 (pa_cons (pv 5) (pa_cons (pv 1) pa_nil))) rfl)) pss_nil)))))))
    (pss_one (ps_ret (pv 2))))), ?_⟩
    refine fun td htd => ?_
    have s1 := same_upd htd (.dK [])
    have llen := pair_len hR
    refine ⟨_, rfl, a, rfl, ?_⟩
    refine for_either (K := K) (a := a) (xs := xs) (H0 := H) hP s1 (fun i σ H2 => ∃ y3 y4 y5 al, σ = [some (.ref a), some (.ref p), some (.ref td), y3, y4, y5] ∧ Same H H2 ∧ AsD H2 td al ∧ al = toldN f [] ((st.take i).flatMap nm2) ∧ al.length + unseen W (al.map (·.1)) ≤ 100) ?_ ?_ ?_ ?_
    · refine ⟨none, none, none, [], rfl, s1, ⟨[], upd_same, .nil⟩, rfl, ?_⟩
      have : unseen W [] ≤ W.length := List.length_filter_le _ _
      simp only [List.length_nil, List.map_nil]; omega
    · exact fun i σ H2 _ ⟨_, _, _, _, _, s, _⟩ => s
    · intro i x σ H2 hx ⟨y3, y4, y5, al, es, sm, hD, eal, hb⟩
      subst es
      obtain ⟨pr, epr, qa, va, vb, rfl, eq, hIa, hIb⟩ := pair_at hR hx
      have hTp := hT pr (List.mem_of_getElem? epr)
      have fst_ : st.take (i + 1) = st.take i ++ [pr] := take_snoc epr
      refine ⟨_, rfl, qa, rfl, ⟨_, .inl (.inl (sm _ _ eq))⟩, ?_⟩
      refine for_tup (K := K) (a := qa) (xs := [va, vb]) (fun j σ H3 => ∃ y4 y5 al1, σ = [some (.ref a), some (.ref p), some (.ref td), some (.ref qa), y4, y5] ∧ Same H H3 ∧ AsD H3 td al1 ∧ al1 = toldN f al (([nms pr.1, nms pr.2].take j).flatten) ∧ al1.length + unseen W (al1.map (·.1)) ≤ 100) ?_ ?_ ?_ ?_
      · exact ⟨y4, y5, al, rfl, sm, hD, rfl, hb⟩
      · exact fun j σ H3 _ ⟨_, _, _, _, s, _⟩ => .inl (.inl (s _ _ eq))
      · intro j x1 σ H3 hx1 ⟨y4, y5, al1, es, sm3, hD3, eal1, hb1⟩
        subst es
        obtain ⟨t, et, hI, hTt⟩ : ∃ t, [nms pr.1, nms pr.2][j]? = some (nms t) ∧ Is H x1 t ∧ TOk mk W t := by
          match j, hx1 with
          | 0, hx1 => cases hx1; exact ⟨_, rfl, hIa, hTp.1⟩
          | 1, hx1 => cases hx1; exact ⟨_, rfl, hIb, hTp.2⟩
          | j + 2, hx1 => cases hx1
        have ftk : [nms pr.1, nms pr.2].take (j + 1) = [nms pr.1, nms pr.2].take j ++ [nms t] := take_snoc et
        refine ⟨_, rfl, mk, x1, t, rfl, hI.same sm3, hTt.wf, by have := hTt.sz; omega, fun na H4 s4 fna ena => ?_⟩
        have nnt : na ≠ td := fun e => (by
          obtain ⟨kvs, e2, _⟩ := hD3
          rw [e, e2] at fna; cases fna)
        refine ⟨na, rfl, ⟨_, SqL.of ena⟩, ?_⟩
        refine for_list (xs := (nms t).map V.str) (fun k σ H5 => ∃ y5 al2, σ = [some (.ref a), some (.ref p), some (.ref td), some (.ref qa), some x1, y5] ∧ Same H H5 ∧ H5 na = some (.lst ((nms t).map V.str)) ∧ AsD H5 td al2 ∧ al2 = toldN f al1 ((nms t).take k) ∧ al2.length + unseen W (al2.map (·.1)) ≤ 100) ?_ ?_ ?_ ?_
        · exact ⟨y5, al1, rfl, sm3.trans s4, ena, hD3.same s4, rfl, hb1⟩
        · exact fun k σ H5 _ ⟨_, _, _, _, e, _⟩ => SqL.of e
        · intro k x2 σ H5 hx2 ⟨y5, al2, es, sm5, en5, hD5, eal2, hb2⟩
          subst es
          rw [List.getElem?_map] at hx2
          obtain ⟨z, ez, rfl⟩ : ∃ z, (nms t)[k]? = some z ∧ V.str z = x2 := by
            cases e : (nms t)[k]? with
            | none => rw [e] at hx2; cases hx2
            | some u => rw [e] at hx2; exact ⟨u, rfl, Option.some.inj hx2⟩
          have zt : z ∈ lv t := mem_nms.mp (List.mem_of_getElem? ez)
          have kz := lv_ok hI z zt
          have zW := hTt.vs z zt
          have tkz := take_snoc ez
          have fin : al2 ++ [] = al2 := List.append_nil _
          obtain ⟨kvs, e1, _, hv⟩ := get_is (hA.same sm5) z
          have g1 : DGet _ p (.str z) (valV kvs (Sum.inr z)) := DGet.k (k := Sum.inr z) e1
          have dom := S0.dom z
          rcases hv with ⟨a1, b1⟩ | ⟨v1, t1, a1, b1, hv1⟩
          · rw [a1] at g1
            refine ⟨_, rfl, _, rfl, p, none, rfl, g1, _, rfl, iteF (iteF ?_)⟩
            refine ⟨_, al2, rfl, sm5, en5, hD5, ?_, hb2⟩
            rw [tkz, toldN_snoc, ← eal2]
            unfold addT
            rw [dom.mp b1, if_neg (by simp)]
          · rw [a1] at g1
            refine ⟨_, rfl, _, rfl, p, some v1, rfl, g1, _, rfl, iteT ?_⟩
            have fz : (get f z).isSome = true := by
              cases e : get f z with
              | none => rw [dom.mpr e] at b1; cases b1
              | some _ => rfl
            obtain ⟨kvs2, e2, l2, hv2⟩ := get_is hD5 z
            have g2 : DGet _ td (.str z) (valV kvs2 (Sum.inr z)) := DGet.k (k := Sum.inr z) e2
            rcases hv2 with ⟨a2, b2⟩ | ⟨v2, t2, a2, b2, _⟩
            · rw [a2] at g2
              refine ⟨_, rfl, _, rfl, td, none, rfl, g2, _, rfl, iteT ?_⟩
              refine ⟨_, rfl, _, rfl, p, mk, _, .str z, f, b, ρ, rfl, hA.same sm5, S0, hB.wf, .str z kz, trivial, ?_, fun v' H6 s6 hv' => ?_⟩
              · exact hn z
              obtain ⟨kvs3, e3, l3, hA3⟩ := (hD5.same s6).snoc b2 hv'
              have e2' := s6 _ _ e2
              rw [e2'] at e3
              cases e3
              refine ⟨_, rfl, _, rfl, td, _, rfl, DPut.k (k := Sum.inr z) e2' (small1000 (by omega)), ?_⟩
              have nz : z ∉ al2.map (·.1) := get_dom.mp b2
              have less := unseen_snoc zW nz
              have nnt6 : na ≠ td := nnt
              refine ⟨_, al2 ++ [(z, fn f z)], rfl, Kx.Same.own (sm5.trans s6) htd _, ?_, hA3, ?_, ?_⟩
              · rw [upd_ne nnt6]; exact s6 _ _ en5
              · rw [tkz, toldN_snoc, ← eal2]
                unfold addT
                rw [if_pos ⟨fz, b2⟩]
              · rw [List.length_append, List.length_singleton, List.map_append]
                show al2.length + 1 + unseen W (al2.map (·.1) ++ [z]) ≤ 100
                omega
            · rw [a2] at g2
              refine ⟨_, rfl, _, rfl, td, some v2, rfl, g2, _, rfl, iteF ?_⟩
              refine ⟨_, al2, rfl, sm5, en5, hD5, ?_, hb2⟩
              rw [tkz, toldN_snoc, ← eal2]
              unfold addT
              rw [if_neg (by rw [b2]; simp)]
        · intro σ H5 ⟨y5, al2, es, sm5, en5, hD5, eal2, hb2⟩
          rw [List.length_map, List.take_length] at eal2
          refine ⟨_, y5, al2, es, sm5, hD5, ?_, hb2⟩
          rw [ftk, List.flatten_append, toldN_append, ← eal1, eal2]
          simp
      · intro σ H3 ⟨y4, y5, al1, es, sm3, hD3, eal1, hb1⟩
        refine ⟨_, y4, y5, al1, es, sm3, hD3, ?_, hb1⟩
        rw [fst_, List.flatMap_append, toldN_append, ← eal, eal1]
        simp [nm2]
    · intro σ H2 ⟨y3, y4, y5, al, es, sm, hD, eal, hb⟩
      subst es
      rw [llen, List.take_length] at eal
      rw [eal] at hD
      exact ⟨_, rfl, q td H2 sm htd hD⟩
end
end Kx
/-! The mathematics: how deep what is found can be, how many pairs wait. -/
namespace Kx
open PySem PySem.Spec PyProof.Rows L2
/-! ### depth -/
mutual
theorem dep_sub {σ : Str → PV} {c : Nat} (hc : 1 ≤ c) : ∀ {t : PV}, (∀ y ∈ lv t, dep (σ y) ≤ c) → dep (sub σ t) + 1 ≤ dep t + c
  | .str z, h => by
    have := h z (by simp [lv])
    simp only [sub, dep]; omega
  | .tup w r, h => by
    have := depL_sub hc (t := r) (by simpa only [lv] using h)
    simp only [sub, dep]; omega
theorem depL_sub {σ : Str → PV} {c : Nat} (hc : 1 ≤ c) : ∀ {t : List PV}, (∀ y ∈ lvL t, dep (σ y) ≤ c) → depL (subL σ t) + 1 ≤ depL t + c
  | [], _ => by simp only [subL, depL]; omega
  | t :: r, h => by
    simp only [lvL] at h
    have a := dep_sub hc (t := t) fun y hy => h y (List.mem_append_left _ hy)
    have b := depL_sub hc (t := r) fun y hy => h y (List.mem_append_right _ hy)
    simp only [subL, depL]; omega
end
/-- y comes below z in what is found -/
def lowr (f : AL) (ρ : Str → Nat) (y z : Str) : Bool := decide (psz (fn f y) < psz (fn f z)) || (decide (psz (fn f y) = psz (fn f z)) && decide (ρ y < ρ z))
theorem lowr_iff {f : AL} {ρ : Str → Nat} {y z : Str} : lowr f ρ y z = true ↔ psz (fn f y) < psz (fn f z) ∨ (psz (fn f y) = psz (fn f z) ∧ ρ y < ρ z) := by
  unfold lowr; simp
def mu (W : List Str) (f : AL) (ρ : Str → Nat) (z : Str) : Nat := (W.filter fun y => lowr f ρ y z).length
theorem mu_lt {W : List Str} {f : AL} {ρ : Str → Nat} {y z : Str} (hy : y ∈ W) (h : lowr f ρ y z = true) : mu W f ρ y < mu W f ρ z := by
  have key : ∀ l : List Str, (l.filter fun x => lowr f ρ x y).length ≤ (l.filter fun x => lowr f ρ x z).length ∧ (y ∈ l → (l.filter fun x => lowr f ρ x y).length < (l.filter fun x => lowr f ρ x z).length) := by
    intro l
    induction l with
    | nil => exact ⟨Nat.le_refl _, fun h => by simp at h⟩
    | cons x l ih =>
      simp only [List.filter_cons]
      by_cases e : x = y
      · subst e
        have h1 : lowr f ρ x x = false := by
          cases q : lowr f ρ x x with
          | false => rfl
          | true => rw [lowr_iff] at q; omega
        rw [h1, h]
        simp only [Bool.false_eq_true, if_false, if_true, List.length_cons]
        exact ⟨by omega, fun _ => by omega⟩
      · have h3 : lowr f ρ x y = true → lowr f ρ x z = true := fun q => by
          rw [lowr_iff] at q h ⊢; omega
        by_cases q : lowr f ρ x y = true
        · rw [if_pos q, if_pos (h3 q)]
          simp only [List.length_cons]
          refine ⟨by omega, fun hm => ?_⟩
          have := ih.2 ((List.mem_cons.mp hm).resolve_left (fun q => e q.symm))
          omega
        · rw [if_neg q]
          refine ⟨?_, fun hm => ?_⟩
          · have := ih.1
            split <;> (try simp only [List.length_cons]) <;> omega
          · have := ih.2 ((List.mem_cons.mp hm).resolve_left (fun q => e q.symm))
            split <;> (try simp only [List.length_cons]) <;> omega
  exact (key W).2 hy
theorem dep_found {mk : List (Str × Int)} {W : List Str} {f b : AL} {ρ : Str → Nat} (S : Sol f b ρ) (hb : BOk mk W b) : ∀ (n : Nat) (z : Str), mu W f ρ z ≤ n → dep (fn f z) ≤ 16 * n + 16 := by
  intro n
  induction n using Nat.strongRecOn with
  | _ n ih =>
    intro z hz
    cases e : get b z with
    | none =>
      have := (S.dom z).mp e
      have : fn f z = .str z := by unfold fn; rw [this]; rfl
      rw [this]; simp only [dep]; omega
    | some t =>
      have v := S.val z t e
      have tk := hb z t e
      have free1 : ∀ y, get f y = none → dep (fn f y) = 1 := fun y hy => by
        have : fn f y = .str y := by unfold fn; rw [hy]; rfl
        rw [this]; rfl
      have low : ∀ y ∈ lv t, get f y ≠ none → lowr f ρ y z = true := fun y hy hn => by
        rw [lowr_iff, v]
        cases t with
        | tup w r =>
          have := occL_size (fn f) y (t := r) (by simpa only [lv] using hy)
          have b2 : psz (psub f (.tup w r)) = 1 + pszL (subL (fn f) r) := rfl
          exact .inl (by omega)
        | str x =>
          simp only [lv, List.mem_singleton] at hy
          subst hy
          exact .inr ⟨rfl, S.chain z y e (fun q => hn ((S.dom y).mp q))⟩
      rw [v]
      have d16 := tk.dp
      by_cases hex : ∃ y ∈ lv t, get f y ≠ none
      · obtain ⟨y0, hy0, n0⟩ := hex
        have l0 := mu_lt (tk.vs y0 hy0) (low y0 hy0 n0)
        have := dep_sub (σ := fn f) (c := 16 * n) (by omega) (t := t) fun y hy => by
          by_cases q : get f y = none
          · rw [free1 y q]; omega
          · have l1 := mu_lt (tk.vs y hy) (low y hy q)
            have := ih (n - 1) (by omega) y (by omega)
            omega
        show dep (sub (fn f) t) ≤ _
        omega
      · have := dep_sub (σ := fn f) (c := 1) (Nat.le_refl _) (t := t) fun y hy => by
          by_cases q : get f y = none
          · rw [free1 y q]; omega
          · exact absurd ⟨y, hy, q⟩ hex
        show dep (sub (fn f) t) ≤ _
        omega
theorem dep_fn {mk : List (Str × Int)} {W : List Str} {f b : AL} {ρ : Str → Nat} (S : Sol f b ρ) (hb : BOk mk W b) (w5 : W.length ≤ 5) (z : Str) : dep (fn f z) ≤ 96 := by
  have m : mu W f ρ z ≤ W.length := List.length_filter_le _ _
  have := dep_found S hb (mu W f ρ z) z (Nat.le_refl _)
  omega
theorem dep_psub {mk : List (Str × Int)} {W : List Str} {f b : AL} {ρ : Str → Nat} (S : Sol f b ρ) (hb : BOk mk W b) (w5 : W.length ≤ 5) {t : PV} (ht : TOk mk W t) : dep (psub f t) ≤ 111 := by
  have := dep_sub (σ := fn f) (c := 96) (by omega) (t := t) fun y _ => dep_fn S hb w5 y
  have := ht.dp
  show dep (sub (fn f) t) ≤ _
  omega
/-! ### how many pairs wait -/
inductive SubAt : Nat → PV → PV → Prop
  | refl (t : PV) : SubAt 0 t t
  | part {n : Nat} {a t : PV} {w : Str} {r : List PV} (m : a ∈ r) (h : SubAt n (.tup w r) t) : SubAt (n + 1) a t
theorem SubAt.sub (σ : Str → PV) : ∀ {n : Nat} {a t : PV}, SubAt n a t → SubAt n (Kx.sub σ a) (Kx.sub σ t)
  | _, _, _, .refl t => .refl _
  | _, _, _, .part (w := w) (r := r) m h => .part (w := w) (r := subL σ r) (by rw [subL_map]; exact List.mem_map_of_mem m) (by have := h.sub σ; simpa only [Kx.sub] using this)
theorem SubAt.dep : ∀ {n : Nat} {a t : PV}, SubAt n a t → Kx.dep a + n ≤ Kx.dep t
  | _, _, _, .refl t => Nat.le_refl _
  | _, _, _, .part (w := w) (r := r) m h => by
    have a := h.dep
    have b := depL_mem m
    simp only [Kx.dep] at a
    omega
/-- the two terms are the images of terms that are told, one of them so deep below a third one -/
structure Raw (mk : List (Str × Int)) (W : List Str) (f : AL) (n : Nat) (pr : PV × PV) : Prop where
  fst : ∃ p, TOk mk W p ∧ psub f pr.1 = psub f p
  snd : ∃ q, TOk mk W q ∧ psub f pr.2 = psub f q
  lev : ∃ t, TOk mk W t ∧ SubAt n (psub f pr.1) (psub f t)
inductive LevS (mk : List (Str × Int)) (W : List Str) (f : AL) : Nat → List (PV × PV) → Prop
  | base {P : List (PV × PV)} (h : P.length ≤ 10) (k : ∀ pr ∈ P, Raw mk W f 0 pr) : LevS mk W f 0 P
  | grp {n : Nat} {P L : List (PV × PV)} (h : LevS mk W f n P) (l : L.length ≤ 2) (k : ∀ pr ∈ L, Raw mk W f (n + 1) pr) : LevS mk W f (n + 1) (L ++ P)
section
variable {mk : List (Str × Int)} {W : List Str} {f : AL}
theorem Raw.put {n : Nat} {pr : PV × PV} {x : Str} {t : PV} (h : Raw mk W f n pr) (hx : get f x = none) : Raw mk W (putIn f x t) n pr := by
  obtain ⟨⟨p, hp, e1⟩, ⟨q, hq, e2⟩, ⟨r, hr, s⟩⟩ := h
  exact ⟨⟨p, hp, by rw [psub_putIn hx, psub_putIn hx, e1]⟩, ⟨q, hq, by rw [psub_putIn hx, psub_putIn hx, e2]⟩, ⟨r, hr, by rw [psub_putIn hx, psub_putIn hx]; exact s.sub _⟩⟩
theorem LevS.put {x : Str} {t : PV} (hx : get f x = none) : ∀ {n : Nat} {P : List (PV × PV)}, LevS mk W f n P → LevS mk W (putIn f x t) n P
  | _, _, .base h k => .base h fun pr hp => (k pr hp).put hx
  | _, _, .grp h l k => .grp (h.put hx) l fun pr hp => (k pr hp).put hx
theorem LevS.len : ∀ {n : Nat} {P : List (PV × PV)}, LevS mk W f n P → P.length ≤ 10 + 2 * n
  | _, _, .base h k => by omega
  | _, _, .grp h l k => by
    have := h.len
    rw [List.length_append]; omega
theorem LevS.pop : ∀ {n : Nat} {Q : List (PV × PV)}, LevS mk W f n Q → ∀ {pr : PV × PV} {P : List (PV × PV)}, Q = pr :: P → ∃ m, m ≤ n ∧ Raw mk W f m pr ∧ LevS mk W f m P
  | _, _, .base h k, pr, P, e => by
    subst e
    exact ⟨0, Nat.le_refl _, k _ (List.mem_cons_self ..), .base (by simp only [List.length_cons] at h; omega) fun x hx => k x (List.mem_cons_of_mem _ hx)⟩
  | _, _, .grp (L := []) h l k, pr, P, e => by
    obtain ⟨m, hm, a, b⟩ := h.pop (by simpa using e)
    exact ⟨m, by omega, a, b⟩
  | _, _, .grp (L := x :: L) h l k, pr, P, e => by
    rw [List.cons_append, List.cons.injEq] at e
    obtain ⟨rfl, rfl⟩ := e
    exact ⟨_, Nat.le_refl _, k _ (List.mem_cons_self ..), .grp h (by simp only [List.length_cons] at l; omega) fun y hy => k y (List.mem_cons_of_mem _ hy)⟩
end
end Kx
/-! The mathematics: the program's way with few pairs that wait, beside the law's. -/
namespace Kx
open PySem PySem.Spec PyProof.Rows L2
section
variable {mm : Str → Str → Str × Str}
variable (mm)
inductive RunsB : Nat → List (PV × PV) → AL → Option AL → Prop
  | nil (b : AL) : RunsB 0 [] b (some b)
  | fail {p q p' q' : PV} {P : List (PV × PV)} {b : AL} {m m' : Nat} (h : Fo b m p p') (k : Fo b m' q q') (e : stepP mm p' q' b = none) : RunsB 0 ((p, q) :: P) b none
  | go {p q p' q' : PV} {P L : List (PV × PV)} {b b' : AL} {m m' n : Nat} {res : Option AL} (h : Fo b m p p') (k : Fo b m' q q') (e : stepP mm p' q' b = some (L, b')) (hl : (L.reverse ++ P).length ≤ 240) (r : RunsB n (L.reverse ++ P) b' res) : RunsB (n + 1) ((p, q) :: P) b res
variable {mm}
def AllT (mk : List (Str × Int)) (W : List Str) (P : List (PV × PV)) : Prop := ∀ pr ∈ P, TOk mk W pr.1 ∧ TOk mk W pr.2
def MatchB (mk : List (Str × Int)) (W : List Str) (r res : Option AL) : Prop := (r = none ∧ res = none) ∨ ∃ g b ρ, r = some g ∧ res = some b ∧ Sol g b ρ ∧ BOk mk W b
theorem zip_mem {r s : List PV} {pr : PV × PV} (h : pr ∈ r.zip s) : pr.1 ∈ r ∧ pr.2 ∈ s := by
  obtain ⟨a, b⟩ := pr
  exact ⟨(List.of_mem_zip h).1, (List.of_mem_zip h).2⟩
theorem stepP_parts {mk : List (Str × Int)} {W : List Str} {p q : PV} {b b' : AL} {E : List (PV × PV)} (h : stepP mm p q b = some (E, b')) (hp : TOk mk W p) (hq : TOk mk W q) :
    E.length ≤ 2 ∧ ∀ pr ∈ E, TOk mk W pr.1 ∧ TOk mk W pr.2 ∧ ∃ w r, p = .tup w r ∧ pr.1 ∈ r := by
  unfold stepP at h
  split at h
  · cases h; exact ⟨Nat.zero_le _, fun pr h => by simp at h⟩
  · cases p with
    | str x =>
      cases q with
      | str y => cases h; exact ⟨Nat.zero_le _, fun pr h => by simp at h⟩
      | tup w r =>
        simp only at h
        split at h
        · cases h
        · cases h; exact ⟨Nat.zero_le _, fun pr h => by simp at h⟩
    | tup w r =>
      cases q with
      | str y =>
        simp only at h
        split at h
        · cases h
        · cases h; exact ⟨Nat.zero_le _, fun pr h => by simp at h⟩
      | tup w' s =>
        simp only at h
        split at h
        · cases h
          refine ⟨?_, fun pr hpr => ?_⟩
          · have := hp.wf.2.1
            rw [List.length_zip]; omega
          · obtain ⟨h1, h2⟩ := zip_mem hpr
            exact ⟨hp.part h1, hq.part h2, w, r, rfl, h1⟩
        · cases h
theorem lev_up {mk : List (Str × Int)} {W : List Str} {f b : AL} {ρ : Str → Nat} (S : Sol f b ρ) (hb : BOk mk W b) (w5 : W.length ≤ 5) {l : Nat} {p q p' q' : PV} {P : List (PV × PV)} (lw : LevS mk W f l ((p, q) :: P)) (hp : TOk mk W p) (hq : TOk mk W q) {m m' : Nat} (h : Fo b m p p') (k : Fo b m' q q') :
    ∀ E b', stepP mm p' q' b = some (E, b') → (∀ pr ∈ E, TOk mk W pr.1 ∧ TOk mk W pr.2) ∧ ∃ l2, l2 ≤ 111 ∧ LevS mk W f l2 (E.reverse ++ P) := by
  intro E b' he
  obtain ⟨e2, parts⟩ := stepP_parts he (h.ok hb hp) (k.ok hb hq)
  refine ⟨fun pr hpr => ⟨(parts pr hpr).1, (parts pr hpr).2.1⟩, ?_⟩
  obtain ⟨l1, _, raw, lv1⟩ := lw.pop rfl
  obtain ⟨t, ht, sa⟩ := raw.lev
  have b1 := sa.dep
  have b2 := dep_psub S hb w5 ht
  have b3 := dep_pos (psub f p)
  refine ⟨l1 + 1, by simp only at b1; omega, .grp lv1 (by rw [List.length_reverse]; exact e2) fun pr hpr => ?_⟩
  obtain ⟨t1, t2, w, r, e, hm⟩ := parts pr (List.mem_reverse.mp hpr)
  refine ⟨⟨_, t1, rfl⟩, ⟨_, t2, rfl⟩, t, ht, .part (w := w) (r := subL (fn f) r) (by rw [subL_map]; exact List.mem_map_of_mem hm) ?_⟩
  have e3 : psub f p = .tup w (subL (fn f) r) := by rw [← h.same S, e]; rfl
  simp only at sa
  rw [e3] at sa
  exact sa
theorem simB (hm : MM mm) {mk : List (Str × Int)} {W : List Str} (w5 : W.length ≤ 5) : ∀ (n s : Nat) (f b : AL) (ρ : Str → Nat) (P L : List (PV × PV)) (r : Option AL) (l : Nat), szS f P = s → Sol f b ρ → Good mk f → BOk mk W b → Be f P L → AllT mk W P → LevS mk W f l P → l ≤ 111 → AllWf mk L → runL mm n L f = some r → ∃ m res, RunsB mm m P b res ∧ MatchB mk W r res := by
  intro n
  induction n with
  | zero => intro s f b ρ P L r l _ _ _ _ _ _ _ _ _ h; cases h
  | succ n ihn =>
    intro s
    induction s using Nat.strongRecOn with
    | _ s ihs =>
      intro f b ρ P L r l es S G hb B hP lv0 l0 hL h
      cases B with
      | nil =>
        simp only [runL, Option.some.injEq] at h
        subst h
        exact ⟨0, _, .nil b, .inr ⟨f, b, ρ, rfl, rfl, S, hb⟩⟩
      | @eq p q P L e B =>
        have w1 := hP _ (List.mem_cons_self ..)
        have hP' : AllT mk W P := fun x h => hP x (List.mem_cons_of_mem _ h)
        obtain ⟨m1, p', k1⟩ := S.fo p
        obtain ⟨m2, q', k2⟩ := S.fo q
        have up := lev_up (mm := mm) S hb w5 lv0 w1.1 w1.2 k1 k2
        obtain ⟨E, he, hE, hs, _⟩ := eq_step (mm := mm) (p := p) (q := q) S hb.wf w1.1.wf w1.2.wf k1 k2 e
        obtain ⟨hw, l2, hl2, lv2⟩ := up E b he
        have B2 : Be f (E.reverse ++ P) L := B.eqs fun pr hp => hE pr (List.mem_reverse.mp hp)
        have hP2 : AllT mk W (E.reverse ++ P) := fun x hx => by
          rcases List.mem_append.mp hx with hx | hx
          · exact hw x (List.mem_reverse.mp hx)
          · exact hP' x hx
        obtain ⟨m, res, R, M⟩ := ihs _ (by
          have e0 : szS f ((p, q) :: P) = psz (psub f p) + psz (psub f q) + szS f P := rfl
          rw [← es, e0, szS_append, szS_reverse]; omega) f b ρ _ L r l2 rfl S G hb B2 hP2 lv2 hl2 hL h
        exact ⟨_, res, .go k1 k2 he (by have := lv2.len; omega) R, M⟩
      | @both p q p2 q2 P L e e2 B =>
        have w1 := hP _ (List.mem_cons_self ..)
        have w2 := hL _ (List.mem_cons_self ..)
        have hP' : AllT mk W P := fun x h => hP x (List.mem_cons_of_mem _ h)
        have hL' : AllWf mk L := fun x h => hL x (List.mem_cons_of_mem _ h)
        obtain ⟨m1, p', k1⟩ := S.fo p
        obtain ⟨m2, q', k2⟩ := S.fo q
        have up := lev_up (mm := mm) S hb w5 lv0 w1.1 w1.2 k1 k2
        simp only [runL] at h
        by_cases eq : psub f p = psub f q
        · obtain ⟨E, he, hE, hs, _⟩ := eq_step (mm := mm) (p := p) (q := q) S hb.wf w1.1.wf w1.2.wf k1 k2 eq
          obtain ⟨hw, l2, hl2, lv2⟩ := up E b he
          have el : stepL mm p2 q2 f = some ([], f) := by
            unfold stepL
            rw [if_pos (by rw [← e, ← e2, eq])]
          rw [el] at h
          have B2 : Be f (E.reverse ++ P) L := B.eqs fun pr hp => hE pr (List.mem_reverse.mp hp)
          have hP2 : AllT mk W (E.reverse ++ P) := fun x hx => by
            rcases List.mem_append.mp hx with hx | hx
            · exact hw x (List.mem_reverse.mp hx)
            · exact hP' x hx
          obtain ⟨m, res, R, M⟩ := ihn _ f b ρ _ L r l2 rfl S G hb B2 hP2 lv2 hl2 hL' h
          exact ⟨_, res, .go k1 k2 he (by have := lv2.len; omega) R, M⟩
        · have wp := k1.ok hb w1.1
          have wq := k2.ok hb w1.2
          have nl : ¬ psub f p2 = psub f q2 := fun z => eq (by rw [e, e2, z])
          have np : ¬ p' = q' := fun z => eq (by rw [← k1.same S, ← k2.same S, z])
          -- a name is bound on both sides
          have bind : ∀ {x : Str} {t t' : PV}, get f x = none → (∀ y, t = .str y → get f y = none ∧ y ≠ x) → x ∉ lv (psub f t) → TOk mk W t → t' = psub f t → runL mm n ([].reverse ++ L) (putIn f x t') = some r → stepP mm p' q' b = some ([], b ++ [(x, t)]) → ∃ m res, RunsB mm m ((p, q) :: P) b res ∧ MatchB mk W r res := by
            intro x t t' hx ht no wt et hrun hst
            subst et
            obtain ⟨ρ', S'⟩ := S.bind G.idem hx ht no
            have G' : Good mk (putIn f x (psub f t)) := ⟨G.idem.put hx fun y hy => ⟨G.idem.psub hy, fun z => no (by rw [← z]; exact hy)⟩, G.wf.put hx (G.wf.psub wt.wf)⟩
            obtain ⟨_, l2, hl2, lv2⟩ := up [] _ hst
            have lv3 : LevS mk W (putIn f x (psub f t)) l2 P := by simpa using lv2.put hx
            obtain ⟨m, res, R, M⟩ := ihn _ _ _ ρ' P L r l2 rfl S' G' (hb.snoc wt) (B.put hx) hP' lv3 hl2 hL' (by simpa using hrun)
            exact ⟨_, res, .go k1 k2 hst (by have := lv2.len; omega) (by simpa using R), M⟩
          unfold stepL at h
          rw [if_neg nl, ← e, ← e2] at h
          cases p' with
          | str x =>
            obtain ⟨a, fx⟩ := k1.im_str S
            rw [a] at h
            cases q' with
            | str y =>
              obtain ⟨c, fy⟩ := k2.im_str S
              rw [c] at h
              have nxy : x ≠ y := fun z => np (by rw [z])
              have hst : stepP mm (.str x) (.str y) b = some ([], b ++ [((mm x y).1, .str (mm x y).2)]) := by unfold stepP; rw [if_neg np]
              simp only at h
              rcases hm x y with z | z
              · rw [z] at h hst
                exact bind (t := .str y) fx (fun y' q => by cases q; exact ⟨fy, Ne.symm nxy⟩) (by rw [free_im fy]; simpa [lv] using nxy) wq (free_im fy).symm h hst
              · rw [z] at h hst
                exact bind (t := .str x) fy (fun y' q => by cases q; exact ⟨fx, nxy⟩) (by rw [free_im fx]; simpa [lv] using Ne.symm nxy) wp (free_im fx).symm h hst
            | tup w s =>
              have c := k2.im_tup S
              rw [c] at h
              simp only at h
              have cc : psub f (.tup w s) = .tup w (subL (fn f) s) := rfl
              by_cases o : x ∈ lv (PV.tup w (subL (fn f) s))
              · rw [if_pos o] at h
                simp only [Option.some.injEq] at h
                subst h
                have oc := Occ.of S fx _ (.tup w s) (Nat.le_refl _) (fun _ q => by cases q) (by rw [cc]; exact o)
                exact ⟨0, none, .fail k1 k2 (by unfold stepP; rw [if_neg np]; simp only [if_pos oc]), .inl ⟨rfl, rfl⟩⟩
              · rw [if_neg o] at h
                simp only at h
                have no : ¬ Occ b x (.tup w s) := fun q => o (by rw [← cc]; exact q.names S)
                exact bind (t := .tup w s) fx (fun y' q => by cases q) (by rw [cc]; exact o) wq cc.symm h (by unfold stepP; rw [if_neg np]; simp only [if_neg no])
          | tup w r1 =>
            have a := k1.im_tup S
            rw [a] at h
            cases q' with
            | str x =>
              obtain ⟨c, fx⟩ := k2.im_str S
              rw [c] at h
              simp only at h
              have cc : psub f (.tup w r1) = .tup w (subL (fn f) r1) := rfl
              by_cases o : x ∈ lv (PV.tup w (subL (fn f) r1))
              · rw [if_pos o] at h
                simp only [Option.some.injEq] at h
                subst h
                have oc := Occ.of S fx _ (.tup w r1) (Nat.le_refl _) (fun _ q => by cases q) (by rw [cc]; exact o)
                exact ⟨0, none, .fail k1 k2 (by unfold stepP; rw [if_neg np]; simp only [if_pos oc]), .inl ⟨rfl, rfl⟩⟩
              · rw [if_neg o] at h
                simp only at h
                have no : ¬ Occ b x (.tup w r1) := fun q => o (by rw [← cc]; exact q.names S)
                exact bind (t := .tup w r1) fx (fun y' q => by cases q) (by rw [cc]; exact o) wp cc.symm h (by unfold stepP; rw [if_neg np]; simp only [if_neg no])
            | tup w' s =>
              have c := k2.im_tup S
              rw [c] at h
              simp only at h
              by_cases ew : w = w'
              · subst ew
                rw [if_pos rfl] at h
                simp only at h
                have hl := wf_len wp.wf wq.wf
                have hst : stepP mm (.tup w r1) (.tup w s) b = some (r1.zip s, b) := by unfold stepP; rw [if_neg np]; simp
                have B2 : Be f ((r1.zip s).reverse ++ P) (((subL (fn f) r1).zip (subL (fn f) s)).reverse ++ L) := B.app (Be.rev (be_zip G.idem))
                obtain ⟨hw, l2, hl2, lv2⟩ := up _ b hst
                have hP2 : AllT mk W ((r1.zip s).reverse ++ P) := fun x hx => by
                  rcases List.mem_append.mp hx with hx | hx
                  · exact hw x (List.mem_reverse.mp hx)
                  · exact hP' x hx
                have hL2 : AllWf mk (((subL (fn f) r1).zip (subL (fn f) s)).reverse ++ L) := fun x hx => by
                  rcases List.mem_append.mp hx with hx | hx
                  · exact WfL_zip (subL_wf G.wf wp.wf.2.2) (subL_wf G.wf wq.wf.2.2) x (List.mem_reverse.mp hx)
                  · exact hL' x hx
                obtain ⟨m, res, R, M⟩ := ihn _ f b ρ _ _ r l2 rfl S G hb B2 hP2 lv2 hl2 hL2 h
                exact ⟨_, res, .go k1 k2 hst (by have := lv2.len; omega) R, M⟩
              · rw [if_neg ew] at h
                simp only [Option.some.injEq] at h
                subst h
                exact ⟨0, none, .fail k1 k2 (by unfold stepP; rw [if_neg np]; simp only [if_neg ew]), .inl ⟨rfl, rfl⟩⟩
/-- a step of the law's way keeps all this -/
theorem law_up (hm : MM mm) {mk : List (Str × Int)} {W : List Str} {f b f' : AL} {ρ : Str → Nat} (G : Good mk f) (S : Sol f b ρ) (hb : BOk mk W b) (w5 : W.length ≤ 5) {l : Nat} {p q : PV} {P L : List (PV × PV)} (lw : LevS mk W f l ((p, q) :: P)) (h : stepL mm p q f = some (L, f')) :
    ∃ l2 b2 ρ2, l2 ≤ 111 ∧ Sol f' b2 ρ2 ∧ BOk mk W b2 ∧ LevS mk W f' l2 (L.reverse ++ P) := by
  obtain ⟨l1, _, raw, lv1⟩ := lw.pop rfl
  obtain ⟨⟨p0, hp0, ep⟩, ⟨q0, hq0, eq⟩, ⟨t, ht, sa⟩⟩ := raw
  simp only at ep eq sa
  have b1 := sa.dep
  have b2 := dep_psub S hb w5 ht
  have b3 := dep_pos (psub f p)
  obtain ⟨m1, p', k1⟩ := S.fo p0
  obtain ⟨m2, q', k2⟩ := S.fo q0
  have tp := k1.ok hb hp0
  have tq := k2.ok hb hq0
  have same : ∀ {l' : Nat}, l' ≤ 111 → LevS mk W f l' ([].reverse ++ P) → ∃ l2 b2 ρ2, l2 ≤ 111 ∧ Sol f b2 ρ2 ∧ BOk mk W b2 ∧ LevS mk W f l2 (([] : List (PV × PV)).reverse ++ P) := fun hl x => ⟨_, b, ρ, hl, S, hb, x⟩
  have bind : ∀ {x : Str} {t u : PV}, get f x = none → (∀ y, t = .str y → get f y = none ∧ y ≠ x) → x ∉ lv (psub f t) → TOk mk W t → u = psub f t → ∃ l2 b2 ρ2, l2 ≤ 111 ∧ Sol (putIn f x u) b2 ρ2 ∧ BOk mk W b2 ∧ LevS mk W (putIn f x u) l2 (([] : List (PV × PV)).reverse ++ P) := by
    intro x t u hx ht no wt e
    subst e
    obtain ⟨ρ', S'⟩ := S.bind G.idem hx ht no
    exact ⟨l1, _, ρ', by omega, S', hb.snoc wt, by simpa using lv1.put hx⟩
  unfold stepL at h
  split at h
  · cases h
    exact same (l' := l1) (by omega) (by simpa using lv1)
  · rename_i ne
    rw [ep, eq] at h
    rw [ep, eq] at ne
    cases p' with
    | str x =>
      obtain ⟨a, fx⟩ := k1.im_str S
      rw [a] at h ne
      cases q' with
      | str y =>
        obtain ⟨c, fy⟩ := k2.im_str S
        rw [c] at h ne
        have nxy : x ≠ y := fun z => ne (by rw [z])
        cases h
        rcases hm x y with z | z
        · rw [z]
          exact bind (t := .str y) fx (fun y' q => by cases q; exact ⟨fy, Ne.symm nxy⟩) (by rw [free_im fy]; simpa [lv] using nxy) tq (free_im fy).symm
        · rw [z]
          exact bind (t := .str x) fy (fun y' q => by cases q; exact ⟨fx, nxy⟩) (by rw [free_im fx]; simpa [lv] using Ne.symm nxy) tp (free_im fx).symm
      | tup w s =>
        have c := k2.im_tup S
        rw [c] at h
        simp only at h
        split at h
        · cases h
        · rename_i no
          cases h
          exact bind (t := .tup w s) fx (fun y' q => by cases q) no tq rfl
    | tup w r1 =>
      have a := k1.im_tup S
      rw [a] at h ne
      cases q' with
      | str x =>
        obtain ⟨c, fx⟩ := k2.im_str S
        rw [c] at h
        simp only at h
        split at h
        · cases h
        · rename_i no
          cases h
          exact bind (t := .tup w r1) fx (fun y' q => by cases q) no tp rfl
      | tup w' s =>
        have c := k2.im_tup S
        rw [c] at h
        simp only at h
        split at h
        · rename_i ew
          subst ew
          cases h
          refine ⟨l1 + 1, b, ρ, by omega, S, hb, .grp lv1 ?_ fun pr hpr => ?_⟩
          · have := tp.wf.2.1
            rw [List.length_reverse, List.length_zip, subL_len]; omega
          · obtain ⟨h1, h2⟩ := zip_mem (List.mem_reverse.mp hpr)
            have h1' := h1
            rw [subL_map] at h1 h2
            obtain ⟨a1, m1, e1⟩ := List.mem_map.mp h1
            obtain ⟨a2, m2, e2⟩ := List.mem_map.mp h2
            have f1 : psub f pr.1 = pr.1 := by rw [← e1]; exact G.idem.fix a1
            have f2 : psub f pr.2 = pr.2 := by rw [← e2]; exact G.idem.fix a2
            refine ⟨⟨a1, tp.part m1, by rw [f1, ← e1]; rfl⟩, ⟨a2, tq.part m2, by rw [f2, ← e2]; rfl⟩, t, ht, .part (w := w) (r := subL (fn f) r1) (by rw [f1]; exact h1') ?_⟩
            rw [ep, a] at sa
            exact sa
        · cases h
end
end Kx
namespace Kx
open PySem PySem.Spec PyProof.Rows L2
section
variable {P : Program} {w : World} {K : PySem.W.Frag} {mg : Str → Option Value} {base : Heap}
theorem pair_last {α β : Type} {F : α → β → Prop} : ∀ {l : List α} {m : List β}, Paired F l m → ∀ hn : l ≠ [], ∃ m' y, m = m' ++ [y] ∧ Paired F l.dropLast m' ∧ F (l.getLast hn) y
  | _, _, .nil, hn => absurd rfl hn
  | [x], _, .cons h .nil, _ => ⟨[], _, rfl, .nil, h⟩
  | x :: x2 :: l, _, .cons h (.cons h2 t), _ => by
    obtain ⟨m', y, e, p, f⟩ := pair_last (.cons h2 t) (by simp)
    exact ⟨_ :: m', y, by rw [List.cons_append, ← e], .cons h p, f⟩
theorem RunsB.inv {mm : Str → Str → Str × Str} {m : Nat} {p q : PV} {P : List (PV × PV)} {b : AL} {res : Option AL} (h : RunsB mm m ((p, q) :: P) b res) :
    ∃ p' q' m1 m2, Fo b m1 p p' ∧ Fo b m2 q q' ∧ ((stepP mm p' q' b = none ∧ res = none) ∨ ∃ L b' n, n < m ∧ stepP mm p' q' b = some (L, b') ∧ (L.reverse ++ P).length ≤ 240 ∧ RunsB mm n (L.reverse ++ P) b' res) := by
  cases h with
  | fail h k e => exact ⟨_, _, _, _, h, k, .inl ⟨e, rfl⟩⟩
  | go h k e hl r => exact ⟨_, _, _, _, h, k, .inr ⟨_, _, _, Nat.lt_succ_self _, e, hl, r⟩⟩
theorem step_str {x : Str} {q : PV} {b : AL} (n : PV.str x ≠ q) : stepP mmS (.str x) q b = (bindP x q b).map fun b' => ([], b') := by
  unfold stepP bindP
  rw [if_neg n]
  cases q with
  | str y => rfl
  | tup w r => simp only; split <;> rfl
theorem step_str2 {x w : Str} {r : List PV} {b : AL} : stepP mmS (.tup w r) (.str x) b = (bindP x (.tup w r) b).map fun b' => ([], b') := by
  unfold stepP bindP
  rw [if_neg (fun e => by cases e)]
  simp only
  split <;> rfl
/-- what is bound: few names of the row -/
structure Bd (mk : List (Str × Int)) (W : List Str) (b : AL) : Prop where
  ok : BOk mk W b
  ends : EndsB b
  few : b.length + unseen W (b.map (·.1)) ≤ 5
theorem Bd.bind {mk : List (Str × Int)} {W : List Str} {x : Str} {t : PV} {b b' : AL} (h : Bd mk W b) (e : bindP x t b = some b') (hx : get b x = none) (xW : x ∈ W) (ht : TOk mk W t) (hf : ∀ y, t = .str y → get b y = none ∧ y ≠ x) : Bd mk W b' := by
  have one : ∀ {n : Str} {u : PV}, get b n = none → n ∈ W → TOk mk W u → (∀ y, u = .str y → get b y = none ∧ y ≠ n) → Bd mk W (b ++ [(n, u)]) := by
    intro n u hn nW hu hy
    refine ⟨h.ok.snoc hu, h.ends.snoc hn hy, ?_⟩
    have less := unseen_snoc nW (get_dom.mp hn)
    have := h.few
    rw [List.length_append, List.length_singleton, List.map_append]
    show b.length + 1 + unseen W (b.map (·.1) ++ [n]) ≤ 5
    omega
  cases t with
  | tup w r =>
    unfold bindP at e
    simp only at e
    split at e
    · cases e
    · cases e; exact one hx xW ht fun y q => by cases q
  | str y =>
    obtain ⟨fy, nyx⟩ := hf y rfl
    have hxT : TOk mk W (.str x) := ⟨trivial, by simp [psz], by simp [dep], fun z hz => by simp only [lv, List.mem_singleton] at hz; rw [hz]; exact xW⟩
    cases e
    rcases mmS_ok x y with q | q
    · rw [q]; exact one hx xW ht fun y' z => by cases z; exact ⟨fy, nyx⟩
    · rw [q]; exact one fy (ht.vs y (by simp [lv])) hxT fun y' z => by cases z; exact ⟨hx, Ne.symm nyx⟩
theorem prs_zip {H : Hp} {q : Addr} {Ts : List Addr} {xs ys : List V} {r s : List PV} (zp : ZP H q Ts xs ys) (tl : Ts.length = min xs.length ys.length) (hx : IsL H xs r) (hy : IsL H ys s) : Prs H (Ts.map V.ref) (r.zip s) := by
  have lx := hx.len
  have ly := hy.len
  have key : ∀ (n : Nat), n ≤ Ts.length → Prs H ((Ts.drop n).map V.ref) ((r.zip s).drop n) := by
    have lz : (r.zip s).length = Ts.length := by rw [List.length_zip, tl, lx, ly]
    have go : ∀ (k n : Nat), Ts.length - n = k → n ≤ Ts.length → Prs H ((Ts.drop n).map V.ref) ((r.zip s).drop n) := by
      intro k
      induction k with
      | zero =>
        intro n e hn
        rw [List.drop_eq_nil_of_le (by omega), List.drop_eq_nil_of_le (by omega)]
        exact .nil
      | succ k ih =>
        intro n e hn
        have h1 : n < Ts.length := by omega
        rw [List.drop_eq_getElem_cons h1, List.drop_eq_getElem_cons (show n < (r.zip s).length by omega), List.map_cons]
        have hx1 : n < xs.length := by omega
        have hy1 : n < ys.length := by omega
        obtain ⟨a, ea, ia⟩ := hx.get (List.getElem?_eq_getElem hx1)
        obtain ⟨c, ec, ic⟩ := hy.get (List.getElem?_eq_getElem hy1)
        have er : r[n]'(by omega) = a := by rw [List.getElem?_eq_getElem (by omega)] at ea; exact Option.some.inj ea
        have es : s[n]'(by omega) = c := by rw [List.getElem?_eq_getElem (by omega)] at ec; exact Option.some.inj ec
        refine .cons ⟨_, _, _, rfl, zp.pr n _ _ _ (List.getElem?_eq_getElem h1) (List.getElem?_eq_getElem hx1) (List.getElem?_eq_getElem hy1), ?_, ?_⟩ (ih (n + 1) (by omega) (by omega))
        · rw [List.getElem_zip, er]; exact ia
        · rw [List.getElem_zip, es]; exact ic
    intro n hn
    exact go _ n rfl hn
  simpa using key 0 (Nat.zero_le _)
theorem iteT' {c : Bool} {A B : Prop} (h : c = true) (a : A) : if c = true then A else B := by rw [if_pos h]; exact a
theorem iteF' {c : Bool} {A B : Prop} (h : c = false) (b : B) : if c = true then A else B := by rw [if_neg (by rw [h]; simp)]; exact b
theorem Prs.ex {d : Addr} {H H' : Hp} {xs : List V} {st : List (PV × PV)} (h : Prs H xs st) (x : Ex d H H') (hd : ∃ ys, H d = some (.lst ys)) : Prs H' xs st :=
  Paired.imp h fun _ _ ⟨q, a, b, e, e1, h1, h2⟩ => ⟨q, a, b, e, x.keep e1 hd (fun _ z => nomatch z), h1.ex x hd, h2.ex x hd⟩
theorem either_same {K : PySem.W.Frag} {H H' : Hp} {a : Addr} {xs : List V} (h : SqL K H a xs ∨ SqT K H a xs) (s : Same H H') : SqL K H' a xs ∨ SqT K H' a xs := by
  rcases h with (((e | ⟨o, e⟩) | e)) | e
  · exact .inl (.inl (.inl (s _ _ e)))
  · exact .inl (.inl (.inr ⟨o, s _ _ e⟩))
  · exact .inl (.inr e)
  · exact .inr (sq_stay e fun c o _ q => s _ _ q)
def spUni (K : PySem.W.Frag) (n : Nat) : Sp := fun vs H Q _ => ∃ (a : Addr) (mk : List (Str × Int)) (W : List Str) (xs : List V) (st : List (PV × PV)) (m : Nat) (res : Option AL), vs = [.ref a] ∧ (SqL K H a xs ∨ SqT K H a xs) ∧ Prs H xs st ∧ AllT mk W st ∧ W.length ≤ 5 ∧ st.length ≤ 10 ∧ RunsB mmS m st.reverse [] res ∧
  (res = none → ∀ H', Same H H' → Q .non H') ∧ ∀ b, res = some b → ∃ g ρ, Sol g b ρ ∧ (∀ z, dep (fn g z) ≤ n) ∧ ∀ q H', Same H H' → H q = none → AsD H' q (TL g st) → Q (.ref q) H'
theorem ok_unified {n : Nat} (T : Txt K mg) (G_followed : FnOk P w K mg base CX0 1 T.a_followed T.d_followed ["term", "bound"] spFo) (G_bind : FnOk P w K mg base CX0 3 T.a_bind T.d_bind ["name", "term", "bound"] spBind) (G_told : FnOk P w K mg base CX0 (n+2) T.a_told T.d_told ["pairs", "bound"] (spTold K n)) : FnOk P w K mg base CX0 (n+4) T.a_unified T.d_unified ["pairs"] (spUni K n) := by
  refine T.F_unified.ok sc_unified (fun vs H Q E h => ?_) (fun cdv A outer s H vs Q E hr h => ?_)
  · obtain ⟨a, mk, W, xs, st, m, res, rfl, _⟩ := h; rfl
  · obtain ⟨a, mk, W, xs, st, m0, res, rfl, hP, hR, hT, w5, s10, hrun, q0, q1⟩ := h
    have hu := hu_of hr
    have hr_followed := hr.mono (show 1 ≤ n + 3 by omega)
    have hr_bind := hr.mono (show 3 ≤ n + 3 by omega)
    have hr_told := hr.mono (show n + 2 ≤ n + 3 by omega)
    refine ⟨_, (pss_cons (ps_set (i := 1) sc_unified.nd rfl (Or.inl rfl) pe_dnewK)
    (pss_cons (ps_set (i := 2) sc_unified.nd rfl (Or.inl rfl) (pe_callTy call_list_of (by rfl) T.z_list (by decide +kernel) (pa_cons (pv 0) pa_nil)))
    (pss_cons (ps_while PassesOwn.never (pt_truth (pv 2) (by intro _; rfl))
    (pss_cons (ps_asg (pe_bm0 PySem.F.plainAttrs_list PySem.F.slot_list_pop PySem.F.type_list_pop mt_pop (pv 2)) (pg_tup rfl (pgs_cons (pg_name (i := 3) sc_unified.nd rfl (Or.inl rfl)) (pgs_cons (pg_name (i := 4) sc_unified.nd rfl (Or.inl rfl)) pgs_nil))))
    (pss_cons (ps_set (i := 3) sc_unified.nd rfl (Or.inl rfl) (pe_call G_followed hr_followed rfl T.m_followed T.F_followed.kp T.b_followed .nil pass0 (pa_cons (pv 3) (pa_cons (pv 1) pa_nil))))
    (pss_cons (ps_set (i := 4) sc_unified.nd rfl (Or.inl rfl) (pe_call G_followed hr_followed rfl T.m_followed T.F_followed.kp T.b_followed .nil pass0 (pa_cons (pv 4) (pa_cons (pv 1) pa_nil))))
    (pss_cons (ps_if (pt_cmpR (opK_eqDD (K := K) rfl (units200 hr)) (pv 3) (pv 4) (nomark _)) (pss_one ps_continue) pss_nil)
    (pss_cons (ps_if (pt_val (pe_callB call_isi (by rfl) T.z_isinstance (by decide +kernel) (pa_cons (pv 3) (pa_cons (pe_bltn rfl T.z_str (by decide +kernel) (show RelV (V.ty "str") (Value.type "str") from rfl)) pa_nil)))) (pss_one (ps_set (i := 5) sc_unified.nd rfl (Or.inl rfl) (pe_call G_bind hr_bind rfl T.m_bind T.F_bind.kp T.b_bind .nil pass0 (pa_cons (pv 3) (pa_cons (pv 4) (pa_cons (pv 1) pa_nil)))))) (pss_one (ps_if (pt_val (pe_callB call_isi (by rfl) T.z_isinstance (by decide +kernel) (pa_cons (pv 4) (pa_cons (pe_bltn rfl T.z_str (by decide +kernel) (show RelV (V.ty "str") (Value.type "str") from rfl)) pa_nil)))) (pss_one (ps_set (i := 5) sc_unified.nd rfl (Or.inl rfl) (pe_call G_bind hr_bind rfl T.m_bind T.F_bind.kp T.b_bind .nil pass0 (pa_cons (pv 4) (pa_cons (pv 3) (pa_cons (pv 1) pa_nil)))))) (pss_cons (ps_set (i := 5) sc_unified.nd rfl (Or.inl rfl) (pe_cmpR op_eq (pe_ix ix_seq (pv 3) pe_int (fun _ _ => rfl)) (pe_ix ix_seq (pv 4) pe_int (fun _ _ => rfl)) (nomark _)))
    (pss_one (ps_expr (pe_bm PySem.F.plainAttrs_list PySem.F.slot_list_extend PySem.F.type_list_extend mt_extend (pv 2) (pa_cons (pe_listZip (by rfl) T.z_list (by rfl) T.z_zip (by rfl) (pa_cons (pe_slice sl_tup (pv 3) (po_some pe_int) po_none) (pa_cons (pe_slice sl_tup (pv 4) (po_some pe_int) po_none) pa_nil))) pa_nil))))))))
    (pss_one (ps_if (pt_not (pt_val (pv 5))) (pss_one (ps_ret pe_non)) pss_nil))))))))
    (pss_one (ps_ret (pe_call G_told hr_told rfl T.m_told T.F_told.kp T.b_told .nil pass0 (pa_cons (pv 0) (pa_cons (pv 1) pa_nil)))))))), ?_⟩
    refine fun pb hpb => ?_
    have s1 := same_upd hpb (.dK [])
    have llen := pair_len hR
    refine ⟨_, rfl, a, xs, rfl, ?_, fun td htd => ?_⟩
    · exact either_same hP s1
    have s2 := same_upd htd (.lst xs)
    have ft : H td = none := s1.free htd
    have npt : pb ≠ td := ne_of_none upd_same htd
    refine ⟨fun m σ H2 => ∃ y3 y4 y5 b vs L, σ = [some (.ref a), some (.ref pb), some (.ref td), y3, y4, y5] ∧ Same H H2 ∧ AsD H2 pb b ∧ H2 td = some (.lst vs) ∧ Prs H2 vs L ∧ AllT mk W L ∧ L.length ≤ 240 ∧ Bd mk W b ∧ RunsB mmS m L.reverse b res, ⟨m0, ?_⟩, ?_⟩
    · refine ⟨none, none, none, [], xs, st, rfl, s1.trans s2, ⟨[], ?_, .nil⟩, upd_same, (hR.same s1).same s2, hT, by omega, ⟨BOk.nil _ _, EndsB.nil, ?_⟩, hrun⟩
      · rw [upd_ne npt, upd_same]
      · have : unseen W [] ≤ W.length := List.length_filter_le _ _
        simp only [List.length_nil, List.map_nil]; omega
    · intro m σ H2 ⟨y3, y4, y5, b, vs, L, es, sm, hA, et, hL, hTL, l240, hB, hrunL⟩
      subst es
      refine ⟨_, rfl, _, .inl ⟨_, SqL.of et, rfl⟩, ?_⟩
      refine ite2 (fun cv => ?_) (fun cv => ?_)
      case refine_2 =>
        have hv : vs = [] := by cases vs with | nil => rfl | cons _ _ => exact absurd rfl cv
        subst hv
        cases hL
        have er : res = some b := by cases hrunL; rfl
        obtain ⟨g, ρ, S, hd, fin⟩ := q1 b er
        refine ⟨_, rfl, _, rfl, a, pb, mk, W, xs, st, g, b, ρ, rfl, ?_, hR.same sm, hA, S, hB.ok, hT, hd, by omega, fun q H' s' fq hq => fin q H' (sm.trans s') (sm.free fq) hq⟩
        exact either_same hP sm
      have hne : vs ≠ [] := by intro e; rw [e] at cv; cases cv
      have hlast : vs[vs.length - 1]? = some (vs.getLast hne) := by
        rw [List.getLast_eq_getElem, List.getElem?_eq_getElem]
      obtain ⟨L', ⟨p, q⟩, eL, hL', ⟨qa, va, vb, elast, eqa, hIa, hIb⟩⟩ := pair_last hL hne
      rw [eL, List.reverse_append] at hrunL
      obtain ⟨p', q', m1, m2, hFp, hFq, hcase⟩ := RunsB.inv (show RunsB mmS m ((p, q) :: L'.reverse) b res from hrunL)
      refine ⟨fun σ' H' => ∃ m', m' < m ∧ ∃ y3 y4 y5 b vs L, σ' = [some (.ref a), some (.ref pb), some (.ref td), y3, y4, y5] ∧ Same H H' ∧ AsD H' pb b ∧ H' td = some (.lst vs) ∧ Prs H' vs L ∧ AllT mk W L ∧ L.length ≤ 240 ∧ Bd mk W b ∧ RunsB mmS m' L.reverse b res, fun σ' H' z => z, ?_⟩
      refine ⟨_, rfl, .inl ⟨rfl, _, SqL.of et⟩, td, vs, _, rfl, rfl, et, hlast, ?_⟩
      rw [elast]
      have x3 : Ex td H2 (upd H2 td (.lst vs.dropLast)) := .set _
      have sm3 : Same H (upd H2 td (.lst vs.dropLast)) := Kx.Same.own sm ft _
      have nqa : qa ≠ td := ne_of eqa et (fun z => nomatch z)
      have eqa3 : (upd H2 td (.lst vs.dropLast)) qa = some (.tup [va, vb]) := by rw [upd_ne nqa]; exact eqa
      have hIa3 := hIa.ex x3 ⟨_, et⟩
      have hIb3 := hIb.ex x3 ⟨_, et⟩
      have hA3 := hA.ex x3 ⟨_, et⟩
      have hL3 : Prs (upd H2 td (.lst vs.dropLast)) vs.dropLast L' := Paired.imp hL' fun _ _ ⟨q, a, b, e, e1, h1, h2⟩ => ⟨q, a, b, e, (by rw [upd_ne (ne_of e1 et (fun z => nomatch z))]; exact e1), h1.ex x3 ⟨_, et⟩, h2.ex x3 ⟨_, et⟩⟩
      have et3 : (upd H2 td (.lst vs.dropLast)) td = some (.lst vs.dropLast) := upd_same
      have hTL' : AllT mk W L' := fun pr h => hTL pr (by rw [eL]; exact List.mem_append_left _ h)
      have l240' : L'.length ≤ 240 := by rw [eL, List.length_append] at l240; omega
      obtain ⟨tp, tq⟩ := hTL (p, q) (by rw [eL]; simp)
      have tp' := hFp.ok hB.ok tp
      have tq' := hFq.ok hB.ok tq
      generalize hH3 : upd H2 td (.lst vs.dropLast) = H3 at *
      refine ⟨qa, _, rfl, .inl (.inl eqa3), rfl, _, _, rfl, _, _, rfl, rfl, ?_⟩
      refine ⟨_, rfl, _, rfl, pb, va, p, p', b, m1, rfl, hA3, hIa3, hFp, fun v1 H4 s4 hv1 => ?_⟩
      refine ⟨_, rfl, _, rfl, pb, vb, q, q', b, m2, rfl, hA3.same s4, hIb3.same s4, hFq, fun v2 H5 s5 hv2 => ?_⟩
      have hv1' := hv1.same s5
      have s45 := s4.trans s5
      have sm5 := sm3.trans s45
      have hA5 := hA3.same s45
      have et5 := s45 _ _ et3
      have hL5 := hL3.same s45
      refine ⟨_, rfl, _, rfl, toD p', toD q', hv1'.dp, hv2.dp, deep_ok tp' hv1', deep_ok tq' hv2, _, rfl, ite2 (fun c => ?_) (fun c => ?_)⟩
      · have e := eqv_eq c
        subst e
        rcases hcase with ⟨e, _⟩ | ⟨E, b', n', lt, e, hl, hr'⟩
        · unfold stepP at e; rw [if_pos rfl] at e; cases e
        · unfold stepP at e; rw [if_pos rfl] at e; cases e
          exact ⟨n', lt, _, _, _, b, _, L', rfl, sm5, hA5, et5, hL5, hTL', l240', hB, by simpa using hr'⟩
      have ne : p' ≠ q' := fun e => c (by rw [e]; exact eqv_self _)
      have failed : stepP mmS p' q' b = none → res = none := fun e => by
        rcases hcase with ⟨_, r⟩ | ⟨E, b', n', lt, e2, _⟩
        · exact r
        · rw [e] at e2; cases e2
      have goes : ∀ E b', stepP mmS p' q' b = some (E, b') → ∃ n', n' < m ∧ (E.reverse ++ L'.reverse).length ≤ 240 ∧ RunsB mmS n' (E.reverse ++ L'.reverse) b' res := fun E b' e => by
        rcases hcase with ⟨e2, _⟩ | ⟨E', b2, n', lt, e2, hl, hr'⟩
        · rw [e] at e2; cases e2
        · rw [e] at e2; cases e2
          exact ⟨n', lt, hl, hr'⟩
      have own6 : ∀ {H6 : Hp}, ExD pb H5 H6 → Same H H6 := fun x c o e => x c o (ne_of_none e hpb) (sm5 c o e)
      have td6 : ∀ {H6 : Hp}, ExD pb H5 H6 → H6 td = some (.lst vs.dropLast) := fun x => x _ _ npt.symm et5
      have prs6 : ∀ {H6 : Hp}, ExD pb H5 H6 → Prs H6 vs.dropLast L' := fun x => Paired.imp hL5 fun _ _ ⟨q, a, b, e, e1, h1, h2⟩ => ⟨q, a, b, e, x.tup hA5.isD e1, h1.exD x hA5.isD, h2.exD x hA5.isD⟩
      obtain ⟨u1, ty1, kt1⟩ := hv1'.ty (K := K)
      refine ⟨_, rfl, _, _, u1, _, _, rfl, .ty _, ty1, kit_str kt1, _, rfl, ite2 (fun c1 => ?_) (fun c1 => ?_)⟩
      · cases p' with
        | tup w r => cases c1
        | str x =>
        rw [hv1'.str_inv]
        have fx := hFp.end_
        have fq : ∀ y, q' = .str y → get b y = none := fun y e => by subst e; exact hFq.end_
        have kx : sok x = true := lv_ok hv1' x (by simp [lv])
        refine ⟨_, rfl, _, rfl, _, rfl, pb, mk, W, x, v2, q', b, rfl, hA5, hB.ends, hB.ok, kx, fx, hv2, tq', fq, by omega, by have := hB.few; omega, fun H6 e6 s6 => ?_, fun b6 H6 e6 x6 hA6 => ?_⟩
        · have e := failed (by rw [step_str ne, e6]; rfl)
          exact ⟨_, rfl, _, rfl, iteT (q0 e H6 (sm5.trans s6))⟩
        · obtain ⟨n', lt, hl, hr'⟩ := goes [] b6 (by rw [step_str ne, e6]; rfl)
          have xW : x ∈ W := tp'.vs x (by simp [lv])
          have hB6 := hB.bind e6 fx xW tq' fun y e => ⟨fq y e, fun z => ne (by rw [e, z])⟩
          exact ⟨_, rfl, _, rfl, iteF ⟨n', lt, _, _, _, b6, _, L', rfl, own6 x6, hA6, td6 x6, prs6 x6, hTL', l240', hB6, by simpa using hr'⟩⟩
      · obtain ⟨u2, ty2, kt2⟩ := hv2.ty (K := K)
        refine ⟨_, rfl, _, _, u2, _, _, rfl, .ty _, ty2, kit_str kt2, _, rfl, ite2 (fun c2 => ?_) (fun c2 => ?_)⟩
        · cases q' with
          | tup w r => cases c2
          | str x =>
          cases p' with
          | str z => exact absurd rfl c1
          | tup w r =>
          rw [hv2.str_inv]
          have fx := hFq.end_
          have kx : sok x = true := lv_ok hv2 x (by simp [lv])
          refine ⟨_, rfl, _, rfl, _, rfl, pb, mk, W, x, v1, _, b, rfl, hA5, hB.ends, hB.ok, kx, fx, hv1', tp', fun y e => (by cases e), by omega, by have := hB.few; omega, fun H6 e6 s6 => ?_, fun b6 H6 e6 x6 hA6 => ?_⟩
          · have e := failed (by rw [step_str2, e6]; rfl)
            exact ⟨_, rfl, _, rfl, iteT (q0 e H6 (sm5.trans s6))⟩
          · obtain ⟨n', lt, hl, hr'⟩ := goes [] b6 (by rw [step_str2, e6]; rfl)
            have xW : x ∈ W := tq'.vs x (by simp [lv])
            have hB6 := hB.bind e6 fx xW tp' fun y e => by cases e
            exact ⟨_, rfl, _, rfl, iteF ⟨n', lt, _, _, _, b6, _, L', rfl, own6 x6, hA6, td6 x6, prs6 x6, hTL', l240', hB6, by simpa using hr'⟩⟩
        · obtain ⟨a1, w1, vs1, r, ev1, rfl, ea1, hL1, kw1, _, lr1, hWl1⟩ := term_inv hv1' tp'.wf (Bool.eq_false_iff.mpr c1)
          obtain ⟨a2, w2, vs2, r2, ev2, rfl, ea2, hL2, kw2, _, lr2, hWl2⟩ := term_inv hv2 tq'.wf (Bool.eq_false_iff.mpr c2)
          rw [ev1, ev2]
          refine ⟨_, rfl, .inr (.inl ⟨a1, _, _, _, rfl, rfl, .inl (.inl ea1), atI_nat (j := 0) rfl, ?_⟩)⟩
          refine ⟨_, rfl, .inr (.inl ⟨a2, _, _, _, rfl, rfl, .inl (.inl ea2), atI_nat (j := 0) rfl, ?_⟩)⟩
          refine ⟨rfl, ?_⟩
          refine ⟨_, rfl, .inl ⟨rfl, _, SqL.of et5⟩, ?_⟩
          refine ⟨_, rfl, _, rfl, a1, _, rfl, .inl (.inl ea1), slice1, fun p1 h1 => ?_⟩
          rw [cut1]
          have t1 := same_upd h1 (.tup vs1)
          refine ⟨_, rfl, _, rfl, a2, _, rfl, .inl (.inl (t1 _ _ ea2)), slice1, fun p2 h2 => ?_⟩
          rw [cut1]
          have t2 := same_upd h2 (.tup vs2)
          have l1 := hL1.len
          have l2 := hL2.len
          refine ⟨p1, p2, vs1, vs2, rfl, .inl (.inl (t2 _ _ upd_same)), .inl (.inl upd_same), by omega, fun zq H6 Ts fz s6 tl zp => ?_⟩
          have s56 := (t1.trans t2).trans s6
          have et6 := s56 _ _ et5
          have sm6 := sm5.trans s56
          have hA6 := hA5.same s56
          have hL6 := (hL5.same s56)
          have hZ := prs_zip zp tl (hL1.same s56) (hL2.same s56)
          have len0 := pair_len hL'
          have tl2 : Ts.length ≤ 2 := by omega
          have nzt : zq ≠ td := fun e => by
            have := zp.lst
            rw [e] at fz
            rw [(t1.trans t2) _ _ et5] at fz
            cases fz
          refine ⟨td, zq, _, _, rfl, rfl, et6, zp.lst, ?_, ?_⟩
          · rw [len0, List.length_map]
            exact Nat.le_of_lt (small1000 (by omega))
          have sm7 : Same H (upd H6 td (.lst (vs.dropLast ++ Ts.map V.ref))) := Kx.Same.own sm6 ft _
          refine ⟨_, rfl, _, rfl, ?_⟩
          by_cases ew : w1 = w2
          · subst ew
            have hst : stepP mmS (.tup w1 r) (.tup w1 r2) b = some (r.zip r2, b) := by unfold stepP; rw [if_neg ne]; simp
            obtain ⟨n', lt, hl, hr'⟩ := goes _ b hst
            obtain ⟨_, parts⟩ := stepP_parts hst tp' tq'
            refine iteF' (by simp) ⟨n', lt, _, _, _, b, _, L' ++ r.zip r2, rfl, sm7, ?_, upd_same, ?_, fun pr h => ?_, ?_, hB, ?_⟩
            · exact hA6.ex (.set _) ⟨_, et6⟩
            · exact pair_append (hL6.ex (.set _) ⟨_, et6⟩) (hZ.ex (.set _) ⟨_, et6⟩)
            · rcases List.mem_append.mp h with h | h
              · exact hTL' pr h
              · exact ⟨(parts pr h).1, (parts pr h).2.1⟩
            · rw [List.length_append]
              rw [List.length_append, List.length_reverse, List.length_reverse] at hl
              omega
            · rw [List.reverse_append]; exact hr'
          · have e := failed (by unfold stepP; rw [if_neg ne]; simp only [if_neg ew])
            exact iteT' (by simpa using ew) (q0 e _ sm7)
end
end Kx
namespace Kx
open PySem PySem.Spec PyProof.Rows L2
section
variable {P : Program} {w : World} {K : PySem.W.Frag} {mg : Str → Option Value} {base : Heap}
theorem nodup_len : ∀ {l W : List Str}, l.Nodup → (∀ z ∈ l, z ∈ W) → l.length ≤ W.length
  | [], _, _, _ => Nat.zero_le _
  | z :: r, W, h, s => by
    obtain ⟨n1, n2⟩ := List.nodup_cons.mp h
    have zW := s z (List.mem_cons_self ..)
    have ih := nodup_len (l := r) (W := W.erase z) n2 fun y hy => (List.mem_erase_of_ne (fun e => n1 (by rw [← e]; exact hy))).mpr (s y (List.mem_cons_of_mem _ hy))
    rw [List.length_erase_of_mem zW] at ih
    have := List.length_pos_of_mem zW
    rw [List.length_cons]; omega
theorem mem_lvL {z : Str} : ∀ {l : List PV}, z ∈ lvL l ↔ ∃ t ∈ l, z ∈ lv t
  | [] => by simp [lvL]
  | a :: r => by simp only [lvL, List.mem_append, mem_lvL (l := r), List.mem_cons, exists_eq_or_imp]
def spLNames (n : Nat) : Sp := fun vs H Q _ => ∃ (mk : List (Str × Int)) (W : List Str) (v : V) (t : PV), vs = [v] ∧ Is H v t ∧ Wf mk t ∧ dep t ≤ n ∧ (∀ z ∈ lv t, z ∈ W) ∧ W.length ≤ 100 ∧ ∀ a H' (ns : List Str), Same H H' → H' a = some (.lst (ns.map V.str)) → ns.Nodup → (∀ z, z ∈ ns ↔ z ∈ lv t) → Q (.ref a) H'
theorem ok_law_names {n : Nat} (T : Txt K mg) (G_law_names : FnOk P w K mg base CX0 (n+1) T.a_law_names T.d_law_names ["term"] (spLNames n)) : FnOk P w K mg base CX0 (n+2) T.a_law_names T.d_law_names ["term"] (spLNames (n+1)) := by
  refine T.F_law_names.ok sc_law_names (fun vs H Q E h => ?_) (fun cdv A outer s H vs Q E hr h => ?_)
  · obtain ⟨mk, W, v, t, rfl, _⟩ := h; rfl
  · obtain ⟨mk, W, v, t, rfl, hI, hT, hn, hW, w100, q⟩ := h
    have hr_law_names := hr
    refine ⟨_, (pss_cons (ps_if (pt_val (pe_callB call_isi (by rfl) T.z_isinstance (by decide +kernel) (pa_cons (pv 0) (pa_cons (pe_bltn rfl T.z_str (by decide +kernel) (show RelV (V.ty "str") (Value.type "str") from rfl)) pa_nil)))) (pss_one (ps_ret (pe_lst (pa_cons (pv 0) pa_nil)))) pss_nil)
    (pss_cons (ps_set (i := 1) sc_law_names.nd rfl (Or.inr rfl) (pe_lst pa_nil))
    (pss_cons (ps_for PassesOwn.never rfl (pi_tup (pe_slice sl_tup (pv 0) (po_some pe_int) po_none)) (pg_name (i := 2) sc_law_names.nd rfl (Or.inl rfl))
    (pss_one (ps_set (i := 1) sc_law_names.nd rfl (Or.inr rfl) (pe_op op_cat (pv 1) (pe_lc (own := [("name", 3)]) (g := (gName 3)) rfl sc_law_names.nd (pi_list (pe_call G_law_names hr_law_names rfl T.m_law_names T.F_law_names.kp T.b_law_names .nil pass0 (pa_cons (pv 2) pa_nil))) (blkOk_by (own := [("name", 3)]) (N := ["term", "found", "part", "name"]) (sc := defScope s_law_names) (by decide +kernel)) (fun _ _ _ _ _ => (pg_name (i := 3) sc_law_names.nd rfl (Or.inl rfl))) (fun _ _ _ _ _ => pts_one (pt_cmpR (notInSeqK (K := K)) (pv 3) (pv 1) (by rfl))) (fun _ _ _ _ _ => (pv 3)))))))
    (pss_one (ps_ret (pv 1)))))), ?_⟩
    obtain ⟨u, ty, kt⟩ := hI.ty (K := K)
    refine ⟨_, rfl, _, _, u, _, _, rfl, .ty _, ty, kit_str kt, _, rfl, ite2 (fun c => ?_) (fun c => ?_)⟩
    · cases t with
      | tup w ts => cases c
      | str z =>
      rw [hI.str_inv]
      refine ⟨_, rfl, (by show 1 ≤ sizeLine; decide), fun p hp => ?_⟩
      exact q p _ [z] (same_upd hp _) upd_same (by simp) fun y => by simp [lv]
    · obtain ⟨a, w, vs, ts, rfl, rfl, ea, hL, hTl⟩ := term_inv0 hI hT (Bool.eq_false_iff.mpr c)
      have hlen := hL.len
      simp only [dep] at hn
      refine ⟨(by show 0 ≤ sizeLine; decide), fun f0 hf0 => ?_⟩
      have s0 := same_upd hf0 (.lst [])
      refine ⟨_, rfl, _, rfl, a, _, rfl, .inl (.inl (s0 _ _ ea)), slice1, fun p1 h1 => ?_⟩
      rw [cut1]
      have s1 := same_upd h1 (.tup vs)
      have s01 := s0.trans s1
      refine ⟨p1, rfl, ⟨_, .inl (.inl upd_same)⟩, ?_⟩
      refine for_tup (K := K) (a := p1) (xs := vs) (fun i σ H2 => ∃ (fa : Addr) (y2 : Option V) (ns : List Str), σ = [some (.ref a), some (.ref fa), y2, none] ∧ Same (upd (upd H f0 (.lst [])) p1 (.tup vs)) H2 ∧ H2 fa = some (.lst (ns.map V.str)) ∧ ns.Nodup ∧ ∀ z, z ∈ ns ↔ z ∈ lvL (ts.take i)) ?_ ?_ ?_ ?_
      · exact ⟨f0, none, [], rfl, .refl _, by rw [upd_ne (ne_of_none upd_same h1), upd_same]; rfl, List.nodup_nil, fun z => by simp [lvL]⟩
      · exact fun i σ H2 _ ⟨_, _, _, _, sm, _⟩ => .inl (.inl (sm _ _ upd_same))
      · intro i x σ H2 hx ⟨fa, y2, ns, es, sm, ef, nd, hm⟩
        subst es
        obtain ⟨y, ey, hy⟩ := hL.get hx
        have ym := List.mem_of_getElem? ey
        have yd := depL_mem ym
        have tky := take_snoc ey
        have s02 := s01.trans sm
        have nsW : ∀ z ∈ ns, z ∈ W := fun z hz => by
          obtain ⟨t, ht, hz⟩ := mem_lvL.mp ((hm z).mp hz)
          exact hW z (by simpa only [lv] using lvL_mem (List.mem_of_mem_take ht) z hz)
        have yW : ∀ z ∈ lv y, z ∈ W := fun z hz => hW z (by simpa only [lv] using lvL_mem ym z hz)
        have n100 := nodup_len nd nsW
        refine ⟨_, rfl, _, rfl, mk, W, x, y, rfl, hy.same s02, mem_WfL hTl y ym, by omega, yW, w100, fun p H3 ms s3 ep nd3 hm3 => ⟨p, rfl, ⟨_, SqL.of ep⟩, fun D hD => ?_⟩⟩
        have ef3 := s3 _ _ ef
        have m100 := nodup_len nd3 fun z hz => yW z ((hm3 z).mp hz)
        refine lc_list (K := K) (a := p) (xs := ms.map V.str) (fun j H4 => Same H3 H4 ∧ H4 D = some (.lst (((ms.take j).filter fun z => decide (z ∉ ns)).map V.str))) ?_ ?_ ?_ ?_
        · exact ⟨same_upd hD _, upd_same⟩
        · exact fun j H4 _ ⟨s4, _⟩ => SqL.of (s4 _ _ ep)
        · intro j x' H4 hx' ⟨s4, eD⟩
          rw [List.getElem?_map] at hx'
          cases hz : ms[j]? with
          | none => rw [hz] at hx'; cases hx'
          | some z =>
          rw [hz] at hx'
          cases (Option.some.inj hx')
          have tk := take_snoc hz
          refine ⟨rfl, _, rfl, _, rfl, fa, _, rfl, .inl (SqL.of (s4 _ _ ef3)), rfl, flat_str _, _, rfl, ?_⟩
          rw [inV_str]
          refine ite2 (fun c2 => ?_) (fun c2 => ?_)
          · have nz : z ∉ ns := by simpa using c2
            refine ⟨_, rfl, _, eD, ?_, Kx.Same.own s4 hD _, ?_⟩
            · have l1 := List.length_filter_le (fun z => decide (z ∉ ns)) (ms.take j)
              rw [List.length_take] at l1
              rw [List.length_map]
              exact small1000 (by omega)
            · rw [upd_same, tk, List.filter_append, List.map_append]
              simp [nz]
          · have nz : z ∈ ns := by simpa using c2
            refine ⟨s4, ?_⟩
            rw [eD, tk, List.filter_append]
            simp [nz]
        · intro H4 ⟨s4, eD⟩
          rw [List.length_map, List.take_length] at eD
          refine ⟨fa, D, _, _, rfl, rfl, s4 _ _ ef3, eD, ?_, fun p2 hp2 => ?_⟩
          · have l1 := List.length_filter_le (fun z => decide (z ∉ ns)) ms
            rw [List.length_map, List.length_map]
            exact Nat.le_of_lt (small1000 (by omega))
          · have s5 := same_upd hp2 (.lst (ns.map V.str ++ (ms.filter fun z => decide (z ∉ ns)).map V.str))
            refine ⟨_, _, ns ++ ms.filter fun z => decide (z ∉ ns), rfl, ((sm.trans s3).trans s4).trans s5, by rw [upd_same, List.map_append], ?_, fun z => ?_⟩
            · refine List.nodup_append.mpr ⟨nd, nd3.filter _, fun a ha b hb e => ?_⟩
              subst e
              have := (List.mem_filter.mp hb).2
              exact (of_decide_eq_true this) ha
            · rw [tky, lvL_append, List.mem_append, List.mem_append, hm z, List.mem_filter]
              have e1 : z ∈ lvL [y] ↔ z ∈ lv y := by simp [lvL]
              rw [e1, hm3 z, ← hm z]
              constructor
              · rintro (h | h)
                · exact .inl h
                · exact .inr h.1
              · rintro (h | h)
                · exact .inl h
                · by_cases k : z ∈ ns
                  · exact .inl k
                  · exact .inr ⟨h, by simpa using k⟩
      · intro σ H2 ⟨fa, y2, ns, es, sm, ef, nd, hm⟩
        subst es
        rw [hlen, List.take_length] at hm
        exact ⟨_, rfl, q fa H2 ns (s01.trans sm) ef nd fun z => by rw [hm z]; simp only [lv]⟩
end
end Kx
namespace Kx
open PySem PySem.Spec PyProof.Rows L2
section
variable {P : Program} {w : World} {K : PySem.W.Frag} {mg : Str → Option Value} {base : Heap}
def Nd (al : AL) : Prop := (al.map (·.1)).Nodup
theorem get_mem {z : Str} {u : PV} : ∀ {al : AL}, Nd al → (z, u) ∈ al → get al z = some u
  | kv :: r, nd, h => by
    obtain ⟨k, v⟩ := kv
    obtain ⟨n1, n2⟩ := List.nodup_cons.mp (show (k :: r.map (·.1)).Nodup from nd)
    rw [get_cons]
    rcases List.mem_cons.mp h with e | h
    · cases e; rw [if_pos rfl]
    · have : k ≠ z := fun e => n1 (by rw [e]; exact List.mem_map_of_mem (f := (·.1)) h)
      rw [if_neg this]
      exact get_mem n2 h
theorem psub_one {x : Str} {t u : PV} : psub [(x, t)] u = sub (one x t) u := by
  refine sub_congr fun z _ => ?_
  unfold fn one
  rw [get_cons, get_nil]
  by_cases e : x = z
  · rw [if_pos e, if_pos e.symm]; rfl
  · rw [if_neg e, if_neg (fun q => e q.symm)]; rfl
theorem Nd.put {al : AL} {x : Str} {t : PV} (h : Nd al) (n : get al x = none) : Nd (putIn al x t) := by
  unfold Nd putIn
  rw [List.map_append, List.map_map]
  refine List.nodup_append.mpr ⟨h, by simp, fun a ha b hb e => ?_⟩
  subst e
  rw [List.map_cons, List.map_nil, List.mem_singleton] at hb
  subst hb
  exact get_dom.mp n ha
/-- the dict at f stands locked -/
theorem lock_get {H : Hp} {f : Addr} {o : Obj} {kvs : List (Key × V)} (e : H f = some (.frz o (.dK kvs))) (z : Str) : DGet H f (.str z) (valV kvs (Sum.inr z)) := .inl ⟨kvs, Sum.inr z, .inr ⟨o, e⟩, rfl, rfl⟩
def spPutIn (n : Nat) : Sp := fun vs H Q _ => ∃ (f : Addr) (mk : List (Str × Int)) (x : Str) (v : V) (t : PV) (al : AL), vs = [.ref f, .str x, v] ∧ AsD H f al ∧ Nd al ∧ al.length ≤ 100 ∧ get al x = none ∧ sok x = true ∧ Is H v t ∧ (∀ kv ∈ al, Wf mk kv.2 ∧ dep kv.2 ≤ n) ∧ ∀ q H', Same H H' → AsD H' q (putIn al x t) → Q (.ref q) H'
theorem ok_law_put_in {n : Nat} (T : Txt K mg) (G_law_put : FnOk P w K mg base CX0 (n+1) T.a_law_put T.d_law_put ["term", "assignment"] (spPut n)) : FnOk P w K mg base CX0 (n+2) T.a_law_put_in T.d_law_put_in ["found", "name", "term"] (spPutIn n) := by
  refine T.F_law_put_in.ok sc_law_put_in (fun vs H Q E h => ?_) (fun cdv A outer s H vs Q E hr h => ?_)
  · obtain ⟨f, mk, x, v, t, al, rfl, _⟩ := h; rfl
  · obtain ⟨f, mk, x, v, t, al, rfl, hA, nd, al100, hx, kx, hI, hw, q⟩ := h
    have hu := hu_of hr
    have hr_law_put := hr
    refine ⟨_, (pss_cons (ps_set (i := 3) sc_law_put_in.nd rfl (Or.inl rfl) (pe_disp (pps_cons (pv 1) (pv 2) pps_nil) (by rfl) (by rfl) (fun z => by cases z) (by decide)))
    (pss_cons (ps_set (i := 4) sc_law_put_in.nd rfl (Or.inl rfl) pe_dnewK)
    (pss_cons (ps_lock (ps_for PassesOwn.never rfl (pi_keys (pv 0)) (pg_name (i := 5) sc_law_put_in.nd rfl (Or.inl rfl))
    (pss_one (ps_dput hu (pv 4) (pv 5) (pe_call G_law_put hr_law_put rfl T.m_law_put T.F_law_put.kp T.b_law_put .nil pass0 (pa_cons (pe_dget hu (pv 0) (pv 5) (fun _ _ => rfl)) (pa_cons (pv 3) pa_nil))) rfl))))
    (pss_cons (ps_dput hu (pv 4) (pv 1) (pv 2) rfl)
    (pss_one (ps_ret (pv 4))))))), ?_⟩
    obtain ⟨kvs, ef, pr⟩ := id hA
    have lk := Paired.length pr
    refine fun md hmd => ⟨_, rfl, _, rfl, upd_same, [(Sum.inr x, v)], rfl, by show 1 ≤ 15; decide, ?_⟩
    rw [upd_upd]
    refine fun rd hrd => ?_
    have em : mergeK [] [((Sum.inr x : Key), v)] = [(Sum.inr x, v)] := rfl
    rw [em] at hrd ⊢
    have s1 := same_upd hmd (.dK [((Sum.inr x : Key), v)])
    have s2 := same_upd hrd (.dK [])
    have s12 := s1.trans s2
    have fr : H rd = none := s1.free hrd
    have nmr : md ≠ rd := ne_of_none upd_same hrd
    have nmf : md ≠ f := fun e => (by rw [e, ef] at hmd; cases hmd)
    have nrf : rd ≠ f := fun e => (by rw [e, ef] at fr; cases fr)
    have ef2 := s12 _ _ ef
    refine ⟨f, _, ef2, trivial, fun od => ?_⟩
    have fD : isD (upd (upd H md (.dK [((Sum.inr x : Key), v)])) rd (.dK [])) f := ⟨_, ef2⟩
    refine ⟨_, rfl, f, od, rfl, .inl ⟨kvs, upd_same, ?_⟩⟩
    have fH : isD H f := ⟨_, ef⟩
    refine L2.for_it walk_keys (fun i σ H2 => ∃ y5 ra, σ = [some (.ref f), some (.str x), some v, some (.ref md), some (.ref rd), y5] ∧ ExD f H H2 ∧ H2 md = some (.dK [((Sum.inr x : Key), v)]) ∧ H2 f = some (.frz od (.dK kvs)) ∧ AsD H2 rd ra ∧ ra = (al.take i).map (fun kv => (kv.1, sub (one x t) kv.2))) ?_ ?_ ?_ ?_
    · refine ⟨none, [], rfl, fun b o nb e => ?_, ?_, upd_same, ⟨[], by rw [upd_ne nrf, upd_same], .nil⟩, rfl⟩
      · rw [upd_ne nb]; exact s12 _ _ e
      · rw [upd_ne nmf, upd_ne nmr, upd_same]
    · exact fun i σ H2 _ ⟨_, _, _, _, _, e, _⟩ => e
    · intro i x1 σ H2 H2' hi ⟨y5, ra, es, xx, em2, e2, hR, era⟩ ⟨eH, k, v1, ek, ex1⟩
      subst es eH ex1
      obtain ⟨⟨z, u⟩, eu, ekz, hu1⟩ := pair_at pr ek
      simp only at ekz hu1
      subst ekz
      have hm := List.mem_of_getElem? eu
      have gz := get_mem nd hm
      have tku := take_snoc eu
      obtain ⟨wu, du⟩ := hw _ hm
      simp only at wu du
      have hM : AsD H2' md [(x, t)] := ⟨[(Sum.inr x, v)], em2, .cons ⟨rfl, hI.exD xx fH⟩ .nil⟩
      obtain ⟨vg, tg, e3, e4, hIg⟩ : ∃ vg tg, valV kvs (Sum.inr z) = some vg ∧ get al z = some tg ∧ Is H vg tg := by
        rcases pair_val z pr with ⟨_, b⟩ | r
        · rw [gz] at b; cases b
        · exact r
      rw [gz] at e4
      cases e4
      have g1 := lock_get e2 z
      rw [e3] at g1
      refine ⟨_, rfl, _, rfl, f, vg, rfl, g1, _, rfl, md, mk, vg, u, [(x, t)], rfl, hM.r, hIg.exD xx fH, wu, du, fun v2 H3 s3 hv2 => ?_⟩
      rw [psub_one] at hv2
      have hR3 := hR.same s3
      have rz : get ra z = none := by
        rw [get_dom, era, List.map_map]
        intro h
        have h2 : z ∈ (al.take i).map (·.1) := h
        have nd2 : ((al.take (i + 1)).map (·.1)).Nodup := (List.Sublist.map _ (List.take_sublist _ _)).nodup nd
        rw [tku, List.map_append, List.nodup_append] at nd2
        exact nd2.2.2 z h2 z (by simp) rfl
      obtain ⟨kv3, e5, l5, hA5⟩ := hR3.snoc rz hv2
      have lra : ra.length ≤ i := by rw [era, List.length_map, List.length_take]; omega
      refine ⟨_, rfl, _, rfl, rd, _, rfl, DPut.k (k := Sum.inr z) e5 (small1000 (by omega)), ?_⟩
      refine ⟨_, _, rfl, fun b o nb e => ?_, ?_, ?_, hA5, ?_⟩
      · rw [upd_ne (ne_of_none e fr)]; exact s3 _ _ (xx _ _ nb e)
      · rw [upd_ne nmr]; exact s3 _ _ em2
      · rw [upd_ne nrf.symm]; exact s3 _ _ e2
      · rw [tku, List.map_append, era]; rfl
    · intro σ H2 ⟨y5, ra, es, xx, em2, e2, hR, era⟩
      subst es
      rw [lk, List.take_length] at era
      refine ⟨e2, ?_⟩
      have sU : Same H (upd H2 f (.dK kvs)) := fun b o e => by
        by_cases h : b = f
        · subst h; rw [upd_same, ← e, ef]
        · rw [upd_ne h]; exact xx _ _ h e
      obtain ⟨kvr, er, pr2⟩ := hR
      have xU : ExD f H2 (upd H2 f (.dK kvs)) := .set _
      have up2 : ∀ (v : V) (t : PV), Is H2 v t → Is (upd H2 f (.dK kvs)) v t := fun v t h => h.keep fun b vs e => by
        by_cases q : b = f
        · subst q; rw [e2] at e; cases e
        · rw [upd_ne q]; exact e
      have hRU : AsD (upd H2 f (.dK kvs)) rd ra := ⟨kvr, by rw [upd_ne nrf]; exact er, Paired.imp pr2 fun _ _ ⟨q, y⟩ => ⟨q, up2 _ _ y⟩⟩
      have rx : get ra x = none := by
        rw [get_dom, era, List.map_map]
        intro h
        exact get_dom.mp hx h
      obtain ⟨kv5, e5, l5, hA5⟩ := hRU.snoc rx (hI.same sU)
      have lra : ra.length = al.length := by rw [era, List.length_map]
      refine ⟨_, rfl, _, rfl, _, rfl, rd, _, rfl, DPut.k (k := Sum.inr x) e5 (small1000 (by omega)), _, rfl, ?_⟩
      rw [era] at hA5
      exact q rd _ (Kx.Same.own sU fr _) hA5
end
end Kx
namespace Kx
open PySem PySem.Spec PyProof.Rows L2
section
variable {P : Program} {w : World} {K : PySem.W.Frag} {mg : Str → Option Value} {base : Heap}
/-- what the law's loop keeps -/
structure LI (mk : List (Str × Int)) (W : List Str) (f : AL) (P : List (PV × PV)) : Prop where
  good : Good mk f
  wf : AllWf mk P
  fv : FV W f
  inv : InV W P
  nd : Nd f
  sol : ∃ b ρ l, l ≤ 111 ∧ Sol f b ρ ∧ BOk mk W b ∧ LevS mk W f l P
theorem stepL_nd {p q : PV} {f f' : AL} {E : List (PV × PV)} (hi : Idem f) (nd : Nd f) (h : stepL mmS p q f = some (E, f')) : Nd f' := by
  have np : ∀ y ∈ lv (psub f p), get f y = none := fun y hy => hi.psub hy
  have nq : ∀ y ∈ lv (psub f q), get f y = none := fun y hy => hi.psub hy
  unfold stepL at h
  split at h
  · cases h; exact nd
  · generalize psub f p = a at h np
    generalize psub f q = b at h nq
    cases a with
    | str x =>
      cases b with
      | str y =>
        cases h
        rcases mmS_ok x y with e | e
        · rw [e]; exact nd.put (np x (by simp [lv]))
        · rw [e]; exact nd.put (nq y (by simp [lv]))
      | tup w r =>
        simp only at h
        split at h
        · cases h
        · cases h; exact nd.put (np x (by simp [lv]))
    | tup w r =>
      cases b with
      | str x =>
        simp only at h
        split at h
        · cases h
        · cases h; exact nd.put (nq x (by simp [lv]))
      | tup w' s =>
        simp only at h
        split at h
        · cases h; exact nd
        · cases h
theorem LI.step {mk : List (Str × Int)} {W : List Str} {f f' : AL} {p q : PV} {P E : List (PV × PV)} (w5 : W.length ≤ 5) (h : LI mk W f ((p, q) :: P)) (e : stepL mmS p q f = some (E, f')) : LI mk W f' (E.reverse ++ P) := by
  have w1 := h.wf _ (List.mem_cons_self ..)
  have i1 := h.inv _ (List.mem_cons_self ..)
  have S := step_some mmS_ok h.good w1.1 w1.2 e
  obtain ⟨iE, vf, _⟩ := step_less mmS_ok h.good.idem h.fv i1.1 i1.2 e
  obtain ⟨b, ρ, l, hl, so, hb, lw⟩ := h.sol
  obtain ⟨l2, b2, ρ2, h1, h2, h3, h4⟩ := law_up mmS_ok h.good so hb w5 lw e
  refine ⟨S.good, fun x hx => ?_, vf, fun x hx => ?_, stepL_nd h.good.idem h.nd e, b2, ρ2, l2, h1, h2, h3, h4⟩
  · rcases List.mem_append.mp hx with hx | hx
    · exact S.wfL x (List.mem_reverse.mp hx)
    · exact h.wf x (List.mem_cons_of_mem _ hx)
  · rcases List.mem_append.mp hx with hx | hx
    · exact iE x (List.mem_reverse.mp hx)
    · exact h.inv x (List.mem_cons_of_mem _ hx)
mutual
theorem dep_le_sub (σ : Str → PV) : ∀ t : PV, dep t ≤ dep (sub σ t)
  | .str z => by simp only [sub, dep]; exact dep_pos _
  | .tup w r => by
    have := depL_le_sub σ r
    simp only [sub, dep]; omega
theorem depL_le_sub (σ : Str → PV) : ∀ l : List PV, depL l ≤ depL (subL σ l)
  | [] => by simp [subL, depL]
  | t :: r => by
    have a := dep_le_sub σ t
    have b := depL_le_sub σ r
    simp only [subL, depL]; omega
end
theorem LI.dep {mk : List (Str × Int)} {W : List Str} {f : AL} {p q : PV} {P : List (PV × PV)} (w5 : W.length ≤ 5) (h : LI mk W f ((p, q) :: P)) : Kx.dep p ≤ 111 ∧ Kx.dep q ≤ 111 ∧ Kx.dep (psub f p) ≤ 111 ∧ Kx.dep (psub f q) ≤ 111 := by
  obtain ⟨b, ρ, l, hl, so, hb, lw⟩ := h.sol
  obtain ⟨l1, _, ⟨⟨p0, hp, e1⟩, ⟨q0, hq, e2⟩, _⟩, _⟩ := lw.pop rfl
  simp only at e1 e2
  have a := dep_psub so hb w5 hp
  have c := dep_psub so hb w5 hq
  have d1 := dep_le_sub (fn f) p
  have d2 := dep_le_sub (fn f) q
  have d3 : psub f p = sub (fn f) p := rfl
  have d4 : psub f q = sub (fn f) q := rfl
  rw [← e1] at a
  rw [← e2] at c
  rw [← d3] at d1
  rw [← d4] at d2
  omega
theorem LI.few {mk : List (Str × Int)} {W : List Str} {f : AL} {P : List (PV × PV)} (h : LI mk W f P) : f.length ≤ W.length := by
  have := nodup_len h.nd h.fv.1
  rwa [List.length_map] at this
theorem LI.wait {mk : List (Str × Int)} {W : List Str} {f : AL} {P : List (PV × PV)} (h : LI mk W f P) : P.length ≤ 240 := by
  obtain ⟨b, ρ, l, hl, so, hb, lw⟩ := h.sol
  have := lw.len
  omega
theorem LI.vals {mk : List (Str × Int)} {W : List Str} {f : AL} {P : List (PV × PV)} (w5 : W.length ≤ 5) (h : LI mk W f P) : ∀ kv ∈ f, Wf mk kv.2 ∧ Kx.dep kv.2 ≤ 111 := fun kv hk => by
  obtain ⟨b, ρ, l, hl, so, hb, lw⟩ := h.sol
  have e : fn f kv.1 = kv.2 := by unfold fn; rw [get_mem h.nd (show (kv.1, kv.2) ∈ f from hk)]; rfl
  have a := h.good.wf kv.1
  have c := dep_fn so hb w5 kv.1
  rw [e] at a c
  exact ⟨a, by omega⟩
section
variable {p q : PV} {f : AL} {x y w w' : Str} {r s : List PV}
theorem stepL_ss (a : psub f p = .str x) (c : psub f q = .str y) (n : PV.str x ≠ .str y) : stepL mmS p q f = some ([], putIn f (mmS x y).1 (.str (mmS x y).2)) := by unfold stepL; rw [a, c, if_neg n]
theorem stepL_st (a : psub f p = .str x) (c : psub f q = .tup w r) : (x ∈ lv (.tup w r) → stepL mmS p q f = none) ∧ (x ∉ lv (.tup w r) → stepL mmS p q f = some ([], putIn f x (.tup w r))) := by
  unfold stepL; rw [a, c, if_neg (fun e => by cases e)]
  exact ⟨fun h => if_pos h, fun h => if_neg h⟩
theorem stepL_ts (a : psub f p = .tup w r) (c : psub f q = .str x) : (x ∈ lv (.tup w r) → stepL mmS p q f = none) ∧ (x ∉ lv (.tup w r) → stepL mmS p q f = some ([], putIn f x (.tup w r))) := by
  unfold stepL; rw [a, c, if_neg (fun e => by cases e)]
  exact ⟨fun h => if_pos h, fun h => if_neg h⟩
theorem stepL_tt (a : psub f p = .tup w r) (c : psub f q = .tup w' s) (n : PV.tup w r ≠ .tup w' s) : (w = w' → stepL mmS p q f = some (r.zip s, f)) ∧ (w ≠ w' → stepL mmS p q f = none) := by
  unfold stepL; rw [a, c, if_neg n]
  exact ⟨fun h => if_pos h, fun h => if_neg h⟩
end
def spLUni (K : PySem.W.Frag) : Sp := fun vs H Q _ => ∃ (a : Addr) (mk : List (Str × Int)) (W : List Str) (xs : List V) (st : List (PV × PV)) (m : Nat) (r : Option AL), vs = [.ref a] ∧ SqL K H a xs ∧ Prs H xs st ∧ W.length ≤ 5 ∧ LI mk W [] st.reverse ∧ runL mmS m st.reverse [] = some r ∧
  (r = none → ∀ H', Same H H' → Q .non H') ∧ ∀ g, r = some g → ∀ q H', Same H H' → AsD H' q g → Q (.ref q) H'
theorem ok_law_unified (T : Txt K mg) (G_law_put : FnOk P w K mg base CX0 112 T.a_law_put T.d_law_put ["term", "assignment"] (spPut 111)) (G_law_put_in : FnOk P w K mg base CX0 113 T.a_law_put_in T.d_law_put_in ["found", "name", "term"] (spPutIn 111)) (G_law_names : FnOk P w K mg base CX0 112 T.a_law_names T.d_law_names ["term"] (spLNames 111)) : FnOk P w K mg base CX0 114 T.a_law_unified T.d_law_unified ["pairs"] (spLUni K) := by
  refine T.F_law_unified.ok sc_law_unified (fun vs H Q E h => ?_) (fun cdv A outer s H vs Q E hr h => ?_)
  · obtain ⟨a, mk, W, xs, st, m, r, rfl, _⟩ := h; rfl
  · obtain ⟨a, mk, W, xs, st, m0, r, rfl, hP, hR, w5, hLI, hrun, q0, q1⟩ := h
    have hu := hu_of hr
    have hr_law_put := hr.mono (show 112 ≤ 113 by omega)
    have hr_law_put_in := hr
    have hr_law_names := hr.mono (show 112 ≤ 113 by omega)
    refine ⟨_, (pss_cons (ps_set (i := 1) sc_law_unified.nd rfl (Or.inl rfl) (pe_callTy call_list_of (by rfl) T.z_list (by decide +kernel) (pa_cons (pv 0) pa_nil)))
    (pss_cons (ps_set (i := 2) sc_law_unified.nd rfl (Or.inl rfl) pe_dnewK)
    (pss_cons (ps_while PassesOwn.never (pt_cmpR op_gt (pe_callB call_len_seq (by rfl) T.z_len (by decide +kernel) (pa_cons (pv 1) pa_nil)) pe_int (nomark _))
    (pss_cons (ps_asg (pe_bm0 PySem.F.plainAttrs_list PySem.F.slot_list_pop PySem.F.type_list_pop mt_pop (pv 1)) (pg_tup rfl (pgs_cons (pg_name (i := 3) sc_law_unified.nd rfl (Or.inl rfl)) (pgs_cons (pg_name (i := 4) sc_law_unified.nd rfl (Or.inl rfl)) pgs_nil))))
    (pss_cons (ps_set (i := 5) sc_law_unified.nd rfl (Or.inr rfl) (pe_call G_law_put hr_law_put rfl T.m_law_put T.F_law_put.kp T.b_law_put .nil pass0 (pa_cons (pv 3) (pa_cons (pv 2) pa_nil))))
    (pss_cons (ps_set (i := 6) sc_law_unified.nd rfl (Or.inr rfl) (pe_call G_law_put hr_law_put rfl T.m_law_put T.F_law_put.kp T.b_law_put .nil pass0 (pa_cons (pv 4) (pa_cons (pv 2) pa_nil))))
    (pss_cons (ps_if (pt_cmpR (opK_eqDD (K := K) rfl (units200 hr)) (pv 5) (pv 6) (nomark _)) (pss_one ps_continue) pss_nil)
    (pss_one (ps_if (PW.pt (pw_and (pt_val (pe_callB call_isi (by rfl) T.z_isinstance (by decide +kernel) (pa_cons (pv 5) (pa_cons (pe_bltn rfl T.z_str (by decide +kernel) (show RelV (V.ty "str") (Value.type "str") from rfl)) pa_nil)))) (pw_and1 (pt_val (pe_callB call_isi (by rfl) T.z_isinstance (by decide +kernel) (pa_cons (pv 6) (pa_cons (pe_bltn rfl T.z_str (by decide +kernel) (show RelV (V.ty "str") (Value.type "str") from rfl)) pa_nil))))))) (pss_one (ps_set (i := 2) sc_law_unified.nd rfl (Or.inl rfl) (pe_call G_law_put_in hr_law_put_in rfl T.m_law_put_in T.F_law_put_in.kp T.b_law_put_in .nil pass0 (pa_cons (pv 2) (pa_cons (pe_callB (call_maxS rfl hr.units) (by rfl) T.z_max (by decide +kernel) (pa_cons (pv 5) (pa_cons (pv 6) pa_nil))) (pa_cons (pe_callB (call_minS rfl hr.units) (by rfl) T.z_min (by decide +kernel) (pa_cons (pv 5) (pa_cons (pv 6) pa_nil))) pa_nil)))))) (pss_one (ps_if (PW.pt (pw_or (pt_val (pe_callB call_isi (by rfl) T.z_isinstance (by decide +kernel) (pa_cons (pv 5) (pa_cons (pe_bltn rfl T.z_str (by decide +kernel) (show RelV (V.ty "str") (Value.type "str") from rfl)) pa_nil)))) (pw_or1 (pt_val (pe_callB call_isi (by rfl) T.z_isinstance (by decide +kernel) (pa_cons (pv 6) (pa_cons (pe_bltn rfl T.z_str (by decide +kernel) (show RelV (V.ty "str") (Value.type "str") from rfl)) pa_nil))))))) (pss_cons (ps_set (i := 7) sc_law_unified.nd rfl (Or.inl rfl) (pe_ifExp (pt_val (pe_callB call_isi (by rfl) T.z_isinstance (by decide +kernel) (pa_cons (pv 5) (pa_cons (pe_bltn rfl T.z_str (by decide +kernel) (show RelV (V.ty "str") (Value.type "str") from rfl)) pa_nil)))) (pv 5) (pv 6)))
    (pss_cons (ps_set (i := 8) sc_law_unified.nd rfl (Or.inl rfl) (pe_ifExp (pt_val (pe_callB call_isi (by rfl) T.z_isinstance (by decide +kernel) (pa_cons (pv 5) (pa_cons (pe_bltn rfl T.z_str (by decide +kernel) (show RelV (V.ty "str") (Value.type "str") from rfl)) pa_nil)))) (pv 6) (pv 5)))
    (pss_cons (ps_if (pt_cmpR op_in_seq (pv 7) (pe_call G_law_names hr_law_names rfl T.m_law_names T.F_law_names.kp T.b_law_names .nil pass0 (pa_cons (pv 8) pa_nil)) (by rfl)) (pss_one (ps_ret pe_non)) pss_nil)
    (pss_one (ps_set (i := 2) sc_law_unified.nd rfl (Or.inl rfl) (pe_call G_law_put_in hr_law_put_in rfl T.m_law_put_in T.F_law_put_in.kp T.b_law_put_in .nil pass0 (pa_cons (pv 2) (pa_cons (pv 7) (pa_cons (pv 8) pa_nil))))))))) (pss_one (ps_if (pt_cmpR op_ne (pe_ix ix_seq (pv 5) pe_int (fun _ _ => rfl)) (pe_ix ix_seq (pv 6) pe_int (fun _ _ => rfl)) (nomark _)) (pss_one (ps_ret pe_non)) (pss_one (ps_set (i := 1) sc_law_unified.nd rfl (Or.inl rfl) (pe_op op_cat (pv 1) (pe_lc (own := [("k", 9)]) (g := (gName 9)) (tt := tYes) rfl sc_law_unified.nd (pi_range2 (by rfl) T.z_range (pa_cons pe_int (pa_cons (pe_callB call_len_seq (by rfl) T.z_len (by decide +kernel) (pa_cons (pv 5) pa_nil)) pa_nil))) (blkOk_by (own := [("k", 9)]) (N := ["pairs", "waiting", "found", "first", "second", "one", "other", "name", "term", "k"]) (sc := defScope s_law_unified) (by decide +kernel)) (fun _ _ _ _ _ => (pg_name (i := 9) sc_law_unified.nd rfl (Or.inl rfl))) (fun _ _ _ _ _ => pts_nil) (fun _ _ _ _ _ => (pe_tup (pa_cons (pe_ix (ixSK (K := K)) (pv 5) (pv 9) (fun _ _ => rfl)) (pa_cons (pe_ix (ixSK (K := K)) (pv 6) (pv 9) (fun _ _ => rfl)) pa_nil)))))))))))))))))))
    (pss_one (ps_ret (pv 2)))))), ?_⟩
    refine ⟨_, rfl, a, xs, rfl, .inl hP, fun wa hwa => fun fa hfa => ?_⟩
    have s1 := same_upd hwa (.lst xs)
    have s2 := same_upd hfa (.dK [])
    have s12 := s1.trans s2
    have nwf : wa ≠ fa := ne_of_none upd_same hfa
    refine ⟨fun m σ H2 => ∃ wa fa y3 y4 y5 y6 y7 y8 vs L f, σ = [some (.ref a), some (.ref wa), some (.ref fa), y3, y4, y5, y6, y7, y8, none] ∧ Same H H2 ∧ H wa = none ∧ H2 wa = some (.lst vs) ∧ Prs H2 vs L ∧ AsD H2 fa f ∧ LI mk W f L.reverse ∧ runL mmS m L.reverse f = some r, ⟨m0, ?_⟩, ?_⟩
    · exact ⟨wa, fa, none, none, none, none, none, none, xs, st, [], rfl, s12, hwa, by rw [upd_ne nwf, upd_same], hR.same s12, ⟨[], upd_same, .nil⟩, hLI, hrun⟩
    · intro m σ H2 ⟨wa, fa, y3, y4, y5, y6, y7, y8, vs, L, f, es, sm, fw, ew, hL, hA, I, hrun⟩
      subst es
      refine ⟨_, rfl, wa, vs, rfl, .inl (SqL.of ew), _, _, rfl, rfl, _, rfl, ?_⟩
      refine ite2 (fun cv => ?_) (fun cv => ?_)
      case refine_2 =>
        have hv : vs = [] := by cases vs with | nil => rfl | cons _ _ => exact absurd (decide_eq_true (by rw [List.length_cons]; omega)) cv
        subst hv
        cases hL
        cases m with
        | zero => cases hrun
        | succ m =>
          have er : r = some f := by simpa [runL] using hrun.symm
          exact ⟨_, rfl, q1 f er fa H2 sm hA⟩
      have hne : vs ≠ [] := by intro e; rw [e] at cv; exact absurd (of_decide_eq_true cv) (by rw [List.length_nil]; omega)
      have hlast : vs[vs.length - 1]? = some (vs.getLast hne) := by
        rw [List.getLast_eq_getElem, List.getElem?_eq_getElem]
      obtain ⟨L', ⟨p, q⟩, eL, hL', ⟨qa, va, vb, elast, eqa, hIa, hIb⟩⟩ := pair_last hL hne
      have erev : L.reverse = (p, q) :: L'.reverse := by rw [eL, List.reverse_append]; rfl
      rw [erev] at hrun I
      obtain ⟨dp, dq, dip, diq⟩ := I.dep w5
      have wpq := I.wf _ (List.mem_cons_self ..)
      simp only at wpq hIa hIb
      have few := I.few
      have vals := I.vals w5
      refine ⟨fun σ' H' => ∃ m', m' < m ∧ ∃ wa fa y3 y4 y5 y6 y7 y8 vs L f, σ' = [some (.ref a), some (.ref wa), some (.ref fa), y3, y4, y5, y6, y7, y8, none] ∧ Same H H' ∧ H wa = none ∧ H' wa = some (.lst vs) ∧ Prs H' vs L ∧ AsD H' fa f ∧ LI mk W f L.reverse ∧ runL mmS m' L.reverse f = some r, fun σ' H' z => z, ?_⟩
      refine ⟨_, rfl, .inl ⟨rfl, _, SqL.of ew⟩, wa, vs, _, rfl, rfl, ew, hlast, ?_⟩
      rw [elast]
      have x3 : Ex wa H2 (upd H2 wa (.lst vs.dropLast)) := .set _
      have sm3 : Same H (upd H2 wa (.lst vs.dropLast)) := Kx.Same.own sm fw _
      have nqa : qa ≠ wa := ne_of eqa ew (fun z => nomatch z)
      have eqa3 : (upd H2 wa (.lst vs.dropLast)) qa = some (.tup [va, vb]) := by rw [upd_ne nqa]; exact eqa
      have hIa3 := hIa.ex x3 ⟨_, ew⟩
      have hIb3 := hIb.ex x3 ⟨_, ew⟩
      have hA3 := hA.ex x3 ⟨_, ew⟩
      have hL3 : Prs (upd H2 wa (.lst vs.dropLast)) vs.dropLast L' := Prs.ex hL' x3 ⟨_, ew⟩
      have ew3 : (upd H2 wa (.lst vs.dropLast)) wa = some (.lst vs.dropLast) := upd_same
      generalize hH3 : upd H2 wa (.lst vs.dropLast) = H3 at *
      refine ⟨qa, _, rfl, .inl (.inl eqa3), rfl, _, _, rfl, _, _, rfl, rfl, ?_⟩
      refine ⟨_, rfl, _, rfl, fa, mk, va, p, f, rfl, hA3.r, hIa3, wpq.1, dp, fun v1 H4 s4 hv1 => ?_⟩
      refine ⟨_, rfl, _, rfl, fa, mk, vb, q, f, rfl, (hA3.same s4).r, hIb3.same s4, wpq.2, dq, fun v2 H5 s5 hv2 => ?_⟩
      have hv1' := hv1.same s5
      have s45 := s4.trans s5
      have sm5 := sm3.trans s45
      have hA5 := hA3.same s45
      have ew5 := s45 _ _ ew3
      have hL5 := hL3.same s45
      have dd1 : deep (toD (psub f p)) = true := by unfold deep; rw [hv1'.lay, decide_eq_true (by have := toD_depth (psub f p); omega)]; rfl
      have dd2 : deep (toD (psub f q)) = true := by unfold deep; rw [hv2.lay, decide_eq_true (by have := toD_depth (psub f q); omega)]; rfl
      have wip : Wf mk (psub f p) := I.good.wf.psub wpq.1
      have wiq : Wf mk (psub f q) := I.good.wf.psub wpq.2
      have vip := I.fv.psub (I.inv _ (List.mem_cons_self ..)).1
      have viq := I.fv.psub (I.inv _ (List.mem_cons_self ..)).2
      have fip : ∀ y ∈ lv (psub f p), get f y = none := fun y hy => I.good.idem.psub hy
      have fiq : ∀ y ∈ lv (psub f q), get f y = none := fun y hy => I.good.idem.psub hy
      simp only at vip viq
      -- what the law's step says
      cases m with
      | zero => cases hrun
      | succ m =>
      have stop : stepL mmS p q f = none → r = none := fun e => by simp only [runL, e] at hrun; simpa using hrun.symm
      have goes : ∀ E f', stepL mmS p q f = some (E, f') → LI mk W f' (E.reverse ++ L'.reverse) ∧ runL mmS m (E.reverse ++ L'.reverse) f' = some r := fun E f' e => ⟨I.step w5 e, by simpa only [runL, e] using hrun⟩
      refine ⟨_, rfl, _, rfl, toD (psub f p), toD (psub f q), hv1'.dp, hv2.dp, dd1, dd2, _, rfl, ite2 (fun c => ?_) (fun c => ?_)⟩
      · obtain ⟨I', hr'⟩ := goes [] f (by unfold stepL; rw [if_pos (eqv_eq c)])
        exact ⟨m, Nat.lt_succ_self _, wa, fa, _, _, _, _, _, _, _, L', f, rfl, sm5, fw, ew5, hL5, hA5, by simpa using I', by simpa using hr'⟩
      have ne : psub f p ≠ psub f q := fun e => c (by rw [e]; exact eqv_self _)
      generalize hip : psub f p = ip at *
      generalize hiq : psub f q = iq at *
      obtain ⟨u1, ty1, kt1⟩ := hv1'.ty (K := K)
      obtain ⟨u2, ty2, kt2⟩ := hv2.ty (K := K)
      refine ⟨_, rfl, _, _, u1, _, _, rfl, .ty _, ty1, kit_str kt1, _, rfl, ?_⟩
      have nxt : ∀ {fa2 : Addr} {H6 : Hp} {f' : AL} {y3 y4 y5 y6 y7 y8 : Option V}, Same H5 H6 → AsD H6 fa2 f' → stepL mmS p q f = some ([], f') → ∃ m', m' < m + 1 ∧ ∃ wa' fa' z3 z4 z5 z6 z7 z8 vs L f, [some (.ref a), some (.ref wa), some (.ref fa2), y3, y4, y5, y6, y7, y8, none] = [some (.ref a), some (.ref wa'), some (.ref fa'), z3, z4, z5, z6, z7, z8, none] ∧ Same H H6 ∧ H wa' = none ∧ H6 wa' = some (.lst vs) ∧ Prs H6 vs L ∧ AsD H6 fa' f ∧ LI mk W f L.reverse ∧ runL mmS m' L.reverse f = some r := by
        intro fa2 H6 f' y3 y4 y5 y6 y7 y8 s6 hA6 e
        obtain ⟨I', hr'⟩ := goes [] f' e
        exact ⟨m, Nat.lt_succ_self _, wa, fa2, _, _, _, _, _, _, _, L', f', rfl, sm5.trans s6, fw, s6 _ _ ew5, hL5.same s6, hA6, by simpa using I', by simpa using hr'⟩
      cases ip with
      | str x =>
        rw [hv1'.str_inv]
        have kx : sok x = true := lv_ok hv1' x (by simp [lv])
        have fx := fip x (by simp [lv])
        refine iteT ?_
        cases iq with
        | str y =>
          rw [hv2.str_inv]
          have ky : sok y = true := lv_ok hv2 y (by simp [lv])
          have fy := fiq y (by simp [lv])
          refine ⟨_, rfl, _, _, u2, _, _, rfl, .ty _, (by rw [hv2.str_inv] at ty2; exact ty2), kit_str kt2, _, rfl, iteT ?_⟩
          have hst := stepL_ss hip hiq ne
          have hn : get f (mmS x y).1 = none ∧ sok (mmS x y).1 = true ∧ sok (mmS x y).2 = true := by
            rcases mmS_ok x y with e | e
            · rw [e]; exact ⟨fx, kx, ky⟩
            · rw [e]; exact ⟨fy, ky, kx⟩
          refine ⟨_, rfl, _, rfl, _, rfl, x, y, rfl, _, rfl, _, rfl, x, y, rfl, fa, mk, (mmS x y).1, _, .str (mmS x y).2, f, rfl, hA5, I.nd, by omega, hn.1, hn.2.1, .str _ hn.2.2, vals, fun fa2 H6 s6 hA6 => ?_⟩
          exact nxt s6 hA6 hst
        | tup w r2 =>
          refine ⟨_, rfl, _, _, u2, _, _, rfl, .ty _, ty2, kit_str kt2, _, rfl, iteF ?_⟩
          refine ⟨_, rfl, _, _, _, _, true, rfl, .ty _, .base (.str x), kit_ty (by decide +kernel), _, rfl, iteT (iteT ?_)⟩
          refine ⟨_, rfl, _, _, _, _, true, rfl, .ty _, .base (.str x), kit_ty (by decide +kernel), _, rfl, iteT ⟨_, rfl, ?_⟩⟩
          refine ⟨_, rfl, _, _, _, _, true, rfl, .ty _, .base (.str x), kit_ty (by decide +kernel), _, rfl, iteT ⟨_, rfl, ?_⟩⟩
          refine ⟨_, rfl, _, rfl, mk, W, v2, _, rfl, hv2, wiq, diq, viq, by omega, fun na H6 ns s6 en nd6 hm6 => ⟨na, ns.map V.str, rfl, .inl (SqL.of en), rfl, flat_str ns, _, rfl, ?_⟩⟩
          rw [inV_str]
          obtain ⟨hy, hn⟩ := stepL_st hip hiq
          refine ite2 (fun c2 => ?_) (fun c2 => ?_)
          · exact q0 (stop (hy ((hm6 x).mp (of_decide_eq_true c2)))) H6 (sm5.trans s6)
          · have hst := hn fun o => c2 (decide_eq_true ((hm6 x).mpr o))
            refine ⟨_, rfl, _, rfl, _, rfl, fa, mk, x, v2, _, f, rfl, hA5.same s6, I.nd, by omega, fx, kx, hv2.same s6, vals, fun fa2 H7 s7 hA7 => ?_⟩
            exact nxt (s6.trans s7) hA7 hst
      | tup w r1 =>
        refine iteF ?_
        obtain ⟨a1, vs1, ev1, ea1, hL1, kw1⟩ := hv1'.tup_inv
        rw [ev1]
        rw [ev1] at ty1
        have st1 := kit_str (K := K) kt1
        refine ⟨_, rfl, _, _, u1, _, _, rfl, .ty _, ty1, st1, _, rfl, iteF ?_⟩
        refine ⟨_, rfl, _, _, u2, _, _, rfl, .ty _, ty2, kit_str kt2, _, rfl, ?_⟩
        cases iq with
        | str y =>
          rw [hv2.str_inv]
          have ky : sok y = true := lv_ok hv2 y (by simp [lv])
          have fy := fiq y (by simp [lv])
          refine iteT ?_
          refine ⟨_, rfl, _, _, u1, _, _, rfl, .ty _, ty1, st1, _, rfl, iteF ⟨_, rfl, ?_⟩⟩
          refine ⟨_, rfl, _, _, u1, _, _, rfl, .ty _, ty1, st1, _, rfl, iteF ⟨_, rfl, ?_⟩⟩
          have hv1r : Is H5 (.ref a1) (.tup w r1) := by rw [← ev1]; exact hv1'
          refine ⟨_, rfl, _, rfl, mk, W, .ref a1, _, rfl, hv1r, wip, dip, vip, by omega, fun na H6 ns s6 en nd6 hm6 => ⟨na, ns.map V.str, rfl, .inl (SqL.of en), rfl, flat_str ns, _, rfl, ?_⟩⟩
          rw [inV_str]
          obtain ⟨hy, hn⟩ := stepL_ts hip hiq
          refine ite2 (fun c2 => ?_) (fun c2 => ?_)
          · exact q0 (stop (hy ((hm6 y).mp (of_decide_eq_true c2)))) H6 (sm5.trans s6)
          · have hst := hn fun o => c2 (decide_eq_true ((hm6 y).mpr o))
            refine ⟨_, rfl, _, rfl, _, rfl, fa, mk, y, .ref a1, _, f, rfl, hA5.same s6, I.nd, by omega, fy, ky, hv1r.same s6, vals, fun fa2 H7 s7 hA7 => ?_⟩
            exact nxt (s6.trans s7) hA7 hst
        | tup w2 r2 =>
          refine iteF ?_
          obtain ⟨a2, vs2, ev2, ea2, hL2, kw2⟩ := hv2.tup_inv
          rw [ev2]
          refine ⟨_, rfl, .inr (.inl ⟨a1, _, _, _, rfl, rfl, .inl (.inl ea1), atI_nat (j := 0) rfl, ?_⟩)⟩
          refine ⟨_, rfl, .inr (.inl ⟨a2, _, _, _, rfl, rfl, .inl (.inl ea2), atI_nat (j := 0) rfl, rfl, _, rfl, ?_⟩)⟩
          obtain ⟨heq, hne2⟩ := stepL_tt hip hiq ne
          refine ite2 (fun c2 => ?_) (fun c2 => ?_)
          · refine q0 (stop (hne2 fun e => ?_)) H5 sm5
            subst e
            simp at c2
          have ew : w = w2 := by
            by_cases e : w = w2
            · exact e
            · exact absurd (by simp [e]) c2
          subst ew
          obtain ⟨I', hr'⟩ := goes _ f (heq rfl)
          have l1 := hL1.len
          have l2 := hL2.len
          have wl1 := wip.2.1
          have l12 := wf_len wip wiq
          refine ⟨_, rfl, _, rfl, a1, _, rfl, .inr (.inl (.inl ea1)), _, _, rfl, ⟨by omega, by omega, by omega, by rw [List.length_cons]; omega⟩, fun D hD => ?_⟩
          have en : ((((V.str w :: vs1).length : Nat) : Int) - 1).toNat = r1.length := by rw [List.length_cons, l1]; omega
          rw [en]
          refine lc_range (lo := 1) (n := r1.length) (fun i H6 => ∃ Ts : List Addr, Same H5 H6 ∧ H6 D = some (.lst (Ts.map V.ref)) ∧ Prs H6 (Ts.map V.ref) ((r1.zip r2).take i) ∧ Ts.length = i) ?_ ?_ ?_
          · exact ⟨[], same_upd hD _, upd_same, .nil, rfl⟩
          · intro i H6 hi ⟨Ts, s6, eD, hP6, tl⟩
            have i1 : i < vs1.length := by omega
            have i2 : i < vs2.length := by omega
            obtain ⟨y1, ey1, hy1⟩ := hL1.get (List.getElem?_eq_getElem i1)
            obtain ⟨y2, ey2, hy2⟩ := hL2.get (List.getElem?_eq_getElem i2)
            have ki : (1 : Int) + (i : Int) = ((i + 1 : Nat) : Int) := by omega
            have at1 : atI (V.str w :: vs1) (1 + (i : Int)) = some vs1[i] := by rw [ki]; exact atI_nat (List.getElem?_eq_getElem (by rw [List.length_cons]; omega))
            have at2 : atI (V.str w :: vs2) (1 + (i : Int)) = some vs2[i] := by rw [ki]; exact atI_nat (List.getElem?_eq_getElem (by rw [List.length_cons]; omega))
            refine ⟨rfl, yes_if ?_⟩
            refine ⟨_, rfl, _, rfl, .inr (.inl ⟨a1, _, _, _, rfl, rfl, .inl (.inl (s6 _ _ ea1)), at1, ?_⟩)⟩
            refine ⟨_, rfl, _, rfl, .inr (.inl ⟨a2, _, _, _, rfl, rfl, .inl (.inl (s6 _ _ ea2)), at2, ?_⟩)⟩
            refine ⟨(by show 2 ≤ sizeLine; decide), fun t ht => ⟨_, by rw [upd_ne (ne_of_none eD ht)]; exact eD, by rw [List.length_map]; exact small1000 (by omega), ?_⟩⟩
            have s7 := same_upd ht (.tup [vs1[i], vs2[i]])
            have nDt : D ≠ t := ne_of_none eD ht
            have x7 : Ex D (upd H6 t (.tup [vs1[i], vs2[i]])) (upd (upd H6 t (.tup [vs1[i], vs2[i]])) D (.lst (Ts.map V.ref ++ [.ref t]))) := .set _
            have hd7 : ∃ ys, (upd H6 t (.tup [vs1[i], vs2[i]])) D = some (.lst ys) := ⟨_, s7 _ _ eD⟩
            have ez : (r1.zip r2)[i]? = some (y1, y2) := by rw [List.getElem?_zip_eq_some]; exact ⟨ey1, ey2⟩
            refine ⟨Ts ++ [t], Kx.Same.own (s6.trans s7) hD _, by rw [upd_same, List.map_append]; rfl, ?_, by rw [List.length_append, tl]; rfl⟩
            rw [take_snoc ez, List.map_append]
            refine pair_append ((hP6.same s7).ex x7 hd7) (.cons ⟨t, _, _, rfl, by rw [upd_ne nDt.symm, upd_same], ?_, ?_⟩ .nil)
            · exact ((hy1.same s6).same s7).ex x7 hd7
            · exact ((hy2.same s6).same s7).ex x7 hd7
          · intro H6 ⟨Ts, s6, eD, hP6, tl⟩
            have lz : (r1.zip r2).length = r1.length := by rw [List.length_zip]; omega
            rw [← lz, List.take_length] at hP6
            refine ⟨wa, D, _, _, rfl, rfl, s6 _ _ ew5, eD, ?_, fun p2 hp2 => ?_⟩
            · have := I.wait
              have := pair_len hL'
              rw [List.length_cons, List.length_reverse] at *
              rw [List.length_map]
              exact Nat.le_of_lt (small1000 (by omega))
            · have s7 := same_upd hp2 (.lst (vs.dropLast ++ Ts.map V.ref))
              have fp2 : H p2 = none := (sm5.trans s6).free hp2
              refine ⟨m, Nat.lt_succ_self _, p2, fa, _, _, _, _, _, _, _, L' ++ r1.zip r2, f, rfl, (sm5.trans s6).trans s7, fp2, upd_same, ?_, (hA5.same s6).same s7, ?_, ?_⟩
              · exact pair_append ((hL5.same s6).same s7) (hP6.same s7)
              · rw [List.reverse_append]; exact I'
              · rw [List.reverse_append]; exact hr'
end
end Kx
namespace Kx
open PySem PySem.Spec PyProof.Rows L2
section
variable {P : Program} {w : World} {K : PySem.W.Frag} {mg : Str → Option Value} {base : Heap}
theorem depL_pos : ∀ l : List PV, 1 ≤ depL l
  | [] => by simp [depL]
  | t :: r => by
    have := dep_pos t
    simp only [depL]; omega
abbrev W5 : List Str := ["B", "a", "a10", "a2", "b.1"]
theorem w5_ok : ∀ z ∈ W5, sok z = true := by decide +kernel
def spHidden (n : Nat) : Sp := fun vs H Q _ => ∃ (d sa p : Addr) (mk : List (Str × Int)) (al : AL) (v : V) (t : PV), vs = [.ref d, .ref p, v] ∧ Dr H d sa ∧ AsD H p al ∧ (∀ z ∈ W5, ∃ u, get al z = some u ∧ dep u ≤ 60) ∧ Is H v t ∧ Wf mk t ∧ lv t = [] ∧ dep t ≤ n ∧ dep t ≤ 60 ∧
  ∀ v' t' H', Is H' v' t' → Tm mk W5 (dep t) (psz t) t' → Ex d H H' → Dr H' d sa → Q v' H'
theorem ok_law_hidden {n : Nat} (T : Txt K mg) (G_law_draw : FnOk P w K mg base CX0 1 T.a_law_draw T.d_law_draw ["draws", "limit"] spDraw) (G_law_pick : FnOk P w K mg base CX0 2 T.a_law_pick T.d_law_pick ["draws", "row"] (spPick K)) (G_law_hidden : FnOk P w K mg base CX0 (n+2) T.a_law_hidden T.d_law_hidden ["draws", "trees", "tree"] (spHidden n)) : FnOk P w K mg base CX0 (n+3) T.a_law_hidden T.d_law_hidden ["draws", "trees", "tree"] (spHidden (n+1)) := by
  refine T.F_law_hidden.ok sc_law_hidden (fun vs H Q E h => ?_) (fun cdv A outer s H vs Q E hr h => ?_)
  · obtain ⟨d, sa, p, mk, al, v, t, rfl, _⟩ := h; rfl
  · obtain ⟨d, sa, p, mk, al, v, t, rfl, hD, hA, hW, hI, hT, hv0, hn, h60, q⟩ := h
    have hu := hu_of hr
    have hr_law_draw := hr.mono (show 1 ≤ n + 2 by omega)
    have hr_law_pick := hr.mono (show 2 ≤ n + 2 by omega)
    have hr_law_hidden := hr
    refine ⟨_, (pss_cons (ps_setLc (i := 3) (own := [("name", 4)]) (g := (gName 4)) rfl sc_law_hidden.nd rfl rfl (sw_true rfl rfl rfl (by decide +kernel)) (pi_list (pe_lst (pa_cons pe_str (pa_cons pe_str (pa_cons pe_str (pa_cons pe_str (pa_cons pe_str pa_nil))))))) (blkOk_by (own := [("name", 4)]) (N := ["draws", "trees", "tree", "names", "name", "part"]) (sc := defScope s_law_hidden) (by decide +kernel)) (fun _ _ _ _ _ => (pg_name (i := 4) sc_law_hidden.nd rfl (Or.inl rfl))) (fun _ _ _ _ _ => pts_one (pt_cmpR (opK_eqDD (K := K) rfl (units200 hr)) (pe_dget hu (pv 1) (pv 4) (fun _ _ => rfl)) (pv 2) (nomark _))) (fun _ _ _ _ _ => (pv 4)))
    (pss_cons (ps_if (pt_cut (PW.pt (pw_and (pt_cmpR op_gt (pe_callB call_len_seq (by rfl) T.z_len (by decide +kernel) (pa_cons (pv 3) pa_nil)) pe_int (nomark _)) (pw_and1 (pt_cmpR op_gt (pe_call G_law_draw hr_law_draw rfl T.m_law_draw T.F_law_draw.kp T.b_law_draw .nil pass0 (pa_cons (pv 0) (pa_cons pe_int pa_nil))) pe_int (nomark _)))))) (pss_one (ps_ret (pe_call G_law_pick hr_law_pick rfl T.m_law_pick T.F_law_pick.kp T.b_law_pick .nil pass0 (pa_cons (pv 0) (pa_cons (pv 3) pa_nil))))) pss_nil)
    (pss_one (ps_ret (pe_op op_catT (pe_tup (pa_cons (pe_ix ix_tup (pv 2) pe_int (fun _ _ => rfl)) pa_nil)) (pe_callTy call_tuple_of (by rfl) T.z_tuple (by decide +kernel) (pa_cons (pe_lc (own := [("part", 5)]) (g := (gName 5)) (tt := tYes) rfl sc_law_hidden.nd (pi_tup (pe_slice sl_tup (pv 2) (po_some pe_int) po_none)) (blkOk_by (own := [("part", 5)]) (N := ["draws", "trees", "tree", "names", "name", "part"]) (sc := defScope s_law_hidden) (by decide +kernel)) (fun _ _ _ _ _ => (pg_name (i := 5) sc_law_hidden.nd rfl (Or.inl rfl))) (fun _ _ _ _ _ => pts_nil) (fun _ _ _ _ _ => (pe_call G_law_hidden hr_law_hidden rfl T.m_law_hidden T.F_law_hidden.kp T.b_law_hidden .nil pass0 (pa_cons (pv 0) (pa_cons (pv 1) (pa_cons (pv 5) pa_nil)))))) pa_nil))))))), ?_⟩
    refine ⟨(by show 5 ≤ sizeLine; decide), fun l hl => ?_⟩
    have s1 := same_upd hl (.lst (W5.map V.str))
    refine ⟨l, rfl, ⟨_, SqL.of upd_same⟩, fun D hD' => ?_⟩
    have dt : deep (toD t) = true := by unfold deep; rw [hI.lay, decide_eq_true (by have := toD_depth t; omega)]; rfl
    refine lc_list (K := K) (a := l) (xs := W5.map V.str) (fun i H2 => Same (upd H l (.lst (W5.map V.str))) H2 ∧ ∃ ns : List Str, H2 D = some (.lst (ns.map V.str)) ∧ (∀ z ∈ ns, z ∈ W5) ∧ ns.length ≤ i) ?_ ?_ ?_ ?_
    · exact ⟨same_upd hD' _, [], upd_same, fun z hz => by simp at hz, Nat.le_refl _⟩
    · exact fun i H2 _ ⟨sm, _⟩ => SqL.of (sm _ _ upd_same)
    · intro i x H2 hx ⟨sm, ns, eD, hns, nl⟩
      rw [List.getElem?_map] at hx
      obtain ⟨z, ez, rfl⟩ : ∃ z, W5[i]? = some z ∧ V.str z = x := by
        cases e : W5[i]? with
        | none => rw [e] at hx; cases hx
        | some z => rw [e] at hx; exact ⟨z, rfl, Option.some.inj hx⟩
      have zW := List.mem_of_getElem? ez
      have i5 : i < 5 := (List.getElem?_eq_some_iff.mp ez).1
      obtain ⟨u, eu, du⟩ := hW z zW
      have s12 := s1.trans sm
      obtain ⟨kvs, e1, _, hv⟩ := get_is (hA.same s12) z
      have g1 : DGet _ p (.str z) (valV kvs (Sum.inr z)) := DGet.k (k := Sum.inr z) e1
      obtain ⟨v1, ev1, hI1⟩ : ∃ v1, valV kvs (Sum.inr z) = some v1 ∧ Is H2 v1 u := by
        rcases hv with ⟨_, b⟩ | ⟨v1, t1, a, b, c⟩
        · rw [eu] at b; cases b
        · rw [eu] at b; cases b; exact ⟨v1, a, c⟩
      rw [ev1] at g1
      have dd : deep (toD u) = true := by unfold deep; rw [hI1.lay, decide_eq_true (by have := toD_depth u; omega)]; rfl
      refine ⟨rfl, _, rfl, _, rfl, p, v1, rfl, g1, _, rfl, toD u, toD t, hI1.dp, (hI.same s12).dp, dd, dt, _, rfl, ite2 (fun _ => ?_) (fun _ => ?_)⟩
      · refine ⟨_, rfl, _, eD, by rw [List.length_map]; exact small1000 (by omega), Kx.Same.own sm hD' _, ns ++ [z], by rw [upd_same, List.map_append]; rfl, fun y hy => ?_, by rw [List.length_append, List.length_singleton]; omega⟩
        rcases List.mem_append.mp hy with h | h
        · exact hns y h
        · rw [List.mem_singleton.mp h]; exact zW
      · exact ⟨sm, ns, eD, hns, by omega⟩
    · intro H2 ⟨sm, ns, eD, hns, nl⟩
      have s12 := s1.trans sm
      have D2 := hD.same s12
      have nDd := (hD.free (H1 := H) (l := D) (s1.free hD')).1
      have nDs := (hD.free (H1 := H) (l := D) (s1.free hD')).2
      rw [List.length_map] at nl
      have nl5 : ns.length ≤ 5 := nl
      have exD : Ex d H H2 := .of s12
      refine ⟨fun b H3 => Ex d H H3 ∧ Dr H3 d sa ∧ H3 D = some (.lst (ns.map V.str)) ∧ (b = true → ns ≠ []), ?_, fun b H3 ⟨x3, D3, eD3, hb⟩ => ?_⟩
      · refine ⟨_, rfl, D, _, rfl, .inl (SqL.of eD), _, _, rfl, rfl, _, rfl, ?_⟩
        refine ite2 (fun c => ?_) (fun c => ⟨exD, D2, eD, fun z => by cases z⟩)
        refine ⟨_, rfl, d, sa, _, rfl, D2, by omega, by omega, fun r H3 r0 r1 x3 D3 => ⟨_, _, rfl, rfl, _, rfl, exD.trans x3, D3, x3.but _ _ nDd eD, fun _ e => ?_⟩⟩
        subst e
        exact absurd (of_decide_eq_true c) (by simp)
      · refine ite2 (fun cb => ?_) (fun cb => ?_)
        · have ne := hb cb
          have lp := List.length_pos_iff.mpr ne
          refine ⟨_, rfl, _, rfl, d, sa, D, _, rfl, D3, .inl eD3, nDd, by rw [List.length_map]; exact lp, by rw [List.length_map]; omega, fun x H4 hx x4 D4 => ?_⟩
          obtain ⟨z, hz, rfl⟩ := List.mem_map.mp hx
          have zW := hns z hz
          exact q _ (.str z) H4 (.str z (w5_ok z zW)) ⟨trivial, dep_pos t, psz_pos t, fun y hy => by simp only [lv, List.mem_singleton] at hy; rw [hy]; exact zW⟩ (x3.trans x4) D4
        · have hI3 := hI.ex x3 hD.lst
          obtain ⟨a, w, vs, ts, rfl, rfl, ea, hL, kw, lk, l2, hWl⟩ := term_inv hI3 hT (by cases t with | str z => simp [lv] at hv0 | tup w r => rfl)
          have hlen := hL.len
          simp only [dep] at hn
          have hv0' : ∀ y ∈ ts, lv y = [] := fun y hy => List.eq_nil_iff_forall_not_mem.mpr fun z hz => by
            have := lvL_mem hy z hz
            simp only [lv] at hv0
            rw [hv0] at this; simp at this
          refine ⟨_, rfl, a, _, _, _, rfl, rfl, .inl (.inl ea), atI_nat (j := 0) rfl, (by show 1 ≤ sizeLine; decide), fun t1 ht1 => ?_⟩
          have t0 := same_upd ht1 (.tup [.str w])
          refine ⟨_, rfl, _, rfl, a, _, rfl, .inl (.inl (t0 _ _ ea)), slice1, fun p1 h1 => ?_⟩
          rw [cut1]
          have t2 := same_upd h1 (.tup vs)
          have t02 := t0.trans t2
          have D5 := D3.same t02
          have x5 : Ex d H (upd (upd H3 t1 (.tup [.str w])) p1 (.tup vs)) := x3.trans (.of t02)
          have hL5 := hL.same t02
          have e1 : (upd (upd H3 t1 (.tup [.str w])) p1 (.tup vs)) t1 = some (.tup [.str w]) := t2 _ _ upd_same
          have ep1 : (upd (upd H3 t1 (.tup [.str w])) p1 (.tup vs)) p1 = some (.tup vs) := upd_same
          generalize upd (upd H3 t1 (.tup [.str w])) p1 (.tup vs) = H5 at *
          refine ⟨p1, rfl, ⟨_, .inl (.inl ep1)⟩, fun E hE => ?_⟩
          obtain ⟨nEd, nEs⟩ := D5.free (H1 := H) hE
          refine lc_tup (K := K) (a := p1) (xs := vs) (fun i H6 => Ex d H5 H6 ∧ Dr H6 d sa ∧ ∃ ws us, H6 E = some (.lst ws) ∧ IsL H6 ws us ∧ (∀ u ∈ us, Wf mk u ∧ dep u ≤ depL ts ∧ ∀ z ∈ lv u, z ∈ W5) ∧ pszL us ≤ pszL (ts.take i) ∧ us.length = i) ?_ ?_ ?_ ?_
          · exact ⟨.new hE _, D5.own nEd nEs, [], [], upd_same, .nil, fun u hu' => by simp at hu', Nat.le_refl _, rfl⟩
          · exact fun i H6 _ ⟨x6, _⟩ => .inl (.inl (x6.keep ep1 D5.lst fun _ z => by cases z))
          · intro i x H6 hx ⟨x6, D6, ws, us, eE, hU, hW6, hp, ul⟩
            obtain ⟨y, ey, hy⟩ := hL5.get hx
            have ym := List.mem_of_getElem? ey
            have yd := depL_mem ym
            have i2 : i < ts.length := (List.getElem?_eq_some_iff.mp ey).1
            refine ⟨rfl, yes_if ?_⟩
            refine ⟨_, rfl, _, rfl, _, rfl, d, sa, p, mk, al, x, y, rfl, D6, (hA.ex x5 hD.lst).ex x6 D5.lst, hW, hy.ex x6 D5.lst, mem_WfL hWl y ym, hv0' y ym, by omega, by simp only [dep] at h60; omega, fun v' t' H7 hv' ht' x7 D7 => ?_⟩
            have eE7 := x7.but _ _ nEd eE
            have xx : Ex E H7 (upd H7 E (.lst (ws ++ [v']))) := .set _
            refine ⟨ws, eE7, by rw [hU.len, ul]; exact small1000 (by omega), (x6.trans x7).own hE _, D7.own nEd nEs, ws ++ [v'], us ++ [t'], upd_same, ((hU.ex x7 D6.lst).append (.cons hv' .nil)).ex xx ⟨_, eE7⟩, fun u hu' => ?_, ?_, by rw [List.length_append, ul]; rfl⟩
            · rcases List.mem_append.mp hu' with h | h
              · exact hW6 u h
              · rw [List.mem_singleton.mp h]
                exact ⟨ht'.wf, by have := ht'.dp; omega, ht'.vs⟩
            · rw [take_snoc ey, pszL_append, pszL_append]
              have := ht'.sz
              simp only [pszL]; omega
          · intro H6 ⟨x6, D6, ws, us, eE, hU, hW6, hp, ul⟩
            have e16 := x6.keep e1 D5.lst fun _ z => by cases z
            have ulen := hU.len
            rw [hlen, List.take_length] at hp
            rw [hlen] at ul
            have du : depL us ≤ depL ts := depL_le (depL_pos ts) fun u hu' => (hW6 u hu').2.1
            have vU : ∀ z ∈ lvL us, z ∈ W5 := fun z hz => by
              obtain ⟨u, hu', hz⟩ := lvL_mem' hz
              exact (hW6 u hu').2.2 z hz
            have tm : Tm mk W5 (dep (.tup w ts)) (psz (.tup w ts)) (.tup w us) := ⟨⟨by rw [lk, ul], by omega, WfL_mem fun u hu' => (hW6 u hu').1⟩, by simp only [dep]; omega, by simp only [psz]; omega, fun z hz => vU z (by simpa only [lv] using hz)⟩
            refine ⟨E, ws, rfl, .inl ⟨SqL.of eE, fun l3 hl3 => ?_⟩⟩
            have s5 := same_upd hl3 (.tup ws)
            refine ⟨t1, l3, _, _, rfl, rfl, .inl (.inl (s5 _ _ e16)), .inl (.inl upd_same), by simp, ?_, fun e => ?_, fun _ p5 h5 => ?_⟩
            · rw [List.length_singleton, ulen]; exact Nat.le_of_lt (small1000 (by omega))
            · have u0 : us = [] := List.length_eq_zero_iff.mp (by rw [← ulen, e]; rfl)
              refine q _ (.tup w us) _ ?_ tm ((x5.trans x6).trans (.of s5)) (D6.same s5)
              subst u0
              exact .tup (s5 _ _ e16) kw .nil
            · have s6 := same_upd h5 (.tup ([V.str w] ++ ws))
              exact q _ (.tup w us) _ (.tup upd_same kw (hU.same (s5.trans s6))) tm ((x5.trans x6).trans (.of (s5.trans s6))) (D6.same (s5.trans s6))
theorem sum_psz : ∀ l : List PV, (l.map fun t => ((psz t : Nat) : Int)).sum = ((pszL l : Nat) : Int)
  | [] => rfl
  | t :: r => by
    rw [List.map_cons, List.sum_cons, sum_psz r]
    simp only [pszL]; omega
def spSize (n : Nat) : Sp := fun vs H Q _ => ∃ (mk : List (Str × Int)) (v : V) (t : PV), vs = [v] ∧ Is H v t ∧ Wf mk t ∧ lv t = [] ∧ dep t ≤ n ∧ ∀ H', Same H H' → Q (.int (psz t)) H'
theorem ok_law_size {n : Nat} (T : Txt K mg) (G_law_size : FnOk P w K mg base CX0 (n+1) T.a_law_size T.d_law_size ["tree"] (spSize n)) : FnOk P w K mg base CX0 (n+2) T.a_law_size T.d_law_size ["tree"] (spSize (n+1)) := by
  refine T.F_law_size.ok sc_law_size (fun vs H Q E h => ?_) (fun cdv A outer s H vs Q E hr h => ?_)
  · obtain ⟨mk, v, t, rfl, _⟩ := h; rfl
  · obtain ⟨mk, v, t, rfl, hI, hT, hv0, hn, q⟩ := h
    have hr_law_size := hr
    refine ⟨_, (pss_one (ps_ret (pe_op op_add pe_int (pe_callB (cr_sum rfl) (by rfl) T.z_sum (by decide +kernel) (pa_cons (pe_lc (own := [("part", 1)]) (g := (gName 1)) (tt := tYes) rfl sc_law_size.nd (pi_tup (pe_slice sl_tup (pv 0) (po_some pe_int) po_none)) (blkOk_by (own := [("part", 1)]) (N := ["tree", "part"]) (sc := defScope s_law_size) (by decide +kernel)) (fun _ _ _ _ _ => (pg_name (i := 1) sc_law_size.nd rfl (Or.inl rfl))) (fun _ _ _ _ _ => pts_nil) (fun _ _ _ _ _ => (pe_call G_law_size hr_law_size rfl T.m_law_size T.F_law_size.kp T.b_law_size .nil pass0 (pa_cons (pv 1) pa_nil)))) pa_nil))))), ?_⟩
    obtain ⟨a, w, vs, ts, rfl, rfl, ea, hL, kw, lk, l2, hWl⟩ := term_inv hI hT (by cases t with | str z => simp [lv] at hv0 | tup w r => rfl)
    have hlen := hL.len
    simp only [dep] at hn
    have hv0' : ∀ y ∈ ts, lv y = [] := fun y hy => List.eq_nil_iff_forall_not_mem.mpr fun z hz => by
      have := lvL_mem hy z hz
      simp only [lv] at hv0
      rw [hv0] at this; simp at this
    refine ⟨_, rfl, _, rfl, a, _, rfl, .inl (.inl ea), slice1, fun p1 h1 => ?_⟩
    rw [cut1]
    have s1 := same_upd h1 (.tup vs)
    refine ⟨p1, rfl, ⟨_, .inl (.inl upd_same)⟩, fun D hD => ?_⟩
    refine lc_tup (K := K) (a := p1) (xs := vs) (fun i H2 => Same (upd H p1 (.tup vs)) H2 ∧ H2 D = some (.lst (((ts.take i).map fun t => ((psz t : Nat) : Int)).map V.int))) ?_ ?_ ?_ ?_
    · exact ⟨same_upd hD _, upd_same⟩
    · exact fun i H2 _ ⟨sm, _⟩ => .inl (.inl (sm _ _ upd_same))
    · intro i x H2 hx ⟨sm, eD⟩
      obtain ⟨y, ey, hy⟩ := hL.get hx
      have ym := List.mem_of_getElem? ey
      have yd := depL_mem ym
      have i2 : i < ts.length := (List.getElem?_eq_some_iff.mp ey).1
      refine ⟨rfl, yes_if ?_⟩
      refine ⟨_, rfl, mk, x, y, rfl, (hy.same s1).same sm, mem_WfL hWl y ym, hv0' y ym, by omega, fun H3 s3 => ?_⟩
      refine ⟨_, s3 _ _ eD, by rw [List.length_map, List.length_map, List.length_take]; exact small1000 (by omega), Kx.Same.own (sm.trans s3) hD _, ?_⟩
      rw [upd_same, take_snoc ey, List.map_append, List.map_append]; rfl
    · intro H2 ⟨sm, eD⟩
      rw [hlen, List.take_length] at eD
      refine ⟨D, _, rfl, SqL.of eD, ?_⟩
      have es : (1 : Int) + (ts.map fun t => ((psz t : Nat) : Int)).sum = ((psz (.tup w ts) : Nat) : Int) := by
        rw [sum_psz]; simp only [psz]; omega
      refine ⟨_, _, rfl, rfl, ?_⟩
      have z := q H2 (s1.trans sm)
      rw [← es] at z
      exact z
end
end Kx
namespace Kx
open PySem PySem.Spec PyProof.Rows L2
section
variable {P : Program} {w : World} {K : PySem.W.Frag} {mg : Str → Option Value} {base : Heap}
/-- the trees of the names -/
structure Trs (mk : List (Str × Int)) (al : AL) : Prop where
  has : ∀ z ∈ W5, ∃ u, get al z = some u ∧ Wf mk u ∧ lv u = [] ∧ dep u ≤ 12
mutual
theorem wf_put {mk : List (Str × Int)} {σ : Str → PV} : ∀ {t : PV}, Wf mk t → (∀ z ∈ lv t, Wf mk (σ z)) → Wf mk (sub σ t)
  | .str z, _, h => by simp only [sub]; exact h z (by simp [lv])
  | .tup w r, ht, h => by
    simp only [sub]
    exact ⟨by rw [subL_len]; exact ht.1, by rw [subL_len]; exact ht.2.1, wfL_put ht.2.2 (by simpa only [lv] using h)⟩
theorem wfL_put {mk : List (Str × Int)} {σ : Str → PV} : ∀ {t : List PV}, WfL mk t → (∀ z ∈ lvL t, Wf mk (σ z)) → WfL mk (subL σ t)
  | [], _, _ => trivial
  | t :: r, ht, h => by
    simp only [lvL] at h
    exact ⟨wf_put ht.1 fun z hz => h z (List.mem_append_left _ hz), wfL_put ht.2 fun z hz => h z (List.mem_append_right _ hz)⟩
end
theorem Trs.put {mk : List (Str × Int)} {al : AL} (h : Trs mk al) {c s : Nat} {t : PV} (ht : Tm mk W5 c s t) : Wf mk (psub al t) ∧ lv (psub al t) = [] ∧ dep (psub al t) + 1 ≤ c + 12 := by
  have im : ∀ z ∈ lv t, Wf mk (fn al z) ∧ lv (fn al z) = [] ∧ dep (fn al z) ≤ 12 := fun z hz => by
    obtain ⟨u, e, a⟩ := h.has z (ht.vs z hz)
    have : fn al z = u := by unfold fn; rw [e]; rfl
    rw [this]; exact a
  refine ⟨wf_put ht.wf fun z hz => (im z hz).1, List.eq_nil_iff_forall_not_mem.mpr fun z hz => ?_, ?_⟩
  · obtain ⟨y, hy, e⟩ := (lv_sub _ _ _).mp hz
    rw [(im y hy).2.1] at e; simp at e
  · have := dep_sub (σ := fn al) (c := 12) (by omega) (t := t) fun y hy => (im y hy).2.2
    have := ht.dp
    show dep (sub (fn al) t) + 1 ≤ _
    omega
theorem zero_tm {mk : List (Str × Int)} (ok : MkOk mk) : Wf mk (.tup "zero" []) ∧ lv (.tup "zero" []) = [] ∧ dep (.tup "zero" []) = 2 ∧ psz (.tup "zero" []) = 1 :=
  ⟨⟨look_mem ok.nd ok.zz, Nat.zero_le _, trivial⟩, rfl, rfl, rfl⟩
theorem names5 {H : Hp} (mk : List (Str × Int)) : IsL H (W5.map V.str) (W5.map PV.str) ∧ ∀ t ∈ W5.map PV.str, Tm mk W5 2 1 t := by
  refine ⟨.cons (.str _ (w5_ok _ (by simp))) (.cons (.str _ (w5_ok _ (by simp))) (.cons (.str _ (w5_ok _ (by simp))) (.cons (.str _ (w5_ok _ (by simp))) (.cons (.str _ (w5_ok _ (by simp))) .nil)))), fun t ht => ?_⟩
  obtain ⟨z, hz, rfl⟩ := List.mem_map.mp ht
  exact ⟨trivial, by simp [dep], by simp [psz], fun y hy => by simp only [lv, List.mem_singleton] at hy; rw [hy]; exact hz⟩
def spPairs : Sp := fun vs H Q _ => ∃ (d sa m p : Addr) (mk : List (Str × Int)) (al : AL), vs = [.ref d, .ref m, .ref p] ∧ Dr H d sa ∧ Mk H m mk ∧ AsD H p al ∧ Trs mk al ∧
  ∀ q H' xs st, Ex d H H' → Dr H' d sa → H' q = some (.lst xs) → q ≠ d → Prs H' xs st → AllT mk W5 st → st.length ≤ 4 → Q (.ref q) H'
theorem ok_law_pairs (T : Txt K mg) (G_law_draw : FnOk P w K mg base CX0 1 T.a_law_draw T.d_law_draw ["draws", "limit"] spDraw) (G_law_put : FnOk P w K mg base CX0 5 T.a_law_put T.d_law_put ["term", "assignment"] (spPut 4)) (G_law_term : FnOk P w K mg base CX0 7 T.a_law_term T.d_law_term ["draws", "makers", "names", "deep"] (spTerm 4)) (G_law_size : FnOk P w K mg base CX0 16 T.a_law_size T.d_law_size ["tree"] (spSize 15)) (G_law_hidden : FnOk P w K mg base CX0 17 T.a_law_hidden T.d_law_hidden ["draws", "trees", "tree"] (spHidden 15)) : FnOk P w K mg base CX0 18 T.a_law_pairs T.d_law_pairs ["draws", "makers", "trees"] spPairs := by
  refine T.F_law_pairs.ok sc_law_pairs (fun vs H Q E h => ?_) (fun cdv A outer s H vs Q E hr h => ?_)
  · obtain ⟨d, sa, m, p, mk, al, rfl, _⟩ := h; rfl
  · obtain ⟨d, sa, m, p, mk, al, rfl, hD, hM, hA, hT, q⟩ := h
    have hr_law_draw := hr.mono (show 1 ≤ 17 by omega)
    have hr_law_put := hr.mono (show 5 ≤ 17 by omega)
    have hr_law_term := hr.mono (show 7 ≤ 17 by omega)
    have hr_law_size := hr.mono (show 16 ≤ 17 by omega)
    have hr_law_hidden := hr
    refine ⟨_, (pss_cons (ps_set (i := 3) sc_law_pairs.nd rfl (Or.inl rfl) (pe_lst pa_nil))
    (pss_cons (ps_for PassesOwn.never rfl (pi_range1 (by rfl) T.z_range (pa_cons (pe_call G_law_draw hr_law_draw rfl T.m_law_draw T.F_law_draw.kp T.b_law_draw .nil pass0 (pa_cons (pv 0) (pa_cons pe_int pa_nil))) pa_nil)) (pg_name (i := 4) sc_law_pairs.nd rfl (Or.inl rfl))
    (pss_cons (ps_set (i := 5) sc_law_pairs.nd rfl (Or.inl rfl) (pe_call G_law_put hr_law_put rfl T.m_law_put T.F_law_put.kp T.b_law_put .nil pass0 (pa_cons (pe_call G_law_term hr_law_term rfl T.m_law_term T.F_law_term.kp T.b_law_term .nil pass0 (pa_cons (pv 0) (pa_cons (pv 1) (pa_cons (pe_lst (pa_cons pe_str (pa_cons pe_str (pa_cons pe_str (pa_cons pe_str (pa_cons pe_str pa_nil)))))) (pa_cons pe_int pa_nil))))) (pa_cons (pv 2) pa_nil))))
    (Evl.pss_cut (ps_if (pt_cmpR op_gt (pe_call G_law_size hr_law_size rfl T.m_law_size T.F_law_size.kp T.b_law_size .nil pass0 (pa_cons (pv 5) pa_nil)) pe_int (nomark _)) (pss_one (ps_set (i := 5) sc_law_pairs.nd rfl (Or.inl rfl) (pe_tup (pa_cons pe_str pa_nil)))) pss_nil)
    (pss_cons (ps_set (i := 6) sc_law_pairs.nd rfl (Or.inl rfl) (pe_call G_law_hidden hr_law_hidden rfl T.m_law_hidden T.F_law_hidden.kp T.b_law_hidden .nil pass0 (pa_cons (pv 0) (pa_cons (pv 2) (pa_cons (pv 5) pa_nil)))))
    (pss_cons (ps_set (i := 7) sc_law_pairs.nd rfl (Or.inl rfl) (pe_call G_law_hidden hr_law_hidden rfl T.m_law_hidden T.F_law_hidden.kp T.b_law_hidden .nil pass0 (pa_cons (pv 0) (pa_cons (pv 2) (pa_cons (pv 5) pa_nil)))))
    (Evl.pss_cut (ps_if (pt_cmpR op_eq (pe_call G_law_draw hr_law_draw rfl T.m_law_draw T.F_law_draw.kp T.b_law_draw .nil pass0 (pa_cons (pv 0) (pa_cons pe_int pa_nil))) pe_int (nomark _)) (pss_one (ps_set (i := 7) sc_law_pairs.nd rfl (Or.inl rfl) (pe_call G_law_term hr_law_term rfl T.m_law_term T.F_law_term.kp T.b_law_term .nil pass0 (pa_cons (pv 0) (pa_cons (pv 1) (pa_cons (pe_lst (pa_cons pe_str (pa_cons pe_str (pa_cons pe_str (pa_cons pe_str (pa_cons pe_str pa_nil)))))) (pa_cons pe_int pa_nil))))))) pss_nil)
    (pss_one (ps_expr (pe_bm PySem.F.plainAttrs_list PySem.F.slot_list_append PySem.F.type_list_append mt_append (pv 3) (pa_cons (pe_tup (pa_cons (pv 6) (pa_cons (pv 7) pa_nil))) pa_nil))))))))))
    (pss_one (ps_ret (pv 3))))), ?_⟩
    have hok := hM.ok
    refine ⟨(by show 0 ≤ sizeLine; decide), fun pl hpl => ?_⟩
    have s1 := same_upd hpl (.lst [])
    obtain ⟨npd, nps⟩ := hD.free (H1 := H) hpl
    have has60 : ∀ z ∈ W5, ∃ u, get al z = some u ∧ dep u ≤ 60 := fun z hz => let ⟨u, e, _, _, c⟩ := hT.has z hz; ⟨u, e, by omega⟩
    refine ⟨_, rfl, d, sa, _, rfl, hD.same s1, by omega, by omega, fun r H1 r0 r1 x1 D1 => ⟨r, rfl, by omega, by omega, ?_⟩⟩
    have ep1 := x1.but _ _ npd (show (upd H pl (.lst [])) pl = some (.lst []) from upd_same)
    have n4 : r.toNat ≤ 4 := by omega
    refine for_range (lo := 0) (n := r.toNat) (fun i σ H2 => ∃ y4 y5 y6 y7 xs st, σ = [some (.ref d), some (.ref m), some (.ref p), some (.ref pl), y4, y5, y6, y7] ∧ Ex d H H2 ∧ Dr H2 d sa ∧ H2 pl = some (.lst xs) ∧ Prs H2 xs st ∧ AllT mk W5 st ∧ st.length = i) ?_ ?_ ?_
    · exact ⟨none, none, none, none, [], [], rfl, (Ex.of s1).trans x1, D1, ep1, .nil, fun pr h => by simp at h, rfl⟩
    · intro i σ H2 hi ⟨y4, y5, y6, y7, xs, st, es, x2, D2, ep2, hP, hTs, sl⟩
      subst es
      refine ⟨_, rfl, _, rfl, (by show 5 ≤ sizeLine; decide), fun nl hnl => ?_⟩
      have t1 := same_upd hnl (.lst (W5.map V.str))
      have nnd := (D2.free (H1 := H2) hnl).1
      obtain ⟨hN, hNt⟩ := names5 (H := upd H2 nl (.lst (W5.map V.str))) mk
      have M2 := hM.ex x2 hD.lst
      have A2 := hA.ex x2 hD.lst
      refine ⟨d, sa, m, nl, mk, W5, 2, 1, _, _, 2, rfl, D2.same t1, M2.same t1, upd_same, hN, nnd, by show 1 ≤ 5; decide, by show 5 ≤ 10; decide, hNt, Nat.le_refl _, Nat.le_refl _, by omega, fun v1 e1 H3 hI1 hT1 x3 D3 => ?_⟩
      have x23 := x2.trans ((Ex.of t1).trans x3)
      have P3 := (hP.same t1).ex x3 (D2.same t1).lst
      have ep3 : H3 pl = some (.lst xs) := x3.but _ _ npd (t1 _ _ ep2)
      have A3 := hA.ex x23 hD.lst
      obtain ⟨w1, c1, d1⟩ := hT.put hT1
      refine ⟨_, rfl, p, mk, v1, e1, al, rfl, A3.r, hI1, hT1.wf, by have := hT1.dp; omega, fun v2 H4 s4 hI2 => ?_⟩
      refine ⟨fun σ H5 => ∃ vt t y4 y6 y7, σ = [some (.ref d), some (.ref m), some (.ref p), some (.ref pl), y4, some vt, y6, y7] ∧ Same H3 H5 ∧ Is H5 vt t ∧ Wf mk t ∧ lv t = [] ∧ dep t ≤ 15 ∧ psz t ≤ 31, ?_, fun σ H5 ⟨vt, t, y4', y6', y7', es, s5, hI5, wt, ct, dt, pt⟩ => ?_⟩
      · refine ⟨_, rfl, mk, v2, psub al e1, rfl, hI2, w1, c1, by omega, fun H5 s5 => ⟨_, _, rfl, rfl, _, rfl, ?_⟩⟩
        refine ite2 (fun c => ?_) (fun c => ?_)
        · refine ⟨(by show 1 ≤ sizeLine; decide), fun zt hzt => ?_⟩
          obtain ⟨z1, z2, z3, z4⟩ := zero_tm hok
          exact ⟨_, .tup "zero" [], _, _, _, rfl, (s4.trans s5).trans (same_upd hzt _), .tup upd_same (by decide +kernel) .nil, z1, z2, by omega, by omega⟩
        · have : ¬ ((31 : Int) < ((psz (psub al e1) : Nat) : Int)) := fun q => c (decide_eq_true q)
          exact ⟨_, _, _, _, _, rfl, s4.trans s5, hI2.same s5, w1, c1, by omega, by omega⟩
      · subst es
        have D5 := D3.same s5
        have A5 := A3.same s5
        have P5 := P3.same s5
        have ep5 := s5 _ _ ep3
        refine ⟨_, rfl, _, rfl, _, rfl, d, sa, p, mk, al, vt, t, rfl, D5, A5, has60, hI5, wt, ct, dt, by omega, fun va ta H6 hIa hTa x6 D6 => ?_⟩
        have A6 := A5.ex x6 D5.lst
        refine ⟨_, rfl, _, rfl, _, rfl, d, sa, p, mk, al, vt, t, rfl, D6, A6, has60, hI5.ex x6 D5.lst, wt, ct, dt, by omega, fun vb tb H7 hIb hTb x7 D7 => ?_⟩
        have x57 := x6.trans x7
        have okT : ∀ {u : PV}, Tm mk W5 (dep t) (psz t) u → TOk mk W5 u := fun h => ⟨h.wf, by have := h.sz; omega, by have := h.dp; omega, h.vs⟩
        have P7 := P5.ex x57 D5.lst
        have ep7 := x57.but _ _ npd ep5
        have xx7 : Ex d H H7 := x23.trans ((Ex.of s5).trans x57)
        have M7 := hM.ex xx7 hD.lst
        refine ⟨fun σ H8 => ∃ vc tc y4 y5, σ = [some (.ref d), some (.ref m), some (.ref p), some (.ref pl), y4, y5, some va, some vc] ∧ Ex d H7 H8 ∧ Dr H8 d sa ∧ Is H8 vc tc ∧ TOk mk W5 tc, ?_, fun σ H8 ⟨vc, tc, y4', y5', es, x8, D8, hIc, hTc⟩ => ?_⟩
        · refine ⟨_, rfl, d, sa, _, rfl, D7, by omega, by omega, fun r8 H8 q0 q1 x8 D8 => ⟨rfl, _, rfl, ?_⟩⟩
          refine ite2 (fun _ => ?_) (fun _ => ?_)
          · refine ⟨_, rfl, _, rfl, (by show 5 ≤ sizeLine; decide), fun nl2 hnl2 => ?_⟩
            have t2 := same_upd hnl2 (.lst (W5.map V.str))
            have nnd2 := (D8.free (H1 := H8) hnl2).1
            obtain ⟨hN2, hNt2⟩ := names5 (H := upd H8 nl2 (.lst (W5.map V.str))) mk
            refine ⟨d, sa, m, nl2, mk, W5, 2, 1, _, _, 3, rfl, D8.same t2, (M7.ex x8 D7.lst).same t2, upd_same, hN2, nnd2, by show 1 ≤ 5; decide, by show 5 ≤ 10; decide, hNt2, Nat.le_refl _, Nat.le_refl _, by omega, fun v9 e9 H9 hI9 hT9 x9 D9 => ?_⟩
            have sz9 : szB 1 3 = 15 := rfl
            exact ⟨v9, e9, _, _, rfl, (x8.trans (.of t2)).trans x9, D9, hI9, ⟨hT9.wf, by have := hT9.sz; omega, by have := hT9.dp; omega, hT9.vs⟩⟩
          · exact ⟨vb, tb, _, _, rfl, x8, D8, hIb.ex x8 D7.lst, okT hTb⟩
        · subst es
          have ep8 := x8.but _ _ npd ep7
          have hIa8 := (hIa.ex x7 D6.lst).ex x8 D7.lst
          refine ⟨_, rfl, .inl ⟨rfl, _, SqL.of ep8⟩, _, rfl, _, rfl, (by show 2 ≤ sizeLine; decide), fun tp htp => ?_⟩
          have s9 := same_upd htp (.tup [va, vc])
          have ep9 := s9 _ _ ep8
          have ntp : pl ≠ tp := ne_of_none ep8 htp
          refine ⟨pl, _, _, rfl, rfl, ep9, by rw [pair_len hP, sl]; exact small1000 (by omega), ?_⟩
          have xp : Ex pl (upd H8 tp (.tup [va, vc])) (upd (upd H8 tp (.tup [va, vc])) pl (.lst (xs ++ [.ref tp]))) := .set _
          refine ⟨_, _, _, _, xs ++ [.ref tp], st ++ [(ta, tc)], rfl, ((xx7.trans x8).trans (.of s9)).own hpl _, (D8.same s9).own npd nps, upd_same, ?_, fun pr hpr => ?_, by rw [List.length_append, sl]; rfl⟩
          · exact pair_append (((P7.ex x8 D7.lst).same s9).ex xp ⟨_, ep9⟩) (.cons ⟨tp, va, vc, rfl, by rw [upd_ne ntp.symm, upd_same], (hIa8.same s9).ex xp ⟨_, ep9⟩, (hIc.same s9).ex xp ⟨_, ep9⟩⟩ .nil)
          · rcases List.mem_append.mp hpr with h | h
            · exact hTs pr h
            · rw [List.mem_singleton.mp h]; exact ⟨okT hTa, hTc⟩
    · intro σ H2 ⟨y4, y5, y6, y7, xs, st, es, x2, D2, ep2, hP, hTs, sl⟩
      subst es
      exact ⟨_, rfl, q pl H2 xs st x2 D2 ep2 npd hP hTs (by omega)⟩
end
end Kx
namespace Kx
open PySem PySem.Spec PyProof.Rows L2
section
variable {P : Program} {w : World} {K : PySem.W.Frag} {mg : Str → Option Value} {base : Heap}
theorem no_left {f : Addr} {fd : FuncData} {ps : List Str} {k : Nat} {sp : Sp} (no : ∀ vs H Q E, ¬ sp vs H Q E) : FnOk P w K mg base CX0 k f fd ps sp :=
  ⟨fun vs H Q E h => absurd h (no vs H Q E), fun A outer s H args us vs Q E _ _ _ _ h => absurd h (no vs H Q E)⟩
theorem all_put (T : Txt K mg) : ∀ n, FnOk P w K mg base CX0 (n + 1) T.a_put T.d_put ["term", "assignment"] (spPut n)
  | 0 => no_left fun vs H Q E ⟨p, mk, v, t, al, _, _, _, _, hn, _⟩ => absurd (dep_pos t) (by omega)
  | n + 1 => ok_put T (all_put T n)
theorem all_lput (T : Txt K mg) : ∀ n, FnOk P w K mg base CX0 (n + 1) T.a_law_put T.d_law_put ["term", "assignment"] (spPut n)
  | 0 => no_left fun vs H Q E ⟨p, mk, v, t, al, _, _, _, _, hn, _⟩ => absurd (dep_pos t) (by omega)
  | n + 1 => ok_law_put T (all_lput T n)
theorem all_term (T : Txt K mg) : ∀ n, FnOk P w K mg base CX0 (n + 3) T.a_law_term T.d_law_term ["draws", "makers", "names", "deep"] (spTerm n)
  | 0 => no_left fun vs H Q E ⟨d, sa, m, nl, mk, W, c, s, xs, ts, k, _, _, _, _, _, _, _, _, _, _, _, hk, _⟩ => absurd hk (by omega)
  | n + 1 => ok_law_term T (ok_law_draw T) (ok_law_pick T (ok_law_draw T)) (all_term T n)
theorem all_whole (T : Txt K mg) : ∀ n, FnOk P w K mg base CX0 (n + 1) T.a_whole T.d_whole ["term", "bound"] (spWhole n)
  | 0 => no_left fun vs H Q E ⟨p, mk, v, t, f, b, ρ, _, _, _, _, _, _, hn, _⟩ => absurd (dep_pos (psub f t)) (by omega)
  | n + 1 => ok_whole T (ok_followed T) (all_whole T n)
theorem all_lnames (T : Txt K mg) : ∀ n, FnOk P w K mg base CX0 (n + 1) T.a_law_names T.d_law_names ["term"] (spLNames n)
  | 0 => no_left fun vs H Q E ⟨mk, W, v, t, _, _, _, hn, _⟩ => absurd (dep_pos t) (by omega)
  | n + 1 => ok_law_names T (all_lnames T n)
theorem all_hidden (T : Txt K mg) : ∀ n, FnOk P w K mg base CX0 (n + 2) T.a_law_hidden T.d_law_hidden ["draws", "trees", "tree"] (spHidden n)
  | 0 => no_left fun vs H Q E ⟨d, sa, p, mk, al, v, t, _, _, _, _, _, _, _, hn, _⟩ => absurd (dep_pos t) (by omega)
  | n + 1 => ok_law_hidden T (ok_law_draw T) (ok_law_pick T (ok_law_draw T)) (all_hidden T n)
theorem all_size (T : Txt K mg) : ∀ n, FnOk P w K mg base CX0 (n + 1) T.a_law_size T.d_law_size ["tree"] (spSize n)
  | 0 => no_left fun vs H Q E ⟨mk, v, t, _, _, _, _, hn, _⟩ => absurd (dep_pos t) (by omega)
  | n + 1 => ok_law_size T (all_size T n)
/-! ### what is told is what is due -/
theorem toldN_get (f : AL) (z : Str) : ∀ (ns : List Str) (al : AL), (∀ u, get al z = some u → get f z = some u) → get (toldN f al ns) z = if (get al z).isSome = true then get al z else if z ∈ ns then get f z else none
  | [], al, h => by
    show get al z = _
    cases e : get al z <;> simp
  | y :: ns, al, h => by
    show get (toldN f (addT f al y) ns) z = _
    have ga : get (addT f al y) z = if (get al z).isSome = true then get al z else if y = z then get f z else none := by
      unfold addT
      by_cases c : (get f y).isSome = true ∧ get al y = none
      · rw [if_pos c, get_snoc]
        cases e : get al z with
        | some u => simp
        | none =>
          by_cases q : y = z
          · subst q
            have : fn f y = (get f y).getD (.str y) := rfl
            obtain ⟨u, eu⟩ := Option.isSome_iff_exists.mp c.1
            simp [eu, this]
          · simp [q]
      · rw [if_neg c]
        cases e : get al z with
        | some u => simp
        | none =>
          by_cases q : y = z
          · subst q
            have : get f y = none := by
              cases e2 : get f y with
              | none => rfl
              | some u => exact absurd ⟨by rw [e2]; rfl, e⟩ c
            simp [this]
          · simp [q]
    rw [toldN_get f z ns (addT f al y) fun u hu => by
      rw [ga] at hu
      cases e : get al z with
      | some v => rw [e] at hu; simp at hu; rw [← hu]; exact h v e
      | none =>
        rw [e] at hu
        simp only [Option.isSome_none, Bool.false_eq_true, if_false] at hu
        split at hu
        · exact hu
        · cases hu]
    rw [ga]
    cases e : get al z with
    | some v => simp
    | none =>
      simp only [Option.isSome_none, Bool.false_eq_true, if_false]
      by_cases q : y = z
      · rw [if_pos q]
        have mz : z ∈ y :: ns := by rw [q]; exact List.mem_cons_self ..
        rw [if_pos mz]
        by_cases c : (get f z).isSome = true
        · rw [if_pos c]
        · rw [if_neg c]
          have : get f z = none := by
            cases e2 : get f z with
            | none => rfl
            | some u => rw [e2] at c; exact absurd rfl c
          rw [this]; simp
      · rw [if_neg q]
        simp only [Option.isSome_none, Bool.false_eq_true, if_false]
        have : (z ∈ y :: ns) ↔ z ∈ ns := by
          rw [List.mem_cons]
          exact ⟨fun h => h.elim (fun e => absurd e.symm q) id, .inr⟩
        by_cases c : z ∈ ns
        · rw [if_pos c, if_pos (this.mpr c)]
        · rw [if_neg c, if_neg (fun h => c (this.mp h))]
theorem toldN_nd (f : AL) : ∀ (ns : List Str) (al : AL), Nd al → Nd (toldN f al ns)
  | [], _, h => h
  | y :: ns, al, h => toldN_nd f ns (addT f al y) (by
    unfold addT
    by_cases c : (get f y).isSome = true ∧ get al y = none
    · rw [if_pos c]
      unfold Nd
      rw [List.map_append]
      refine List.nodup_append.mpr ⟨h, by simp, fun a ha b hb e => ?_⟩
      subst e
      have : a = y := by simpa using hb
      subst this
      exact get_dom.mp c.2 ha
    · rw [if_neg c]; exact h)
theorem run_fv (hm : MM mmS) {mk : List (Str × Int)} {V0 : List Str} : ∀ (n : Nat) (st : List (PV × PV)) (f g : AL), Good mk f → AllWf mk st → FV V0 f → InV V0 st → Nd f → runL mmS n st f = some (some g) → FV V0 g ∧ Nd g
  | 0, st, f, g, _, _, _, _, _, h => by cases h
  | n + 1, [], f, g, G, _, hV, _, nd, h => by
    simp only [runL, Option.some.injEq] at h
    subst h
    exact ⟨hV, nd⟩
  | n + 1, pr :: st, f, g, G, hW, hV, hI, nd, h => by
    have w1 := hW pr (List.mem_cons_self ..)
    have i1 := hI pr (List.mem_cons_self ..)
    simp only [runL] at h
    cases e : stepL mmS pr.1 pr.2 f with
    | none => rw [e] at h; cases h
    | some Lf =>
      obtain ⟨L, f'⟩ := Lf
      rw [e] at h
      have S := step_some hm G w1.1 w1.2 e
      obtain ⟨iL, vf, _⟩ := step_less hm G.idem hV i1.1 i1.2 e
      refine run_fv hm n _ _ g S.good (fun x hx => ?_) vf (fun x hx => ?_) (stepL_nd G.idem nd e) h
      · rcases List.mem_append.mp hx with hx | hx
        · exact S.wfL x (List.mem_reverse.mp hx)
        · exact hW x (List.mem_cons_of_mem _ hx)
      · rcases List.mem_append.mp hx with hx | hx
        · exact iL x (List.mem_reverse.mp hx)
        · exact hI x (List.mem_cons_of_mem _ hx)
/-- all that the law's own way gives -/
structure Due (mk : List (Str × Int)) (st : List (PV × PV)) (g : AL) : Prop where
  good : Good mk g
  nd : Nd g
  uni : Uni (fn g) st
  all : ∀ θ, Uni θ st → From θ g
  dp : ∀ z, dep (fn g z) ≤ 96
  tl : ∀ z, get (TL g st) z = get g z
  tnd : Nd (TL g st)
  fv : FV W5 g
theorem uni_rev {θ : Str → PV} {st : List (PV × PV)} : Uni θ st.reverse ↔ Uni θ st := ⟨fun h pr hp => h pr (List.mem_reverse.mpr hp), fun h pr hp => h pr (List.mem_reverse.mp hp)⟩
theorem be_refl (f : AL) : ∀ P : List (PV × PV), Be f P P
  | [] => .nil
  | (p, q) :: P => .both rfl rfl (be_refl f P)
theorem start_LI {mk : List (Str × Int)} {st : List (PV × PV)} (h : AllT mk W5 st) (s4 : st.length ≤ 4) : LI mk W5 [] st.reverse := by
  refine ⟨⟨Idem.nil, AWf.nil mk⟩, fun pr hp => ?_, FV.nil W5, fun pr hp => ?_, List.nodup_nil, [], fun _ => 0, 0, by omega, Sol.nil, BOk.nil mk W5, .base (by rw [List.length_reverse]; omega) fun pr hp => ?_⟩
  · exact ⟨(h pr (List.mem_reverse.mp hp)).1.wf, (h pr (List.mem_reverse.mp hp)).2.wf⟩
  · exact ⟨(h pr (List.mem_reverse.mp hp)).1.vs, (h pr (List.mem_reverse.mp hp)).2.vs⟩
  · exact ⟨⟨_, (h pr (List.mem_reverse.mp hp)).1, rfl⟩, ⟨_, (h pr (List.mem_reverse.mp hp)).2, rfl⟩, ⟨_, (h pr (List.mem_reverse.mp hp)).1, .refl _⟩⟩
theorem both_ways {mk : List (Str × Int)} {st : List (PV × PV)} (h : AllT mk W5 st) (s4 : st.length ≤ 4) : ∃ N r m res, runL mmS N st.reverse [] = some r ∧ RunsB mmS m st.reverse [] res ∧
    ((r = none ∧ res = none ∧ ∀ θ, ¬ Uni θ st) ∨ ∃ g b ρ, r = some g ∧ res = some b ∧ Sol g b ρ ∧ Due mk st g) := by
  have L := start_LI h s4
  obtain ⟨N, r, hr⟩ := run_ends mmS_ok (mk := mk) (V := W5) _ _ st.reverse [] rfl rfl L.good L.fv L.wf L.inv
  obtain ⟨b0, ρ0, l0, hl0, S0, hB0, lw0⟩ := L.sol
  have hT : AllT mk W5 st.reverse := fun pr hp => h pr (List.mem_reverse.mp hp)
  obtain ⟨m, res, R, M⟩ := simB mmS_ok (by decide) N _ [] [] (fun _ => 0) st.reverse st.reverse r 0 rfl Sol.nil L.good (BOk.nil mk W5) (be_refl [] _) hT (.base (by rw [List.length_reverse]; omega) fun pr hp => ⟨⟨_, (hT pr hp).1, rfl⟩, ⟨_, (hT pr hp).2, rfl⟩, ⟨_, (hT pr hp).1, .refl _⟩⟩) (by omega) L.wf hr
  refine ⟨N, r, m, res, hr, R, ?_⟩
  rcases M with ⟨rfl, rfl⟩ | ⟨g, b, ρ, rfl, rfl, S, hB⟩
  · exact .inl ⟨rfl, rfl, fun θ U => run_none mmS_ok N _ [] L.good L.wf hr θ (From.nil θ) (uni_rev.mpr U)⟩
  · refine .inr ⟨g, b, ρ, rfl, rfl, S, ?_⟩
    obtain ⟨G, fwd, back⟩ := run_some mmS_ok N _ [] g L.good L.wf hr
    have iv : InV (st.flatMap nm2) st.reverse := fun pr hp => by
      have hp' := List.mem_reverse.mp hp
      refine ⟨fun z hz => List.mem_flatMap.mpr ⟨pr, hp', List.mem_append_left _ (mem_nms.mpr hz)⟩, fun z hz => List.mem_flatMap.mpr ⟨pr, hp', List.mem_append_right _ (mem_nms.mpr hz)⟩⟩
    obtain ⟨fv, nd⟩ := run_fv mmS_ok N _ [] g L.good L.wf (FV.nil _) iv List.nodup_nil hr
    refine ⟨G, nd, uni_rev.mp (back _ G.idem.from_).2, fun θ U => fwd θ (From.nil θ) (uni_rev.mpr U), dep_fn S hB (by decide), fun z => ?_, toldN_nd g _ [] List.nodup_nil, (run_fv mmS_ok N _ [] g L.good L.wf L.fv L.inv List.nodup_nil hr).1⟩
    unfold TL
    rw [toldN_get g z _ [] fun u hu => by simp [get_nil] at hu]
    simp only [get_nil, Option.isSome_none, Bool.false_eq_true, if_false]
    by_cases c : z ∈ st.flatMap nm2
    · rw [if_pos c]
    · rw [if_neg c]
      exact (get_dom.mpr fun q => c (fv.1 z q)).symm
/-- two dicts of one assignment -/
theorem same_dicts {H : Hp} {p q : Addr} {a b : AL} (hA : AsD H p a) (hB : AsD H q b) (na : Nd a) (nb : Nd b) (e : ∀ z, get a z = get b z) (hd : ∀ z, dep (fn b z) ≤ 190) :
    ∃ ks ls : List (Key × V), H p = some (.dK ks) ∧ H q = some (.dK ls) ∧ ks.length = ls.length ∧ ∀ x ∈ ks, ∃ v t, valV ls x.1 = some v ∧ Is H x.2 t ∧ Is H v t ∧ dep t ≤ 190 := by
  obtain ⟨ks, e1, p1⟩ := hA
  obtain ⟨ls, e2, p2⟩ := hB
  have la : a.length ≤ b.length := by
    have := nodup_len na (W := b.map (·.1)) fun z hz => by
      by_cases c : z ∈ b.map (·.1)
      · exact c
      · exact absurd hz (get_dom.mp (by rw [e, get_dom.mpr c]))
    simpa using this
  have lb : b.length ≤ a.length := by
    have := nodup_len nb (W := a.map (·.1)) fun z hz => by
      by_cases c : z ∈ a.map (·.1)
      · exact c
      · exact absurd hz (get_dom.mp (by rw [← e, get_dom.mpr c]))
    simpa using this
  refine ⟨ks, ls, e1, e2, by rw [Paired.length p1, Paired.length p2]; omega, fun x hx => ?_⟩
  obtain ⟨i, hi, ex⟩ := List.mem_iff_getElem.mp hx
  obtain ⟨⟨z, u⟩, eu, ez, hI⟩ := pair_at p1 (List.getElem?_eq_getElem hi)
  rw [ex] at ez hI
  simp only at ez hI
  have gz := get_mem na (List.mem_of_getElem? eu)
  rw [e] at gz
  rw [ez]
  rcases pair_val z p2 with ⟨_, c⟩ | ⟨v, t, c1, c2, c3⟩
  · rw [gz] at c; cases c
  · rw [gz] at c2
    cases c2
    have : fn b z = u := by unfold fn; rw [gz]; rfl
    exact ⟨v, u, c1, hI, c3, by rw [← this]; exact hd z⟩
end
end Kx
namespace Kx
open PySem PySem.Spec PyProof.Rows L2
section
variable {P : Program} {w : World} {K : PySem.W.Frag} {mg : Str → Option Value} {base : Heap}
/-- what unified and the law's own way hand back -/
def Told (H : Hp) (r : Option AL) (v : V) : Prop := (r = none ∧ v = .non) ∨ ∃ g q, r = some g ∧ v = .ref q ∧ AsD H q g
theorem Told.same {H H' : Hp} {r : Option AL} {v : V} (h : Told H r v) (s : Same H H') : Told H' r v := by
  rcases h with h | ⟨g, q, a, b, c⟩
  · exact .inl h
  · exact .inr ⟨g, q, a, b, c.same s⟩
theorem IsL.mem {H : Hp} : ∀ {vs : List V} {ts : List PV}, IsL H vs ts → ts.length = vs.length := fun h => h.len.symm
def pdOf (pr : PV × PV) : PyData := .tuple [toD pr.1, toD pr.2]
theorem Prs.dp {K : PySem.W.Frag} {H : Hp} : ∀ {xs : List V} {st : List (PV × PV)}, Prs H xs st → DpAll K H xs (st.map pdOf)
  | _, _, .nil => .nil
  | _, _, .cons ⟨q, a, b, e, e1, h1, h2⟩ t => by
    subst e
    exact .cons (.tup (.inl (.inl e1)) (.cons h1.dp (.cons h2.dp .nil))) (Prs.dp t)
theorem Prs.lay {H : Hp} : ∀ {xs : List V} {st : List (PV × PV)}, Prs H xs st → PyData.canLayAll0 (st.map pdOf) = true
  | _, _, .nil => by simp [PyData.canLayAll0]
  | _, _, .cons ⟨q, a, b, e, e1, h1, h2⟩ t => by
    have ih := Prs.lay t
    simp only [List.map_cons, PyData.canLayAll0, pdOf, PyData.canLay0, h1.lay, h2.lay, Bool.and_true, Bool.true_and]
    exact ih
theorem pd_depth {mk : List (Str × Int)} : ∀ {st : List (PV × PV)}, AllT mk W5 st → PyData.depthAll (st.map pdOf) ≤ 20
  | [], _ => by simp [PyData.depthAll]
  | pr :: st, h => by
    have ih := pd_depth (st := st) fun x hx => h x (List.mem_cons_of_mem _ hx)
    have a := toD_depth pr.1
    have b := toD_depth pr.2
    have c := (h pr (List.mem_cons_self ..)).1.dp
    have d := (h pr (List.mem_cons_self ..)).2.dp
    simp only [List.map_cons, PyData.depthAll, pdOf, PyData.depth]
    omega
theorem pd_eqv : ∀ st : List (PV × PV), PyData.eqvAll (st.map pdOf) (st.map pdOf) = true
  | [] => by simp [PyData.eqvAll]
  | pr :: st => by simp only [List.map_cons, PyData.eqvAll, pdOf, PyData.eqv, eqv_self, pd_eqv st, Bool.and_self]
theorem pd_deep {mk : List (Str × Int)} {H : Hp} {xs : List V} {st : List (PV × PV)} (hT : AllT mk W5 st) (hP : Prs H xs st) : deep (.list (st.map pdOf)) = true := by
  have a := pd_depth hT
  have c : (PyData.list (st.map pdOf)).canLay0 = true := by simp only [PyData.canLay0]; exact hP.lay
  have d : (PyData.list (st.map pdOf)).depth ≤ 190 := by simp only [PyData.depth]; omega
  unfold deep
  rw [c, decide_eq_true d]; rfl
/-- whether a pair becomes the same -/
def sameUnder (θ : Str → PV) (pr : PV × PV) : Bool := PyData.eqv (toD (sub θ pr.1)) (toD (sub θ pr.2))
theorem all_same {θ : Str → PV} {st : List (PV × PV)} : (st.map (sameUnder θ)).all id = true ↔ Uni θ st := by
  rw [List.all_map, List.all_eq_true]
  constructor
  · intro h pr hp
    exact eqv_eq (h pr hp)
  · intro h pr hp
    show PyData.eqv _ _ = true
    rw [h pr hp]; exact eqv_self _
theorem deep_dep {H : Hp} {v : V} {t : PV} (h : dep t ≤ 190) (hI : Is H v t) : deep (toD t) = true := by
  have := toD_depth t
  unfold deep
  rw [hI.lay, decide_eq_true (by omega)]; rfl
set_option pp.maxSteps 2000
theorem ok_law (T : Txt K mg) (G_law_draws : FnOk P w K mg base CX0 1 T.a_law_draws T.d_law_draws ["script"] (spDraws K)) (G_law_makers : FnOk P w K mg base CX0 2 T.a_law_makers T.d_law_makers ["draws"] spMakers) (G_law_term : FnOk P w K mg base CX0 6 T.a_law_term T.d_law_term ["draws", "makers", "names", "deep"] (spTerm 3)) (G_law_draw : FnOk P w K mg base CX0 1 T.a_law_draw T.d_law_draw ["draws", "limit"] spDraw) (G_law_pairs : FnOk P w K mg base CX0 18 T.a_law_pairs T.d_law_pairs ["draws", "makers", "trees"] spPairs) (G_law_unified : FnOk P w K mg base CX0 114 T.a_law_unified T.d_law_unified ["pairs"] (spLUni K)) (G_unified : FnOk P w K mg base CX0 100 T.a_unified T.d_unified ["pairs"] (spUni K 96)) (G_law_put : FnOk P w K mg base CX0 112 T.a_law_put T.d_law_put ["term", "assignment"] (spPut 111)) (G_put : FnOk P w K mg base CX0 112 T.a_put T.d_put ["term", "assignment"] (spPut 111)) (G_law_names : FnOk P w K mg base CX0 112 T.a_law_names T.d_law_names ["term"] (spLNames 111)) : FnOk P w K mg base CX0 120 T.a_law T.d_law ["script"] (spLaw K) := by
  refine T.F_law.ok sc_law (fun vs H Q E h => ?_) (fun cdv A outer s H vs Q E hr h => ?_)
  · obtain ⟨a, ns, rfl, _⟩ := h; rfl
  · obtain ⟨a, ns, rfl, hS, hl, q⟩ := h
    have hu := hu_of hr
    have hr_law_draws := hr.mono (show 1 ≤ 119 by omega)
    have hr_law_makers := hr.mono (show 2 ≤ 119 by omega)
    have hr_law_draw := hr.mono (show 1 ≤ 119 by omega)
    have hr_law_term := hr.mono (show 6 ≤ 119 by omega)
    have hr_law_pairs := hr.mono (show 18 ≤ 119 by omega)
    have hr_law_unified := hr.mono (show 114 ≤ 119 by omega)
    have hr_unified := hr.mono (show 100 ≤ 119 by omega)
    have hr_law_put := hr.mono (show 112 ≤ 119 by omega)
    have hr_put := hr.mono (show 112 ≤ 119 by omega)
    have hr_law_names := hr.mono (show 112 ≤ 119 by omega)
    refine ⟨_, (pss_cons (ps_set (i := 1) sc_law.nd rfl (Or.inl rfl) (pe_call G_law_draws hr_law_draws rfl T.m_law_draws T.F_law_draws.kp T.b_law_draws .nil pass0 (pa_cons (pv 0) pa_nil)))
    (pss_cons (ps_set (i := 2) sc_law.nd rfl (Or.inl rfl) (pe_call G_law_makers hr_law_makers rfl T.m_law_makers T.F_law_makers.kp T.b_law_makers .nil pass0 (pa_cons (pv 1) pa_nil)))
    (pss_cons (ps_for PassesOwn.never rfl (pi_range1 (by rfl) T.z_range (pa_cons pe_int pa_nil)) (pg_name (i := 3) sc_law.nd rfl (Or.inl rfl))
    (pss_cons (ps_set (i := 4) sc_law.nd rfl (Or.inr rfl) pe_dnewK)
    (Evl.pss_cut (ps_for PassesOwn.never rfl (pi_list (pe_lst (pa_cons pe_str (pa_cons pe_str (pa_cons pe_str (pa_cons pe_str (pa_cons pe_str pa_nil))))))) (pg_name (i := 5) sc_law.nd rfl (Or.inl rfl))
    (pss_cons (ps_lock (ps_setLc (i := 6) (own := [("other", 12)]) (g := (gName 12)) (tt := tYes) rfl sc_law.nd rfl rfl (sw_true rfl rfl rfl (by decide +kernel)) (pi_keys (pv 4)) (blkOk_by (own := [("other", 12)]) (N := ["script", "draws", "makers", "turn", "trees", "name", "known", "pairs", "due", "handed", "told", "fits", "other", "one"]) (sc := defScope s_law) (by decide +kernel)) (fun _ _ _ _ _ => (pg_name (i := 12) sc_law.nd rfl (Or.inl rfl))) (fun _ _ _ _ _ => pts_nil) (fun _ _ _ _ _ => (pe_dget hu (pv 4) (pv 12) (fun _ _ => rfl)))))
    (pss_one (ps_dput hu (pv 4) (pv 5) (pe_call G_law_term hr_law_term rfl T.m_law_term T.F_law_term.kp T.b_law_term .nil pass0 (pa_cons (pv 1) (pa_cons (pv 2) (pa_cons (pe_op op_cat (pe_lst (pa_cons (pe_tup (pa_cons pe_str pa_nil)) pa_nil)) (pv 6)) (pa_cons (pe_call G_law_draw hr_law_draw rfl T.m_law_draw T.F_law_draw.kp T.b_law_draw .nil pass0 (pa_cons (pv 1) (pa_cons pe_int pa_nil))) pa_nil))))) rfl))))
    (pss_cons (ps_set (i := 7) sc_law.nd rfl (Or.inl rfl) (pe_call G_law_pairs hr_law_pairs rfl T.m_law_pairs T.F_law_pairs.kp T.b_law_pairs .nil pass0 (pa_cons (pv 1) (pa_cons (pv 2) (pa_cons (pv 4) pa_nil)))))
    (Evl.pss_cut (ps_set (i := 8) sc_law.nd rfl (Or.inl rfl) (pe_call G_law_unified hr_law_unified rfl T.m_law_unified T.F_law_unified.kp T.b_law_unified .nil pass0 (pa_cons (pv 7) pa_nil)))
    (pss_cons (ps_set (i := 9) sc_law.nd rfl (Or.inl rfl) (pe_callTy call_list_of (by rfl) T.z_list (by decide +kernel) (pa_cons (pv 7) pa_nil)))
    (Evl.pss_cut (ps_set (i := 10) sc_law.nd rfl (Or.inr rfl) (pe_call G_unified hr_unified rfl T.m_unified T.F_unified.kp T.b_unified .nil pass0 (pa_cons (pv 9) pa_nil)))
    (Evl.pss_cut (ps_if (PW.pt (pw_or (pt_cmpR (op_neSame (units200 hr)) (pv 10) (pv 8) (nomark _)) (pw_or (pt_cmpR (op_neDD (units200 hr)) (pv 9) (pv 7) (nomark _)) (pw_or (pt_cmpR (op_neSame (units200 hr)) (pe_cut (pe_call G_unified hr_unified rfl T.m_unified T.F_unified.kp T.b_unified .nil pass0 (pa_cons (pe_callTy call_tuple_of (by rfl) T.z_tuple (by decide +kernel) (pa_cons (pv 7) pa_nil)) pa_nil))) (pv 8) (nomark _)) (pw_or1 (PW.pt (pw_and (pt_cmpR op_notN (pv 10) pe_non (nomark _)) (pw_and1 (pt_not (pt_val (pe_callB call_isi (by rfl) T.z_isinstance (by decide +kernel) (pa_cons (pv 10) (pa_cons (pe_bltn rfl T.z_dict (by decide +kernel) (show RelV (V.ty "dict") (Value.type "dict") from rfl)) pa_nil))))))))))))) (pss_one (ps_ret pe_bl)) pss_nil)
    (Evl.pss_cut (ps_set (i := 11) sc_law.nd rfl (Or.inl rfl) (pe_callB (cr_all rfl) (by rfl) T.z_all (by decide +kernel) (pa_cons (pe_lc (own := [("one", 13), ("other", 12)]) (g := (gTup K 2 (gCons (gName 13) (gCons (gName 12) gNil)))) (tt := tYes) rfl sc_law.nd (pi_list (pv 7)) (blkOk_by (own := [("one", 13), ("other", 12)]) (N := ["script", "draws", "makers", "turn", "trees", "name", "known", "pairs", "due", "handed", "told", "fits", "other", "one"]) (sc := defScope s_law) (by decide +kernel)) (fun _ _ _ _ _ => (pg_tup rfl (pgs_cons (pg_name (i := 13) sc_law.nd rfl (Or.inl rfl)) (pgs_cons (pg_name (i := 12) sc_law.nd rfl (Or.inl rfl)) pgs_nil)))) (fun _ _ _ _ _ => pts_nil) (fun _ _ _ _ _ => (pe_cmpR (opK_eqDD (K := K) rfl (units200 hr)) (pe_call G_law_put hr_law_put rfl T.m_law_put T.F_law_put.kp T.b_law_put .nil pass0 (pa_cons (pv 13) (pa_cons (pv 4) pa_nil))) (pe_call G_law_put hr_law_put rfl T.m_law_put T.F_law_put.kp T.b_law_put .nil pass0 (pa_cons (pv 12) (pa_cons (pv 4) pa_nil))) (nomark _)))) pa_nil)))
    (pss_cons (ps_if (pt_cmpR op_isN (pv 10) pe_non (nomark _)) (pss_cons (ps_if (pt_val (pv 11)) (pss_one (ps_ret pe_bl)) pss_nil)
    (pss_one ps_continue)) pss_nil)
    (pss_cons (ps_if (pt_not (pt_val (pe_callB (cr_all rfl) (by rfl) T.z_all (by decide +kernel) (pa_cons (pe_lc (own := [("one", 13), ("other", 12)]) (g := (gTup K 2 (gCons (gName 13) (gCons (gName 12) gNil)))) (tt := tYes) rfl sc_law.nd (pi_list (pv 7)) (blkOk_by (own := [("one", 13), ("other", 12)]) (N := ["script", "draws", "makers", "turn", "trees", "name", "known", "pairs", "due", "handed", "told", "fits", "other", "one"]) (sc := defScope s_law) (by decide +kernel)) (fun _ _ _ _ _ => (pg_tup rfl (pgs_cons (pg_name (i := 13) sc_law.nd rfl (Or.inl rfl)) (pgs_cons (pg_name (i := 12) sc_law.nd rfl (Or.inl rfl)) pgs_nil)))) (fun _ _ _ _ _ => pts_nil) (fun _ _ _ _ _ => (pe_cmpR (opK_eqDD (K := K) rfl (units200 hr)) (pe_call G_put hr_put rfl T.m_put T.F_put.kp T.b_put .nil pass0 (pa_cons (pv 13) (pa_cons (pv 10) pa_nil))) (pe_call G_put hr_put rfl T.m_put T.F_put.kp T.b_put .nil pass0 (pa_cons (pv 12) (pa_cons (pv 10) pa_nil))) (nomark _)))) pa_nil)))) (pss_one (ps_ret pe_bl)) pss_nil)
    (Evl.pss_cut (ps_if (PW.pt (pw_and (pt_val (pv 11)) (pw_and1 (pt_not (pt_val (pe_callB (cr_all rfl) (by rfl) T.z_all (by decide +kernel) (pa_cons (pe_lock (pe_lc (own := [("name", 5)]) (g := (gName 5)) (tt := tYes) rfl sc_law.nd (pi_keys (pv 4)) (blkOk_by (own := [("name", 5)]) (N := ["script", "draws", "makers", "turn", "trees", "name", "known", "pairs", "due", "handed", "told", "fits", "other", "one"]) (sc := defScope s_law) (by decide +kernel)) (fun _ _ _ _ _ => (pg_name (i := 5) sc_law.nd rfl (Or.inl rfl))) (fun _ _ _ _ _ => pts_nil) (fun _ _ _ _ _ => (pe_cmpR (opK_eqDD (K := K) rfl (units200 hr)) (pe_call G_put hr_put rfl T.m_put T.F_put.kp T.b_put .nil pass0 (pa_cons (pe_call G_put hr_put rfl T.m_put T.F_put.kp T.b_put .nil pass0 (pa_cons (pv 5) (pa_cons (pv 10) pa_nil))) (pa_cons (pv 4) pa_nil))) (pe_dget hu (pv 4) (pv 5) (fun _ _ => rfl)) (nomark _))))) pa_nil))))))) (pss_one (ps_ret pe_bl)) pss_nil)
    (pss_one (ps_lock (ps_for PassesOwn.never rfl (pi_keys (pv 10)) (pg_name (i := 5) sc_law.nd rfl (Or.inl rfl))
    (pss_one (ps_if (pt_cmpR (op_neD hr.units) (pe_lc (own := [("other", 12)]) (g := (gName 12)) rfl sc_law.nd (pi_list (pe_call G_law_names hr_law_names rfl T.m_law_names T.F_law_names.kp T.b_law_names .nil pass0 (pa_cons (pe_dget hu (pv 10) (pv 5) (fun _ _ => rfl)) pa_nil))) (blkOk_by (own := [("other", 12)]) (N := ["script", "draws", "makers", "turn", "trees", "name", "known", "pairs", "due", "handed", "told", "fits", "other", "one"]) (sc := defScope s_law) (by decide +kernel)) (fun _ _ _ _ _ => (pg_name (i := 12) sc_law.nd rfl (Or.inl rfl))) (fun _ _ _ _ _ => pts_one (pt_cmp (pc_din hu (pv 12) (pv 10)))) (fun _ _ _ _ _ => (pv 12))) (pe_lst pa_nil) (nomark _)) (pss_one (ps_ret pe_bl)) pss_nil)))))))))))))))))
    (pss_one (ps_ret pe_bl))))), ?_⟩
    refine ⟨_, rfl, a, ns, rfl, hS, hl, fun d sa H1 s1 D1 => ?_⟩
    refine ⟨_, rfl, d, sa, rfl, D1, fun m H2 mk M2 x2 D2 => ?_⟩
    have ok := M2.ok
    refine ⟨_, rfl, by omega, by omega, ?_⟩
    refine for_range (lo := 0) (n := (5 : Int).toNat) (fun i σ H3 => ∃ y3 y4 y5 y6 y7 y8 y9 y10 y11, σ = [some (.ref a), some (.ref d), some (.ref m), y3, y4, y5, y6, y7, y8, y9, y10, y11, none, none] ∧ Dr H3 d sa ∧ Mk H3 m mk) ?_ ?_ ?_
    · exact ⟨none, none, none, none, none, none, none, none, none, rfl, D2, M2⟩
    · intro i σ H3 hi ⟨y3, y4, y5, y6, y7, y8, y9, y10, y11, es, D3, M3⟩
      subst es
      refine fun tr htr => ?_
      have t1 := same_upd htr (.dK [])
      have D4 := D3.same t1
      have M4 := M3.same t1
      have etr : (upd H3 tr (.dK [])) tr = some (.dK []) := upd_same
      generalize upd H3 tr (.dK []) = H4 at *
      refine ⟨fun σ H5 => ∃ y5 y6 al, σ = [some (.ref a), some (.ref d), some (.ref m), some (.int (0 + (i : Int))), some (.ref tr), y5, y6, y7, y8, y9, y10, y11, none, none] ∧ Dr H5 d sa ∧ Mk H5 m mk ∧ AsD H5 tr al ∧ Nd al ∧ Trs mk al ∧ ∀ kv ∈ al, sok kv.1 = true ∧ kv.1 ∈ W5, ?_, fun σ H5 ⟨z5, z6, al, es, D5, M5, A5, nd5, T5, K5⟩ => ?_⟩
      · refine ⟨(by show 5 ≤ sizeLine; decide), fun l hl => ?_⟩
        have t2 := same_upd hl (.lst (W5.map V.str))
        obtain ⟨nld, nls⟩ := D4.free (H1 := H4) hl
        refine ⟨l, rfl, ⟨_, SqL.of upd_same⟩, ?_⟩
        refine for_list (xs := W5.map V.str) (fun j σ H5 => ∃ y5 y6 al, σ = [some (.ref a), some (.ref d), some (.ref m), some (.int (0 + (i : Int))), some (.ref tr), y5, y6, y7, y8, y9, y10, y11, none, none] ∧ H5 l = some (.lst (W5.map V.str)) ∧ Dr H5 d sa ∧ Mk H5 m mk ∧ AsD H5 tr al ∧ Nd al ∧ al.map (·.1) = W5.take j ∧ ∀ kv ∈ al, Wf mk kv.2 ∧ lv kv.2 = [] ∧ dep kv.2 ≤ 2 + 2 * j) ?_ ?_ ?_ ?_
        · exact ⟨y5, y6, [], rfl, upd_same, D4.same t2, M4.same t2, ⟨[], t2 _ _ etr, .nil⟩, List.nodup_nil, rfl, fun kv h => by simp at h⟩
        · exact fun j σ H5 _ ⟨_, _, _, _, e, _⟩ => SqL.of e
        · intro j x σ H5 hx ⟨z5, z6, al, es, el, D5, M5, A5, nd5, ks5, hv5⟩
          subst es
          rw [List.getElem?_map] at hx
          obtain ⟨z, ez, rfl⟩ : ∃ z, W5[j]? = some z ∧ V.str z = x := by
            cases e : W5[j]? with
            | none => rw [e] at hx; cases hx
            | some z => rw [e] at hx; exact ⟨z, rfl, Option.some.inj hx⟩
          have j5 : j < 5 := (List.getElem?_eq_some_iff.mp ez).1
          have fz : get al z = none := by
            rw [get_dom, ks5]
            intro hz
            have nd : (W5.take (j + 1)).Nodup := (List.take_sublist _ _).nodup (by decide +kernel)
            rw [take_snoc ez, List.nodup_append] at nd
            exact nd.2.2 z hz z (by simp) rfl
          obtain ⟨kvs, ek, pr⟩ := id A5
          have lkv := Paired.length pr
          have lal : al.length = j := by
            have := congrArg List.length ks5
            rw [List.length_map, List.length_take] at this
            have w5 : W5.length = 5 := rfl
            omega
          refine ⟨tr, _, ek, trivial, fun od => ?_⟩
          refine ⟨_, rfl, tr, od, rfl, .inl ⟨kvs, upd_same, fun D hD => ?_⟩⟩
          have nDt : D ≠ tr := fun e => by rw [e, upd_same] at hD; cases hD
          have fD : H5 D = none := by rw [upd_ne nDt] at hD; exact hD
          have isD5 : isD H5 tr := ⟨_, ek⟩
          refine L2.lc_it walk_keys (fun k H6 => ExD tr H5 H6 ∧ H6 tr = some (.frz od (.dK kvs)) ∧ ∃ ws, H6 D = some (.lst ws) ∧ IsL H6 ws ((al.take k).map (·.2)) ∧ ws.length = k) ?_ ?_ ?_ ?_
          · refine ⟨fun b o nb e => ?_, by rw [upd_ne nDt.symm, upd_same], [], upd_same, .nil, rfl⟩
            rw [upd_ne (ne_of_none e fD), upd_ne nb]; exact e
          · exact fun k H6 _ ⟨_, e, _⟩ => e
          · intro k x H6 H6' hk ⟨x6, e6, ws, eD, hW, wl⟩ ⟨eH, key, v, ekv, ex⟩
            subst eH ex
            obtain ⟨⟨zz, u⟩, eu, ekz, hIu⟩ := pair_at pr ekv
            simp only at ekz hIu
            subst ekz
            have gz := get_mem nd5 (List.mem_of_getElem? eu)
            obtain ⟨vg, e3, hIg⟩ : ∃ vg, valV kvs (Sum.inr zz) = some vg ∧ Is H5 vg u := by
              rcases pair_val zz pr with ⟨_, b⟩ | ⟨v', t', c1, c2, c3⟩
              · rw [gz] at b; cases b
              · rw [gz] at c2; cases c2; exact ⟨v', c1, c3⟩
            have g1 := lock_get e6 zz
            rw [e3] at g1
            refine ⟨rfl, yes_if ?_⟩
            refine ⟨_, rfl, _, rfl, tr, vg, rfl, g1, ws, eD, small1000 (by omega), ?_⟩
            have xx : Ex D H6' (upd H6' D (.lst (ws ++ [vg]))) := .set _
            refine ⟨fun b o nb e => ?_, by rw [upd_ne nDt.symm]; exact e6, ws ++ [vg], upd_same, ?_, by rw [List.length_append, wl]; rfl⟩
            · rw [upd_ne (ne_of_none e fD)]; exact x6 _ _ nb e
            · rw [take_snoc eu, List.map_append]
              exact (hW.append (.cons (hIg.exD x6 isD5) .nil)).ex xx ⟨_, eD⟩
          · intro H6 ⟨x6, e6, ws, eD, hW, wl⟩
            rw [lkv, List.take_length] at hW
            refine ⟨e6, ?_⟩
            have sU : Same H5 (upd H6 tr (.dK kvs)) := fun b o e => by
              by_cases h : b = tr
              · subst h; rw [upd_same, ← e, ek]
              · rw [upd_ne h]; exact x6 _ _ h e
            have hWU : IsL (upd H6 tr (.dK kvs)) ws (al.map (·.2)) := hW.keep fun b vs e => by
              by_cases h : b = tr
              · subst h; rw [e6] at e; cases e
              · rw [upd_ne h]; exact e
            have eDU : (upd H6 tr (.dK kvs)) D = some (.lst ws) := by rw [upd_ne nDt]; exact eD
            have D7 := D5.same sU
            have M7 := M5.same sU
            have A7 := A5.same sU
            have el7 := sU _ _ el
            generalize upd H6 tr (.dK kvs) = H7 at *
            refine ⟨_, rfl, _, rfl, (by show 1 ≤ sizeLine; decide), fun zt hzt => ⟨(by show 1 ≤ sizeLine; decide), fun zl hzl => ?_⟩⟩
            have u1 := same_upd hzt (.tup [.str "zero"])
            have u2 := same_upd hzl (.lst [.ref zt])
            have u12 := u1.trans u2
            have lw : ws.length = j := by rw [hWU.len, List.length_map, lal]
            refine ⟨_, rfl, zl, D, _, _, rfl, rfl, upd_same, u12 _ _ eDU, by rw [List.length_singleton]; exact Nat.le_of_lt (small1000 (by omega)), fun nl hnl => ?_⟩
            have u3 := same_upd hnl (.lst ([V.ref zt] ++ ws))
            have u13 := u12.trans u3
            have D8 := D7.same u13
            have M8 := M7.same u13
            have nnd := (D7.same u12).free (H1 := H7) hnl
            obtain ⟨z1, z2, z3, z4⟩ := zero_tm ok
            have hN8 : IsL (upd (upd (upd H7 zt (.tup [.str "zero"])) zl (.lst [.ref zt])) nl (.lst ([V.ref zt] ++ ws))) ([V.ref zt] ++ ws) (PV.tup "zero" [] :: al.map (·.2)) :=
              .cons (.tup ((u2.trans u3) _ _ upd_same) (by decide +kernel) .nil) (hWU.same u13)
            refine ⟨_, rfl, d, sa, _, rfl, D8, by omega, by omega, fun r H9 r0 r1 x9 D9 => ?_⟩
            obtain ⟨k, rfl⟩ : ∃ k : Nat, r = k := ⟨r.toNat, by omega⟩
            have szs : ∀ t ∈ (PV.tup "zero" [] :: al.map (·.2)), Tm mk [] (2 + 2 * j) (pszL (PV.tup "zero" [] :: al.map (·.2))) t := fun t ht => by
              have p1 := pszL_mem ht
              rcases List.mem_cons.mp ht with rfl | ht
              · exact ⟨z1, by omega, p1, fun y hy => by rw [z2] at hy; simp at hy⟩
              · obtain ⟨kv, hk, rfl⟩ := List.mem_map.mp ht
                obtain ⟨c1, c2, c3⟩ := hv5 kv hk
                exact ⟨c1, c3, p1, fun y hy => by rw [c2] at hy; simp at hy⟩
            refine ⟨d, sa, m, nl, mk, [], 2 + 2 * j, pszL (PV.tup "zero" [] :: al.map (·.2)), [V.ref zt] ++ ws, PV.tup "zero" [] :: al.map (·.2), k, rfl, D9, M8.ex x9 D8.lst, x9.but _ _ nnd.1 upd_same, hN8.ex x9 D8.lst, nnd.1, by simp, by rw [List.length_append, List.length_singleton]; omega, szs, by omega, by simp only [pszL, psz]; omega, by omega, fun v t H10 hv ht x10 D10 => ?_⟩
            have x810 := x9.trans x10
            have A10 := (A7.same u13).ex x810 D8.lst
            have M10 := M8.ex x810 D8.lst
            have el10 := x810.but _ _ nld (u13 _ _ el7)
            obtain ⟨kvs2, ek2, lk2, A11⟩ := A10.snoc fz hv
            refine ⟨_, rfl, _, rfl, tr, _, rfl, DPut.k (k := Sum.inr z) ek2 (small1000 (by omega)), ?_⟩
            have ntd : tr ≠ d := by
              obtain ⟨xs, e⟩ := D10.lst
              exact ne_of ek2 e (fun z => nomatch z)
            have nts : tr ≠ sa := by
              obtain ⟨ns', i', c', m', e, e2, _⟩ := D10
              exact ne_of ek2 e2 (fun z => nomatch z)
            have ntl : tr ≠ l := ne_of ek2 el10 (fun z => nomatch z)
            have M11 : Mk (upd H10 tr (.dK (putK kvs2 (Sum.inr z) v))) m mk := by
              obtain ⟨⟨o, ps, em, od', pp⟩, k'⟩ := M10
              exact ⟨⟨o, ps, by rw [upd_ne (ne_of em ek2 (fun z => nomatch z))]; exact em, od', Paired.imp pp fun _ _ q => by rw [upd_ne (ne_of q ek2 (fun z => nomatch z))]; exact q⟩, k'⟩
            refine ⟨_, _, al ++ [(z, t)], rfl, by rw [upd_ne ntl.symm]; exact el10, D10.own ntd nts, M11, A11, ?_, ?_, fun kv hk => ?_⟩
            · unfold Nd
              rw [List.map_append]
              refine List.nodup_append.mpr ⟨nd5, by simp, fun a ha b hb e => ?_⟩
              subst e
              have : a = z := by simpa using hb
              subst this
              exact get_dom.mp fz ha
            · rw [List.map_append, ks5, take_snoc ez]; rfl
            · rcases List.mem_append.mp hk with h | h
              · obtain ⟨c1, c2, c3⟩ := hv5 kv h
                exact ⟨c1, c2, by omega⟩
              · rw [List.mem_singleton.mp h]
                refine ⟨ht.wf, List.eq_nil_iff_forall_not_mem.mpr fun y hy => ?_, by have := ht.dp; show dep t ≤ _; omega⟩
                have := ht.vs y hy
                simp at this
        · intro σ H5 ⟨z5, z6, al, es, el, D5, M5, A5, nd5, ks5, hv5⟩
          subst es
          refine ⟨z5, z6, al, rfl, D5, M5, A5, nd5, ⟨fun z hz => ?_⟩, fun kv hk => ?_⟩
          · have zk : z ∈ al.map (·.1) := by rw [ks5]; exact hz
            obtain ⟨kv, hk, rfl⟩ := List.mem_map.mp zk
            obtain ⟨c1, c2, c3⟩ := hv5 kv hk
            have l5 : (W5.map V.str).length = 5 := rfl
            rw [l5] at c3
            exact ⟨kv.2, get_mem nd5 hk, c1, c2, by omega⟩
          · have zk : kv.1 ∈ W5 := by
              have := List.mem_map_of_mem (f := (·.1)) hk
              rw [ks5] at this
              exact this
            exact ⟨w5_ok _ zk, zk⟩
      · subst es
        refine ⟨_, rfl, _, rfl, _, rfl, d, sa, m, tr, mk, al, rfl, D5, M5, A5, T5, fun pq H6 xs st x6 D6 epq npd hP hT s4 => ?_⟩
        have M6 := M5.ex x6 D5.lst
        have A6 := A5.ex x6 D5.lst
        obtain ⟨N, r, mm, res, hrun, hR, hcase⟩ := both_ways hT s4
        have hDue : ∀ g, r = some g → Due mk st g := fun g e => by
          rcases hcase with ⟨e1, _⟩ | ⟨g', b, ρ, e1, _, _, D⟩
          · rw [e] at e1; cases e1
          · rw [e] at e1; cases e1; exact D
        refine ⟨fun σ H7 => ∃ vd, σ = [some (.ref a), some (.ref d), some (.ref m), some (.int (0 + (i : Int))), some (.ref tr), z5, z6, some (.ref pq), some vd, y9, y10, y11, none, none] ∧ Same H6 H7 ∧ Told H7 r vd, ?_, fun σ H7 ⟨vd, es, s7, hTd⟩ => ?_⟩
        · refine ⟨_, rfl, pq, mk, W5, xs, st, N, r, rfl, SqL.of epq, hP, by decide, start_LI hT s4, hrun, fun er H7 s7 => ⟨_, rfl, s7, .inl ⟨er, rfl⟩⟩, fun g er q7 H7 s7 hA7 => ⟨_, rfl, s7, .inr ⟨g, q7, er, rfl, hA7⟩⟩⟩
        subst es
        refine ⟨_, rfl, pq, xs, rfl, .inl (SqL.of (s7 _ _ epq)), fun hd hhd => ?_⟩
        have t8 := same_upd hhd (.lst xs)
        have s78 := s7.trans t8
        have ehd : (upd H7 hd (.lst xs)) hd = some (.lst xs) := upd_same
        have hTd8 := hTd.same t8
        generalize upd H7 hd (.lst xs) = H8 at *
        have k0 : res = none → (r.map fun g => TL g st) = none := fun er => by
          rcases hcase with ⟨e1, _⟩ | ⟨g', b2, ρ, _, e2, _⟩
          · rw [e1]; rfl
          · rw [er] at e2; cases e2
        have k1 : ∀ b, res = some b → ∃ g ρ, Sol g b ρ ∧ (∀ z, dep (fn g z) ≤ 96) ∧ (r.map fun g => TL g st) = some (TL g st) := fun b er => by
          rcases hcase with ⟨_, e2, _⟩ | ⟨g, b2, ρ, e1, e2, S, D⟩
          · rw [er] at e2; cases e2
          · rw [er] at e2
            cases e2
            exact ⟨g, ρ, S, D.dp, by rw [e1]; rfl⟩
        refine ⟨fun σ H9 => ∃ vt, σ = [some (.ref a), some (.ref d), some (.ref m), some (.int (0 + (i : Int))), some (.ref tr), z5, z6, some (.ref pq), some vd, some (.ref hd), some vt, y11, none, none] ∧ Same H8 H9 ∧ Told H9 (r.map fun g => TL g st) vt ∧ ∀ qt, vt = .ref qt → qt ≠ tr, ?_, fun σ H9 ⟨vt, es, s9, hTt, ntr⟩ => ?_⟩
        · refine ⟨_, rfl, hd, mk, W5, xs, st, mm, res, rfl, .inl (SqL.of ehd), hP.same s78, hT, by decide, by omega, hR, fun er H10 s10 => ⟨.non, rfl, s10, .inl ⟨k0 er, rfl⟩, fun qt e => nomatch e⟩, fun b' er => ?_⟩
          obtain ⟨g, ρ, S, dd, e1⟩ := k1 b' er
          have A8 := A6.same s78
          exact ⟨g, ρ, S, dd, fun q10 H10 s10 fq hA => ⟨.ref q10, rfl, s10, .inr ⟨TL g st, q10, e1, rfl, hA⟩, fun qt e => (by
            cases e
            obtain ⟨kv8, e8, _⟩ := A8
            exact fun q => by rw [q, e8] at fq; cases fq)⟩⟩
        subst es
        have s69 := s78.trans s9
        have hTd9 := hTd8.same s9
        have ehd9 := s9 _ _ ehd
        have epq9 := s69 _ _ epq
        have hP9 := hP.same s69
        have D9 := D6.same s69
        have M9 := M6.same s69
        have A9 := A6.same s69
        have noNe : ∀ {H10 : Hp} {v1 v2 : V} {Q9 : VK}, Told H10 (r.map fun g => TL g st) v1 → Told H10 r v2 → Q9 (.bl false) H10 → rNeSame v1 v2 H10 Q9 := by
          intro H10 v1 v2 Q9 h1 h2 k
          rcases h2 with ⟨er, rfl⟩ | ⟨g, q2, er, rfl, hA2⟩
          · rcases h1 with ⟨_, rfl⟩ | ⟨g, _, e, _⟩
            · exact .inl ⟨rfl, rfl, k⟩
            · rw [er] at e; cases e
          · rcases h1 with ⟨e, _⟩ | ⟨g', q1, e, rfl, hA1⟩
            · rw [er] at e; cases e
            · rw [er] at e
              cases e
              have Dg := hDue g er
              obtain ⟨ks, ls, e1, e2, el, hk⟩ := same_dicts hA1 hA2 Dg.tnd Dg.nd Dg.tl fun z => by have := Dg.dp z; omega
              exact .inr ⟨q1, q2, ks, ls, rfl, rfl, e1, e2, el, hk, k⟩
        refine ⟨fun σ H10 => σ = [some (.ref a), some (.ref d), some (.ref m), some (.int (0 + (i : Int))), some (.ref tr), z5, z6, some (.ref pq), some vd, some (.ref hd), some vt, y11, none, none] ∧ Same H9 H10, ?_, fun σ H10 ⟨es, s10⟩ => ?_⟩
        · refine ⟨_, rfl, _, rfl, noNe hTt hTd9 ⟨_, rfl, ite2 (fun c => absurd c (by decide)) (fun _ => ?_)⟩⟩
          refine ⟨_, rfl, _, rfl, .list (st.map pdOf), .list (st.map pdOf), .lst (SqL.of ehd9) hP9.dp, .lst (SqL.of epq9) hP9.dp, pd_deep hT hP9, pd_deep hT hP9, _, rfl, ite2 (fun c => absurd c (by simp only [PyData.eqv]; rw [pd_eqv]; decide)) (fun _ => ?_)⟩
          refine ⟨fun v H10 => Same H9 H10 ∧ Told H10 (r.map fun g => TL g st) v, ?_, fun v H10 ⟨s10, hv⟩ => ?_⟩
          · refine ⟨_, rfl, pq, xs, rfl, .inl ⟨SqL.of epq9, fun tp htp => ?_⟩⟩
            have t10 := same_upd htp (.tup xs)
            refine ⟨tp, mk, W5, xs, st, mm, res, rfl, .inr (.inl (.inl upd_same)), hP9.same t10, hT, by decide, by omega, hR, fun er H10 s10 => ⟨t10.trans s10, .inl ⟨k0 er, rfl⟩⟩, fun b' er => ?_⟩
            obtain ⟨g, ρ, S, dd, e1⟩ := k1 b' er
            exact ⟨g, ρ, S, dd, fun q10 H10 s10 _ hA => ⟨t10.trans s10, .inr ⟨TL g st, q10, e1, rfl, hA⟩⟩⟩
          · refine ⟨_, rfl, noNe hv (hTd9.same s10) ⟨_, rfl, ite2 (fun c => absurd c (by decide)) (fun _ => ?_)⟩⟩
            refine ⟨_, rfl, rfl, _, rfl, ?_⟩
            rcases hTt with ⟨_, rfl⟩ | ⟨tl, qt, _, rfl, hAt⟩
            · exact ite2 (fun c => absurd c (by simp)) (fun _ => iteF ⟨rfl, s10⟩)
            · refine ite2 (fun _ => ?_) (fun c => absurd (by simp) c)
              obtain ⟨kt, et, _⟩ := hAt.same s10
              exact ⟨_, rfl, _, _, _, _, true, rfl, .ty _, .base (.dK et), kit_ty (by decide +kernel), _, rfl, iteF ⟨rfl, s10⟩⟩
        subst es
        have s610 := s69.trans s10
        have epq10 := s10 _ _ epq9
        have hP10 := hP9.same s10
        have A10 := A9.same s10
        have hTt10 := hTt.same s10
        have D10 := D9.same s10
        have M10 := M9.same s10
        refine ⟨fun σ H11 => ∃ fb, σ = [some (.ref a), some (.ref d), some (.ref m), some (.int (0 + (i : Int))), some (.ref tr), z5, z6, some (.ref pq), some vd, some (.ref hd), some vt, some (.bl fb), none, none] ∧ Same H10 H11 ∧ (fb = true ↔ Uni (fn al) st), ?_, fun σ H11 ⟨fb, es, s11, hfb⟩ => ?_⟩
        · refine ⟨_, rfl, pq, rfl, ⟨_, SqL.of epq10⟩, fun D hD => ?_⟩
          refine lc_list (K := K) (a := pq) (xs := xs) (fun j H11 => Same H10 H11 ∧ H11 D = some (.lst (((st.take j).map (sameUnder (fn al))).map V.bl))) ?_ ?_ ?_ ?_
          · exact ⟨same_upd hD _, upd_same⟩
          · exact fun j H11 _ ⟨s11, _⟩ => SqL.of (s11 _ _ epq10)
          · intro j x H11 hx ⟨s11, eD⟩
            obtain ⟨pr, epr, qa, va, vb, rfl, eq, hIa, hIb⟩ := pair_at hP10 hx
            have hm := List.mem_of_getElem? epr
            obtain ⟨tp, tq⟩ := hT pr hm
            have j4 : j < st.length := (List.getElem?_eq_some_iff.mp epr).1
            have p1 := T5.put (t := pr.1) ⟨tp.wf, tp.dp, tp.sz, tp.vs⟩
            have p2 := T5.put (t := pr.2) ⟨tq.wf, tq.dp, tq.sz, tq.vs⟩
            refine ⟨qa, _, rfl, .inl (.inl (s11 _ _ eq)), rfl, _, _, rfl, _, _, rfl, rfl, rfl, yes_if ?_⟩
            refine ⟨_, rfl, _, rfl, tr, mk, va, pr.1, al, rfl, (A10.same s11).r, hIa.same s11, tp.wf, by have := tp.dp; omega, fun v1 H12 s12 h1 => ?_⟩
            refine ⟨_, rfl, _, rfl, tr, mk, vb, pr.2, al, rfl, ((A10.same s11).same s12).r, (hIb.same s11).same s12, tq.wf, by have := tq.dp; omega, fun v2 H13 s13 h2 => ?_⟩
            refine ⟨toD (psub al pr.1), toD (psub al pr.2), (h1.same s13).dp, h2.dp, deep_dep (by omega) h1, deep_dep (by omega) h2, ?_⟩
            refine ⟨_, (s12.trans s13) _ _ eD, by rw [List.length_map, List.length_map, List.length_take]; exact small1000 (by omega), Kx.Same.own (s11.trans (s12.trans s13)) hD _, ?_⟩
            rw [upd_same, take_snoc epr, List.map_append, List.map_append]; rfl
          · intro H11 ⟨s11, eD⟩
            rw [pair_len hP10, List.take_length] at eD
            refine ⟨D, _, rfl, SqL.of eD, ?_⟩
            exact ⟨_, rfl, s11, all_same⟩
        subst es
        have s611 := s610.trans s11
        have epq11 := s11 _ _ epq10
        have hP11 := hP10.same s11
        have A11 := A10.same s11
        have hTt11 := hTt10.same s11
        have D11 := D10.same s11
        have M11 := M10.same s11
        refine ⟨_, rfl, rfl, _, rfl, ?_⟩
        rcases hTt11 with ⟨er, rfl⟩ | ⟨tl, qt, er, rfl, hAt⟩
        · have r0 : r = none := by cases r with | none => rfl | some g => cases er
          have nU : ∀ θ, ¬ Uni θ st := by
            rcases hcase with ⟨_, _, h⟩ | ⟨g, b, ρ, e1, _⟩
            · exact h
            · rw [r0] at e1; cases e1
          refine ite2 (fun _ => ?_) (fun c => absurd (by simp) c)
          refine ⟨_, rfl, fb, rfl, ite2 (fun c => absurd (hfb.mp c) (nU _)) (fun _ => ?_)⟩
          exact ⟨_, _, _, _, _, _, _, _, _, rfl, D11, M11⟩
        · obtain ⟨g, hg, rfl⟩ : ∃ g, r = some g ∧ TL g st = tl := by
            cases r with
            | none => cases er
            | some g => exact ⟨g, rfl, by cases er; rfl⟩
          have Dg := hDue g hg
          have fnT : fn (TL g st) = fn g := funext fun z => by unfold fn; rw [Dg.tl]
          refine ite2 (fun c => absurd c (by simp)) (fun _ => ?_)
          have psT : ∀ t, psub (TL g st) t = sub (fn g) t := fun t => by unfold psub; rw [fnT]
          have dG : ∀ {t : PV}, TOk mk W5 t → dep (sub (fn g) t) ≤ 111 := fun {t} h => by
            have := dep_sub (σ := fn g) (c := 96) (by omega) (t := t) fun y _ => Dg.dp y
            have := h.dp
            omega
          refine ⟨_, rfl, pq, rfl, ⟨_, SqL.of epq11⟩, fun D hD => ?_⟩
          refine lc_list (K := K) (a := pq) (xs := xs) (fun j H12 => Same H11 H12 ∧ H12 D = some (.lst (((st.take j).map (sameUnder (fn g))).map V.bl))) ?_ ?_ ?_ ?_
          · exact ⟨same_upd hD _, upd_same⟩
          · exact fun j H12 _ ⟨s12, _⟩ => SqL.of (s12 _ _ epq11)
          · intro j x H12 hx ⟨s12, eD⟩
            obtain ⟨pr, epr, qa, va, vb, rfl, eq, hIa, hIb⟩ := pair_at hP11 hx
            have hm := List.mem_of_getElem? epr
            obtain ⟨tp, tq⟩ := hT pr hm
            have j4 : j < st.length := (List.getElem?_eq_some_iff.mp epr).1
            refine ⟨qa, _, rfl, .inl (.inl (s12 _ _ eq)), rfl, _, _, rfl, _, _, rfl, rfl, rfl, yes_if ?_⟩
            refine ⟨_, rfl, _, rfl, qt, mk, va, pr.1, TL g st, rfl, (hAt.same s12).r, hIa.same s12, tp.wf, by have := tp.dp; omega, fun v1 H13 s13 h1 => ?_⟩
            refine ⟨_, rfl, _, rfl, qt, mk, vb, pr.2, TL g st, rfl, ((hAt.same s12).same s13).r, (hIb.same s12).same s13, tq.wf, by have := tq.dp; omega, fun v2 H14 s14 h2 => ?_⟩
            rw [psT] at h1 h2
            refine ⟨toD (sub (fn g) pr.1), toD (sub (fn g) pr.2), (h1.same s14).dp, h2.dp, deep_dep (by have := dG tp; omega) h1, deep_dep (by have := dG tq; omega) h2, ?_⟩
            refine ⟨_, (s13.trans s14) _ _ eD, by rw [List.length_map, List.length_map, List.length_take]; exact small1000 (by omega), Kx.Same.own (s12.trans (s13.trans s14)) hD _, ?_⟩
            rw [upd_same, take_snoc epr, List.map_append, List.map_append]; rfl
          · intro H12 ⟨s12, eD⟩
            rw [pair_len hP11, List.take_length] at eD
            refine ⟨D, _, rfl, SqL.of eD, _, rfl, ?_⟩
            refine ite2 (fun c => absurd c (by rw [all_same.mpr Dg.uni]; decide)) (fun _ => ?_)
            have A12 := A11.same s12
            have hAt12 := hAt.same s12
            have D12 := D11.same s12
            have M12 := M11.same s12
            have ntr' := ntr qt rfl
            refine ⟨fun σ H13 => σ = [some (.ref a), some (.ref d), some (.ref m), some (.int (0 + (i : Int))), some (.ref tr), z5, z6, some (.ref pq), some vd, some (.ref hd), some (.ref qt), some (.bl fb), none, none] ∧ Dr H13 d sa ∧ Mk H13 m mk ∧ AsD H13 qt (TL g st), ?_, fun σ H13 ⟨es, D13, M13, hAt13⟩ => ?_⟩
            · refine ⟨_, rfl, fb, rfl, ite2 (fun cf => ?_) (fun _ => iteF ⟨rfl, D12, M12, hAt12⟩)⟩
              have hall := Dg.all _ (hfb.mp cf)
              obtain ⟨kvs, ek, pr⟩ := id A12
              have lkv := Paired.length pr
              refine ⟨tr, _, ek, trivial, fun od => ?_⟩
              refine ⟨_, rfl, tr, od, rfl, .inl ⟨kvs, upd_same, fun E hE => ?_⟩⟩
              have nEt : E ≠ tr := fun e => by rw [e, upd_same] at hE; cases hE
              have fE : H12 E = none := by rw [upd_ne nEt] at hE; exact hE
              have isD12 : isD H12 tr := ⟨_, ek⟩
              have up : ∀ {H14 : Hp}, ExD tr H12 H14 → ∀ {v t}, Is H12 v t → Is H14 v t := fun x => fun hh => hh.exD x isD12
              obtain ⟨kvt, ekt, prt⟩ := id hAt12
              refine L2.lc_it walk_keys (fun k H14 => ExD tr H12 H14 ∧ H14 tr = some (.frz od (.dK kvs)) ∧ H14 E = some (.lst ((List.replicate k true).map V.bl))) ?_ ?_ ?_ ?_
              · refine ⟨fun b o nb e => ?_, by rw [upd_ne nEt.symm, upd_same], upd_same⟩
                rw [upd_ne (ne_of_none e fE), upd_ne nb]; exact e
              · exact fun k H14 _ ⟨_, e, _⟩ => e
              · intro k x H14 H14' hk ⟨x14, e14, eE⟩ ⟨eH, key, v, ekv, ex⟩
                subst eH ex
                obtain ⟨⟨zz, u⟩, eu, ekz, hIu⟩ := pair_at pr ekv
                simp only at ekz hIu
                subst ekz
                have lal : al.length ≤ 5 := by
                  have := nodup_len nd5 (W := W5) fun z hz => by
                    obtain ⟨kv, hk, rfl⟩ := List.mem_map.mp hz
                    exact (K5 kv hk).2
                  rw [List.length_map] at this
                  exact this
                have kz := (K5 _ (List.mem_of_getElem? eu)).1
                have zW := (K5 _ (List.mem_of_getElem? eu)).2
                simp only at kz zW
                have gz := get_mem nd5 (List.mem_of_getElem? eu)
                have fz : fn al zz = u := by unfold fn; rw [gz]; rfl
                have du : dep u ≤ 12 := by
                  obtain ⟨u', e', _, _, c⟩ := T5.has zz zW
                  rw [gz] at e'
                  cases e'
                  exact c
                obtain ⟨vg, e3, hIg⟩ : ∃ vg, valV kvs (Sum.inr zz) = some vg ∧ Is H12 vg u := by
                  rcases pair_val zz pr with ⟨_, b⟩ | ⟨v', t', c1, c2, c3⟩
                  · rw [gz] at b; cases b
                  · rw [gz] at c2; cases c2; exact ⟨v', c1, c3⟩
                refine ⟨rfl, yes_if ?_⟩
                have hR14 : AsR H14' qt (TL g st) := ⟨kvt, .inl (x14 _ _ ntr' ekt), Paired.imp prt fun _ _ ⟨q1, y⟩ => ⟨q1, up x14 y⟩⟩
                refine ⟨_, rfl, _, rfl, qt, mk, .str zz, .str zz, TL g st, rfl, hR14, .str zz kz, trivial, by simp [dep], fun v1 H15 s15 h1 => ?_⟩
                rw [psT] at h1
                have e15 := s15 _ _ e14
                have x15 : ExD tr H12 H15 := x14.trans (.of s15)
                have hR15 : AsR H15 tr al := ⟨kvs, .inr ⟨od, e15⟩, Paired.imp pr fun _ _ ⟨q1, y⟩ => ⟨q1, up x15 y⟩⟩
                refine ⟨_, rfl, tr, mk, v1, fn g zz, al, rfl, hR15, h1, Dg.good.wf zz, by have := Dg.dp zz; omega, fun v2 H16 s16 h2 => ?_⟩
                have im : psub al (fn g zz) = u := by
                  show sub (fn al) (fn g zz) = u
                  rw [hall zz, fz]
                rw [im] at h2
                have e16 := s16 _ _ e15
                have x16 := x15.trans (ExD.of (f := tr) s16)
                have g1 := lock_get e16 zz
                rw [e3] at g1
                refine ⟨_, rfl, _, rfl, tr, vg, rfl, g1, toD u, toD u, h2.dp, (up x16 hIg).dp, deep_dep (by omega) h2, deep_dep (by omega) h2, ?_⟩
                refine ⟨_, (s15.trans s16) _ _ eE, by rw [List.length_map, List.length_replicate]; exact small1000 (by omega), fun b o nb e => ?_, by rw [upd_ne nEt.symm]; exact e16, ?_⟩
                · rw [upd_ne (ne_of_none e fE)]; exact x16 _ _ nb e
                · rw [upd_same, eqv_self, List.replicate_succ', List.map_append]; rfl
              · intro H14 ⟨x14, e14, eE⟩
                refine ⟨e14, ?_⟩
                have sU : Same H12 (upd H14 tr (.dK kvs)) := fun b o e => by
                  by_cases h : b = tr
                  · subst h; rw [upd_same, ← e, ek]
                  · rw [upd_ne h]; exact x14 _ _ h e
                have eEU : (upd H14 tr (.dK kvs)) E = some (.lst ((List.replicate kvs.length true).map V.bl)) := by rw [upd_ne nEt]; exact eE
                refine ⟨E, _, rfl, SqL.of eEU, _, rfl, ?_⟩
                refine ite2 (fun c => absurd c (by simp)) (fun _ => ⟨rfl, D12.same sU, M12.same sU, hAt12.same sU⟩)
            · subst es
              obtain ⟨kvt, ekt, prt⟩ := id hAt13
              have lkt := Paired.length prt
              refine ⟨qt, _, ekt, trivial, fun od => ?_⟩
              refine ⟨_, rfl, qt, od, rfl, .inl ⟨kvt, upd_same, ?_⟩⟩
              have isD13 : isD H13 qt := ⟨_, ekt⟩
              refine L2.for_it walk_keys (fun k σ H14 => ∃ y5, σ = [some (.ref a), some (.ref d), some (.ref m), some (.int (0 + (i : Int))), some (.ref tr), y5, z6, some (.ref pq), some vd, some (.ref hd), some (.ref qt), some (.bl fb), none, none] ∧ ExD qt H13 H14 ∧ H14 qt = some (.frz od (.dK kvt))) ?_ ?_ ?_ ?_
              · exact ⟨z5, rfl, fun b o nb e => by rw [upd_ne nb]; exact e, upd_same⟩
              · exact fun k σ H14 _ ⟨_, _, _, e⟩ => e
              · intro k x σ H14 H14' hk ⟨y5', es, x14, e14⟩ ⟨eH, key, v, ekv, ex⟩
                subst es eH ex
                obtain ⟨⟨zz, u⟩, eu, ekz, hIu⟩ := pair_at prt ekv
                simp only at ekz hIu
                subst ekz
                have gz := get_mem Dg.tnd (List.mem_of_getElem? eu)
                rw [Dg.tl] at gz
                have fz : fn g zz = u := by unfold fn; rw [gz]; rfl
                have zW : zz ∈ W5 := by
                  by_cases c : zz ∈ g.map (·.1)
                  · exact Dg.fv.1 zz c
                  · rw [get_dom.mpr c] at gz; cases gz
                obtain ⟨vg, e3, hIg⟩ : ∃ vg, valV kvt (Sum.inr zz) = some vg ∧ Is H13 vg u := by
                  rcases pair_val zz prt with ⟨_, b⟩ | ⟨v', t', c1, c2, c3⟩
                  · rw [Dg.tl, gz] at b; cases b
                  · rw [Dg.tl, gz] at c2; cases c2; exact ⟨v', c1, c3⟩
                have g1 := lock_get e14 zz
                rw [e3] at g1
                have wu : Wf mk u := by rw [← fz]; exact Dg.good.wf zz
                have vu : ∀ y ∈ lv u, y ∈ W5 := by rw [← fz]; exact Dg.fv.2 zz zW
                have du : dep u ≤ 111 := by rw [← fz]; have := Dg.dp zz; omega
                refine ⟨_, rfl, _, rfl, qt, vg, rfl, g1, mk, W5, vg, u, rfl, hIg.exD x14 isD13, wu, du, vu, by decide, fun na H15 ns s15 en nd15 hm15 => ⟨na, rfl, ⟨_, SqL.of en⟩, fun E hE => ?_⟩⟩
                have e15 := s15 _ _ e14
                refine lc_list (K := K) (a := na) (xs := ns.map V.str) (fun j H16 => Same H15 H16 ∧ H16 E = some (.lst [])) ?_ ?_ ?_ ?_
                · exact ⟨same_upd hE _, upd_same⟩
                · exact fun j H16 _ ⟨s16, _⟩ => SqL.of (s16 _ _ en)
                · intro j x1 H16 hx1 ⟨s16, eE⟩
                  rw [List.getElem?_map] at hx1
                  obtain ⟨y, ey, rfl⟩ : ∃ y, ns[j]? = some y ∧ V.str y = x1 := by
                    cases e : ns[j]? with
                    | none => rw [e] at hx1; cases hx1
                    | some y => rw [e] at hx1; exact ⟨y, rfl, Option.some.inj hx1⟩
                  have yu := (hm15 y).mp (List.mem_of_getElem? ey)
                  rw [← fz] at yu
                  have fy : get g y = none := Dg.good.idem zz y yu
                  have g2 := lock_get (s16 _ _ e15) y
                  have vy : valV kvt (Sum.inr y) = none := by
                    rcases pair_val y prt with ⟨c, _⟩ | ⟨v', t', c1, c2, c3⟩
                    · exact c
                    · rw [Dg.tl, fy] at c2; cases c2
                  rw [vy] at g2
                  exact ⟨rfl, _, rfl, _, rfl, qt, none, rfl, g2, _, rfl, iteF ⟨s16, eE⟩⟩
                · intro H16 ⟨s16, eE⟩
                  refine ⟨(by show 0 ≤ sizeLine; decide), fun F hF => ?_⟩
                  have t17 := same_upd hF (.lst [])
                  have s17 := s15.trans (s16.trans t17)
                  refine ⟨.list [], .list [], .lst (SqL.of (t17 _ _ eE)) .nil, .lst (SqL.of upd_same) .nil, by decide +kernel, by decide +kernel, _, rfl, ite2 (fun c => absurd c (by decide +kernel)) (fun _ => ?_)⟩
                  exact ⟨_, rfl, x14.trans (.of s17), s17 _ _ e14⟩
              · intro σ H14 ⟨y5', es, x14, e14⟩
                subst es
                refine ⟨e14, ?_⟩
                have sU : Same H13 (upd H14 qt (.dK kvt)) := fun b o e => by
                  by_cases h : b = qt
                  · subst h; rw [upd_same, ← e, ekt]
                  · rw [upd_ne h]; exact x14 _ _ h e
                exact ⟨_, _, _, _, _, _, _, _, _, rfl, D13.same sU, M13.same sU⟩
    · intro σ H3 ⟨_, _, _, _, _, _, _, _, _, es, _, _⟩
      subst es
      exact q H3
end
end Kx
/-! The end: the program's top leaves the defs where the text says. -/
namespace Kx
open PySem L2
theorem all_mk {l : PySem.W.OpenLaw} {w : World} {K : PySem.W.Frag} {h : Heap} {mg : Str → Option Value} {fa f0 f1 f2 f3 f4 f5 f6 f7 f8 f9 f10 f11 f12 f13 f14 f15 f16 f17 f18 f19 f20 : Addr} (X : K.In h) (G : h.Ns mainGlobals mg) (hfa : mg "law" = some (.ref fa))
    {od0 an0 od1 an1 od2 an2 od3 an3 od4 an4 od5 an5 od6 an6 od7 an7 od8 an8 od9 an9 od10 an10 od11 an11 od12 an12 od13 an13 od14 an14 od15 an15 od16 an16 od17 an17 od18 an18 od19 an19 od20 an20 : Option Addr} {sl0 sl1 sl2 sl3 sl4 sl5 sl6 sl7 sl8 sl9 sl10 sl11 sl12 sl13 sl14 sl15 sl16 sl17 sl18 sl19 sl20 : Array (Option Value)} {oc0 kV0 dc0 pm0 cd0 ct0 oc1 kV1 dc1 pm1 cd1 ct1 oc2 kV2 dc2 pm2 cd2 ct2 oc3 kV3 dc3 pm3 cd3 ct3 oc4 kV4 dc4 pm4 cd4 ct4 oc5 kV5 dc5 pm5 cd5 ct5 oc6 kV6 dc6 pm6 cd6 ct6 oc7 kV7 dc7 pm7 cd7 ct7 oc8 kV8 dc8 pm8 cd8 ct8 oc9 kV9 dc9 pm9 cd9 ct9 oc10 kV10 dc10 pm10 cd10 ct10 oc11 kV11 dc11 pm11 cd11 ct11 oc12 kV12 dc12 pm12 cd12 ct12 oc13 kV13 dc13 pm13 cd13 ct13 oc14 kV14 dc14 pm14 cd14 ct14 oc15 kV15 dc15 pm15 cd15 ct15 oc16 kV16 dc16 pm16 cd16 ct16 oc17 kV17 dc17 pm17 cd17 ct17 oc18 kV18 dc18 pm18 cd18 ct18 oc19 kV19 dc19 pm19 cd19 ct19 oc20 kV20 dc20 pm20 cd20 ct20 : Value}
    (a0 : PySem.W.nsIn K mainGlobals "names_of" = some (some (.ref f0))) (l0 : K.lookup f0 = some ⟨oc0, od0, .func (PySem.W.fnOf "names_of" "names_of" (defArgs s_names_of) (defBody s_names_of) (defScope s_names_of) .none kV0 dc0 pm0 an0 cd0 ct0), sl0⟩) (c0 : PySem.W.codeIn K cd0 "names_of" = true) (k0 : PySem.W.keepIn K (.ref f0) = true)
    (a1 : PySem.W.nsIn K mainGlobals "put" = some (some (.ref f1))) (l1 : K.lookup f1 = some ⟨oc1, od1, .func (PySem.W.fnOf "put" "put" (defArgs s_put) (defBody s_put) (defScope s_put) .none kV1 dc1 pm1 an1 cd1 ct1), sl1⟩) (c1 : PySem.W.codeIn K cd1 "put" = true) (k1 : PySem.W.keepIn K (.ref f1) = true)
    (a2 : PySem.W.nsIn K mainGlobals "unified" = some (some (.ref f2))) (l2 : K.lookup f2 = some ⟨oc2, od2, .func (PySem.W.fnOf "unified" "unified" (defArgs s_unified) (defBody s_unified) (defScope s_unified) .none kV2 dc2 pm2 an2 cd2 ct2), sl2⟩) (c2 : PySem.W.codeIn K cd2 "unified" = true) (k2 : PySem.W.keepIn K (.ref f2) = true)
    (a3 : PySem.W.nsIn K mainGlobals "_followed" = some (some (.ref f3))) (l3 : K.lookup f3 = some ⟨oc3, od3, .func (PySem.W.fnOf "_followed" "_followed" (defArgs s_followed) (defBody s_followed) (defScope s_followed) .none kV3 dc3 pm3 an3 cd3 ct3), sl3⟩) (c3 : PySem.W.codeIn K cd3 "_followed" = true) (k3 : PySem.W.keepIn K (.ref f3) = true)
    (a4 : PySem.W.nsIn K mainGlobals "_bind" = some (some (.ref f4))) (l4 : K.lookup f4 = some ⟨oc4, od4, .func (PySem.W.fnOf "_bind" "_bind" (defArgs s_bind) (defBody s_bind) (defScope s_bind) .none kV4 dc4 pm4 an4 cd4 ct4), sl4⟩) (c4 : PySem.W.codeIn K cd4 "_bind" = true) (k4 : PySem.W.keepIn K (.ref f4) = true)
    (a5 : PySem.W.nsIn K mainGlobals "_occurs" = some (some (.ref f5))) (l5 : K.lookup f5 = some ⟨oc5, od5, .func (PySem.W.fnOf "_occurs" "_occurs" (defArgs s_occurs) (defBody s_occurs) (defScope s_occurs) .none kV5 dc5 pm5 an5 cd5 ct5), sl5⟩) (c5 : PySem.W.codeIn K cd5 "_occurs" = true) (k5 : PySem.W.keepIn K (.ref f5) = true)
    (a6 : PySem.W.nsIn K mainGlobals "_told" = some (some (.ref f6))) (l6 : K.lookup f6 = some ⟨oc6, od6, .func (PySem.W.fnOf "_told" "_told" (defArgs s_told) (defBody s_told) (defScope s_told) .none kV6 dc6 pm6 an6 cd6 ct6), sl6⟩) (c6 : PySem.W.codeIn K cd6 "_told" = true) (k6 : PySem.W.keepIn K (.ref f6) = true)
    (a7 : PySem.W.nsIn K mainGlobals "whole" = some (some (.ref f7))) (l7 : K.lookup f7 = some ⟨oc7, od7, .func (PySem.W.fnOf "whole" "whole" (defArgs s_whole) (defBody s_whole) (defScope s_whole) .none kV7 dc7 pm7 an7 cd7 ct7), sl7⟩) (c7 : PySem.W.codeIn K cd7 "whole" = true) (k7 : PySem.W.keepIn K (.ref f7) = true)
    (a8 : PySem.W.nsIn K mainGlobals "_law_draws" = some (some (.ref f8))) (l8 : K.lookup f8 = some ⟨oc8, od8, .func (PySem.W.fnOf "_law_draws" "_law_draws" (defArgs s_law_draws) (defBody s_law_draws) (defScope s_law_draws) .none kV8 dc8 pm8 an8 cd8 ct8), sl8⟩) (c8 : PySem.W.codeIn K cd8 "_law_draws" = true) (k8 : PySem.W.keepIn K (.ref f8) = true)
    (a9 : PySem.W.nsIn K mainGlobals "_law_draw" = some (some (.ref f9))) (l9 : K.lookup f9 = some ⟨oc9, od9, .func (PySem.W.fnOf "_law_draw" "_law_draw" (defArgs s_law_draw) (defBody s_law_draw) (defScope s_law_draw) .none kV9 dc9 pm9 an9 cd9 ct9), sl9⟩) (c9 : PySem.W.codeIn K cd9 "_law_draw" = true) (k9 : PySem.W.keepIn K (.ref f9) = true)
    (a10 : PySem.W.nsIn K mainGlobals "_law_pick" = some (some (.ref f10))) (l10 : K.lookup f10 = some ⟨oc10, od10, .func (PySem.W.fnOf "_law_pick" "_law_pick" (defArgs s_law_pick) (defBody s_law_pick) (defScope s_law_pick) .none kV10 dc10 pm10 an10 cd10 ct10), sl10⟩) (c10 : PySem.W.codeIn K cd10 "_law_pick" = true) (k10 : PySem.W.keepIn K (.ref f10) = true)
    (a11 : PySem.W.nsIn K mainGlobals "_law_makers" = some (some (.ref f11))) (l11 : K.lookup f11 = some ⟨oc11, od11, .func (PySem.W.fnOf "_law_makers" "_law_makers" (defArgs s_law_makers) (defBody s_law_makers) (defScope s_law_makers) .none kV11 dc11 pm11 an11 cd11 ct11), sl11⟩) (c11 : PySem.W.codeIn K cd11 "_law_makers" = true) (k11 : PySem.W.keepIn K (.ref f11) = true)
    (a12 : PySem.W.nsIn K mainGlobals "_law_term" = some (some (.ref f12))) (l12 : K.lookup f12 = some ⟨oc12, od12, .func (PySem.W.fnOf "_law_term" "_law_term" (defArgs s_law_term) (defBody s_law_term) (defScope s_law_term) .none kV12 dc12 pm12 an12 cd12 ct12), sl12⟩) (c12 : PySem.W.codeIn K cd12 "_law_term" = true) (k12 : PySem.W.keepIn K (.ref f12) = true)
    (a13 : PySem.W.nsIn K mainGlobals "_law_put" = some (some (.ref f13))) (l13 : K.lookup f13 = some ⟨oc13, od13, .func (PySem.W.fnOf "_law_put" "_law_put" (defArgs s_law_put) (defBody s_law_put) (defScope s_law_put) .none kV13 dc13 pm13 an13 cd13 ct13), sl13⟩) (c13 : PySem.W.codeIn K cd13 "_law_put" = true) (k13 : PySem.W.keepIn K (.ref f13) = true)
    (a14 : PySem.W.nsIn K mainGlobals "_law_names" = some (some (.ref f14))) (l14 : K.lookup f14 = some ⟨oc14, od14, .func (PySem.W.fnOf "_law_names" "_law_names" (defArgs s_law_names) (defBody s_law_names) (defScope s_law_names) .none kV14 dc14 pm14 an14 cd14 ct14), sl14⟩) (c14 : PySem.W.codeIn K cd14 "_law_names" = true) (k14 : PySem.W.keepIn K (.ref f14) = true)
    (a15 : PySem.W.nsIn K mainGlobals "_law_put_in" = some (some (.ref f15))) (l15 : K.lookup f15 = some ⟨oc15, od15, .func (PySem.W.fnOf "_law_put_in" "_law_put_in" (defArgs s_law_put_in) (defBody s_law_put_in) (defScope s_law_put_in) .none kV15 dc15 pm15 an15 cd15 ct15), sl15⟩) (c15 : PySem.W.codeIn K cd15 "_law_put_in" = true) (k15 : PySem.W.keepIn K (.ref f15) = true)
    (a16 : PySem.W.nsIn K mainGlobals "_law_unified" = some (some (.ref f16))) (l16 : K.lookup f16 = some ⟨oc16, od16, .func (PySem.W.fnOf "_law_unified" "_law_unified" (defArgs s_law_unified) (defBody s_law_unified) (defScope s_law_unified) .none kV16 dc16 pm16 an16 cd16 ct16), sl16⟩) (c16 : PySem.W.codeIn K cd16 "_law_unified" = true) (k16 : PySem.W.keepIn K (.ref f16) = true)
    (a17 : PySem.W.nsIn K mainGlobals "_law_hidden" = some (some (.ref f17))) (l17 : K.lookup f17 = some ⟨oc17, od17, .func (PySem.W.fnOf "_law_hidden" "_law_hidden" (defArgs s_law_hidden) (defBody s_law_hidden) (defScope s_law_hidden) .none kV17 dc17 pm17 an17 cd17 ct17), sl17⟩) (c17 : PySem.W.codeIn K cd17 "_law_hidden" = true) (k17 : PySem.W.keepIn K (.ref f17) = true)
    (a18 : PySem.W.nsIn K mainGlobals "_law_size" = some (some (.ref f18))) (l18 : K.lookup f18 = some ⟨oc18, od18, .func (PySem.W.fnOf "_law_size" "_law_size" (defArgs s_law_size) (defBody s_law_size) (defScope s_law_size) .none kV18 dc18 pm18 an18 cd18 ct18), sl18⟩) (c18 : PySem.W.codeIn K cd18 "_law_size" = true) (k18 : PySem.W.keepIn K (.ref f18) = true)
    (a19 : PySem.W.nsIn K mainGlobals "_law_pairs" = some (some (.ref f19))) (l19 : K.lookup f19 = some ⟨oc19, od19, .func (PySem.W.fnOf "_law_pairs" "_law_pairs" (defArgs s_law_pairs) (defBody s_law_pairs) (defScope s_law_pairs) .none kV19 dc19 pm19 an19 cd19 ct19), sl19⟩) (c19 : PySem.W.codeIn K cd19 "_law_pairs" = true) (k19 : PySem.W.keepIn K (.ref f19) = true)
    (a20 : PySem.W.nsIn K mainGlobals "law" = some (some (.ref f20))) (l20 : K.lookup f20 = some ⟨oc20, od20, .func (PySem.W.fnOf "law" "law" (defArgs s_law) (defBody s_law) (defScope s_law) .none kV20 dc20 pm20 an20 cd20 ct20), sl20⟩) (c20 : PySem.W.codeIn K cd20 "law" = true) (k20 : PySem.W.keepIn K (.ref f20) = true)
    (z0 : PySem.W.nsIn K mainGlobals "isinstance" = some none)
    (z1 : PySem.W.nsIn K mainGlobals "tuple" = some none)
    (z2 : PySem.W.nsIn K mainGlobals "str" = some none)
    (z3 : PySem.W.nsIn K mainGlobals "list" = some none)
    (z4 : PySem.W.nsIn K mainGlobals "zip" = some none)
    (z5 : PySem.W.nsIn K mainGlobals "max" = some none)
    (z6 : PySem.W.nsIn K mainGlobals "min" = some none)
    (z7 : PySem.W.nsIn K mainGlobals "len" = some none)
    (z8 : PySem.W.nsIn K mainGlobals "abs" = some none)
    (z9 : PySem.W.nsIn K mainGlobals "int" = some none)
    (z10 : PySem.W.nsIn K mainGlobals "range" = some none)
    (z11 : PySem.W.nsIn K mainGlobals "sum" = some none)
    (z12 : PySem.W.nsIn K mainGlobals "dict" = some none)
    (z13 : PySem.W.nsIn K mainGlobals "all" = some none)
    : ∃ fd : FuncData, (∀ (s : Shared) (v : Value), BindsTo s fd ⟨[v], []⟩ [("script", v)]) ∧ ∀ base : Heap, K.In base → base.Ns mainGlobals mg → FnOk l.prog w K mg base CX0 120 fa fd ["script"] (spLaw K) := by
  have e := hfa.symm.trans (PySem.W.mg_of X G a20)
  cases e
  let T : Txt K mg := {
    a_names_of := f0, d_names_of := _, F_names_of := fun_mk (st := s_names_of) l0 c0 k0, b_names_of := (fun_mk (st := s_names_of) l0 c0 k0).binds (ps := ["term"]) (fun _ _ _ _ _ _ us hl => match us, hl with | [_], _ => rfl), m_names_of := PySem.W.mg_of X G a0,
    a_put := f1, d_put := _, F_put := fun_mk (st := s_put) l1 c1 k1, b_put := (fun_mk (st := s_put) l1 c1 k1).binds (ps := ["term", "assignment"]) (fun _ _ _ _ _ _ us hl => match us, hl with | [_, _], _ => rfl), m_put := PySem.W.mg_of X G a1,
    a_unified := f2, d_unified := _, F_unified := fun_mk (st := s_unified) l2 c2 k2, b_unified := (fun_mk (st := s_unified) l2 c2 k2).binds (ps := ["pairs"]) (fun _ _ _ _ _ _ us hl => match us, hl with | [_], _ => rfl), m_unified := PySem.W.mg_of X G a2,
    a_followed := f3, d_followed := _, F_followed := fun_mk (st := s_followed) l3 c3 k3, b_followed := (fun_mk (st := s_followed) l3 c3 k3).binds (ps := ["term", "bound"]) (fun _ _ _ _ _ _ us hl => match us, hl with | [_, _], _ => rfl), m_followed := PySem.W.mg_of X G a3,
    a_bind := f4, d_bind := _, F_bind := fun_mk (st := s_bind) l4 c4 k4, b_bind := (fun_mk (st := s_bind) l4 c4 k4).binds (ps := ["name", "term", "bound"]) (fun _ _ _ _ _ _ us hl => match us, hl with | [_, _, _], _ => rfl), m_bind := PySem.W.mg_of X G a4,
    a_occurs := f5, d_occurs := _, F_occurs := fun_mk (st := s_occurs) l5 c5 k5, b_occurs := (fun_mk (st := s_occurs) l5 c5 k5).binds (ps := ["name", "term", "bound"]) (fun _ _ _ _ _ _ us hl => match us, hl with | [_, _, _], _ => rfl), m_occurs := PySem.W.mg_of X G a5,
    a_told := f6, d_told := _, F_told := fun_mk (st := s_told) l6 c6 k6, b_told := (fun_mk (st := s_told) l6 c6 k6).binds (ps := ["pairs", "bound"]) (fun _ _ _ _ _ _ us hl => match us, hl with | [_, _], _ => rfl), m_told := PySem.W.mg_of X G a6,
    a_whole := f7, d_whole := _, F_whole := fun_mk (st := s_whole) l7 c7 k7, b_whole := (fun_mk (st := s_whole) l7 c7 k7).binds (ps := ["term", "bound"]) (fun _ _ _ _ _ _ us hl => match us, hl with | [_, _], _ => rfl), m_whole := PySem.W.mg_of X G a7,
    a_law_draws := f8, d_law_draws := _, F_law_draws := fun_mk (st := s_law_draws) l8 c8 k8, b_law_draws := (fun_mk (st := s_law_draws) l8 c8 k8).binds (ps := ["script"]) (fun _ _ _ _ _ _ us hl => match us, hl with | [_], _ => rfl), m_law_draws := PySem.W.mg_of X G a8,
    a_law_draw := f9, d_law_draw := _, F_law_draw := fun_mk (st := s_law_draw) l9 c9 k9, b_law_draw := (fun_mk (st := s_law_draw) l9 c9 k9).binds (ps := ["draws", "limit"]) (fun _ _ _ _ _ _ us hl => match us, hl with | [_, _], _ => rfl), m_law_draw := PySem.W.mg_of X G a9,
    a_law_pick := f10, d_law_pick := _, F_law_pick := fun_mk (st := s_law_pick) l10 c10 k10, b_law_pick := (fun_mk (st := s_law_pick) l10 c10 k10).binds (ps := ["draws", "row"]) (fun _ _ _ _ _ _ us hl => match us, hl with | [_, _], _ => rfl), m_law_pick := PySem.W.mg_of X G a10,
    a_law_makers := f11, d_law_makers := _, F_law_makers := fun_mk (st := s_law_makers) l11 c11 k11, b_law_makers := (fun_mk (st := s_law_makers) l11 c11 k11).binds (ps := ["draws"]) (fun _ _ _ _ _ _ us hl => match us, hl with | [_], _ => rfl), m_law_makers := PySem.W.mg_of X G a11,
    a_law_term := f12, d_law_term := _, F_law_term := fun_mk (st := s_law_term) l12 c12 k12, b_law_term := (fun_mk (st := s_law_term) l12 c12 k12).binds (ps := ["draws", "makers", "names", "deep"]) (fun _ _ _ _ _ _ us hl => match us, hl with | [_, _, _, _], _ => rfl), m_law_term := PySem.W.mg_of X G a12,
    a_law_put := f13, d_law_put := _, F_law_put := fun_mk (st := s_law_put) l13 c13 k13, b_law_put := (fun_mk (st := s_law_put) l13 c13 k13).binds (ps := ["term", "assignment"]) (fun _ _ _ _ _ _ us hl => match us, hl with | [_, _], _ => rfl), m_law_put := PySem.W.mg_of X G a13,
    a_law_names := f14, d_law_names := _, F_law_names := fun_mk (st := s_law_names) l14 c14 k14, b_law_names := (fun_mk (st := s_law_names) l14 c14 k14).binds (ps := ["term"]) (fun _ _ _ _ _ _ us hl => match us, hl with | [_], _ => rfl), m_law_names := PySem.W.mg_of X G a14,
    a_law_put_in := f15, d_law_put_in := _, F_law_put_in := fun_mk (st := s_law_put_in) l15 c15 k15, b_law_put_in := (fun_mk (st := s_law_put_in) l15 c15 k15).binds (ps := ["found", "name", "term"]) (fun _ _ _ _ _ _ us hl => match us, hl with | [_, _, _], _ => rfl), m_law_put_in := PySem.W.mg_of X G a15,
    a_law_unified := f16, d_law_unified := _, F_law_unified := fun_mk (st := s_law_unified) l16 c16 k16, b_law_unified := (fun_mk (st := s_law_unified) l16 c16 k16).binds (ps := ["pairs"]) (fun _ _ _ _ _ _ us hl => match us, hl with | [_], _ => rfl), m_law_unified := PySem.W.mg_of X G a16,
    a_law_hidden := f17, d_law_hidden := _, F_law_hidden := fun_mk (st := s_law_hidden) l17 c17 k17, b_law_hidden := (fun_mk (st := s_law_hidden) l17 c17 k17).binds (ps := ["draws", "trees", "tree"]) (fun _ _ _ _ _ _ us hl => match us, hl with | [_, _, _], _ => rfl), m_law_hidden := PySem.W.mg_of X G a17,
    a_law_size := f18, d_law_size := _, F_law_size := fun_mk (st := s_law_size) l18 c18 k18, b_law_size := (fun_mk (st := s_law_size) l18 c18 k18).binds (ps := ["tree"]) (fun _ _ _ _ _ _ us hl => match us, hl with | [_], _ => rfl), m_law_size := PySem.W.mg_of X G a18,
    a_law_pairs := f19, d_law_pairs := _, F_law_pairs := fun_mk (st := s_law_pairs) l19 c19 k19, b_law_pairs := (fun_mk (st := s_law_pairs) l19 c19 k19).binds (ps := ["draws", "makers", "trees"]) (fun _ _ _ _ _ _ us hl => match us, hl with | [_, _, _], _ => rfl), m_law_pairs := PySem.W.mg_of X G a19,
    a_law := fa, d_law := _, F_law := fun_mk (st := s_law) l20 c20 k20, b_law := (fun_mk (st := s_law) l20 c20 k20).binds (ps := ["script"]) (fun _ _ _ _ _ _ us hl => match us, hl with | [_], _ => rfl), m_law := PySem.W.mg_of X G a20,
    z_isinstance := PySem.W.mg_none_of X G z0,
    z_tuple := PySem.W.mg_none_of X G z1,
    z_str := PySem.W.mg_none_of X G z2,
    z_list := PySem.W.mg_none_of X G z3,
    z_zip := PySem.W.mg_none_of X G z4,
    z_max := PySem.W.mg_none_of X G z5,
    z_min := PySem.W.mg_none_of X G z6,
    z_len := PySem.W.mg_none_of X G z7,
    z_abs := PySem.W.mg_none_of X G z8,
    z_int := PySem.W.mg_none_of X G z9,
    z_range := PySem.W.mg_none_of X G z10,
    z_sum := PySem.W.mg_none_of X G z11,
    z_dict := PySem.W.mg_none_of X G z12,
    z_all := PySem.W.mg_none_of X G z13 }
  refine ⟨PySem.W.fnOf "law" "law" (defArgs s_law) (defBody s_law) (defScope s_law) .none kV20 dc20 pm20 an20 cd20 ct20, fun _ _ => .of_eq rfl, fun base _ _ => ?_⟩
  have d1 := ok_law_draw (P := l.prog) (w := w) (base := base) T
  have fo := ok_followed (P := l.prog) (w := w) (base := base) T
  have nm := ok_names_of (P := l.prog) (w := w) (base := base) T
  exact ok_law T (ok_law_draws T) (ok_law_makers T d1) (all_term T 3) d1 (ok_law_pairs T d1 (all_lput T 4) (all_term T 4) (all_size T 15) (all_hidden T 15)) (ok_law_unified T (all_lput T 111) (ok_law_put_in T (all_lput T 111)) (all_lnames T 111)) (ok_unified T fo (ok_bind T (ok_occurs T nm fo)) (ok_told T nm (all_whole T 96))) (all_lput T 111) (all_put T 111) (all_lnames T 111)
theorem law_walk {l : PySem.W.OpenLaw} {q : Program} {loose : List Str} {XP : (Str → Option Value) → Heap → Prop} {YP : World → Heap → Prop} {r : DefRec} {K : Params → PySem.W.Frag}
    (h63 : l.most = some 63) (hno : r.params.defaults = []) (hK : ∀ (w : World) (h : Heap), YP w h → (K w.params).In h)
    (ok : ∀ (w : World) (mg : Str → Option Value) (fa : Addr) (h : Heap), (K w.params).In h → h.Ns mainGlobals mg → mg r.name = some (.ref fa) →
      ∃ fd : FuncData, (∀ (s : Shared) (u : Value), BindsTo s fd ⟨[u], []⟩ [("script", u)]) ∧
        ∀ base : Heap, (K w.params).In base → base.Ns mainGlobals mg → FnOk l.prog w (K w.params) mg base CX0 120 fa fd ["script"] (spLaw (K w.params))) :
    PySem.W.WalkO q loose XP YP l.row.toRowW r [] (fun f vs => PySem.call f vs) :=
  L2.walk_of (n := 63) (k := 120) (x := "script") (CX := fun _ => CX0) (sp := fun w => spLaw (K w.params)) h63 (by decide) hno ⟨rfl, by decide, by decide⟩ hK ok
    (fun _ _ a ns few _ seq => ⟨a, ns, rfl, seq, few, fun _ => rfl⟩) fun _ _ _ _ _ z => z
end Kx
open PySem PySem.W PyProof.Rows
set_option maxRecDepth 100000 in
set_option maxHeartbeats 0 in
theorem PySem.Challenge.cw_exactkinds_k04_whole_told_unifiers_holds : PySem.Challenge.rw_exactkinds_k04_whole_told_unifiers.Holds := by
  w_on; o_law; k_head; (case hw => w_witness2)
  k_fill
  refine Kx.law_walk (l := PySem.Challenge.rw_exactkinds_k04_whole_told_unifiers) rfl rfl (fun _ _ Y => PySem.W.kIn_of Y) ?walked
  case walked =>
    intro w mg fa h inK names hmg
    refine' Kx.all_mk inK names hmg ?a0 ?l0 ?c0 ?k0 ?a1 ?l1 ?c1 ?k1 ?a2 ?l2 ?c2 ?k2 ?a3 ?l3 ?c3 ?k3 ?a4 ?l4 ?c4 ?k4 ?a5 ?l5 ?c5 ?k5 ?a6 ?l6 ?c6 ?k6 ?a7 ?l7 ?c7 ?k7 ?a8 ?l8 ?c8 ?k8 ?a9 ?l9 ?c9 ?k9 ?a10 ?l10 ?c10 ?k10 ?a11 ?l11 ?c11 ?k11 ?a12 ?l12 ?c12 ?k12 ?a13 ?l13 ?c13 ?k13 ?a14 ?l14 ?c14 ?k14 ?a15 ?l15 ?c15 ?k15 ?a16 ?l16 ?c16 ?k16 ?a17 ?l17 ?c17 ?k17 ?a18 ?l18 ?c18 ?k18 ?a19 ?l19 ?c19 ?k19 ?a20 ?l20 ?c20 ?k20 ?z0 ?z1 ?z2 ?z3 ?z4 ?z5 ?z6 ?z7 ?z8 ?z9 ?z10 ?z11 ?z12 ?z13
    (case a0 => k_is); (case l0 => k_is); (case c0 => k_is); (case k0 => k_is)
    (case a1 => k_is); (case l1 => k_is); (case c1 => k_is); (case k1 => k_is)
    (case a2 => k_is); (case l2 => k_is); (case c2 => k_is); (case k2 => k_is)
    (case a3 => k_is); (case l3 => k_is); (case c3 => k_is); (case k3 => k_is)
    (case a4 => k_is); (case l4 => k_is); (case c4 => k_is); (case k4 => k_is)
    (case a5 => k_is); (case l5 => k_is); (case c5 => k_is); (case k5 => k_is)
    (case a6 => k_is); (case l6 => k_is); (case c6 => k_is); (case k6 => k_is)
    (case a7 => k_is); (case l7 => k_is); (case c7 => k_is); (case k7 => k_is)
    (case a8 => k_is); (case l8 => k_is); (case c8 => k_is); (case k8 => k_is)
    (case a9 => k_is); (case l9 => k_is); (case c9 => k_is); (case k9 => k_is)
    (case a10 => k_is); (case l10 => k_is); (case c10 => k_is); (case k10 => k_is)
    (case a11 => k_is); (case l11 => k_is); (case c11 => k_is); (case k11 => k_is)
    (case a12 => k_is); (case l12 => k_is); (case c12 => k_is); (case k12 => k_is)
    (case a13 => k_is); (case l13 => k_is); (case c13 => k_is); (case k13 => k_is)
    (case a14 => k_is); (case l14 => k_is); (case c14 => k_is); (case k14 => k_is)
    (case a15 => k_is); (case l15 => k_is); (case c15 => k_is); (case k15 => k_is)
    (case a16 => k_is); (case l16 => k_is); (case c16 => k_is); (case k16 => k_is)
    (case a17 => k_is); (case l17 => k_is); (case c17 => k_is); (case k17 => k_is)
    (case a18 => k_is); (case l18 => k_is); (case c18 => k_is); (case k18 => k_is)
    (case a19 => k_is); (case l19 => k_is); (case c19 => k_is); (case k19 => k_is)
    (case a20 => k_is); (case l20 => k_is); (case c20 => k_is); (case k20 => k_is)
    (case z0 => k_is)
    (case z1 => k_is)
    (case z2 => k_is)
    (case z3 => k_is)
    (case z4 => k_is)
    (case z5 => k_is)
    (case z6 => k_is)
    (case z7 => k_is)
    (case z8 => k_is)
    (case z9 => k_is)
    (case z10 => k_is)
    (case z11 => k_is)
    (case z12 => k_is)
    (case z13 => k_is)

