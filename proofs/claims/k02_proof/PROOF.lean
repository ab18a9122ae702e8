import PyProof.Rows.All
import Wide.All
import OpenK.AllK
import Wide.FinOn
import HandS.ForMost
import HandS.IsInst
import HandS.Conv
import HandS.TupAny
import HandS.Evl
import HandS.SetKeys
import HandS.More
import HandS.Zip
import HandS.DictComp
import HandS.Walk
import HandS.Star
import KE.SortData
import KE.DataCmp
import HandS.Style
import KE.KDictPairs
import PySem.Challenge.RW_exactkinds_k02_trees_in_their_order
set_option Elab.async false
set_option linter.all false
set_option maxRecDepth 100000
namespace Kx
open PySem PySem.Spec PyProof.Rows L2
def top (i : Nat) : Stmt := PySem.Challenge.pw_exactkinds_k02_trees_in_their_order.main.body.getD i (.Pass ⟨0, 0, 0, 0⟩)
abbrev s_size : Stmt := top 1
abbrev s_order : Stmt := top 2
abbrev s_trees : Stmt := top 3
abbrev s_trees_of_size : Stmt := top 4
abbrev s_part_rows : Stmt := top 5
abbrev s_law_draws : Stmt := top 7
abbrev s_law_draw : Stmt := top 8
abbrev s_law_pick : Stmt := top 9
abbrev s_law_makers : Stmt := top 10
abbrev s_law_term : Stmt := top 11
abbrev s_law_key : Stmt := top 12
abbrev s_law_trees : Stmt := top 13
abbrev s_law_sign : Stmt := top 14
abbrev s_law_right : Stmt := top 15
abbrev s_law : Stmt := top 16
theorem sc_size : FnScope ["term", "many", "part"] ["term"] (defScope s_size) := ⟨rfl, rfl, rfl, by decide +kernel, rfl, by decide +kernel, by decide +kernel⟩
theorem sc_order : FnScope ["makers", "one", "other", "words", "part", "beside", "word", "_"] ["makers", "one", "other"] (defScope s_order) := ⟨rfl, rfl, rfl, by decide +kernel, rfl, by decide +kernel, by decide +kernel⟩
theorem sc_trees : FnScope ["makers", "many", "rows", "leaves", "found", "endless", "row"] ["makers", "many"] (defScope s_trees) := ⟨rfl, rfl, rfl, by decide +kernel, rfl, by decide +kernel, by decide +kernel⟩
theorem sc_trees_of_size : FnScope ["makers", "rows", "total", "found", "word", "parts", "row"] ["makers", "rows", "total"] (defScope s_trees_of_size) := ⟨rfl, rfl, rfl, by decide +kernel, rfl, by decide +kernel, by decide +kernel⟩
theorem sc_part_rows : FnScope ["rows", "parts", "total", "found", "taken", "behind", "first", "row"] ["rows", "parts", "total"] (defScope s_part_rows) := ⟨rfl, rfl, rfl, by decide +kernel, rfl, by decide +kernel, by decide +kernel⟩
theorem sc_law_draws : FnScope ["script"] ["script"] (defScope s_law_draws) := ⟨rfl, rfl, rfl, by decide +kernel, rfl, by decide +kernel, by decide +kernel⟩
theorem sc_law_draw : FnScope ["draws", "limit", "cell", "value"] ["draws", "limit"] (defScope s_law_draw) := ⟨rfl, rfl, rfl, by decide +kernel, rfl, by decide +kernel, by decide +kernel⟩
theorem sc_law_pick : FnScope ["draws", "row"] ["draws", "row"] (defScope s_law_pick) := ⟨rfl, rfl, rfl, by decide +kernel, rfl, by decide +kernel, by decide +kernel⟩
theorem sc_law_makers : FnScope ["draws", "rows", "word", "turn"] ["draws"] (defScope s_law_makers) := ⟨rfl, rfl, rfl, by decide +kernel, rfl, by decide +kernel, by decide +kernel⟩
theorem sc_law_term : FnScope ["draws", "makers", "names", "deep", "word", "parts", "k"] ["draws", "makers", "names", "deep"] (defScope s_law_term) := ⟨rfl, rfl, rfl, by decide +kernel, rfl, by decide +kernel, by decide +kernel⟩
theorem sc_law_key : FnScope ["makers", "tree", "number", "keys", "word", "parts", "part", "key"] ["makers", "tree"] (defScope s_law_key) := ⟨rfl, rfl, rfl, by decide +kernel, rfl, by decide +kernel, by decide +kernel⟩
theorem sc_law_trees : FnScope ["makers", "many", "rows", "found", "total", "row", "word", "parts", "one", "left", "keyed", "other", "tree", "key"] ["makers", "many"] (defScope s_law_trees) := ⟨rfl, rfl, rfl, by decide +kernel, rfl, by decide +kernel, by decide +kernel⟩
theorem sc_law_sign : FnScope ["makers", "one", "other", "first", "second"] ["makers", "one", "other"] (defScope s_law_sign) := ⟨rfl, rfl, rfl, by decide +kernel, rfl, by decide +kernel, by decide +kernel⟩
theorem sc_law_right : FnScope ["makers", "one", "other", "told"] ["makers", "one", "other"] (defScope s_law_right) := ⟨rfl, rfl, rfl, by decide +kernel, rfl, by decide +kernel, by decide +kernel⟩
theorem sc_law : FnScope ["script", "draws", "makers", "many", "due", "k", "turn", "one", "other"] ["script"] (defScope s_law) := ⟨rfl, rfl, rfl, by decide +kernel, rfl, by decide +kernel, by decide +kernel⟩
structure Txt (K : PySem.W.Frag) (mg : Str → Option Value) where
  a_size : Addr
  d_size : FuncData
  F_size : Fun K "size" "size" s_size a_size d_size
  b_size : Binds K d_size ["term"] []
  m_size : mg "size" = some (.ref a_size)
  a_order : Addr
  d_order : FuncData
  F_order : Fun K "order" "order" s_order a_order d_order
  b_order : Binds K d_order ["makers", "one", "other"] []
  m_order : mg "order" = some (.ref a_order)
  a_trees : Addr
  d_trees : FuncData
  F_trees : Fun K "trees" "trees" s_trees a_trees d_trees
  b_trees : Binds K d_trees ["makers", "many"] []
  m_trees : mg "trees" = some (.ref a_trees)
  a_trees_of_size : Addr
  d_trees_of_size : FuncData
  F_trees_of_size : Fun K "_trees_of_size" "_trees_of_size" s_trees_of_size a_trees_of_size d_trees_of_size
  b_trees_of_size : Binds K d_trees_of_size ["makers", "rows", "total"] []
  m_trees_of_size : mg "_trees_of_size" = some (.ref a_trees_of_size)
  a_part_rows : Addr
  d_part_rows : FuncData
  F_part_rows : Fun K "part_rows" "part_rows" s_part_rows a_part_rows d_part_rows
  b_part_rows : Binds K d_part_rows ["rows", "parts", "total"] []
  m_part_rows : mg "part_rows" = some (.ref a_part_rows)
  a_law_draws : Addr
  d_law_draws : FuncData
  F_law_draws : Fun K "_law_draws" "_law_draws" s_law_draws a_law_draws d_law_draws
  b_law_draws : Binds K d_law_draws ["script"] []
  m_law_draws : mg "_law_draws" = some (.ref a_law_draws)
  a_law_draw : Addr
  d_law_draw : FuncData
  F_law_draw : Fun K "_law_draw" "_law_draw" s_law_draw a_law_draw d_law_draw
  b_law_draw : Binds K d_law_draw ["draws", "limit"] []
  m_law_draw : mg "_law_draw" = some (.ref a_law_draw)
  a_law_pick : Addr
  d_law_pick : FuncData
  F_law_pick : Fun K "_law_pick" "_law_pick" s_law_pick a_law_pick d_law_pick
  b_law_pick : Binds K d_law_pick ["draws", "row"] []
  m_law_pick : mg "_law_pick" = some (.ref a_law_pick)
  a_law_makers : Addr
  d_law_makers : FuncData
  F_law_makers : Fun K "_law_makers" "_law_makers" s_law_makers a_law_makers d_law_makers
  b_law_makers : Binds K d_law_makers ["draws"] []
  m_law_makers : mg "_law_makers" = some (.ref a_law_makers)
  a_law_term : Addr
  d_law_term : FuncData
  F_law_term : Fun K "_law_term" "_law_term" s_law_term a_law_term d_law_term
  b_law_term : Binds K d_law_term ["draws", "makers", "names", "deep"] []
  m_law_term : mg "_law_term" = some (.ref a_law_term)
  a_law_key : Addr
  d_law_key : FuncData
  F_law_key : Fun K "_law_key" "_law_key" s_law_key a_law_key d_law_key
  b_law_key : Binds K d_law_key ["makers", "tree"] []
  m_law_key : mg "_law_key" = some (.ref a_law_key)
  a_law_trees : Addr
  d_law_trees : FuncData
  F_law_trees : Fun K "_law_trees" "_law_trees" s_law_trees a_law_trees d_law_trees
  b_law_trees : Binds K d_law_trees ["makers", "many"] []
  m_law_trees : mg "_law_trees" = some (.ref a_law_trees)
  a_law_sign : Addr
  d_law_sign : FuncData
  F_law_sign : Fun K "_law_sign" "_law_sign" s_law_sign a_law_sign d_law_sign
  b_law_sign : Binds K d_law_sign ["makers", "one", "other"] []
  m_law_sign : mg "_law_sign" = some (.ref a_law_sign)
  a_law_right : Addr
  d_law_right : FuncData
  F_law_right : Fun K "_law_right" "_law_right" s_law_right a_law_right d_law_right
  b_law_right : Binds K d_law_right ["makers", "one", "other"] []
  m_law_right : mg "_law_right" = some (.ref a_law_right)
  a_law : Addr
  d_law : FuncData
  F_law : Fun K "law" "law" s_law a_law d_law
  b_law : Binds K d_law ["script"] []
  m_law : mg "law" = some (.ref a_law)
  z_isinstance : mg "isinstance" = none
  z_str : mg "str" = none
  z_zip : mg "zip" = none
  z_list : mg "list" = none
  z_len : mg "len" = none
  z_range : mg "range" = none
  z_abs : mg "abs" = none
  z_int : mg "int" = none
  z_tuple : mg "tuple" = none
  z_sum : mg "sum" = none
  z_sorted : mg "sorted" = none
  z_bool : mg "bool" = none
end Kx
set_option maxHeartbeats 2000000
/-! Rules of our own over the layer: see the remarks. -/
namespace Kx
open PySem PySem.Spec PyProof.Rows L2
/-! ### rules with the written part named (for the blocks of comprehensions) -/
section
variable {X : Cx} {K : PySem.W.Frag}
theorem inSeqK (h : X.K = K := by rfl) : OpR X (compareOp .In) (rIn K false) := by subst h; exact op_in_seq
theorem notInSeqK (h : X.K = K := by rfl) : OpR X (compareOp .NotIn) (rIn K true) := by subst h; exact op_notIn_seq
theorem ixLK (h : X.K = K := by rfl) : IxR X (rIxL K) := by subst h; exact ix_list
theorem ixSK (h : X.K = K := by rfl) : IxR X (rIx K) := by subst h; exact ix_seq
theorem ixTK (h : X.K = K := by rfl) : IxR X (rIxT K) := by subst h; exact ix_tup
end
/-! ### l.extend(t), t a tuple -/
def rExtT (K : PySem.W.Frag) : V → List V → Hp → VK → Prop := fun x vs H Q => ∃ l b xs zs, x = .ref l ∧ vs = [.ref b] ∧ H l = some (.lst xs) ∧ (∃ o : Obj, H b = some (.frz o (.tup zs)) ∧ o.dict = none ∧ o.slots = #[]) ∧ xs.length + zs.length ≤ sizeLine ∧ Q .non (upd H l (.lst (xs ++ zs)))
section
variable {X : Cx}
theorem mt_extT : MtR X "list.extend" (rExtT X.K) := by
  intro pins s σ H x vs v us Q I rx rv hyp
  obtain ⟨l, b, xs, zs, rfl, rfl, hH, ⟨o, hB, hd, hsl⟩, hz, fin⟩ := hyp
  cases rx
  obtain ⟨u, rfl, ru⟩ := rv.one
  cases ru
  obtain ⟨z, its, n, r, hl, e⟩ := I.lstM hH
  obtain ⟨e2, z2, its2, r2, hT⟩ := (show ObjOk X.prog X.w H s.heap b (.frz o (.tup zs)) from I.hok b _ hB)
  obtain ⟨o2, e3, hc2, n2, hd2⟩ := hT
  rw [e2] at e3
  cases e3
  obtain ⟨oc, od, dt, sl⟩ := o
  simp only at hc2 hd2 hd hsl
  subst hc2 hd2 hd hsl
  have w1 : its.length = xs.length := r.length.symm
  have w2 : its2.length = zs.length := r2.length.symm
  have size2 : its.toArray.size + its2.toArray.size ≤ sizeLine := by
    simp only [List.size_toArray, w1, w2]; exact hz
  have few : ¬ (!its.toArray.isEmpty && Builtin.List.listTooLong (its.toArray.size + its2.toArray.size)) = true := by
    rw [notLongL size2, Bool.and_false]; simp
  refine call_meets F.slot_list_extend ⟨_, e, rfl⟩ F.entry_list_extend (F.args_list_extend_2 _ _)
    (AutoSeq1.list_extend_list_tuple_0 l its.toArray n b its2.toArray n2 few (Nat.le_trans (Nat.le_add_right _ _) size2) (Nat.le_succ_of_le size2)) ⟨e, e2, ?_⟩
  refine ⟨.non, _, I.lset (its' := its ++ its2) hH e (by simp) (r.append r2) ?_, rfl, fin⟩
  simp only [List.length_append]; exact hz
end
/-! ### t[:0:-1]: a tuple backwards without its first item -/
section
variable {prog : Program} {w : World} {A : Around} {E : Value → Shared → Prop} {s : Shared}
theorem back_pick {α : Type} : ∀ l : List α, (List.range l.length).filterMap (fun m => l[l.length - 1 - m]?) = l.reverse := by
  intro l
  have h : ∀ k, k ≤ l.length → (List.range k).filterMap (fun m => l[l.length - 1 - m]?) = (l.drop (l.length - k)).reverse := by
    intro k
    induction k with
    | zero => intro _; simp
    | succ k ih =>
      intro hk
      rw [List.range_succ, List.filterMap_append, ih (by omega)]
      have e : l.drop (l.length - (k + 1)) = l[l.length - (k + 1)]'(by omega) :: l.drop (l.length - k) := by
        rw [List.drop_eq_getElem_cons (by omega)]
        congr 2
        omega
      rw [e, List.reverse_cons]
      congr 1
      have e2 : l[l.length - 1 - k]? = some (l[l.length - (k + 1)]'(by omega)) := by
        rw [← List.getElem?_eq_getElem]
        congr 1
        omega
      simp [e2]
  have := h l.length (Nat.le_refl _)
  simpa using this
theorem back_pick1 (xs : List Value) (h1 : 1 ≤ xs.length) : (List.range (xs.length - 1)).filterMap (fun (m : Nat) => xs[(((xs.length - 1 : Nat) : Int) + (m : Int) * (-1)).toNat]?) = (xs.drop 1).reverse := by
  have h := back_pick (xs.drop 1)
  rw [List.length_drop] at h
  rw [← h]
  have key : ∀ k, k ≤ xs.length - 1 → (List.range k).filterMap (fun (m : Nat) => xs[(((xs.length - 1 : Nat) : Int) + (m : Int) * (-1)).toNat]?) = (List.range k).filterMap (fun m => (xs.drop 1)[xs.length - 1 - 1 - m]?) := by
    intro k
    induction k with
    | zero => intro _; rfl
    | succ k ih =>
      intro hk
      rw [List.range_succ, List.filterMap_append, List.filterMap_append, ih (by omega)]
      congr 1
      have e : (((xs.length - 1 : Nat) : Int) + (k : Int) * (-1)).toNat = 1 + (xs.length - 1 - 1 - k) := by omega
      simp only [List.filterMap_cons, List.filterMap_nil, e, List.getElem?_drop]
  exact key _ (Nat.le_refl _)
theorem back_adjust (n : Nat) (h : 1 ≤ n) : Builtin.Slice.sliceAdjust none (some 0) (-1) (n : Int) = (((n - 1 : Nat) : Int), 0) := by
  unfold Builtin.Slice.sliceAdjust
  simp only [show ((-1 : Int) < 0) from by omega, if_true]
  refine Prod.ext ?_ ?_
  · show (n : Int) - 1 = _; omega
  · show (if (0 : Int) < 0 then max ((0 : Int) + (n : Int)) (-1) else min (0 : Int) ((n : Int) - 1)) = 0
    rw [if_neg (by omega)]; omega
theorem back_places (n : Nat) : Builtin.Slice.slicePlaces ((n : Nat) : Int) 0 (-1) = n := by
  unfold Builtin.Slice.slicePlaces
  simp only [show ¬ ((-1 : Int) > 0) from by omega, if_false, Int.neg_neg, Int.ediv_one]
  split <;> omega
theorem back_applied {sl : Addr} {vl vu vs : Value} {n : Nat} {Q : Int × Int × Nat → Shared → Prop} (h1 : 1 ≤ n) (hs : s.heap.IsSliceOf sl vl vu vs) (pl : IsPart vl none) (pu : IsPart vu (some 0)) (ps : IsPart vs (some (-1)))
    (h : Q (((n - 1 : Nat) : Int), -1, n - 1) s) : wpAny (model prog w) A (Builtin.Slice.sliceApplied (.ref sl) (pure (n : Int))) Q E s := by
  obtain ⟨os, ho, hc, hd⟩ := id hs
  unfold Builtin.Slice.sliceApplied Builtin.Slice.sliceFields
  refine wpAny_bind (wpAny_bind (wpAny_field ho hd (x := vl) rfl (wpAny_bind (wpAny_field ho hd (x := vu) rfl (wpAny_bind (wpAny_field ho hd (x := vs) rfl (wpAny_pure ?_)))))))
  refine wpAny_bind (HT.slicePart_ ps ?_)
  show wpAny _ _ (if ((-1 : Int) == 0) = true then _ else _) _ _ s
  rw [if_neg (by decide)]
  refine wpAny_bind (HT.slicePart_ pl (wpAny_bind (HT.slicePart_ pu (wpAny_bind (wpAny_pure ?_)))))
  show wpAny _ _ (match Builtin.Slice.sliceAdjust none (some 0) (-1) (n : Int) with | (lo, hi) => pure (lo, (-1 : Int), Builtin.Slice.slicePlaces lo hi (-1))) _ _ s
  rw [back_adjust n h1]
  show wpAny _ _ (pure (((n - 1 : Nat) : Int), (-1 : Int), Builtin.Slice.slicePlaces ((n - 1 : Nat) : Int) 0 (-1))) _ _ s
  rw [back_places]
  exact wpAny_pure h
theorem getItem_back {t sl : Addr} {items : Array Value} {vl vu vs : Value} {Q : Value → Shared → Prop} (h1 : 1 ≤ items.size) (ht : IsTup s.heap t items) (hs : s.heap.IsSliceOf sl vl vu vs) (pl : IsPart vl none) (pu : IsPart vu (some 0)) (ps : IsPart vs (some (-1)))
    (h : Q (.ref s.heap.objs.size) { s with heap := s.heap.push { cls := .type "tuple", data := .seq ((items.toList.drop 1).reverse).toArray } })
    (hsz : items.size ≤ sizeLine) : wpAny (model prog w) A (getItem (.ref t) (.ref sl)) Q E s := by
  have fits : sizeOk (.seq ((items.toList.drop 1).reverse).toArray) := by
    show ((items.toList.drop 1).reverse).toArray.size ≤ sizeLine
    simp only [List.size_toArray, List.length_reverse, List.length_drop, Array.length_toList]
    omega
  obtain ⟨os, ho, hc, hd⟩ := id hs
  have ty : s.TypeIs (.ref sl) "slice" := ⟨os, ho, hc⟩
  unfold getItem
  try with_reducible refine wpAny_holding ?_
  first | refine wpAny_bind (wpAny_pure ?_) | skip
  refine wpAny_bind (wpAny_sequenceKey ht.typeIs (by decide) ?_)
  refine wpAny_bind (wpAny_callSpecial?_slot (name := Str.ofString "__getitem__") ht.typeIs PyProof.Rows.slot_tuple_getitem
    (wpAny_call_entry PyProof.Rows.slot_tuple_getitem ht.typeIs F.entry_tuple_getitem ?_ (F.args_tuple_getitem_2 _ _)))
  show wpAny _ _ (Builtin.Tuple.tupleItemsOf (.ref t) >>= _) _ _ s
  refine wpAny_bind (tupleItemsOf_ ht ?_)
  refine wpAny_bind (wpAny_typeOf ty ?_)
  rw [if_pos (by decide)]
  refine wpAny_bind (back_applied (n := items.size) h1 hs pl pu ps ?_)
  have no : ¬ ((((items.size - 1 : Nat) : Int) == 0 && (-1 : Int) == 1 && (items.size - 1) == items.size) = true) := by simp
  show wpAny _ _ (if (((items.size - 1 : Nat) : Int) == 0 && (-1 : Int) == 1 && (items.size - 1) == items.size) = true then _ else _) _ _ s
  have e := back_pick1 items.toList (by simpa using h1)
  simp only [Array.length_toList, Array.getElem?_toList] at e
  rw [if_neg no, e]
  first
    | exact wpAny_bind (m := Builtin.Tuple.tupleExact _) (wpAny_newObj_type (wpAny_pure ⟨_, rfl, wpAny_pure h⟩) fits)
    | exact wpAny_bind (m := Builtin.Tuple.tupleExact _) (wpAny_newObj_type (wpAny_bind (wpAny_pure (wpAny_pure ⟨_, rfl, wpAny_pure h⟩))) fits)
    | exact wpAny_bind (wpAny_bind (m := Builtin.Tuple.tupleExact _) (wpAny_newObj_type (wpAny_pure (wpAny_pure ⟨_, rfl, wpAny_pure h⟩)) fits))
    | exact wpAny_bind (wpAny_bind (m := Builtin.Tuple.tupleExact _) (wpAny_newObj_type (wpAny_pure ⟨_, rfl, wpAny_pure h⟩) fits))
end
/-- what t[:0:-1] asks: t is not empty; the new tuple is told as an object that stands as it is -/
def tBackT (K : PySem.W.Frag) (te : TE) : TE := fun σ H Q => te σ H fun x H1 => ∃ a xs, x = .ref a ∧ SqT K H1 a xs ∧ xs ≠ [] ∧ ∀ p (o : Obj), H1 p = none → o.dict = none → o.slots = #[] → Q (.ref p) (upd H1 p (.frz o (.tup (xs.drop 1).reverse)))
section
variable {X : Cx}
theorem pe_cutback {e : Expr} {te : TE} {j k : Nat} {p0 p1 p2 p3 pos : Pos} (he : PE X e te) : PE X (.Subscript e (.Slice none (some (.Constant (.int 0) j p0)) (some (.UnaryOp .USub (.Constant (.int 1) k p1) p2)) p3) pos) (tBackT X.K te) := by
  refine ⟨fun pins s σ H Q I h => ?_⟩
  refine Subscript_ (thn (he.run pins s σ H _ I h) fun v s1 ⟨x, H1, I1, r1, q1⟩ => ?_)
  obtain ⟨a, xs, ex, hx, hne, fin⟩ := q1
  subst ex
  cases r1
  have hst : PO X (some (.UnaryOp .USub (.Constant (.int 1) k p1) p2)) (tPart (tUn (rU fun i => .int (-i)) (tC (.int 1)))) := po_some (pe_un un_neg pe_int)
  have hup : PO X (some (.Constant (.int 0) j p0)) (tPart (tC (.int 0))) := po_some pe_int
  refine wpAny_Slice (thn (po_none.run pins s1 σ H1 (fun o H2 => o = none ∧ H2 = H1) I1 ⟨rfl, rfl⟩) fun vl s2 ⟨l, H2, I2, pl, el, e2⟩ => ?_)
  subst el e2
  refine thn (hup.run pins s2 σ H2 (fun o H3 => o = some 0 ∧ H3 = H2) I2 ⟨0, rfl, rfl, rfl⟩) fun vu s3 ⟨u, H3, I3, pu, eu, e3⟩ => ?_
  subst eu e3
  refine thn (hst.run pins s3 σ H3 (fun o H4 => o = some (-1) ∧ H4 = H3) I3 ⟨1, rfl, -1, rfl, rfl, rfl⟩) fun vs s4 ⟨o, H4, I4, ps, eo, e4⟩ => ?_
  subst eo e4
  have I5 : Inv X pins σ H4 { s4 with heap := s4.heap.push { cls := .type "slice", data := .fields #[vl, vu, vs] } } := I4.kept (t' := s4.toks) fun b ob q => Heap.get?_push_of_some _ q
  obtain ⟨its, r, ht, hz⟩ := I5.tuple hx
  have hlen : its.length = xs.length := r.length.symm
  have h1 : 1 ≤ xs.length := by cases xs with | nil => exact absurd rfl hne | cons _ _ => simp
  show wpAny (model X.prog X.w) X.A (subscriptTail e (.Slice none (some (.Constant (.int 0) j p0)) (some (.UnaryOp .USub (.Constant (.int 1) k p1) p2)) p3) (.ref a) (.ref s4.heap.objs.size)) (EP X pins σ Q) X.xe { s4 with heap := s4.heap.push { cls := .type "slice", data := .fields #[vl, vu, vs] } }
  refine tail_any (ops := [.ref a, .ref s4.heap.objs.size]) ht.typeIs (PyProof.Rows.slot_tuple_getitem.lookup) ?_ (by with_unfolding_all rfl)
  refine getItem_back (by rw [List.size_toArray, hlen]; exact h1) ht (Heap.IsSliceOf.new _ vl vu vs) pl pu ps ?_ (by rw [List.size_toArray, hlen]; exact hz)
  refine ⟨.ref _, _, I5.laid (t' := s4.toks) (o := .frz { cls := .type "tuple", data := .seq ((its.drop 1).reverse).toArray } (.tup (xs.drop 1).reverse)) (fun b ob q => Heap.get?_push_of_some _ q) (Nat.le_refl _) ?_, rfl, fin _ _ (I5.hok.fresh (Nat.le_refl _)) rfl rfl⟩
  refine ⟨Heap.get?_push_size _ rfl, ?_, _, (r.drop 1).reverse, IsTup.new _ _⟩
  rw [List.length_reverse, List.length_drop]
  exact Nat.le_trans (Nat.sub_le _ _) hz
/-! ### tuple(l) of a list, told as an object that stands as it is -/
theorem call_tupleF : CallR X (.type "tuple") (fun xs H Q => ∃ p ys, xs = [.ref p] ∧ SqL X.K H p ys ∧ ∀ l (o : Obj), H l = none → o.dict = none → o.slots = #[] → Q (.ref l) (upd H l (.frz o (.tup ys)))) := by
  intro pins s σ H xs us Q I r hyp
  obtain ⟨p, ys, rfl, hq, fin⟩ := hyp
  obtain ⟨u, rfl, rx⟩ := vals1 r
  cases rx
  obtain ⟨its, r', pl, hz⟩ := I.list hq
  have w1 : its.length = ys.length := r'.length.symm
  refine call_tuple_list pl.isList (fun h' kp => ?_) (by rw [List.size_toArray, w1]; exact hz)
  have J : Inv X pins σ H { s with heap := h' } := I.kept (t' := s.toks) kp
  have J2 : Inv X pins σ (upd H h'.objs.size (.frz { cls := .type "tuple", data := .seq its.toArray } (.tup ys))) { s with heap := h'.push { cls := .type "tuple", data := .seq its.toArray } } :=
    J.laid (t' := s.toks) (fun b o e => Heap.get?_push_of_some _ e) (Nat.le_refl _) ⟨Heap.get?_push_size _ rfl, hz, its, r', IsTup.new _ _⟩
  exact ⟨.ref h'.objs.size, _, J2, rfl, fin _ _ (J.hok.fresh (Nat.le_refl _)) rfl rfl⟩
/-! ### dict(t) of a tuple of pairs -/
theorem pairs_list {pins : List (Addr × Obj)} {σ : L2.St} {H : Hp} {s : Shared} (I : Inv X pins σ H s) : ∀ {ps : List Addr} {kvs : List (Key × V)}, Paired (fun p kv => SqT X.K H p [kV kv.1, kv.2]) ps kvs →
    ∃ (prs : List (Key × Value)) (psv : List (Value × Value)), KV kvs prs ∧ prs.length = ps.length ∧ psv.length = ps.length ∧ ∀ (j : Nat) (u v : Value), psv[j]? = some (u, v) → ∃ b k, ps[j]? = some b ∧ prs[j]? = some (k, v) ∧ IsTup s.heap b #[u, v] ∧ keyIs k u = true
  | _, _, .nil => ⟨[], [], .nil, rfl, rfl, fun j u v e => by simp at e⟩
  | _, _, .cons (a := p) (b := kv) h t => by
    obtain ⟨prs, psv, r, l1, l2, hp⟩ := pairs_list I t
    obtain ⟨its, rv, ht, _⟩ := I.tuple h
    obtain ⟨u, y, ei, ru, ry⟩ := vals2 rv
    subst ei
    refine ⟨(kv.1, y) :: prs, (u, y) :: psv, .cons ⟨rfl, ry⟩ r, by simp [l1], by simp [l2], fun j u' v' e => ?_⟩
    cases j with
    | zero =>
      cases (Option.some.inj e)
      exact ⟨p, kv.1, rfl, rfl, ht, kV_is (P := X.prog) (w := X.w) ru⟩
    | succ j => exact hp j u' v' (by simpa using e)
theorem call_dictT (hcalm : X.calm = true) : CallR X (.type "dict") (fun xs H Q => ∃ (a : Addr) (o : Obj) (ps : List Addr) (kvs : List (Key × V)), xs = [.ref a] ∧ H a = some (.frz o (.tup (ps.map V.ref))) ∧ o.dict = none ∧ Paired (fun p kv => SqT X.K H p [kV kv.1, kv.2]) ps kvs ∧
    ∀ p, H p = none → Q (.ref p) (upd H p (.dK (mergeK [] kvs)))) := by
  intro pins s σ H xs us Q I r hyp
  obtain ⟨a, o, ps, kvs, ex, hq, hd, hp, fin⟩ := hyp
  subst ex
  obtain ⟨u, eu, rx⟩ := vals1 r
  subst eu
  cases rx
  obtain ⟨e2, hz, its, rv, hT⟩ := (show ObjOk X.prog X.w H s.heap a (.frz o (.tup (ps.map V.ref))) from I.hok a _ hq)
  obtain ⟨o2, e3, hc2, n2, hd2⟩ := hT
  rw [e2] at e3
  cases e3
  have ei := refs_at rv
  subst ei
  rw [List.length_map] at hz
  obtain ⟨prs, psv, rel, l1, l2, hpr⟩ := pairs_list I hp
  have items : PairItems s.heap (ps.map Value.ref).toArray (fun j => ps.getD j 0) psv := by
    refine ⟨by simp [l2], fun j k v e => ?_⟩
    obtain ⟨b, k', e1, _, e4, _⟩ := hpr j k v e
    refine ⟨by simp [e1], ?_⟩
    have eb : ps.getD j 0 = b := by simp [List.getD, e1]
    show PairAt s.heap (ps.getD j 0) k v
    rw [eb]
    exact .inl e4
  refine PySem.call_dict_pairs (knd := mixKind X.prog X.w) (kvs := prs) (PairArg.tuple a (ps.map Value.ref).toArray (fun j => ps.getD j 0) psv) (I.ok.hd hcalm) ⟨⟨o, n2, e2, hc2, hd, hd2⟩, items⟩ ⟨by rw [l1, l2], fun i key v e => ?_⟩ (by rw [l2]; exact hz) fun h' tk hd' k => ?_
  · obtain ⟨b, k', _, e5, _, e6⟩ := hpr i key v e
    exact ⟨k', e5, e6⟩
  · have hm : (s.heap.objs.size == sysModules) = false := beq_eq_false_iff_ne.mpr (Nat.ne_of_gt I.big)
    have few : (mergeK [] kvs).length ≤ sizeLine := by
      have z := length_mergeK kvs []
      rw [List.length_nil, Nat.zero_add, rel.length, l1] at z
      exact Nat.le_trans z hz
    exact ⟨.ref s.heap.objs.size, _, I.laid (t' := tk) (fun b o q => k b o (by simp) q) (Nat.le_refl _) (show ObjOk X.prog X.w _ _ _ (.dK (mergeK [] kvs)) from ⟨few, hm, merged [] prs, KV.merge rel .nil, hd'⟩), rfl, fin _ (I.hok.fresh (Nat.le_refl _))⟩
end
end Kx
namespace Kx
open PySem PySem.Spec PyProof.Rows L2
/-- a block cut behind its first statement: what holds there is named -/
theorem pss_cutK {X : Cx} {st : Stmt} {rest : List Stmt} {t u : TS} (h1 : PS X st t) (h2 : PSs X rest u) :
    PSs X (st :: rest) (fun D σ H => ∃ Mid : L2.St → Hp → Prop, t { D with nx := Mid } σ H ∧ ∀ σ' H', Mid σ' H' → u D σ' H') := Evl.pss_cut h1 h2
end Kx
namespace Kx
open PySem PySem.Spec PyProof.Rows L2
section
variable {X : Cx}
/-- a test, an expression, with a word behind it: what follows is shown once -/
theorem pt_cut {e : Expr} {t : TT} (h : PT X e t) : PT X e (fun σ H Q => ∃ M : Bool → Hp → Prop, t σ H M ∧ ∀ b H1, M b H1 → Q b H1) :=
  ⟨fun pins s σ H Q I ⟨M, hm, k⟩ => thn (h.run pins s σ H M I hm) fun b s1 ⟨H1, I1, q⟩ => ⟨H1, I1, k b H1 q⟩⟩
theorem pe_cut {e : Expr} {t : TE} (h : PE X e t) : PE X e (fun σ H Q => ∃ M : VK, t σ H M ∧ ∀ v H1, M v H1 → Q v H1) :=
  ⟨fun pins s σ H Q I ⟨M, hm, k⟩ => thn (h.run pins s σ H M I hm) fun b s1 ⟨v, H1, I1, r, q⟩ => ⟨v, H1, I1, r, k v H1 q⟩⟩
end
end Kx
namespace Kx
open PySem PySem.Spec PyProof.Rows L2
/-- a comprehension without a test: its element is asked -/
theorem yes_if {σ : L2.St} {H : Hp} {A B : Hp → Prop} (h : A H) : tYes σ H (fun b H3 => if b = true then A H3 else B H3) := by
  have e : (if true = true then A H else B H) := iteT h
  exact e
end Kx
namespace Kx
open PySem PySem.Spec PyProof.Rows L2
/-- flat, or an object: two of one V are equal -/
def oneV (v : V) : Prop := flatB v = true ∨ ∃ a, v = .ref a
theorem hits_one {A : Around} {s : Shared} {ls : List (Key × V)} {vb : List (Key × Value)} (rb : KV ls vb) : ∀ {ks : List (Key × V)} {va : List (Key × Value)}, KV ks va → (∀ p ∈ ks, valV ls p.1 = some p.2 ∧ oneV p.2) → PySem.W.KeqHits A s vb va true
  | _, _, .nil, _ => .nil
  | _, _, .cons (a := p) (b := q) ⟨e, ry⟩ t, h => by
    obtain ⟨h1, h2⟩ := h p (List.mem_cons_self ..)
    have k := hits_one (A := A) (s := s) rb t fun p' hm => h p' (List.mem_cons_of_mem _ hm)
    obtain ⟨q1, q2⟩ := q
    simp only at e ry
    subst e
    have z := rb.val p.1
    rw [h1] at z
    cases hv : valueAt vb p.1 with
    | none => rw [hv] at z; exact (show False from z).elim
    | some u =>
      rw [hv] at z
      have z' : RelV p.2 u := z
      refine .hit (e := true) hv ?_ k
      rcases h2 with f | ⟨a, ea⟩
      · exact eqAt_same ry z' f
      · rw [ea] at ry z'
        cases (show q2 = Value.ref a from ry)
        cases (show u = Value.ref a from z')
        exact SeqAt.EqAt.same _
def rNeDict : R2 := fun x y H Q => ∃ a b ks ls, x = .ref a ∧ y = .ref b ∧ H a = some (.dK ks) ∧ H b = some (.dK ls) ∧ ks.length = ls.length ∧ (∀ p ∈ ks, valV ls p.1 = some p.2 ∧ oneV p.2) ∧ Q (.bl false) H
section
variable {X : Cx}
theorem op_neDict (hu : X.A.units < cLine) : OpR X (compareOp .NotEq) rNeDict := by
  intro pins s σ H x y v u Q I rx ry hyp
  obtain ⟨a, b, ks, ls, rfl, rfl, ea, eb, hlen, hp, fin⟩ := hyp
  cases (show v = Value.ref a from rx)
  cases (show u = Value.ref b from ry)
  obtain ⟨_, y1, va, ra, da⟩ := (show ObjOk X.prog X.w H s.heap a (.dK ks) from I.hok a _ ea)
  obtain ⟨_, y2, vb, rb, db⟩ := (show ObjOk X.prog X.w H s.heap b (.dK ls) from I.hok b _ eb)
  have few : va.length = vb.length := by rw [← ra.length, ← rb.length]; exact hlen
  exact PySem.W.keq_ne (knd := mixKind X.prog X.w) (r := true) y1 y2 da db hu (fun _ => hits_one rb ra hp) (fin_bl I fin (by simp [few]))
end
/-! ### sorted(xs), xs in order already: alike data -/
def rSortedUp (K : PySem.W.Frag) : List V → Hp → VK → Prop := fun vs H Q => ∃ (a : Addr) (xs : List V) (ds : List PyData), vs = [.ref a] ∧ SqL K H a xs ∧ DpAll K H xs ds ∧ PySem.W.AllAlike ds ∧ PySem.W.Sortable ds ∧ (∀ d ∈ ds, d.depth ≤ 60) ∧ ds.Pairwise (fun x y => PySem.W.dataLt y x = false) ∧ ∀ p, H p = none → Q (.ref p) (upd H p (.lst xs))
theorem each_zip {F : Value → PyData → Prop} : ∀ {vs : List Value} {ds : List PyData}, PySem.W.EachIs F vs ds → PySem.W.EachIs (fun v (b : Value × PyData) => v = b.1 ∧ F v b.2) vs (vs.zip ds)
  | _, _, .nil => .nil
  | _, _, .cons h t => .cons ⟨rfl, h⟩ (each_zip t)
theorem each_fst {bs : List (Value × PyData)} : ∀ {vs : List Value}, PySem.W.EachIs (fun v (b : Value × PyData) => v = b.1) vs bs → vs = bs.map (·.1)
  | _, .nil => rfl
  | _, .cons h t => by rw [List.map_cons, ← h, ← each_fst t]
theorem each_reads {h : Heap} : ∀ {ds : List PyData} {vs : List Value} {as : List Addr}, ReadsAll h vs ds as → PySem.W.EachIs (fun v d => ∃ as, Reads h v d as) vs ds
  | [], _, _, r => by cases r; exact .nil
  | d :: ds, _, _, r => by
    cases r with
    | cons a t => exact .cons ⟨_, a⟩ (each_reads t)
theorem zip_snd : ∀ {vs : List Value} {ds : List PyData}, vs.length = ds.length → (vs.zip ds).map (·.2) = ds
  | [], [], _ => rfl
  | v :: vs, d :: ds, h => by simp only [List.zip_cons_cons, List.map_cons]; rw [zip_snd (by simpa using h)]
theorem zip_fst : ∀ {vs : List Value} {ds : List PyData}, vs.length = ds.length → (vs.zip ds).map (·.1) = vs
  | [], [], _ => rfl
  | v :: vs, d :: ds, h => by simp only [List.zip_cons_cons, List.map_cons]; rw [zip_fst (by simpa using h)]
section
variable {X : Cx}
theorem cr_sortedUp (hu : X.A.units + 64 < cLine) : CallR X (.builtin "sorted") (rSortedUp X.K) := by
  intro pins s σ H vs us Q I r h
  obtain ⟨a, xs, ds, rfl, hs, hd, hal, hk, hdep, hpw, q⟩ := h
  obtain ⟨its, rv, hl, hz⟩ := I.list hs
  rw [Vals.ref1 r]
  obtain ⟨as, hR⟩ := Dp.readsAll I ds xs its hd rv
  have ez := each_zip (each_reads hR)
  have hlen : its.length = ds.length := SeqAt.ReadsAll.length ds its as hR
  have em := zip_snd hlen
  have ef := zip_fst hlen
  refine PySem.W.sorted_data (β := Value × PyData) (bs := its.zip ds) (enc := (·.2)) (R := fun v b => v = b.1) hl.isList (ez.mono fun _ _ h => h.1) (ez.mono fun _ _ h => h.2) (by rw [em]; exact hal) (by rw [em]; exact hk) (by rw [List.length_zip, ← hlen, Nat.min_self, ← rv.length]; exact hz) (fun b hb => ?_) fun out h1 h2 => ?_
  · have : b.2 ∈ ds := by rw [← em]; exact List.mem_map_of_mem hb
    have := hdep _ this
    omega
  · have e2 : (its.zip ds).mergeSort (PySem.W.dataLe false (·.2)) = its.zip ds := by
      refine List.mergeSort_of_pairwise ?_
      have hp : ((its.zip ds).map (·.2)).Pairwise (fun x y => PySem.W.dataLt y x = false) := by rw [em]; exact hpw
      rw [List.pairwise_map] at hp
      refine hp.imp fun {x y} hxy => ?_
      rw [PySem.W.dataLe_eq]
      show (!PySem.W.dataLt y.2 x.2) = true
      rw [hxy]; rfl
    rw [e2] at h2
    have e3 := each_fst h2
    rw [ef] at e3
    subst e3
    obtain ⟨ep, he'⟩ := PyProof.Rows.sortedAll_at s.heap out out.toArray
    exact ⟨.ref _, upd H (s.heap.objs.size + 1) (.lst xs), I.laid (t' := s.toks) (fun _ _ => PyProof.Rows.sortedAll_old) (Nat.le_succ _) ⟨hz, out, ep, rv, he'⟩, rfl, q _ (I.hok.fresh (Nat.le_succ _))⟩
/-! ### < and > of alike data -/
def rLtD (K : PySem.W.Frag) : R2 := fun x y H Q => ∃ d e, Dp K H x d ∧ Dp K H y e ∧ PySem.W.alike d e = true ∧ d ≠ .none ∧ d.depth ≤ 60 ∧ Q (.bl (PySem.W.dataLt d e)) H
def rGtD (K : PySem.W.Frag) : R2 := fun x y H Q => ∃ d e, Dp K H x d ∧ Dp K H y e ∧ PySem.W.alike d e = true ∧ d ≠ .none ∧ d.depth ≤ 60 ∧ Q (.bl (PySem.W.dataLt e d)) H
theorem op_ltD (hu : X.A.units + 64 < cLine) : OpR X (compareOp .Lt) (rLtD X.K) := by
  intro pins s σ H x y v u Q I rx ry h
  obtain ⟨d, e, hd, he, al, nn, dp, q⟩ := h
  obtain ⟨as, r1⟩ := Dp.reads I d x v hd rx
  obtain ⟨bs, r2⟩ := Dp.reads I e y u he ry
  exact PySem.W.lt_data r1 r2 al nn (by have := Nat.min_le_left d.depth e.depth; omega) ⟨.bl _, H, I, rfl, q⟩
theorem op_gtD (hu : X.A.units + 64 < cLine) : OpR X (compareOp .Gt) (rGtD X.K) := by
  intro pins s σ H x y v u Q I rx ry h
  obtain ⟨d, e, hd, he, al, nn, dp, q⟩ := h
  obtain ⟨as, r1⟩ := Dp.reads I d x v hd rx
  obtain ⟨bs, r2⟩ := Dp.reads I e y u he ry
  exact PySem.W.gt_data r1 r2 al nn (by have := Nat.min_le_left d.depth e.depth; omega) ⟨.bl _, H, I, rfl, q⟩
end
end Kx
/-! The mathematics: trees, their keys, their order, the rows of a size. -/
namespace Kx
open PySem PySem.Spec PyProof.Rows L2
inductive PV where
  | str (z : Str)
  | int (n : Int)
  | tup (xs : List PV)
mutual
/-- how deep -/
def dep : PV → Nat
  | .str _ => 1
  | .int _ => 1
  | .tup ts => 1 + depL ts
def depL : List PV → Nat
  | [] => 0
  | t :: r => max (dep t) (depL r)
end
theorem dep_pos : ∀ t : PV, 1 ≤ dep t
  | .str _ => by simp [dep]
  | .int _ => by simp [dep]
  | .tup ts => by simp [dep]
theorem depL_mem : ∀ {l : List PV} {t : PV}, t ∈ l → dep t ≤ depL l
  | a :: r, t, h => by
    rcases List.mem_cons.mp h with rfl | h
    · simp only [depL]; omega
    · have := depL_mem h
      simp only [depL]; omega
theorem depL_le {l : List PV} {c : Nat} (h : ∀ t ∈ l, dep t ≤ c) : depL l ≤ c := by
  induction l with
  | nil => simp [depL]
  | cons t r ih =>
    have a := h t (List.mem_cons_self ..)
    have b := ih fun x hx => h x (List.mem_cons_of_mem _ hx)
    simp only [depL]; omega
/-- the number of parts of the maker with a word -/
def look (mk : List (Str × Int)) (w : Str) : Option Int := (mk.find? fun kv => kv.1 == w).map (·.2)
mutual
/-- a tree over the makers -/
def Wf (mk : List (Str × Int)) : PV → Prop
  | .str _ => False
  | .int _ => False
  | .tup [] => False
  | .tup (.int _ :: _) => False
  | .tup (.tup _ :: _) => False
  | .tup (.str w :: r) => look mk w = some (r.length : Int) ∧ r.length ≤ 2 ∧ WfL mk r
def WfL (mk : List (Str × Int)) : List PV → Prop
  | [] => True
  | t :: r => Wf mk t ∧ WfL mk r
end
theorem WfL_mem {mk : List (Str × Int)} : ∀ {l : List PV}, (∀ t ∈ l, Wf mk t) → WfL mk l
  | [], _ => trivial
  | t :: r, h => ⟨h t (List.mem_cons_self ..), WfL_mem fun x hx => h x (List.mem_cons_of_mem _ hx)⟩
theorem mem_WfL {mk : List (Str × Int)} : ∀ {l : List PV}, WfL mk l → ∀ t ∈ l, Wf mk t
  | a :: r, h, t, ht => by
    rcases List.mem_cons.mp ht with rfl | ht
    · exact h.1
    · exact mem_WfL h.2 t ht
theorem wf_inv {mk : List (Str × Int)} : ∀ {t : PV}, Wf mk t → ∃ w r, t = .tup (.str w :: r) ∧ look mk w = some (r.length : Int) ∧ r.length ≤ 2 ∧ WfL mk r
  | .tup (.str w :: r), h => ⟨w, r, rfl, h.1, h.2.1, h.2.2⟩
/-! ### as data -/
mutual
def toD : PV → PyData
  | .str z => .str z
  | .int n => .int n
  | .tup ts => .tuple (toDL ts)
def toDL : List PV → List PyData
  | [] => []
  | t :: r => toD t :: toDL r
end
mutual
theorem eqv_eq : ∀ {a b : PV}, PyData.eqv (toD a) (toD b) = true → a = b
  | .str x, .str y, h => by simp only [toD, PyData.eqv, beq_iff_eq] at h; rw [h]
  | .str x, .tup _, h => by simp [toD, PyData.eqv] at h
  | .str x, .int _, h => by simp [toD, PyData.eqv] at h
  | .tup _, .str y, h => by simp [toD, PyData.eqv] at h
  | .tup _, .int y, h => by simp [toD, PyData.eqv] at h
  | .int x, .str y, h => by simp [toD, PyData.eqv] at h
  | .int x, .tup y, h => by simp [toD, PyData.eqv] at h
  | .int x, .int y, h => by simp only [toD, PyData.eqv, beq_iff_eq] at h; rw [h]
  | .tup xs, .tup ys, h => by
    simp only [toD, PyData.eqv] at h
    rw [eqvL_eq h]
theorem eqvL_eq : ∀ {a b : List PV}, PyData.eqvAll (toDL a) (toDL b) = true → a = b
  | [], [], _ => rfl
  | [], _ :: _, h => by simp [toDL, PyData.eqvAll] at h
  | _ :: _, [], h => by simp [toDL, PyData.eqvAll] at h
  | x :: r, y :: s, h => by
    simp only [toDL, PyData.eqvAll, Bool.and_eq_true] at h
    rw [eqv_eq h.1, eqvL_eq h.2]
end
mutual
theorem eqv_self : ∀ a : PV, PyData.eqv (toD a) (toD a) = true
  | .str x => by simp [toD, PyData.eqv]
  | .int x => by simp [toD, PyData.eqv]
  | .tup xs => by simp only [toD, PyData.eqv]; exact eqvL_self xs
theorem eqvL_self : ∀ a : List PV, PyData.eqvAll (toDL a) (toDL a) = true
  | [] => by simp [toDL, PyData.eqvAll]
  | x :: r => by simp only [toDL, PyData.eqvAll, eqv_self x, eqvL_self r, Bool.and_self]
end
theorem eqv_iff {a b : PV} : PyData.eqv (toD a) (toD b) = true ↔ a = b := ⟨eqv_eq, fun e => by rw [e]; exact eqv_self b⟩
mutual
theorem toD_depth : ∀ t : PV, (toD t).depth ≤ dep t
  | .str _ => by simp [toD, PyData.depth]
  | .int _ => by simp [toD, PyData.depth]
  | .tup ts => by
    have := toDL_depth ts
    simp only [toD, PyData.depth, dep]; omega
theorem toDL_depth : ∀ l : List PV, PyData.depthAll (toDL l) ≤ depL l
  | [] => by simp [toDL, PyData.depthAll]
  | t :: r => by
    have a := toD_depth t
    have b := toDL_depth r
    simp only [toDL, PyData.depthAll, depL]; omega
end
theorem toDL_map : ∀ l : List PV, toDL l = l.map toD
  | [] => by simp [toDL]
  | t :: r => by simp [toDL, toDL_map r]
/-! ### size and key -/
mutual
def tsz : PV → Nat
  | .str _ => 1
  | .int _ => 1
  | .tup [] => 1
  | .tup (_ :: r) => 1 + tszL r
def tszL : List PV → Nat
  | [] => 0
  | t :: r => tsz t + tszL r
end
def idx (mk : List (Str × Int)) (w : Str) : Nat := (mk.map (·.1)).idxOf w
mutual
def key (mk : List (Str × Int)) : PV → PV
  | .str _ => .int 0
  | .int _ => .int 0
  | .tup [] => .int 0
  | .tup (.int _ :: _) => .int 0
  | .tup (.tup _ :: _) => .int 0
  | .tup (.str w :: r) => .tup (.int ((1 + tszL r : Nat) : Int) :: .int ((idx mk w : Nat) : Int) :: keyL mk r)
def keyL (mk : List (Str × Int)) : List PV → List PV
  | [] => []
  | t :: r => key mk t :: keyL mk r
end
theorem keyL_map (mk : List (Str × Int)) : ∀ l : List PV, keyL mk l = l.map (key mk)
  | [] => by simp [keyL]
  | t :: r => by simp [keyL, keyL_map mk r]
theorem look_in {mk : List (Str × Int)} {w : Str} {n : Int} (h : look mk w = some n) : w ∈ mk.map (·.1) := by
  unfold look at h
  cases q : mk.find? (fun kv => kv.1 == w) with
  | none => rw [q] at h; cases h
  | some kv =>
    have a := List.mem_of_find?_eq_some q
    have b := List.find?_some q
    have e : kv.1 = w := by simpa using b
    rw [← e]
    exact List.mem_map_of_mem a
theorem idx_lt {mk : List (Str × Int)} {w : Str} (h : w ∈ mk.map (·.1)) : idx mk w < (mk.map (·.1)).length := List.idxOf_lt_length_of_mem h
theorem idx_at {mk : List (Str × Int)} {w : Str} (h : w ∈ mk.map (·.1)) : (mk.map (·.1))[idx mk w]'(idx_lt h) = w := List.getElem_idxOf _
theorem idx_inj {mk : List (Str × Int)} {w w' : Str} (h : w ∈ mk.map (·.1)) (h' : w' ∈ mk.map (·.1)) (e : idx mk w = idx mk w') : w = w' := by
  have a := idx_at h
  have b := idx_at h'
  rw [← a, ← b]
  congr 1
mutual
theorem key_inj {mk : List (Str × Int)} : ∀ {x y : PV}, Wf mk x → Wf mk y → key mk x = key mk y → x = y
  | .tup (.str w :: r), .tup (.str w' :: r'), hx, hy, e => by
    simp only [key] at e
    have e1 := List.cons.inj (PV.tup.inj e)
    have e2 := List.cons.inj e1.2
    have ew : w = w' := idx_inj (look_in hx.1) (look_in hy.1) (by have := PV.int.inj e2.1; omega)
    rw [ew, keyL_inj hx.2.2 hy.2.2 e2.2]
theorem keyL_inj {mk : List (Str × Int)} : ∀ {x y : List PV}, WfL mk x → WfL mk y → keyL mk x = keyL mk y → x = y
  | [], [], _, _, _ => rfl
  | [], _ :: _, _, _, e => by simp [keyL] at e
  | _ :: _, [], _, _, e => by simp [keyL] at e
  | x :: r, y :: s, hx, hy, e => by
    simp only [keyL] at e
    have e1 := List.cons.inj e
    rw [key_inj hx.1 hy.1 e1.1, keyL_inj hx.2 hy.2 e1.2]
end
mutual
theorem alike_key {mk : List (Str × Int)} : ∀ {x y : PV}, Wf mk x → Wf mk y → PySem.W.alike (toD (key mk x)) (toD (key mk y)) = true
  | .tup (.str w :: r), .tup (.str w' :: r'), hx, hy => by
    simp only [key, toD, toDL, PySem.W.alike, PySem.W.alikeAll, Bool.true_and]
    exact alike_keyL hx.2.2 hy.2.2
theorem alike_keyL {mk : List (Str × Int)} : ∀ {x y : List PV}, WfL mk x → WfL mk y → PySem.W.alikeAll (toDL (keyL mk x)) (toDL (keyL mk y)) = true
  | [], [], _, _ => by simp [keyL, toDL, PySem.W.alikeAll]
  | [], _ :: _, _, _ => by simp [keyL, toDL, PySem.W.alikeAll]
  | _ :: _, [], _, _ => by simp [keyL, toDL, PySem.W.alikeAll]
  | x :: r, y :: s, hx, hy => by
    simp only [keyL, toDL, PySem.W.alikeAll, alike_key hx.1 hy.1, alike_keyL hx.2 hy.2, Bool.and_self]
end
mutual
theorem alike_tree {mk : List (Str × Int)} : ∀ {x y : PV}, Wf mk x → Wf mk y → PySem.W.alike (toD x) (toD y) = true
  | .tup (.str w :: r), .tup (.str w' :: r'), hx, hy => by
    simp only [toD, toDL, PySem.W.alike, PySem.W.alikeAll, Bool.true_and]
    exact alike_trees hx.2.2 hy.2.2
theorem alike_trees {mk : List (Str × Int)} : ∀ {x y : List PV}, WfL mk x → WfL mk y → PySem.W.alikeAll (toDL x) (toDL y) = true
  | [], [], _, _ => by simp [toDL, PySem.W.alikeAll]
  | [], _ :: _, _, _ => by simp [toDL, PySem.W.alikeAll]
  | _ :: _, [], _, _ => by simp [toDL, PySem.W.alikeAll]
  | x :: r, y :: s, hx, hy => by
    simp only [toDL, PySem.W.alikeAll, alike_tree hx.1 hy.1, alike_trees hx.2 hy.2, Bool.and_self]
end
/-! ### the order -/
/-- the key of x is less than that of y -/
def klt (mk : List (Str × Int)) (x y : PV) : Bool := PySem.W.dataLt (toD (key mk x)) (toD (key mk y))
def kltL (mk : List (Str × Int)) (x y : List PV) : Bool := PySem.W.rowLt (toDL (keyL mk x)) (toDL (keyL mk y))
theorem klt_eq {mk : List (Str × Int)} (w w' : Str) (r r' : List PV) : klt mk (.tup (.str w :: r)) (.tup (.str w' :: r')) = if tszL r = tszL r' then (if idx mk w = idx mk w' then kltL mk r r' else decide (idx mk w < idx mk w')) else decide (tszL r < tszL r') := by
  unfold klt kltL PySem.W.rowLt
  simp only [key, toD, toDL]
  rw [PySem.W.dataLt_tuple, PySem.W.dataLt_cons (by simp [PySem.W.alike]), PySem.W.dataLt_cons (by simp [PySem.W.alike]), PySem.W.dataLt_int, PySem.W.dataLt_int]
  simp only [PyData.eqv, beq_iff_eq]
  by_cases h : tszL r = tszL r'
  · rw [if_pos h, if_pos (by omega)]
    by_cases h2 : idx mk w = idx mk w'
    · rw [if_pos h2, if_pos (by omega)]
    · rw [if_neg h2, if_neg (by omega)]
      exact decide_eq_decide.mpr (by omega)
  · rw [if_neg h, if_neg (by omega)]
    exact decide_eq_decide.mpr (by omega)
theorem kltL_nil (mk : List (Str × Int)) : kltL mk [] [] = false := PyProof.Rows.lex_irrefl _
theorem kltL_self {mk : List (Str × Int)} (x : PV) (r r' : List PV) (hx : Wf mk x) : kltL mk (x :: r) (x :: r') = kltL mk r r' := by
  unfold kltL PySem.W.rowLt
  simp only [keyL, toDL]
  rw [PySem.W.dataLt_cons (alike_key hx hx), if_pos (eqv_self _)]
theorem kltL_ne {mk : List (Str × Int)} {x y : PV} (r r' : List PV) (hx : Wf mk x) (hy : Wf mk y) (n : x ≠ y) : kltL mk (x :: r) (y :: r') = klt mk x y := by
  unfold kltL PySem.W.rowLt klt
  simp only [keyL, toDL]
  rw [PySem.W.dataLt_cons (alike_key hx hy), if_neg (fun e => n (key_inj hx hy (eqv_eq e)))]
theorem klt_irrefl (mk : List (Str × Int)) (x : PV) : klt mk x x = false := PyProof.Rows.lex_irrefl _
theorem klt_asym {mk : List (Str × Int)} {x y : PV} (h : klt mk x y = true) : klt mk y x = false := by
  cases q : klt mk y x with
  | false => rfl
  | true =>
    have := PyProof.Rows.lex_trans _ _ _ h q
    rw [PyProof.Rows.lex_irrefl] at this
    cases this
theorem klt_size {mk : List (Str × Int)} {x y : PV} (hx : Wf mk x) (hy : Wf mk y) (h : tsz x < tsz y) : klt mk x y = true := by
  obtain ⟨w, r, rfl, _⟩ := wf_inv hx
  obtain ⟨w', r', rfl, _⟩ := wf_inv hy
  simp only [tsz] at h
  rw [klt_eq, if_neg (by omega)]
  exact decide_eq_true (by omega)
/-- -1, 0, 1 -/
def ordT (mk : List (Str × Int)) (x y : PV) : Int := (if klt mk y x = true then 1 else 0) - (if klt mk x y = true then 1 else 0)
theorem ord_lt {mk : List (Str × Int)} {x y : PV} (h : klt mk x y = true) : ordT mk x y = -1 := by
  unfold ordT
  rw [h, klt_asym h]; rfl
theorem ord_gt {mk : List (Str × Int)} {x y : PV} (h : klt mk y x = true) : ordT mk x y = 1 := by
  unfold ordT
  rw [h, klt_asym h]; rfl
theorem ord_self (mk : List (Str × Int)) (x : PV) : ordT mk x x = 0 := by
  unfold ordT
  rw [klt_irrefl]; rfl
end Kx
/-! The mathematics: the rows of trees by size. -/
namespace Kx
open PySem PySem.Spec PyProof.Rows L2
structure MkOk (mk : List (Str × Int)) : Prop where
  nd : (mk.map (·.1)).Nodup
  zero : ∃ kv ∈ mk, kv.2 = 0
  low : ∀ kv ∈ mk, 0 ≤ kv.2 ∧ kv.2 ≤ 2
  len : mk.length ≤ 5
  good : ∀ kv ∈ mk, PyData.strOk kv.1 = true
  zz : (Str.ofString "zero", (0 : Int)) ∈ mk
theorem look_mem : ∀ {mk : List (Str × Int)}, (mk.map (·.1)).Nodup → ∀ {kv : Str × Int}, kv ∈ mk → look mk kv.1 = some kv.2
  | [], _, kv, h => by simp at h
  | a :: r, nd, kv, h => by
    rw [List.map_cons] at nd
    obtain ⟨n1, n2⟩ := List.nodup_cons.mp nd
    rcases List.mem_cons.mp h with rfl | h
    · simp [look]
    · have ne : ¬ a.1 = kv.1 := fun e => n1 (by rw [e]; exact List.mem_map_of_mem h)
      have ih := look_mem n2 h
      unfold look at ih ⊢
      rw [List.find?_cons_of_neg (by simpa using ne)]
      exact ih
/-- the tuples of so many trees of this size in total, out of the rows -/
def prt (R : List (List PV)) : Nat → Nat → List (List PV)
  | 0, t => if t = 0 then [[]] else []
  | k + 1, t => (List.range' 1 (t - k)).flatMap fun l => (R.getD l []).flatMap fun a => (prt R k (t - l)).map (a :: ·)
/-- the trees of the next size -/
def nxt (mk : List (Str × Int)) (R : List (List PV)) : List PV := mk.flatMap fun kv => (prt R kv.2.toNat (R.length - 1)).map fun r => .tup (.str kv.1 :: r)
/-- the rows up to a size -/
def rws (mk : List (Str × Int)) : Nat → List (List PV)
  | 0 => [[]]
  | n + 1 => rws mk n ++ [nxt mk (rws mk n)]
structure RwOk (mk : List (Str × Int)) (R : List (List PV)) : Prop where
  one : 1 ≤ R.length
  zero : R.getD 0 [] = []
  wf : ∀ l, ∀ x ∈ R.getD l [], Wf mk x ∧ tsz x = l
  srt : ∀ l, (R.getD l []).Pairwise fun x y => klt mk x y = true
  deep : ∀ l, ∀ x ∈ R.getD l [], dep x ≤ 2 + (R.take l).flatten.length
theorem prt_mem {mk : List (Str × Int)} {R : List (List PV)} (h : ∀ l, ∀ x ∈ R.getD l [], Wf mk x ∧ tsz x = l) : ∀ (k t : Nat) {r : List PV}, r ∈ prt R k t → WfL mk r ∧ r.length = k ∧ tszL r = t
  | 0, t, r, hr => by
    unfold prt at hr
    split at hr
    · rename_i e
      rw [List.mem_singleton.mp hr]
      exact ⟨trivial, rfl, by simp only [tszL]; omega⟩
    · simp at hr
  | k + 1, t, r, hr => by
    unfold prt at hr
    obtain ⟨l, hl, hr⟩ := List.mem_flatMap.mp hr
    obtain ⟨a, ha, hr⟩ := List.mem_flatMap.mp hr
    obtain ⟨s, hs, rfl⟩ := List.mem_map.mp hr
    obtain ⟨w, n, z⟩ := prt_mem h k (t - l) hs
    obtain ⟨w1, n1⟩ := h l a ha
    have hl' := List.mem_range'_1.mp hl
    exact ⟨⟨w1, w⟩, by simp [n], by simp only [tszL]; omega⟩
theorem prt_srt {mk : List (Str × Int)} {R : List (List PV)} (h : ∀ l, ∀ x ∈ R.getD l [], Wf mk x ∧ tsz x = l) (hs : ∀ l, (R.getD l []).Pairwise fun x y => klt mk x y = true) : ∀ (k t : Nat), (prt R k t).Pairwise fun x y => kltL mk x y = true
  | 0, t => by
    unfold prt
    split
    · exact List.pairwise_singleton _ _
    · exact List.Pairwise.nil
  | k + 1, t => by
    unfold prt
    refine List.pairwise_flatMap.mpr ⟨fun l hl => List.pairwise_flatMap.mpr ⟨fun a ha => ?_, ?_⟩, ?_⟩
    · refine List.pairwise_map.mpr ((prt_srt h hs k (t - l)).imp fun {x y} e => ?_)
      rw [kltL_self a x y (h l a ha).1]; exact e
    · refine List.Pairwise.imp_of_mem (fun {a b} ha hb e x hx y hy => ?_) (hs l)
      obtain ⟨x', _, rfl⟩ := List.mem_map.mp hx
      obtain ⟨y', _, rfl⟩ := List.mem_map.mp hy
      rw [kltL_ne x' y' (h l a ha).1 (h l b hb).1 (fun q => by rw [q, klt_irrefl] at e; cases e)]
      exact e
    · refine (List.pairwise_lt_range' (s := 1) (n := t - k)).imp fun {l m} hlm x hx y hy => ?_
      obtain ⟨a, ha, hx⟩ := List.mem_flatMap.mp hx
      obtain ⟨b, hb, hy⟩ := List.mem_flatMap.mp hy
      obtain ⟨x', _, rfl⟩ := List.mem_map.mp hx
      obtain ⟨y', _, rfl⟩ := List.mem_map.mp hy
      obtain ⟨wa, sa⟩ := h l a ha
      obtain ⟨wb, sb⟩ := h m b hb
      rw [kltL_ne x' y' wa wb (fun q => by rw [q] at sa; omega)]
      exact klt_size wa wb (by omega)
theorem nd_idx {l : List Str} (nd : l.Nodup) : l.Pairwise fun a b => l.idxOf a < l.idxOf b := by
  rw [List.pairwise_iff_getElem]
  intro i j hi hj hij
  rw [nd.idxOf_getElem i hi, nd.idxOf_getElem j hj]
  exact hij
theorem mk_idx {mk : List (Str × Int)} (nd : (mk.map (·.1)).Nodup) : mk.Pairwise fun a b => idx mk a.1 < idx mk b.1 := (List.pairwise_map (R := fun a b => idx mk a < idx mk b)).mp (nd_idx nd)
theorem nxt_mem {mk : List (Str × Int)} {R : List (List PV)} (ok : MkOk mk) (h : RwOk mk R) {x : PV} (hx : x ∈ nxt mk R) : ∃ kv ∈ mk, ∃ r ∈ prt R kv.2.toNat (R.length - 1), x = .tup (.str kv.1 :: r) ∧ Wf mk x ∧ tsz x = R.length := by
  obtain ⟨kv, hk, hx⟩ := List.mem_flatMap.mp hx
  obtain ⟨r, hr, rfl⟩ := List.mem_map.mp hx
  obtain ⟨w, n, z⟩ := prt_mem h.wf _ _ hr
  have lo := ok.low kv hk
  have h1 := h.one
  refine ⟨kv, hk, r, hr, rfl, ⟨?_, by omega, w⟩, by simp only [tsz]; omega⟩
  rw [look_mem ok.nd hk, n]
  congr 1; omega
theorem nxt_srt {mk : List (Str × Int)} {R : List (List PV)} (ok : MkOk mk) (h : RwOk mk R) : (nxt mk R).Pairwise fun x y => klt mk x y = true := by
  refine List.pairwise_flatMap.mpr ⟨fun kv hk => ?_, ?_⟩
  · refine List.pairwise_map.mpr (List.Pairwise.imp_of_mem (fun {x y} hx hy e => ?_) (prt_srt h.wf h.srt _ _))
    have a := prt_mem h.wf _ _ hx
    have b := prt_mem h.wf _ _ hy
    rw [klt_eq, if_pos (by omega), if_pos rfl]
    exact e
  · refine (mk_idx ok.nd).imp fun {k m} hkm x hx y hy => ?_
    obtain ⟨r, hr, rfl⟩ := List.mem_map.mp hx
    obtain ⟨s, hs, rfl⟩ := List.mem_map.mp hy
    have a := prt_mem h.wf _ _ hr
    have b := prt_mem h.wf _ _ hs
    rw [klt_eq, if_pos (by omega), if_neg (by omega)]
    exact decide_eq_true hkm
theorem getD_over {R : List (List PV)} {l : Nat} (h : R.length ≤ l) : R.getD l [] = [] := by
  rw [List.getD_eq_getElem?_getD, List.getElem?_eq_none h]; rfl
theorem getD_in {R : List (List PV)} {l : Nat} (h : l < R.length) : R.getD l [] = R[l] := by
  rw [List.getD_eq_getElem?_getD, List.getElem?_eq_getElem h]; rfl
theorem getD_mem_len {R : List (List PV)} {l : Nat} {x : PV} (h : x ∈ R.getD l []) : l < R.length := by
  cases Nat.lt_or_ge l R.length with
  | inl h => exact h
  | inr h2 => rw [getD_over h2] at h; simp at h
theorem flat_take_succ {R : List (List PV)} {l : Nat} (h : l < R.length) : (R.take (l + 1)).flatten.length = (R.take l).flatten.length + (R.getD l []).length := by
  rw [List.take_succ_eq_append_getElem h, List.flatten_append, List.length_append]
  congr 1
  rw [getD_in h]
  simp
theorem flat_take_le {R : List (List PV)} (l : Nat) : (R.take l).flatten.length ≤ R.flatten.length := by
  have h := congrArg (fun z => (List.flatten z).length) (List.take_append_drop l R)
  simp only [List.flatten_append, List.length_append] at h
  omega
theorem part_dep {mk : List (Str × Int)} {R : List (List PV)} (h : RwOk mk R) {l : Nat} {x : PV} (hx : x ∈ R.getD l []) : dep x ≤ 1 + R.flatten.length := by
  have a := h.deep l x hx
  have b := getD_mem_len hx
  have c := flat_take_succ b
  have d := flat_take_le (R := R) (l + 1)
  have e : 0 < (R.getD l []).length := List.length_pos_of_mem hx
  omega
theorem prt_part {R : List (List PV)} : ∀ (k t : Nat) {r : List PV}, r ∈ prt R k t → ∀ x ∈ r, ∃ l, x ∈ R.getD l []
  | 0, t, r, hr, x, hx => by
    unfold prt at hr
    split at hr
    · rw [List.mem_singleton.mp hr] at hx; simp at hx
    · simp at hr
  | k + 1, t, r, hr, x, hx => by
    unfold prt at hr
    obtain ⟨l, hl, hr⟩ := List.mem_flatMap.mp hr
    obtain ⟨a, ha, hr⟩ := List.mem_flatMap.mp hr
    obtain ⟨s, hs, rfl⟩ := List.mem_map.mp hr
    rcases List.mem_cons.mp hx with rfl | hx
    · exact ⟨l, ha⟩
    · exact prt_part k (t - l) hs x hx
theorem nxt_dep {mk : List (Str × Int)} {R : List (List PV)} (ok : MkOk mk) (h : RwOk mk R) {x : PV} (hx : x ∈ nxt mk R) : dep x ≤ 2 + R.flatten.length := by
  obtain ⟨kv, hk, r, hr, rfl, _⟩ := nxt_mem ok h hx
  have : depL r ≤ 1 + R.flatten.length := depL_le fun t ht => let ⟨l, hl⟩ := prt_part _ _ hr t ht; part_dep h hl
  simp only [dep, depL]; omega
theorem getD_snoc (R : List (List PV)) (q : List PV) (l : Nat) : (R ++ [q]).getD l [] = if l = R.length then q else R.getD l [] := by
  rw [List.getD_eq_getElem?_getD, List.getD_eq_getElem?_getD, List.getElem?_append]
  by_cases h : l < R.length
  · rw [if_pos h, if_neg (by omega)]
  · rw [if_neg h]
    by_cases e : l = R.length
    · rw [if_pos e, e]; simp
    · rw [if_neg e, List.getElem?_eq_none (by simp; omega), List.getElem?_eq_none (by omega)]
theorem rw_next {mk : List (Str × Int)} {R : List (List PV)} (ok : MkOk mk) (h : RwOk mk R) : RwOk mk (R ++ [nxt mk R]) := by
  have h1 := h.one
  refine ⟨by simp, ?_, fun l x hx => ?_, fun l => ?_, fun l x hx => ?_⟩
  · rw [getD_snoc, if_neg (by omega)]; exact h.zero
  · rw [getD_snoc] at hx
    split at hx
    · rename_i e
      obtain ⟨_, _, _, _, _, w, z⟩ := nxt_mem ok h hx
      exact ⟨w, by omega⟩
    · exact h.wf l x hx
  · rw [getD_snoc]
    split
    · exact nxt_srt ok h
    · exact h.srt l
  · rw [getD_snoc] at hx
    split at hx
    · rename_i e
      have := nxt_dep ok h hx
      rw [e, List.take_append_of_le_length (Nat.le_refl _), List.take_length]
      exact this
    · have := getD_mem_len hx
      rw [List.take_append_of_le_length (by omega)]
      exact h.deep l x hx
theorem rw_zero (mk : List (Str × Int)) : RwOk mk [[]] := by
  have h : ∀ l, ([[]] : List (List PV)).getD l [] = [] := fun l => by cases l <;> simp
  refine ⟨by simp, h 0, fun l x hx => ?_, fun l => ?_, fun l x hx => ?_⟩
  · rw [h] at hx; simp at hx
  · rw [h]; exact List.Pairwise.nil
  · rw [h] at hx; simp at hx
theorem rws_ok {mk : List (Str × Int)} (ok : MkOk mk) : ∀ n, RwOk mk (rws mk n)
  | 0 => rw_zero mk
  | n + 1 => rw_next ok (rws_ok ok n)
theorem rws_len (mk : List (Str × Int)) : ∀ n, (rws mk n).length = n + 1
  | 0 => rfl
  | n + 1 => by simp [rws, rws_len mk n]
/-- all trees of the first rows, as they come -/
def fnd (mk : List (Str × Int)) (n : Nat) : List PV := (rws mk n).flatten
theorem fnd_succ (mk : List (Str × Int)) (n : Nat) : fnd mk (n + 1) = fnd mk n ++ nxt mk (rws mk n) := by simp [fnd, rws]
theorem fnd_zero (mk : List (Str × Int)) : fnd mk 0 = [] := rfl
theorem fnd_wf {mk : List (Str × Int)} (ok : MkOk mk) : ∀ n, ∀ x ∈ fnd mk n, Wf mk x
  | 0, x, h => by simp [fnd, rws] at h
  | n + 1, x, h => by
    rw [fnd_succ] at h
    rcases List.mem_append.mp h with h | h
    · exact fnd_wf ok n x h
    · obtain ⟨_, _, _, _, _, w, _⟩ := nxt_mem ok (rws_ok ok n) h; exact w
theorem fnd_sz {mk : List (Str × Int)} (ok : MkOk mk) : ∀ n, ∀ x ∈ fnd mk n, tsz x ≤ n
  | 0, x, h => by simp [fnd, rws] at h
  | n + 1, x, h => by
    rw [fnd_succ] at h
    rcases List.mem_append.mp h with h | h
    · exact Nat.le_succ_of_le (fnd_sz ok n x h)
    · obtain ⟨_, _, _, _, _, _, z⟩ := nxt_mem ok (rws_ok ok n) h; rw [z, rws_len]; exact Nat.le_refl _
theorem fnd_srt {mk : List (Str × Int)} (ok : MkOk mk) : ∀ n, (fnd mk n).Pairwise fun x y => klt mk x y = true
  | 0 => List.Pairwise.nil
  | n + 1 => by
    rw [fnd_succ]
    refine List.pairwise_append.mpr ⟨fnd_srt ok n, nxt_srt ok (rws_ok ok n), fun a ha b hb => ?_⟩
    obtain ⟨_, _, _, _, _, w, z⟩ := nxt_mem ok (rws_ok ok n) hb
    have := fnd_sz ok n a ha
    exact klt_size (fnd_wf ok n a ha) w (by rw [z, rws_len]; omega)
theorem fnd_dep {mk : List (Str × Int)} (ok : MkOk mk) {n : Nat} : ∀ x ∈ nxt mk (rws mk n), dep x ≤ 2 + (fnd mk n).length := fun x hx => nxt_dep ok (rws_ok ok n) hx
/-! ### lengths -/
theorem flatMap_len {α β : Type} {f : α → List β} {c : Nat} : ∀ {l : List α}, (∀ a ∈ l, (f a).length ≤ c) → (l.flatMap f).length ≤ l.length * c
  | [], _ => by simp
  | a :: r, h => by
    have := h a (List.mem_cons_self ..)
    have := flatMap_len (l := r) fun b hb => h b (List.mem_cons_of_mem _ hb)
    rw [List.flatMap_cons, List.length_append, List.length_cons, Nat.succ_mul]
    omega
theorem row_len {R : List (List PV)} (l : Nat) : (R.getD l []).length ≤ R.flatten.length := by
  cases Nat.lt_or_ge l R.length with
  | inl h =>
    have a := flat_take_succ h
    have b := flat_take_le (R := R) (l + 1)
    omega
  | inr h => rw [getD_over h]; simp
theorem flatMap_one {β : Type} {t : Nat} {f : Nat → List β} : ∀ {n : Nat} {s : Nat}, s ≤ t → t < s + n → (∀ l, l ≠ t → s ≤ l → l < s + n → f l = []) → (List.range' s n).flatMap f = f t
  | 0, s, h, h2, _ => by omega
  | n + 1, s, h, h2, h0 => by
    rw [List.range'_succ, List.flatMap_cons]
    by_cases e : s = t
    · subst e
      have : (List.range' (s + 1) n).flatMap f = [] := by
        rw [List.flatMap_eq_nil_iff]
        intro l hl
        have := List.mem_range'_1.mp hl
        exact h0 l (by omega) (by omega) (by omega)
      rw [this, List.append_nil]
    · rw [h0 s e (Nat.le_refl _) (by omega), List.nil_append]
      exact flatMap_one (by omega) (by omega) fun l a b c => h0 l a (by omega) (by omega)
theorem prt_one {R : List (List PV)} (h : R.getD 0 [] = []) (t : Nat) : prt R 1 t = (R.getD t []).map fun a => [a] := by
  unfold prt
  cases t with
  | zero => rw [h]; rfl
  | succ t =>
    rw [Nat.sub_zero, flatMap_one (t := t + 1) (by omega) (by omega)]
    · simp only [Nat.sub_self, prt, if_pos]
      exact List.map_eq_flatMap.symm
    · intro l n a b
      have : ¬ (t + 1 - l = 0) := by omega
      simp [prt, this]
theorem prt_len {R : List (List PV)} (h : R.getD 0 [] = []) (k t : Nat) (hk : k ≤ 2) (c : Nat) (hR : R.flatten.length ≤ c) (hc : 1 ≤ c) : (prt R k t).length ≤ (t + 1) * (c * c) := by
  have c1 : c ≤ c * c := Nat.le_mul_of_pos_left c hc
  have t1 : c * c ≤ (t + 1) * (c * c) := Nat.le_mul_of_pos_left _ (by omega)
  have one : ∀ t, (prt R 1 t).length ≤ c := fun t => by
    rw [prt_one h, List.length_map]
    exact Nat.le_trans (row_len t) hR
  match k, hk with
  | 0, _ =>
    unfold prt
    split
    · simp only [List.length_singleton]; omega
    · simp
  | 1, _ => exact Nat.le_trans (one t) (by omega)
  | 2, _ =>
    unfold prt
    have a := flatMap_len (l := List.range' 1 (t - 1)) (f := fun l => (R.getD l []).flatMap fun a => (prt R 1 (t - l)).map (a :: ·)) (c := c * c) fun l _ => by
      have b := flatMap_len (l := R.getD l []) (f := fun a => (prt R 1 (t - l)).map (a :: ·)) (c := c) fun x _ => by
        rw [List.length_map]; exact one _
      have d := row_len (R := R) l
      exact Nat.le_trans b (Nat.mul_le_mul_right _ (by omega))
    rw [List.length_range'] at a
    exact Nat.le_trans a (Nat.mul_le_mul_right _ (by omega))
end Kx
/-! The mathematics: how the rows grow; the first trees. -/
namespace Kx
open PySem PySem.Spec PyProof.Rows L2
theorem rws_get (mk : List (Str × Int)) : ∀ {m n : Nat}, n < m → (rws mk m).getD (n + 1) [] = nxt mk (rws mk n)
  | m + 1, n, h => by
    show (rws mk m ++ [nxt mk (rws mk m)]).getD (n + 1) [] = _
    rw [getD_snoc, rws_len]
    by_cases e : n = m
    · rw [if_pos (by omega), e]
    · rw [if_neg (by omega)]
      exact rws_get mk (by omega)
theorem prt_zero (R : List (List PV)) (t : Nat) : prt R 0 t = if t = 0 then [[]] else [] := rfl
/-- the makers without parts -/
theorem leaves_eq {mk : List (Str × Int)} (ok : MkOk mk) : nxt mk [[]] = (mk.filter fun kv => decide (kv.2 = 0)).map fun kv => .tup [.str kv.1] := by
  unfold nxt
  have low := ok.low
  clear ok
  induction mk with
  | nil => rfl
  | cons kv r ih =>
    rw [List.flatMap_cons, ih fun x hx => low x (List.mem_cons_of_mem _ hx)]
    obtain ⟨lo, hi⟩ := low kv (List.mem_cons_self ..)
    have h0 : ([[]] : List (List PV)).getD 0 [] = [] := rfl
    rcases (show kv.2 = 0 ∨ kv.2 = 1 ∨ kv.2 = 2 by omega) with e | e | e
    · rw [List.filter_cons_of_pos (by simpa using e), e]
      rfl
    · rw [List.filter_cons_of_neg (by simp [e]), e]
      rfl
    · rw [List.filter_cons_of_neg (by simp [e]), e]
      rfl
theorem leaf_in {mk : List (Str × Int)} (ok : MkOk mk) : ∃ x, x ∈ nxt mk [[]] := by
  rw [leaves_eq ok]
  obtain ⟨kv, h, z⟩ := ok.zero
  exact ⟨_, List.mem_map_of_mem (List.mem_filter.mpr ⟨h, by simpa using z⟩)⟩
theorem leaves_len {mk : List (Str × Int)} (ok : MkOk mk) : (nxt mk [[]]).length ≤ mk.length ∧ ((nxt mk [[]]).length < mk.length ↔ ∃ kv ∈ mk, kv.2 ≠ 0) := by
  rw [leaves_eq ok, List.length_map]
  refine ⟨List.length_filter_le .., ?_⟩
  rw [List.length_filter_lt_length_iff_exists]
  constructor
  · intro ⟨kv, h, z⟩
    exact ⟨kv, h, by simpa using z⟩
  · intro ⟨kv, h, z⟩
    exact ⟨kv, h, by simpa using z⟩
theorem all_leaves {mk : List (Str × Int)} (h : ¬ ∃ kv ∈ mk, kv.2 ≠ 0) {n : Nat} (hn : 1 ≤ n) : nxt mk (rws mk n) = [] := by
  unfold nxt
  rw [List.flatMap_eq_nil_iff]
  intro kv hk
  have e : kv.2 = 0 := Classical.byContradiction fun q => h ⟨kv, hk, q⟩
  rw [e, rws_len]
  show (prt (rws mk n) 0 (n + 1 - 1)).map _ = []
  rw [prt_zero, if_neg (by omega)]; rfl
theorem fnd_leaves {mk : List (Str × Int)} (h : ¬ ∃ kv ∈ mk, kv.2 ≠ 0) : ∀ n, 1 ≤ n → fnd mk n = fnd mk 1
  | n + 1, _ => by
    rcases Nat.eq_zero_or_pos n with rfl | p
    · rfl
    · rw [fnd_succ, all_leaves h p, List.append_nil]
      exact fnd_leaves h n p
theorem grow {mk : List (Str × Int)} (ok : MkOk mk) (h : ∃ kv ∈ mk, kv.2 ≠ 0) : ∀ n, ∃ x, x ∈ nxt mk (rws mk (2 * n))
  | 0 => leaf_in ok
  | n + 1 => by
    obtain ⟨x, hx⟩ := grow ok h n
    obtain ⟨kv, hk, z⟩ := h
    obtain ⟨lo, hi⟩ := ok.low kv hk
    have two : ∀ m y, y ∈ nxt mk (rws mk m) → kv.2 = 1 → ∃ x, x ∈ nxt mk (rws mk (m + 1)) := fun m y hy e => by
      refine ⟨.tup [.str kv.1, y], List.mem_flatMap.mpr ⟨kv, hk, List.mem_map.mpr ⟨[y], ?_, rfl⟩⟩⟩
      rw [e, rws_len]
      show [y] ∈ prt (rws mk (m + 1)) 1 (m + 1)
      rw [prt_one (rws_ok ok _).zero, rws_get mk (Nat.lt_succ_self m)]
      exact List.mem_map_of_mem (f := fun a => [a]) hy
    rcases (show kv.2 = 1 ∨ kv.2 = 2 by omega) with e | e
    · obtain ⟨y, hy⟩ := two _ x hx e
      exact two _ y hy e
    · obtain ⟨y, hy⟩ := leaf_in ok
      refine ⟨.tup [.str kv.1, y, x], List.mem_flatMap.mpr ⟨kv, hk, List.mem_map.mpr ⟨[y, x], ?_, rfl⟩⟩⟩
      rw [e, rws_len]
      show [y, x] ∈ prt (rws mk (2 * n + 2)) 2 (2 * n + 2)
      unfold prt
      refine List.mem_flatMap.mpr ⟨1, List.mem_range'_1.mpr ⟨Nat.le_refl _, show 1 < 1 + (2 * n + 2 - 1) by omega⟩, List.mem_flatMap.mpr ⟨y, ?_, List.mem_map.mpr ⟨[x], ?_, rfl⟩⟩⟩
      · show y ∈ (rws mk (2 * n + 2)).getD (0 + 1) []
        rw [rws_get mk (m := 2 * n + 2) (n := 0) (by omega)]; exact hy
      · rw [prt_one (rws_ok ok _).zero, show 2 * n + 2 - 1 = 2 * n + 1 by omega, rws_get mk (m := 2 * n + 2) (n := 2 * n) (by omega)]
        exact List.mem_map_of_mem (f := fun a => [a]) hx
theorem fnd_mono (mk : List (Str × Int)) (n : Nat) : ∀ d, ∃ r, fnd mk (n + d) = fnd mk n ++ r
  | 0 => ⟨[], by simp⟩
  | d + 1 => by
    obtain ⟨r, e⟩ := fnd_mono mk n d
    exact ⟨r ++ nxt mk (rws mk (n + d)), by rw [← Nat.add_assoc, fnd_succ, e, List.append_assoc]⟩
theorem fnd_grow {mk : List (Str × Int)} (ok : MkOk mk) (h : ∃ kv ∈ mk, kv.2 ≠ 0) : ∀ n, n ≤ (fnd mk (2 * n)).length
  | 0 => Nat.zero_le _
  | n + 1 => by
    have ih := fnd_grow ok h n
    obtain ⟨x, hx⟩ := grow ok h n
    have : 0 < (nxt mk (rws mk (2 * n))).length := List.length_pos_of_mem hx
    rw [show 2 * (n + 1) = 2 * n + 1 + 1 by omega, fnd_succ, fnd_succ, List.length_append, List.length_append]
    omega
theorem fnd_few {mk : List (Str × Int)} (ok : MkOk mk) (h : ∃ kv ∈ mk, kv.2 ≠ 0) {n : Nat} (hn : (fnd mk n).length < 40) : n < 80 := by
  refine Classical.byContradiction fun q => ?_
  obtain ⟨d, rfl⟩ : ∃ d, n = 2 * 40 + d := ⟨n - 80, by omega⟩
  obtain ⟨r, e⟩ := fnd_mono mk (2 * 40) d
  have := fnd_grow ok h 40
  rw [e, List.length_append] at hn
  omega
/-- the first trees -/
def due (mk : List (Str × Int)) (m : Nat) : List PV := (fnd mk 89).take m
theorem due_of {mk : List (Str × Int)} {n m : Nat} (hn : n ≤ 89) (h : m ≤ (fnd mk n).length) : (fnd mk n).take m = due mk m := by
  obtain ⟨r, e⟩ := fnd_mono mk n (89 - n)
  rw [show n + (89 - n) = 89 by omega] at e
  unfold due
  rw [e, List.take_append_of_le_length h]
theorem due_leaves {mk : List (Str × Int)} (h : ¬ ∃ kv ∈ mk, kv.2 ≠ 0) (m : Nat) : (fnd mk 1).take m = due mk m := by
  unfold due
  rw [fnd_leaves h 89 (by omega)]
theorem take_dep {mk : List (Str × Int)} (ok : MkOk mk) (m : Nat) : ∀ n, ∀ x ∈ (fnd mk n).take m, dep x ≤ 1 + m
  | 0, x, h => by simp [fnd, rws] at h
  | n + 1, x, h => by
    rw [fnd_succ, List.take_append] at h
    rcases List.mem_append.mp h with h | h
    · exact take_dep ok m n x h
    · have a := fnd_dep ok x (List.mem_of_mem_take h)
      have b : 0 < m - (fnd mk n).length := by
        refine Nat.pos_of_ne_zero fun e => ?_
        rw [e] at h; simp at h
      omega
theorem due_dep {mk : List (Str × Int)} (ok : MkOk mk) (m : Nat) : ∀ x ∈ due mk m, dep x ≤ 1 + m := take_dep ok m 89
theorem due_wf {mk : List (Str × Int)} (ok : MkOk mk) (m : Nat) : ∀ x ∈ due mk m, Wf mk x := fun x h => fnd_wf ok 89 x (List.mem_of_mem_take h)
theorem due_srt {mk : List (Str × Int)} (ok : MkOk mk) (m : Nat) : (due mk m).Pairwise fun x y => klt mk x y = true := (fnd_srt ok 89).sublist (List.take_sublist ..)
theorem due_len (mk : List (Str × Int)) (m : Nat) : (due mk m).length ≤ m := by unfold due; rw [List.length_take]; omega
mutual
theorem key_dep {mk : List (Str × Int)} : ∀ {x : PV}, Wf mk x → dep (key mk x) ≤ dep x
  | .tup (.str w :: r), hx => by
    have := keyL_dep hx.2.2
    simp only [key, dep, depL]; omega
theorem keyL_dep {mk : List (Str × Int)} : ∀ {x : List PV}, WfL mk x → depL (keyL mk x) ≤ depL x
  | [], _ => by simp [keyL, depL]
  | x :: r, hx => by
    have a := key_dep hx.1
    have b := keyL_dep hx.2
    simp only [keyL, depL]; omega
end
/-- as the law makes the next row: one maker's part -/
def lawOne (R : List (List PV)) (w : Str) (k : Int) : List PV :=
  (if k = 0 ∧ R.length = 1 then [.tup [.str w]] else []) ++ ((if k = 1 then (R.getD (R.length - 1) []).map fun a => .tup [.str w, a] else []) ++
  (if k = 2 then (List.range' 1 (R.length - 2)).flatMap fun l => (R.getD l []).flatMap fun a => (R.getD (R.length - 1 - l) []).map fun b => .tup [.str w, a, b] else []))
theorem lawOne_eq {R : List (List PV)} (h : R.getD 0 [] = []) (h1 : 1 ≤ R.length) (w : Str) {k : Int} (lo : 0 ≤ k) (hi : k ≤ 2) : lawOne R w k = (prt R k.toNat (R.length - 1)).map fun r => .tup (.str w :: r) := by
  unfold lawOne
  rcases (show k = 0 ∨ k = 1 ∨ k = 2 by omega) with e | e | e
  · subst e
    rw [if_neg (show ¬ (0 : Int) = 1 by omega), if_neg (show ¬ (0 : Int) = 2 by omega), List.append_nil, List.append_nil]
    show _ = (prt R 0 _).map _
    rw [prt_zero]
    by_cases q : R.length = 1
    · rw [if_pos ⟨rfl, q⟩, if_pos (by omega)]; rfl
    · rw [if_neg (fun z => q z.2), if_neg (by omega)]; rfl
  · subst e
    rw [if_neg (show ¬ ((1 : Int) = 0 ∧ R.length = 1) by omega), if_pos rfl, if_neg (show ¬ (1 : Int) = 2 by omega), List.append_nil, List.nil_append]
    show _ = (prt R 1 _).map _
    rw [prt_one h, List.map_map]; rfl
  · subst e
    rw [if_neg (show ¬ ((2 : Int) = 0 ∧ R.length = 1) by omega), if_neg (show ¬ (2 : Int) = 1 by omega), if_pos rfl, List.nil_append, List.nil_append]
    show _ = (prt R 2 _).map _
    rw [show prt R 2 (R.length - 1) = (List.range' 1 (R.length - 1 - 1)).flatMap (fun l => (R.getD l []).flatMap fun a => (prt R 1 (R.length - 1 - l)).map (a :: ·)) from rfl]
    rw [List.map_flatMap, show R.length - 1 - 1 = R.length - 2 by omega]
    congr 1; funext l
    rw [List.map_flatMap]
    congr 1; funext a
    rw [prt_one h, List.map_map, List.map_map]; rfl
theorem nxt_law {mk : List (Str × Int)} {R : List (List PV)} (ok : MkOk mk) (h : RwOk mk R) : nxt mk R = mk.flatMap fun kv => lawOne R kv.1 kv.2 := by
  unfold nxt
  have low := ok.low
  clear ok
  have h0 := h.zero
  have h1 := h.one
  clear h
  induction mk with
  | nil => rfl
  | cons kv r ih =>
    obtain ⟨lo, hi⟩ := low kv (List.mem_cons_self ..)
    rw [List.flatMap_cons, List.flatMap_cons, ih fun x hx => low x (List.mem_cons_of_mem _ hx), lawOne_eq h0 h1 _ lo hi]
end Kx
/-! The heap: what stands for a tree; the promises of the defs. -/
namespace Kx
open PySem PySem.Spec PyProof.Rows L2
/-- all its signs are signs -/
abbrev sok (z : Str) : Bool := PyData.strOk z
mutual
/-- the value v stands for the tree -/
inductive Is (H : Hp) : V → PV → Prop
  | str (z : Str) (ok : sok z = true) : Is H (.str z) (.str z)
  | int (n : Int) : Is H (.int n) (.int n)
  | tup {a : Addr} {vs : List V} {ts : List PV} (e : H a = some (.tup vs)) (h : IsL H vs ts) : Is H (.ref a) (.tup ts)
inductive IsL (H : Hp) : List V → List PV → Prop
  | nil : IsL H [] []
  | cons {v : V} {vs : List V} {t : PV} {ts : List PV} (h : Is H v t) (r : IsL H vs ts) : IsL H (v :: vs) (t :: ts)
end
/-- all but the list at d stands; that one is a list still -/
structure Ex (d : Addr) (H H' : Hp) : Prop where
  but : ∀ b o, b ≠ d → H b = some o → H' b = some o
  lst : (∃ xs, H d = some (.lst xs)) → ∃ xs, H' d = some (.lst xs)
theorem Ex.refl (d : Addr) (H : Hp) : Ex d H H := ⟨fun _ _ _ h => h, fun h => h⟩
theorem Ex.trans {d : Addr} {H H1 H2 : Hp} (a : Ex d H H1) (b : Ex d H1 H2) : Ex d H H2 := ⟨fun c o n h => b.but c o n (a.but c o n h), fun h => b.lst (a.lst h)⟩
theorem Ex.of {d : Addr} {H H' : Hp} (s : Same H H') : Ex d H H' := ⟨fun b o _ h => s b o h, fun ⟨xs, h⟩ => ⟨xs, s _ _ h⟩⟩
theorem Ex.new {d p : Addr} {H : Hp} (h : H p = none) (o : HO) : Ex d H (upd H p o) := .of fun b u e => by rw [upd_ne (ne_of_none e h)]; exact e
theorem Ex.set {d : Addr} {H : Hp} (xs : List V) : Ex d H (upd H d (.lst xs)) := ⟨fun b o n h => by rw [upd_ne n]; exact h, fun _ => ⟨xs, upd_same⟩⟩
theorem Ex.keep {d b : Addr} {H H' : Hp} {o : HO} (x : Ex d H H') (e : H b = some o) (hd : ∃ xs, H d = some (.lst xs)) (ho : ∀ xs, o ≠ .lst xs) : H' b = some o := by
  refine x.but b o (fun q => ?_) e
  subst q
  obtain ⟨xs, h⟩ := hd
  rw [e] at h
  cases h
  exact ho xs rfl
mutual
theorem Is.ex {d : Addr} {H H' : Hp} (x : Ex d H H') (hd : ∃ xs, H d = some (.lst xs)) : ∀ {v : V} {t : PV}, Is H v t → Is H' v t
  | _, _, .str z k => .str z k
  | _, _, .int n => .int n
  | _, _, .tup e h => .tup (x.keep e hd fun xs q => by cases q) (IsL.ex x hd h)
theorem IsL.ex {d : Addr} {H H' : Hp} (x : Ex d H H') (hd : ∃ xs, H d = some (.lst xs)) : ∀ {v : List V} {t : List PV}, IsL H v t → IsL H' v t
  | _, _, .nil => .nil
  | _, _, .cons h r => .cons (Is.ex x hd h) (IsL.ex x hd r)
end
mutual
theorem Is.same {H H' : Hp} (x : Same H H') : ∀ {v : V} {t : PV}, Is H v t → Is H' v t
  | _, _, .str z k => .str z k
  | _, _, .int n => .int n
  | _, _, .tup e h => .tup (x _ _ e) (IsL.same x h)
theorem IsL.same {H H' : Hp} (x : Same H H') : ∀ {v : List V} {t : List PV}, IsL H v t → IsL H' v t
  | _, _, .nil => .nil
  | _, _, .cons h r => .cons (Is.same x h) (IsL.same x r)
end
theorem same_upd {H : Hp} {p : Addr} (h : H p = none) (o : HO) : Same H (upd H p o) := fun b u e => by rw [upd_ne (ne_of_none e h)]; exact e
theorem IsL.len {H : Hp} : ∀ {v : List V} {t : List PV}, IsL H v t → v.length = t.length
  | _, _, .nil => rfl
  | _, _, .cons _ r => by simp [IsL.len r]
theorem IsL.get {H : Hp} : ∀ {v : List V} {t : List PV}, IsL H v t → ∀ {i : Nat} {x : V}, v[i]? = some x → ∃ y, t[i]? = some y ∧ Is H x y
  | _, _, .nil, i, x, h => by simp at h
  | _, _, .cons h r, 0, x, e => by cases (Option.some.inj e); exact ⟨_, rfl, h⟩
  | _, _, .cons h r, i + 1, x, e => IsL.get r (by simpa using e)
theorem IsL.append {H : Hp} : ∀ {v : List V} {t : List PV} {v' : List V} {t' : List PV}, IsL H v t → IsL H v' t' → IsL H (v ++ v') (t ++ t')
  | _, _, _, _, .nil, h => h
  | _, _, _, _, .cons a r, h => .cons a (r.append h)
theorem IsL.take {H : Hp} : ∀ (n : Nat) {v : List V} {t : List PV}, IsL H v t → IsL H (v.take n) (t.take n)
  | 0, _, _, _ => .nil
  | n + 1, _, _, .nil => .nil
  | n + 1, _, _, .cons a r => .cons a (r.take n)
theorem IsL.drop {H : Hp} : ∀ (n : Nat) {v : List V} {t : List PV}, IsL H v t → IsL H (v.drop n) (t.drop n)
  | 0, _, _, h => h
  | n + 1, _, _, .nil => .nil
  | n + 1, _, _, .cons a r => r.drop n
theorem IsL.reverse {H : Hp} : ∀ {v : List V} {t : List PV}, IsL H v t → IsL H v.reverse t.reverse
  | _, _, .nil => .nil
  | _, _, .cons a r => by simp only [List.reverse_cons]; exact r.reverse.append (.cons a .nil)
theorem IsL.snoc_inv {H : Hp} {v : List V} {t : List PV} {x : V} (h : IsL H v t) (e : v[v.length - 1]? = some x) (hn : v ≠ []) : ∃ ts y, t = ts ++ [y] ∧ Is H x y ∧ IsL H v.dropLast ts := by
  have hl := h.len
  have hv : 0 < v.length := by cases v with | nil => exact absurd rfl hn | cons _ _ => simp
  obtain ⟨y, e2, hy⟩ := h.get e
  refine ⟨t.take (t.length - 1), y, ?_, hy, ?_⟩
  · have : t.length - 1 < t.length := by omega
    have e3 : t[t.length - 1]'this = y := by
      rw [hl, List.getElem?_eq_getElem this] at e2
      exact Option.some.inj e2
    have h2 := List.take_append_drop (t.length - 1) t
    have h3 : t.drop (t.length - 1) = [y] := by
      rw [List.drop_eq_getElem_cons this, e3, List.drop_eq_nil_of_le (by omega)]
    rw [h3] at h2
    exact h2.symm
  · rw [List.dropLast_eq_take, hl]
    exact h.take _
mutual
theorem Is.lay {H : Hp} : ∀ {v : V} {t : PV}, Is H v t → (toD t).canLay0 = true
  | _, _, .str z k => by simp only [toD, PyData.canLay0]; exact k
  | _, _, .int n => by simp only [toD, PyData.canLay0]
  | _, _, .tup e h => by simp only [toD, PyData.canLay0]; exact IsL.lay h
theorem IsL.lay {H : Hp} : ∀ {v : List V} {t : List PV}, IsL H v t → PyData.canLayAll0 (toDL t) = true
  | _, _, .nil => by simp [toDL, PyData.canLayAll0]
  | _, _, .cons h r => by simp only [toDL, PyData.canLayAll0, Is.lay h, IsL.lay r, Bool.and_self]
end
mutual
theorem Is.dp {K : PySem.W.Frag} {H : Hp} : ∀ {v : V} {t : PV}, Is H v t → Dp K H v (toD t)
  | _, _, .str z k => by simp only [toD]; exact .str z
  | _, _, .int n => by simp only [toD]; exact .int n
  | _, _, .tup e h => by simp only [toD]; exact .tup (.inl (.inl e)) (IsL.dp h)
theorem IsL.dp {K : PySem.W.Frag} {H : Hp} : ∀ {v : List V} {t : List PV}, IsL H v t → DpAll K H v (toDL t)
  | _, _, .nil => by simp only [toDL]; exact .nil
  | _, _, .cons h r => by simp only [toDL]; exact .cons (Is.dp h) (IsL.dp r)
end
theorem Is.shaped {H : Hp} {v : V} {t : PV} (h : Is H v t) (d : dep t ≤ 64) : SeqAt.shaped (toD t) = true := by
  have a := toD_depth t
  unfold SeqAt.shaped
  rw [h.lay, Bool.true_and]
  exact decide_eq_true (by omega)
theorem Is.str_inv {H : Hp} {v : V} {z : Str} (h : Is H v (.str z)) : v = .str z := by cases h; rfl
theorem Is.tup_inv {H : Hp} {v : V} {ts : List PV} (h : Is H v (.tup ts)) : ∃ a vs, v = .ref a ∧ H a = some (.tup vs) ∧ IsL H vs ts := by
  cases h with
  | tup e h => exact ⟨_, _, rfl, e, h⟩
/-! ### makers -/
def mkV (kv : Str × Int) : List V := [.str kv.1, .int kv.2]
structure Mk (H : Hp) (a : Addr) (mk : List (Str × Int)) : Prop where
  at_ : ∃ (o : Obj) (ps : List Addr), H a = some (.frz o (.tup (ps.map V.ref))) ∧ o.dict = none ∧ Paired (fun p kv => H p = some (.tup (mkV kv))) ps mk
  ok : MkOk mk
theorem Paired.imp {α β : Type} {F G : α → β → Prop} : ∀ {l : List α} {m : List β}, Paired F l m → (∀ a b, F a b → G a b) → Paired G l m
  | _, _, .nil, _ => .nil
  | _, _, .cons h t, f => .cons (f _ _ h) (Paired.imp t f)
theorem Mk.same {H H' : Hp} {a : Addr} {mk : List (Str × Int)} (x : Same H H') (h : Mk H a mk) : Mk H' a mk := by
  obtain ⟨⟨o, ps, e, d, p⟩, k⟩ := h
  exact ⟨⟨o, ps, x _ _ e, d, Paired.imp p fun _ _ q => x _ _ q⟩, k⟩
theorem Mk.ex {d : Addr} {H H' : Hp} {a : Addr} {mk : List (Str × Int)} (x : Ex d H H') (hd : ∃ xs, H d = some (.lst xs)) (h : Mk H a mk) : Mk H' a mk := by
  obtain ⟨⟨o, ps, e, dn, p⟩, k⟩ := h
  exact ⟨⟨o, ps, x.keep e hd (fun _ q => by cases q), dn, Paired.imp p fun _ _ q => x.keep q hd (fun _ q => by cases q)⟩, k⟩
/-! ### draws -/
def Dr (H : Hp) (d sa : Addr) : Prop := ∃ (ns : List Int) (i c m : Int), H d = some (.lst [.ref sa, .int i, .int c, .int m]) ∧ H sa = some (.lst (ns.map V.int)) ∧ sa ≠ d ∧ 0 ≤ i ∧ 0 ≤ c ∧ 0 ≤ m ∧ m < 2147483648 ∧ ns.length ≤ 63
theorem Dr.lst {H : Hp} {d sa : Addr} (h : Dr H d sa) : ∃ xs, H d = some (.lst xs) := by
  obtain ⟨ns, i, c, m, e, _⟩ := h
  exact ⟨_, e⟩
theorem Dr.same {H H' : Hp} {d sa : Addr} (x : Same H H') (h : Dr H d sa) : Dr H' d sa := by
  obtain ⟨ns, i, c, m, e, e2, r⟩ := h
  exact ⟨ns, i, c, m, x _ _ e, x _ _ e2, r⟩
theorem Dr.own {H : Hp} {d sa l : Addr} {o : HO} (h : Dr H d sa) (n1 : l ≠ d) (n2 : l ≠ sa) : Dr (upd H l o) d sa := by
  obtain ⟨ns, i, c, m, e, e2, r⟩ := h
  exact ⟨ns, i, c, m, by rw [upd_ne n1.symm]; exact e, by rw [upd_ne n2.symm]; exact e2, r⟩
theorem Dr.free {H H1 : Hp} {d sa l : Addr} (h : Dr H d sa) (n : H l = none) : l ≠ d ∧ l ≠ sa := by
  obtain ⟨ns, i, c, m, e, e2, r⟩ := h
  exact ⟨(ne_of_none e n).symm, (ne_of_none e2 n).symm⟩
theorem Ex.own {d l : Addr} {H H1 : Hp} (x : Ex d H H1) (hl : H l = none) (o : HO) : Ex d H (upd H1 l o) :=
  ⟨fun b u n h => by rw [upd_ne (ne_of_none h hl)]; exact x.but b u n h, fun h => by
    obtain ⟨xs, e⟩ := h
    rw [upd_ne (ne_of_none e hl)]
    exact x.lst ⟨xs, e⟩⟩
theorem Same.own {l : Addr} {H H1 : Hp} (x : Same H H1) (hl : H l = none) (o : HO) : Same H (upd H1 l o) := fun b u h => by rw [upd_ne (ne_of_none h hl)]; exact x b u h
def spDraws (K : PySem.W.Frag) : Sp := fun vs H Q _ => ∃ (a : Addr) (ns : List Int), vs = [.ref a] ∧ SqL K H a (ns.map V.int) ∧ ns.length ≤ 63 ∧ ∀ d sa H', Same H H' → Dr H' d sa → Q (.ref d) H'
def spDraw : Sp := fun vs H Q _ => ∃ (d sa : Addr) (n : Int), vs = [.ref d, .int n] ∧ Dr H d sa ∧ 1 ≤ n ∧ n ≤ 1000 ∧ ∀ (r : Int) H', 0 ≤ r → r < n → Ex d H H' → Dr H' d sa → Q (.int r) H'
def spPick (K : PySem.W.Frag) : Sp := fun vs H Q _ => ∃ (d sa p : Addr) (xs : List V), vs = [.ref d, .ref p] ∧ Dr H d sa ∧ (H p = some (.lst xs) ∨ SqT K H p xs) ∧ p ≠ d ∧ 1 ≤ xs.length ∧ xs.length ≤ 1000 ∧ ∀ (x : V) H', x ∈ xs → Ex d H H' → Dr H' d sa → Q x H'
def spMakers : Sp := fun vs H Q _ => ∃ (d sa : Addr), vs = [.ref d] ∧ Dr H d sa ∧ ∀ a H' mk, Mk H' a mk → Ex d H H' → Dr H' d sa → Q (.ref a) H'
/-- all tuples stand -/
def KeepT (H H' : Hp) : Prop := ∀ b vs, H b = some (.tup vs) → H' b = some (.tup vs)
mutual
theorem Is.keep {H H' : Hp} (x : KeepT H H') : ∀ {v : V} {t : PV}, Is H v t → Is H' v t
  | _, _, .str z k => .str z k
  | _, _, .int n => .int n
  | _, _, .tup e h => .tup (x _ _ e) (IsL.keep x h)
theorem IsL.keep {H H' : Hp} (x : KeepT H H') : ∀ {v : List V} {t : List PV}, IsL H v t → IsL H' v t
  | _, _, .nil => .nil
  | _, _, .cons h r => .cons (Is.keep x h) (IsL.keep x r)
end
theorem KeepT.set {H : Hp} {l : Addr} {xs : List V} (e : H l = some (.lst xs)) (o : HO) : KeepT H (upd H l o) := fun b vs h => by
  rw [upd_ne (fun q => by subst q; rw [e] at h; cases h)]; exact h
theorem KeepT.of {H H' : Hp} (s : Same H H') : KeepT H H' := fun b vs h => s _ _ h
theorem KeepT.trans {H H1 H2 : Hp} (a : KeepT H H1) (b : KeepT H1 H2) : KeepT H H2 := fun c vs h => b c vs (a c vs h)
theorem upd_out {H : Hp} {b l : Addr} {o x : HO} {bad : List Addr} (nb : b ∉ bad) (m : l ∈ bad) (e : H b = some x) : upd H l o b = some x := by
  have n : b ≠ l := fun q => nb (by rw [q]; exact m)
  rw [upd_ne n]; exact e
/-- the rows of trees, in lists of their own, not one of the given -/
def RowsAt (H : Hp) (a : Addr) (bad : List Addr) (R : List (List PV)) : Prop := ∃ ps : List Addr, H a = some (.lst (ps.map V.ref)) ∧ Paired (fun p row => p ∉ bad ∧ ∃ vs, H p = some (.lst vs) ∧ IsL H vs row) ps R
theorem RowsAt.same {H H' : Hp} {a : Addr} {bad : List Addr} {R : List (List PV)} (h : RowsAt H a bad R) (s : Same H H') : RowsAt H' a bad R := by
  obtain ⟨ps, e, p⟩ := h
  exact ⟨ps, s _ _ e, Paired.imp p fun _ _ ⟨n, vs, e, i⟩ => ⟨n, vs, s _ _ e, i.same s⟩⟩
theorem RowsAt.len {H : Hp} {a : Addr} {bad : List Addr} {R : List (List PV)} (h : RowsAt H a bad R) : ∃ ps : List Addr, H a = some (.lst (ps.map V.ref)) ∧ ps.length = R.length := by
  obtain ⟨ps, e, p⟩ := h
  exact ⟨ps, e, Paired.length p⟩
theorem RowsAt.set {H : Hp} {a l : Addr} {bad : List Addr} {R : List (List PV)} {xs : List V} (h : RowsAt H a bad R) (e : H l = some (.lst xs)) (n : l ≠ a) (m : l ∈ bad) (o : HO) : RowsAt (upd H l o) a bad R := by
  obtain ⟨ps, e0, p⟩ := h
  exact ⟨ps, by rw [upd_ne n.symm]; exact e0, Paired.imp p fun b _ ⟨nb, vs, e1, i⟩ => ⟨nb, vs, upd_out nb m e1, i.keep (.set e o)⟩⟩
theorem pair_get {α β : Type} {F : α → β → Prop} : ∀ {l : List α} {m : List β}, Paired F l m → ∀ {i : Nat} (h : i < l.length) (h2 : i < m.length), F l[i] m[i]
  | _, _, .cons a t, 0, _, _ => a
  | _, _, .cons a t, i + 1, h, h2 => pair_get t (by simpa using h) (by simpa using h2)
theorem RowsAt.get {H : Hp} {a : Addr} {bad : List Addr} {R : List (List PV)} (h : RowsAt H a bad R) {i : Nat} (hi : i < R.length) : ∃ qs p vs, H a = some (.lst qs) ∧ qs.length = R.length ∧ qs[i]? = some (.ref p) ∧ p ∉ bad ∧ H p = some (.lst vs) ∧ IsL H vs (R.getD i []) := by
  obtain ⟨ps, e, q⟩ := h
  have hl := Paired.length q
  obtain ⟨n, vs, e1, k⟩ := pair_get q (i := i) (by omega) hi
  refine ⟨_, ps[i]'(by omega), vs, e, by rw [List.length_map, hl], by rw [List.getElem?_map, List.getElem?_eq_getElem (by omega)]; rfl, n, e1, ?_⟩
  rw [getD_in hi]; exact k
theorem pair_snoc {α β : Type} {F : α → β → Prop} : ∀ {l : List α} {m : List β} {x : α} {y : β}, Paired F l m → F x y → Paired F (l ++ [x]) (m ++ [y])
  | _, _, _, _, .nil, h => .cons h .nil
  | _, _, _, _, .cons a t, h => .cons a (pair_snoc t h)
theorem RowsAt.snoc {H : Hp} {a p : Addr} {bad : List Addr} {R : List (List PV)} {ps : List Addr} {vs : List V} {row : List PV} (e : H a = some (.lst (ps.map V.ref))) (q : Paired (fun p row => p ∉ bad ∧ ∃ vs, H p = some (.lst vs) ∧ IsL H vs row) ps R) (m : a ∈ bad) (np : p ∉ bad) (ep : H p = some (.lst vs)) (i : IsL H vs row) : RowsAt (upd H a (.lst (ps.map V.ref ++ [V.ref p]))) a bad (R ++ [row]) := by
  refine ⟨ps ++ [p], by rw [upd_same, List.map_append]; rfl, pair_snoc (Paired.imp q fun b _ ⟨nb, vs, e1, i⟩ => ⟨nb, vs, upd_out nb m e1, i.keep (.set e _)⟩) ⟨np, vs, upd_out np m ep, i.keep (.set e _)⟩⟩
def spTerm (n : Nat) : Sp := fun vs H Q _ => ∃ (d sa m nl : Addr) (mk : List (Str × Int)) (xs : List V) (ts : List PV) (k : Nat), vs = [.ref d, .ref m, .ref nl, .int k] ∧ Dr H d sa ∧ Mk H m mk ∧ H nl = some (.lst xs) ∧ IsL H xs ts ∧ nl ≠ d ∧ 1 ≤ xs.length ∧ xs.length ≤ 10 ∧ (∀ t ∈ ts, Wf mk t ∧ dep t ≤ 2) ∧ k < n ∧
  ∀ v t H', Is H' v t → Wf mk t → dep t ≤ k + 2 → Ex d H H' → Dr H' d sa → Q v H'
def spSize (n : Nat) : Sp := fun vs H Q _ => ∃ (v : V) (mk : List (Str × Int)) (t : PV), vs = [v] ∧ Is H v t ∧ Wf mk t ∧ dep t ≤ n ∧ ∀ H', Same H H' → Q (.int ((tsz t : Nat) : Int)) H'
def spOrder (n : Nat) : Sp := fun vs H Q _ => ∃ (m : Addr) (mk : List (Str × Int)) (v u : V) (t s : PV), vs = [.ref m, v, u] ∧ Mk H m mk ∧ Is H v t ∧ Is H u s ∧ Wf mk t ∧ Wf mk s ∧ dep t ≤ n ∧ dep t ≤ 60 ∧ dep s ≤ 60 ∧ ∀ H', Same H H' → Q (.int (ordT mk t s)) H'
def spPart (n : Nat) : Sp := fun vs H Q _ => ∃ (ra : Addr) (bad : List Addr) (R : List (List PV)) (k t : Nat), vs = [.ref ra, .int k, .int t] ∧ RowsAt H ra bad R ∧ R.getD 0 [] = [] ∧ t < R.length ∧ R.length ≤ 90 ∧ R.flatten.length ≤ 39 ∧ k < n ∧ k ≤ 2 ∧
  ∀ p H' ws, Same H H' → H p = none → H' p = some (.lst ws) → IsL H' ws ((prt R k t).map PV.tup) → Q (.ref p) H'
def spSized : Sp := fun vs H Q _ => ∃ (m ra : Addr) (bad : List Addr) (mk : List (Str × Int)) (R : List (List PV)), vs = [.ref m, .ref ra, .int ((R.length : Nat) : Int)] ∧ Mk H m mk ∧ RowsAt H ra bad R ∧ RwOk mk R ∧ R.length ≤ 90 ∧ R.flatten.length ≤ 39 ∧
  ∀ p H' ws, Same H H' → H p = none → H' p = some (.lst ws) → IsL H' ws (nxt mk R) → Q (.ref p) H'
def spTrees : Sp := fun vs H Q _ => ∃ (m : Addr) (mk : List (Str × Int)) (k : Nat), vs = [.ref m, .int k] ∧ Mk H m mk ∧ k ≤ 40 ∧
  ∀ p H' ws, Same H H' → H p = none → H' p = some (.lst ws) → IsL H' ws (due mk k) → Q (.ref p) H'
def spKey (n : Nat) : Sp := fun vs H Q _ => ∃ (m : Addr) (mk : List (Str × Int)) (v : V) (t : PV), vs = [.ref m, v] ∧ Mk H m mk ∧ Is H v t ∧ Wf mk t ∧ dep t ≤ n ∧ ∀ u H', Same H H' → Is H' u (key mk t) → Q u H'
def spSign : Sp := fun vs H Q _ => ∃ (m : Addr) (mk : List (Str × Int)) (v u : V) (t s : PV), vs = [.ref m, v, u] ∧ Mk H m mk ∧ Is H v t ∧ Is H u s ∧ Wf mk t ∧ Wf mk s ∧ dep t ≤ 45 ∧ dep s ≤ 45 ∧ ∀ H', Same H H' → Q (.int (ordT mk t s)) H'
def spRight : Sp := fun vs H Q _ => ∃ (m : Addr) (mk : List (Str × Int)) (v u : V) (t s : PV), vs = [.ref m, v, u] ∧ Mk H m mk ∧ Is H v t ∧ Is H u s ∧ Wf mk t ∧ Wf mk s ∧ dep t ≤ 45 ∧ dep s ≤ 45 ∧ ∀ H', Same H H' → Q (.bl true) H'
def spLaw (K : PySem.W.Frag) : Sp := fun vs H Q _ => ∃ (a : Addr) (ns : List Int), vs = [.ref a] ∧ SqL K H a (ns.map V.int) ∧ ns.length ≤ 63 ∧ ∀ H', Q (.bl true) H'
end Kx
namespace Kx
open PySem PySem.Spec PyProof.Rows L2
section
variable {P : Program} {w : World} {K : PySem.W.Frag} {mg : Str → Option Value} {base : Heap}
theorem fmb (a : Int) {b : Int} (hb : 0 < b) : 0 ≤ a.fmod b ∧ a.fmod b < b := ⟨Int.fmod_nonneg_of_pos a hb, Int.fmod_lt_of_pos a hb⟩
theorem at_int {ns : List Int} {i : Int} (h0 : 0 ≤ i) (h : i < ns.length) : ∃ x : Int, atI (ns.map V.int) i = some (.int x) := by
  have hk : i.toNat < ns.length := by omega
  have q : atI (ns.map V.int) ((i.toNat : Nat) : Int) = some (.int ns[i.toNat]) := atI_nat (by rw [List.getElem?_map, List.getElem?_eq_getElem hk] <;> rfl)
  rw [show ((i.toNat : Nat) : Int) = i by omega] at q
  exact ⟨_, q⟩
theorem ok_law_draws (T : Txt K mg)  : FnOk P w K mg base CX0 1 T.a_law_draws T.d_law_draws ["script"] (spDraws K) := by
  refine T.F_law_draws.ok sc_law_draws (fun vs H Q E h => ?_) (fun cdv A outer s H vs Q E hr h => ?_)
  · obtain ⟨a, ns, rfl, _⟩ := h; rfl
  · obtain ⟨a, ns, rfl, hS, hl, q⟩ := h
    refine ⟨_, (pss_one (ps_ret (pe_lst (pa_cons (pe_callTy call_list_of (by rfl) T.z_list (by decide +kernel) (pa_cons (pv 0) pa_nil)) (pa_cons pe_int (pa_cons pe_int (pa_cons pe_int pa_nil))))))), ?_⟩
    refine ⟨_, rfl, a, _, rfl, .inl hS, fun l hl1 => ?_⟩
    refine ⟨(by show 4 ≤ sizeLine; decide), fun d hd => ?_⟩
    have n1 : l ≠ d := ne_of_none upd_same hd
    refine q d l _ (Same.trans (same_upd hl1 _) (same_upd hd _)) ⟨ns, 0, 0, 1, upd_same, ?_, n1, by omega, by omega, by omega, by omega, hl⟩
    rw [upd_ne n1, upd_same]
theorem ok_law_draw (T : Txt K mg)  : FnOk P w K mg base CX0 1 T.a_law_draw T.d_law_draw ["draws", "limit"] spDraw := by
  refine T.F_law_draw.ok sc_law_draw (fun vs H Q E h => ?_) (fun cdv A outer s H vs Q E hr h => ?_)
  · obtain ⟨d, sa, n, rfl, _⟩ := h; rfl
  · obtain ⟨d, sa, n, rfl, hD, h1, h2, q⟩ := h
    refine ⟨_, (Evl.pss_cut (ps_if (PW.pt (pw_and (pt_cmpR op_eq (pe_ix ix_list (pv 0) pe_int (fun _ _ => rfl)) pe_int (nomark _)) (pw_and1 (pt_cmpR op_lt (pe_ix ix_list (pv 0) pe_int (fun _ _ => rfl)) (pe_callB call_len_seq (by rfl) T.z_len (by decide +kernel) (pa_cons (pe_ix ix_list (pv 0) pe_int (fun _ _ => rfl)) pa_nil)) (nomark _))))) (pss_cons (ps_set (i := 2) sc_law_draw.nd rfl (Or.inl rfl) (pe_callB call_abs (by rfl) T.z_abs (by decide +kernel) (pa_cons (pe_ix ix_list (pe_ix ix_list (pv 0) pe_int (fun _ _ => rfl)) (pe_ix ix_list (pv 0) pe_int (fun _ _ => rfl)) (fun _ _ => rfl)) pa_nil)))
    (pss_cons (ps_asg (pe_op op_add (pe_ix ix_list (pv 0) pe_int (fun _ _ => rfl)) pe_int) (pg_sub (pv 0) pe_int set_list))
    (pss_cons (ps_if (pt_cmpR op_ge (pv 2) (pe_op op_pow pe_int pe_int) (nomark _)) (pss_one (ps_asg (pv 2) (pg_sub (pv 0) pe_int set_list))) pss_nil)
    (pss_one (ps_asg (pe_op op_modN (pe_callTy call_int1 (by rfl) T.z_int (by decide +kernel) (pa_cons (pe_op op_add (pe_op op_add (pe_op op_mul (pe_ix ix_list (pv 0) pe_int (fun _ _ => rfl)) pe_int) (pv 2)) pe_int) pa_nil)) pe_int) (pg_sub (pv 0) pe_int set_list)))))) pss_nil)
    (pss_cons (ps_if (pt_cmpR op_gt (pe_ix ix_list (pv 0) pe_int (fun _ _ => rfl)) pe_int (nomark _)) (pss_cons (ps_set (i := 3) sc_law_draw.nd rfl (Or.inl rfl) (pe_op op_modN (pe_callTy call_int1 (by rfl) T.z_int (by decide +kernel) (pa_cons (pe_ix ix_list (pv 0) pe_int (fun _ _ => rfl)) pa_nil)) (pv 1)))
    (pss_cons (ps_asg (pe_op op_fdivN (pe_ix ix_list (pv 0) pe_int (fun _ _ => rfl)) (pv 1)) (pg_sub (pv 0) pe_int set_list))
    (pss_one (ps_ret (pv 3))))) pss_nil)
    (pss_cons (ps_asg (pe_op op_modN (pe_callTy call_int1 (by rfl) T.z_int (by decide +kernel) (pa_cons (pe_op op_add (pe_op op_mul (pe_ix ix_list (pv 0) pe_int (fun _ _ => rfl)) pe_int) pe_int) pa_nil)) pe_int) (pg_sub (pv 0) pe_int set_list))
    (pss_one (ps_ret (pe_op op_modN (pe_callTy call_int1 (by rfl) T.z_int (by decide +kernel) (pa_cons (pe_op op_fdivN (pe_ix ix_list (pv 0) pe_int (fun _ _ => rfl)) pe_int) pa_nil)) (pv 1))))))), ?_⟩
    refine ⟨fun σ H1 => ∃ y, σ = [some (.ref d), some (.int n), y, none] ∧ Dr H1 d sa ∧ Ex d H H1, ?_, fun σ' H' hm => ?_⟩
    · have hD0 := hD
      obtain ⟨ns, i, c, m, e, e2, hn, i0, c0, m0, m1, hl⟩ := hD
      refine ⟨_, rfl, d, _, _, _, rfl, rfl, SqL.of e, rfl, rfl, _, rfl, ?_⟩
      refine ite2 (fun cz => ?_) (fun cz => iteF ⟨none, rfl, hD0, .refl _ _⟩)
      refine ⟨_, rfl, d, _, _, _, rfl, rfl, SqL.of e, rfl, _, rfl, d, _, _, _, rfl, rfl, SqL.of e, rfl, sa, _, rfl, .inl (SqL.of e2), _, _, rfl, rfl, _, rfl, ?_⟩
      refine ite2 (fun ci => ?_) (fun ci => ⟨none, rfl, hD0, .refl _ _⟩)
      have ci' : i < (((ns.map V.int).length : Nat) : Int) := of_decide_eq_true ci
      rw [List.length_map] at ci'
      obtain ⟨x, hx⟩ := at_int i0 ci'
      refine ⟨_, rfl, d, _, _, _, rfl, rfl, SqL.of e, rfl, _, rfl, d, _, _, _, rfl, rfl, SqL.of e, rfl, sa, _, _, _, rfl, rfl, SqL.of e2, hx, _, rfl, ?_⟩
      refine ⟨_, rfl, d, _, _, _, rfl, rfl, SqL.of e, rfl, _, _, rfl, rfl, _, rfl, d, _, _, 1, rfl, rfl, e, rfl, ?_⟩
      refine ⟨_, rfl, _, _, rfl, rfl, ⟨by decide, by decide, by decide⟩, _, _, rfl, rfl, _, rfl, ?_⟩
      have ax : 0 ≤ (if x < 0 then -x else x) := by split <;> omega
      generalize (if x < 0 then -x else x) = cell at ax
      refine ite2 (fun cc => ?_) (fun cc => ?_)
      · refine ⟨_, rfl, _, rfl, d, _, _, 2, rfl, rfl, upd_same, rfl, ?_⟩
        refine ⟨_, rfl, d, _, _, _, rfl, rfl, SqL.of upd_same, rfl, _, _, rfl, rfl, .inl ⟨by omega, by omega⟩, _, rfl, _, _, rfl, rfl, _, _, rfl, rfl, .inl ⟨_, rfl, _, _, rfl, rfl, (by show (2147483647 : Int) ≠ 0; decide), _, rfl, d, _, _, 3, rfl, rfl, upd_same, rfl, ?_⟩⟩
        obtain ⟨b0, b1⟩ := fmb (m * 48271 + cell + 13) (b := 2147483647) (by decide)
        refine ⟨_, rfl, ⟨ns, i + 1, cell, _, upd_same, ?_, hn, by omega, ax, b0, by omega, hl⟩, ((Ex.set _).trans (.set _)).trans (.set _)⟩
        rw [upd_ne hn, upd_ne hn, upd_ne hn, e2]
      · refine ⟨_, rfl, d, _, _, _, rfl, rfl, SqL.of upd_same, rfl, _, _, rfl, rfl, .inl ⟨by omega, by omega⟩, _, rfl, _, _, rfl, rfl, _, _, rfl, rfl, .inl ⟨_, rfl, _, _, rfl, rfl, (by show (2147483647 : Int) ≠ 0; decide), _, rfl, d, _, _, 3, rfl, rfl, upd_same, rfl, ?_⟩⟩
        obtain ⟨b0, b1⟩ := fmb (m * 48271 + cell + 13) (b := 2147483647) (by decide)
        refine ⟨_, rfl, ⟨ns, i + 1, c, _, upd_same, ?_, hn, by omega, c0, b0, by omega, hl⟩, (Ex.set _).trans (.set _)⟩
        rw [upd_ne hn, upd_ne hn, e2]
    · obtain ⟨y, rfl, hD, hx⟩ := hm
      obtain ⟨ns, i, c, m, e, e2, hn, i0, c0, m0, m1, hl⟩ := hD
      have nz : n ≠ 0 := by omega
      refine ⟨_, rfl, d, _, _, _, rfl, rfl, SqL.of e, rfl, _, _, rfl, rfl, _, rfl, ?_⟩
      refine ite2 (fun cc => ?_) (fun cc => ?_)
      · refine ⟨_, rfl, d, _, _, _, rfl, rfl, SqL.of e, rfl, .inl ⟨_, rfl, _, rfl, _, _, rfl, rfl, nz, ?_⟩⟩
        refine ⟨_, rfl, d, _, _, _, rfl, rfl, SqL.of e, rfl, _, rfl, _, _, rfl, rfl, ⟨nz, by omega⟩, _, rfl, d, _, _, 2, rfl, rfl, e, rfl, _, rfl, ?_⟩
        obtain ⟨b0, b1⟩ := fmb c (b := n) (by omega)
        refine q _ _ b0 b1 (hx.trans (.set _)) ⟨ns, i, _, m, upd_same, ?_, hn, i0, Int.fdiv_nonneg c0 (by omega), m0, m1, hl⟩
        rw [upd_ne hn, e2]
      · refine ⟨_, rfl, d, _, _, _, rfl, rfl, SqL.of e, rfl, _, _, rfl, rfl, .inl ⟨by omega, by omega⟩, _, _, rfl, rfl, .inl ⟨_, rfl, _, _, rfl, rfl, (by show (2147483629 : Int) ≠ 0; decide), _, rfl, d, _, _, 3, rfl, rfl, e, rfl, ?_⟩⟩
        obtain ⟨b0, b1⟩ := fmb (m * 69621 + 7) (b := 2147483629) (by decide)
        refine ⟨_, rfl, d, _, _, _, rfl, rfl, SqL.of upd_same, rfl, _, _, rfl, rfl, ⟨by decide, by decide⟩, .inl ⟨_, rfl, _, rfl, _, _, rfl, rfl, nz, ?_⟩⟩
        obtain ⟨c0', c1⟩ := fmb (((m * 69621 + 7).fmod 2147483629).fdiv 11) (b := n) (by omega)
        refine q _ _ c0' c1 (hx.trans (.set _)) ⟨ns, i, c, _, upd_same, ?_, hn, i0, c0, b0, by omega, hl⟩
        rw [upd_ne hn, e2]
theorem ok_law_pick (T : Txt K mg) (G_law_draw : FnOk P w K mg base CX0 1 T.a_law_draw T.d_law_draw ["draws", "limit"] spDraw) : FnOk P w K mg base CX0 2 T.a_law_pick T.d_law_pick ["draws", "row"] (spPick K) := by
  refine T.F_law_pick.ok sc_law_pick (fun vs H Q E h => ?_) (fun cdv A outer s H vs Q E hr h => ?_)
  · obtain ⟨d, sa, p, xs, rfl, _⟩ := h; rfl
  · obtain ⟨d, sa, p, xs, rfl, hD, hP, hn, h1, h2, q⟩ := h
    have hr_law_draw := hr
    refine ⟨_, (pss_one (ps_ret (pe_ix ix_seq (pv 1) (pe_call G_law_draw hr_law_draw rfl T.m_law_draw T.F_law_draw.kp T.b_law_draw .nil pass0 (pa_cons (pv 0) (pa_cons (pe_callB call_len_seq (by rfl) T.z_len (by decide +kernel) (pa_cons (pv 1) pa_nil)) pa_nil))) (fun _ _ => rfl)))), ?_⟩
    have hD0 := hD.lst
    have seqs : ∀ H', Ex d H H' → H' p = some (.lst xs) ∨ SqT K H' p xs := fun H' x => by
      rcases hP with e | (e | ⟨o, e⟩) | e
      · exact .inl (x.but _ _ hn e)
      · exact .inr (.inl (.inl (x.but _ _ hn e)))
      · exact .inr (.inl (.inr ⟨o, x.but _ _ hn e⟩))
      · exact .inr (.inr e)
    refine ⟨_, rfl, _, rfl, _, rfl, p, xs, rfl, hP.imp SqL.of id, d, sa, _, rfl, hD, by omega, by omega, fun r H' r0 r1 hx hD' => ?_⟩
    have hk : r.toNat < xs.length := by omega
    have hat : atI xs r = some (xs[r.toNat]) := by
      have z : atI xs ((r.toNat : Nat) : Int) = some (xs[r.toNat]) := atI_nat (List.getElem?_eq_getElem hk)
      rwa [show ((r.toNat : Nat) : Int) = r by omega] at z
    have fin := q (xs[r.toNat]) H' (List.getElem_mem hk) hx hD'
    rcases seqs H' hx with e | e
    · exact .inl ⟨p, _, _, _, rfl, rfl, SqL.of e, hat, fin⟩
    · exact .inr (.inl ⟨p, _, _, _, rfl, rfl, e, hat, fin⟩)
end
end Kx
namespace Kx
open PySem PySem.Spec PyProof.Rows L2
section
variable {P : Program} {w : World} {K : PySem.W.Frag} {mg : Str → Option Value} {base : Heap}
theorem cut_from (xs : List V) {k : Nat} (h : k ≤ xs.length) : cutV xs (some (k : Int)) none = xs.drop k := by
  unfold cutV
  rw [HT.sIx_nat, HT.sIx_none, Nat.min_eq_left h, List.take_of_length_le (by rw [List.length_drop]; exact Nat.le_refl _)]
theorem cut_to (xs : List V) {k : Nat} (h : k ≤ xs.length) : cutV xs none (some (k : Int)) = xs.take k := by
  unfold cutV
  rw [HT.sIx_nat, HT.sIx_none, Nat.min_eq_left h]
  rfl
theorem pair_drop {α β : Type} {F : α → β → Prop} : ∀ (n : Nat) {l : List α} {m : List β}, Paired F l m → Paired F (l.drop n) (m.drop n)
  | 0, _, _, h => h
  | n + 1, _, _, .nil => .nil
  | n + 1, _, _, .cons _ t => pair_drop n t
theorem pair_take {α β : Type} {F : α → β → Prop} : ∀ (n : Nat) {l : List α} {m : List β}, Paired F l m → Paired F (l.take n) (m.take n)
  | 0, _, _, _ => .nil
  | n + 1, _, _, .nil => .nil
  | n + 1, _, _, .cons h t => .cons h (pair_take n t)
theorem pair_append {α β : Type} {F : α → β → Prop} : ∀ {l l' : List α} {m m' : List β}, Paired F l m → Paired F l' m' → Paired F (l ++ l') (m ++ m')
  | _, _, _, _, .nil, h => h
  | _, _, _, _, .cons h t, h' => .cons h (pair_append t h')
theorem pair_len {α β : Type} {F : α → β → Prop} : ∀ {l : List α} {m : List β}, Paired F l m → l.length = m.length
  | _, _, .nil => rfl
  | _, _, .cons _ t => by simp [pair_len t]
theorem mk_turn {mk : List (Str × Int)} (k : Nat) (h : MkOk mk) : MkOk (mk.drop k ++ mk.take k) := by
  have p : (mk.drop k ++ mk.take k).Perm mk := by
    have := List.perm_append_comm (l₁ := mk.drop k) (l₂ := mk.take k)
    rwa [List.take_append_drop] at this
  exact ⟨((p.map (·.1)).nodup_iff).mpr h.nd, h.zero.elim fun kv z => ⟨kv, p.mem_iff.mpr z.1, z.2⟩, fun kv z => h.low kv (p.mem_iff.mp z), by rw [p.length_eq]; exact h.len, fun kv z => h.good kv (p.mem_iff.mp z), p.mem_iff.mpr h.zz⟩
abbrev wds : List Str := ["next", "pair", "top", "x"]
theorem all_nd : ((Str.ofString "zero") :: wds).Nodup := by decide +kernel
theorem all_ok : ∀ z ∈ (Str.ofString "zero") :: wds, sok z = true := by decide +kernel
/-- what the loop has made so far -/
structure Rows (H : Hp) (l : Addr) (mk : List (Str × Int)) (i : Nat) : Prop where
  at_ : ∃ ps : List Addr, H l = some (.lst (ps.map V.ref)) ∧ Paired (fun p kv => H p = some (.tup (mkV kv))) ps mk
  sub : (mk.map (·.1)).Sublist ((Str.ofString "zero") :: wds.take i)
  zero : ∃ kv ∈ mk, kv.2 = 0
  low : ∀ kv ∈ mk, 0 ≤ kv.2 ∧ kv.2 ≤ 2
  zz : (Str.ofString "zero", (0 : Int)) ∈ mk
theorem Rows.len {H : Hp} {l : Addr} {mk : List (Str × Int)} {i : Nat} (h : Rows H l mk i) : mk.length ≤ 5 := by
  have a := h.sub.length_le
  rw [List.length_map, List.length_cons] at a
  have b : (wds.take i).length ≤ 4 := by rw [List.length_take]; exact Nat.min_le_right _ _
  omega
theorem Rows.okM {H : Hp} {l : Addr} {mk : List (Str × Int)} {i : Nat} (h : Rows H l mk i) : MkOk mk :=
  ⟨(h.sub.trans ((List.take_sublist i wds).cons_cons _)).nodup all_nd, h.zero, h.low, h.len, fun kv hk => all_ok _ ((h.sub.trans ((List.take_sublist i wds).cons_cons _)).subset (List.mem_map_of_mem hk)), h.zz⟩
theorem Rows.ex {d : Addr} {H H' : Hp} {l : Addr} {mk : List (Str × Int)} {i : Nat} (x : Ex d H H') (hd : ∃ xs, H d = some (.lst xs)) (hl : l ≠ d) (h : Rows H l mk i) : Rows H' l mk i := by
  obtain ⟨⟨ps, e, p⟩, a, b, c, zz⟩ := h
  exact ⟨⟨ps, x.but _ _ hl e, Paired.imp p fun _ _ q => x.keep q hd (fun _ q => by cases q)⟩, a, b, c, zz⟩
theorem ok_law_makers (T : Txt K mg) (G_law_draw : FnOk P w K mg base CX0 1 T.a_law_draw T.d_law_draw ["draws", "limit"] spDraw) : FnOk P w K mg base CX0 2 T.a_law_makers T.d_law_makers ["draws"] spMakers := by
  refine T.F_law_makers.ok sc_law_makers (fun vs H Q E h => ?_) (fun cdv A outer s H vs Q E hr h => ?_)
  · obtain ⟨d, sa, rfl, _⟩ := h; rfl
  · obtain ⟨d, sa, rfl, hD, q⟩ := h
    have hr_law_draw := hr
    refine ⟨_, (pss_cons (ps_set (i := 1) sc_law_makers.nd rfl (Or.inl rfl) (pe_lst (pa_cons (pe_tup (pa_cons pe_str (pa_cons pe_int pa_nil))) pa_nil)))
    (pss_cons (ps_for PassesOwn.never rfl (pi_list (pe_lst (pa_cons pe_str (pa_cons pe_str (pa_cons pe_str (pa_cons pe_str pa_nil)))))) (pg_name (i := 2) sc_law_makers.nd rfl (Or.inl rfl))
    (pss_one (ps_if (pt_cmpR op_gt (pe_call G_law_draw hr_law_draw rfl T.m_law_draw T.F_law_draw.kp T.b_law_draw .nil pass0 (pa_cons (pv 0) (pa_cons pe_int pa_nil))) pe_int (nomark _)) (pss_one (ps_expr (pe_bm PySem.F.plainAttrs_list PySem.F.slot_list_append PySem.F.type_list_append mt_append (pv 1) (pa_cons (pe_tup (pa_cons (pv 2) (pa_cons (pe_call G_law_draw hr_law_draw rfl T.m_law_draw T.F_law_draw.kp T.b_law_draw .nil pass0 (pa_cons (pv 0) (pa_cons pe_int pa_nil))) pa_nil))) pa_nil)))) pss_nil)))
    (pss_cons (ps_set (i := 3) sc_law_makers.nd rfl (Or.inl rfl) (pe_call G_law_draw hr_law_draw rfl T.m_law_draw T.F_law_draw.kp T.b_law_draw .nil pass0 (pa_cons (pv 0) (pa_cons (pe_callB call_len_seq (by rfl) T.z_len (by decide +kernel) (pa_cons (pv 1) pa_nil)) pa_nil))))
    (pss_one (ps_ret (pe_callTy call_tupleF (by rfl) T.z_tuple (by decide +kernel) (pa_cons (pe_op op_cat (pe_slice sl_list (pv 1) (po_some (pv 3)) po_none) (pe_slice sl_list (pv 1) po_none (po_some (pv 3)))) pa_nil))))))), ?_⟩
    refine ⟨(by show 2 ≤ sizeLine; decide), fun p1 hp1 => ⟨(by show 1 ≤ sizeLine; decide), fun l hl => ?_⟩⟩
    refine ⟨(by show 4 ≤ sizeLine; decide), fun wl hwl => ⟨wl, rfl, ⟨_, SqL.of upd_same⟩, ?_⟩⟩
    have nl1 : l ≠ p1 := fun e => by rw [e, upd_same] at hl; cases hl
    have nw1 : wl ≠ l := fun e => by rw [e, upd_same] at hwl; cases hwl
    have nw2 : wl ≠ p1 := fun e => by rw [e, upd_ne nl1.symm, upd_same] at hwl; cases hwl
    have s1 := same_upd hp1 (.tup [.str "zero", .int 0])
    have s2 := same_upd hl (.lst [.ref p1])
    have s3 := same_upd hwl (.lst (wds.map V.str))
    have s123 := (s1.trans s2).trans s3
    have fl : H l = none := s1.free hl
    have fw : H wl = none := (s1.trans s2).free hwl
    obtain ⟨nd1, ns1⟩ := hD.free (H1 := H) fl
    obtain ⟨ndw, nsw⟩ := hD.free (H1 := H) fw
    refine for_list (xs := wds.map V.str) (fun i σ H1 => ∃ y2 mk, σ = [some (.ref d), some (.ref l), y2, none] ∧ Dr H1 d sa ∧ Ex d H H1 ∧ H1 wl = some (.lst (wds.map V.str)) ∧ Rows H1 l mk i) ?_ ?_ ?_ ?_
    · refine ⟨none, [("zero", 0)], rfl, hD.same s123, .of s123, upd_same, ⟨[p1], ?_, ?_⟩, ?_, ⟨_, List.mem_singleton_self _, rfl⟩, ?_, List.mem_singleton_self _⟩
      · rw [upd_ne nw1.symm, upd_same]; rfl
      · refine .cons ?_ .nil
        rw [upd_ne nw2.symm, upd_ne nl1.symm, upd_same]; rfl
      · exact List.Sublist.refl _
      · intro kv hk
        rw [List.mem_singleton.mp hk]
        exact ⟨Int.le_refl _, by decide⟩
    · intro i σ H1 _ ⟨_, _, _, _, _, e, _⟩
      exact SqL.of e
    · intro i x σ H1 hx ⟨y2, mk, es, hD1, hx1, ew, hR⟩
      subst es
      refine ⟨_, rfl, d, sa, _, rfl, hD1, by omega, by omega, fun r H2 r0 r1 hx2 hD2 => ⟨_, _, rfl, rfl, _, rfl, ?_⟩⟩
      have hR2 := hR.ex hx2 hD1.lst nd1
      have ew2 := hx2.but _ _ ndw ew
      have hi : i < wds.length := by
        have := (List.getElem?_eq_some_iff.mp hx).1
        rwa [List.length_map] at this
      have xw : x = .str wds[i] := by
        rw [List.getElem?_map, List.getElem?_eq_getElem hi] at hx
        exact (Option.some.inj hx).symm
      subst xw
      have st : wds.take (i + 1) = wds.take i ++ [wds[i]] := List.take_succ_eq_append_getElem hi
      refine ite2 (fun _ => ?_) (fun _ => ?_)
      · obtain ⟨⟨ps, el, pp⟩, sb, zr, lw, zz⟩ := hR2
        have le5 : mk.length ≤ 5 := hR.len
        refine ⟨_, rfl, .inl ⟨rfl, _, SqL.of el⟩, _, rfl, _, rfl, d, sa, _, rfl, hD2, by omega, by omega, fun r2 H3 a0 a1 hx3 hD3 => ⟨(by show 2 ≤ sizeLine; decide), fun t ht => ?_⟩⟩
        have el3 := hx3.but _ _ nd1 el
        have nlt : l ≠ t := ne_of_none el3 ht
        have s4 := same_upd ht (.tup [.str wds[i], .int r2])
        refine ⟨l, _, _, rfl, rfl, s4 _ _ el3, ?_, ?_⟩
        · rw [List.length_map, pair_len pp]
          exact small1000 (by omega)
        · refine ⟨_, mk ++ [(wds[i], r2)], rfl, (hD3.same s4).own nd1 ns1, ((hx1.trans hx2).trans (hx3.trans (.of s4))).own fl _, ?_, ⟨ps ++ [t], ?_, ?_⟩, ?_, ?_, ?_, List.mem_append_left _ zz⟩
          · rw [upd_ne nw1]
            exact s4 _ _ (hx3.but _ _ ndw ew2)
          · rw [upd_same, List.map_append]; rfl
          · refine pair_append (Paired.imp pp fun a b e => ?_) (.cons ?_ .nil)
            · have e3 := hx3.keep e hD2.lst (fun _ q => by cases q)
              rw [upd_ne (ne_of e3 el3 (by intro z; cases z))]
              exact s4 _ _ e3
            · rw [upd_ne nlt.symm, upd_same]; rfl
          · rw [st, List.map_append, ← List.cons_append]
            exact sb.append (List.Sublist.refl _)
          · obtain ⟨kv, hk, z⟩ := zr
            exact ⟨kv, List.mem_append_left _ hk, z⟩
          · intro kv hk
            rcases List.mem_append.mp hk with hk | hk
            · exact lw kv hk
            · rw [List.mem_singleton.mp hk]
              exact ⟨a0, by show r2 ≤ 2; omega⟩
      · refine ⟨_, mk, rfl, hD2, hx1.trans hx2, ew2, ?_⟩
        obtain ⟨a, sb, zr, lw, zz⟩ := hR2
        refine ⟨a, ?_, zr, lw, zz⟩
        rw [st]
        exact sb.trans (((List.sublist_append_left _ _)).cons_cons _)
    · intro σ H1 ⟨y2, mk, es, hD1, hx1, ew, hR⟩
      subst es
      have hM := hR.okM
      obtain ⟨⟨ps, el, pp⟩, _⟩ := hR
      have hlen := pair_len pp
      have h5 := hM.len
      have h1 : 1 ≤ mk.length := by
        obtain ⟨kv, hk, _⟩ := hM.zero
        exact List.length_pos_of_mem hk
      refine ⟨_, rfl, _, rfl, l, _, rfl, .inl (SqL.of el), d, sa, _, rfl, hD1, ?_, ?_, fun r H2 r0 r1 hx2 hD2 => ?_⟩
      · rw [List.length_map]; omega
      · rw [List.length_map]; omega
      rw [List.length_map] at r1
      obtain ⟨k, rfl⟩ : ∃ k : Nat, r = (k : Int) := ⟨r.toNat, by omega⟩
      have hk : k ≤ (ps.map V.ref).length := by rw [List.length_map]; omega
      have el2 := hx2.but _ _ nd1 el
      refine ⟨_, rfl, _, rfl, _, rfl, l, _, rfl, SqL.of el2, fun c hc => ?_⟩
      have s5 := same_upd hc (.lst (cutV (ps.map V.ref) (some (k : Int)) none))
      refine ⟨_, rfl, _, rfl, _, rfl, l, _, rfl, SqL.of (s5 _ _ el2), fun c2 hc2 => ?_⟩
      have s6 := same_upd hc2 (.lst (cutV (ps.map V.ref) none (some (k : Int))))
      refine ⟨c, c2, _, _, rfl, rfl, s6 _ _ upd_same, upd_same, ?_, fun p hp => ?_⟩
      · have a := cutV_length (ps.map V.ref) (some (k : Int)) none
        have b := cutV_length (ps.map V.ref) none (some (k : Int))
        rw [List.length_map] at a b
        exact Nat.le_of_lt (small1000 (by omega))
      have s7 := same_upd hp (.lst (cutV (ps.map V.ref) (some (k : Int)) none ++ cutV (ps.map V.ref) none (some (k : Int))))
      refine ⟨p, _, rfl, SqL.of upd_same, fun a o ha od _ => ?_⟩
      have s8 := same_upd ha (.frz o (.tup (cutV (ps.map V.ref) (some (k : Int)) none ++ cutV (ps.map V.ref) none (some (k : Int)))))
      have s58 := ((s5.trans s6).trans s7).trans s8
      refine q a _ (mk.drop k ++ mk.take k) ⟨⟨o, ps.drop k ++ ps.take k, ?_, od, ?_⟩, mk_turn k hM⟩ ((hx1.trans hx2).trans (.of s58)) (hD2.same s58)
      · rw [upd_same, cut_from _ hk, cut_to _ hk, List.map_append, List.map_drop, List.map_take]
      · have pp2 := pair_append (pair_drop k pp) (pair_take k pp)
        exact Paired.imp pp2 fun x y e => s58 _ _ (hx2.keep e hD1.lst (fun _ q => by cases q))
end
end Kx
namespace Kx
open PySem PySem.Spec PyProof.Rows L2
section
variable {P : Program} {w : World} {K : PySem.W.Frag} {mg : Str → Option Value} {base : Heap}
theorem atT (x y : V) : atI [x, y] (1 : Int) = some y := rfl
/-- a list of values for terms that grow -/
theorem IsL.all {H : Hp} : ∀ {vs : List V} {ts : List PV}, IsL H vs ts → ∀ v ∈ vs, ∃ t ∈ ts, Is H v t
  | _, _, .nil, v, h => by simp at h
  | _, _, .cons a r, v, h => by
    rcases List.mem_cons.mp h with rfl | h
    · exact ⟨_, List.mem_cons_self .., a⟩
    · obtain ⟨t, ht, e⟩ := r.all v h
      exact ⟨t, List.mem_cons_of_mem _ ht, e⟩
theorem mk_at {H : Hp} {ps : List Addr} {mk : List (Str × Int)} (h : Paired (fun p kv => H p = some (.tup (mkV kv))) ps mk) {x : V} (hx : x ∈ ps.map V.ref) : ∃ p kv, x = .ref p ∧ kv ∈ mk ∧ H p = some (.tup (mkV kv)) := by
  induction h with
  | nil => simp at hx
  | cons a t ih =>
    rw [List.map_cons] at hx
    rcases List.mem_cons.mp hx with rfl | hx
    · exact ⟨_, _, rfl, List.mem_cons_self .., a⟩
    · obtain ⟨p, kv, e, m, z⟩ := ih hx
      exact ⟨p, kv, e, List.mem_cons_of_mem _ m, z⟩
theorem mk_get {H : Hp} {ps : List Addr} {mk : List (Str × Int)} (h : Paired (fun p kv => H p = some (.tup (mkV kv))) ps mk) : ∀ {i : Nat} {x : V}, (ps.map V.ref)[i]? = some x → ∃ p kv, x = .ref p ∧ mk[i]? = some kv ∧ H p = some (.tup (mkV kv)) := by
  induction h with
  | nil => intro i x hx; simp at hx
  | cons a t ih =>
    intro i x hx
    cases i with
    | zero => cases (Option.some.inj hx); exact ⟨_, _, rfl, rfl, a⟩
    | succ i => exact ih (by simpa using hx)
theorem ok_law_term {n : Nat} (T : Txt K mg) (G_law_draw : FnOk P w K mg base CX0 1 T.a_law_draw T.d_law_draw ["draws", "limit"] spDraw) (G_law_pick : FnOk P w K mg base CX0 2 T.a_law_pick T.d_law_pick ["draws", "row"] (spPick K)) (G_law_term : FnOk P w K mg base CX0 (n+3) T.a_law_term T.d_law_term ["draws", "makers", "names", "deep"] (spTerm n)) : FnOk P w K mg base CX0 (n+4) T.a_law_term T.d_law_term ["draws", "makers", "names", "deep"] (spTerm (n+1)) := by
  refine T.F_law_term.ok sc_law_term (fun vs H Q E h => ?_) (fun cdv A outer s H vs Q E hr h => ?_)
  · obtain ⟨d, sa, m, nl, mk, xsN, tsN, k, rfl, _⟩ := h; rfl
  · obtain ⟨d, sa, m, nl, mk, xsN, tsN, k, rfl, hD, hM, eN, hN, nN, z1, z2, tok, hk, q⟩ := h
    have hr_law_draw := hr.mono (show 1 ≤ n + 3 by omega)
    have hr_law_pick := hr.mono (show 2 ≤ n + 3 by omega)
    have hr_law_term := hr
    refine ⟨_, (pss_cons (ps_if (pt_cut (PW.pt (pw_or (pt_cmpR op_eq (pv 3) pe_int (nomark _)) (pw_or1 (pt_cmpR op_eq (pe_call G_law_draw hr_law_draw rfl T.m_law_draw T.F_law_draw.kp T.b_law_draw .nil pass0 (pa_cons (pv 0) (pa_cons pe_int pa_nil))) pe_int (nomark _)))))) (pss_cons (ps_if (pt_cmpR op_eq (pe_call G_law_draw hr_law_draw rfl T.m_law_draw T.F_law_draw.kp T.b_law_draw .nil pass0 (pa_cons (pv 0) (pa_cons pe_int pa_nil))) pe_int (nomark _)) (pss_one (ps_ret (pe_call G_law_pick hr_law_pick rfl T.m_law_pick T.F_law_pick.kp T.b_law_pick .nil pass0 (pa_cons (pv 0) (pa_cons (pe_lc (own := [("word", 4), ("parts", 5)]) (g := (gTup K 2 (gCons (gName 4) (gCons (gName 5) gNil)))) rfl sc_law_term.nd (pi_tup (pv 1)) (blkOk_by (own := [("word", 4), ("parts", 5)]) (N := ["draws", "makers", "names", "deep", "word", "parts", "k"]) (sc := defScope s_law_term) (by decide +kernel)) (fun _ _ _ _ _ => (pg_tup rfl (pgs_cons (pg_name (i := 4) sc_law_term.nd rfl (Or.inl rfl)) (pgs_cons (pg_name (i := 5) sc_law_term.nd rfl (Or.inl rfl)) pgs_nil)))) (fun _ _ _ _ _ => pts_one (pt_cmpR op_eq (pv 5) pe_int (nomark _))) (fun _ _ _ _ _ => (pe_tup (pa_cons (pv 4) pa_nil)))) pa_nil))))) pss_nil)
    (pss_one (ps_ret (pe_call G_law_pick hr_law_pick rfl T.m_law_pick T.F_law_pick.kp T.b_law_pick .nil pass0 (pa_cons (pv 0) (pa_cons (pv 2) pa_nil)))))) pss_nil)
    (pss_cons (ps_asg (pe_call G_law_pick hr_law_pick rfl T.m_law_pick T.F_law_pick.kp T.b_law_pick .nil pass0 (pa_cons (pv 0) (pa_cons (pv 1) pa_nil))) (pg_tup rfl (pgs_cons (pg_name (i := 4) sc_law_term.nd rfl (Or.inl rfl)) (pgs_cons (pg_name (i := 5) sc_law_term.nd rfl (Or.inl rfl)) pgs_nil))))
    (pss_one (ps_ret (pe_op op_catT (pe_tup (pa_cons (pv 4) pa_nil)) (pe_callTy call_tuple_of (by rfl) T.z_tuple (by decide +kernel) (pa_cons (pe_lc (own := [("k", 6)]) (g := (gName 6)) (tt := tYes) rfl sc_law_term.nd (pi_range1 (by rfl) T.z_range (pa_cons (pv 5) pa_nil)) (blkOk_by (own := [("k", 6)]) (N := ["draws", "makers", "names", "deep", "word", "parts", "k"]) (sc := defScope s_law_term) (by decide +kernel)) (fun _ _ _ _ _ => (pg_name (i := 6) sc_law_term.nd rfl (Or.inl rfl))) (fun _ _ _ _ _ => pts_nil) (fun _ _ _ _ _ => (pe_call G_law_term hr_law_term rfl T.m_law_term T.F_law_term.kp T.b_law_term .nil pass0 (pa_cons (pv 0) (pa_cons (pv 1) (pa_cons (pv 2) (pa_cons (pe_op op_sub (pv 3) pe_int) pa_nil))))))) pa_nil))))))), ?_⟩
    refine ⟨fun b H1 => Ex d H H1 ∧ Dr H1 d sa ∧ (b = false → k ≠ 0), ?_, fun b H1 ⟨x1, D1, kb⟩ => ?_⟩
    · refine ⟨_, rfl, rfl, _, rfl, ?_⟩
      refine ite2 (fun c => ⟨.refl _ _, hD, fun z => by cases z⟩) (fun c => ?_)
      refine ⟨_, rfl, d, sa, _, rfl, hD, by omega, by omega, fun r H1 r0 r1 hx1 hD1 => ⟨rfl, _, rfl, hx1, hD1, fun _ e => ?_⟩⟩
      subst e
      exact c rfl
    · have M1 := hM.ex x1 hD.lst
      have N1 := x1.but _ _ nN eN
      refine ite2 (fun _ => ?_) (fun hb => ?_)
      · refine ⟨_, rfl, d, sa, _, rfl, D1, by omega, by omega, fun r H2 r0 r1 x2 D2 => ⟨rfl, _, rfl, ?_⟩⟩
        have M2 := M1.ex x2 D1.lst
        have N2 := x2.but _ _ nN N1
        have x12 := x1.trans x2
        refine ite2 (fun _ => ?_) (fun _ => ?_)
        · obtain ⟨⟨o, ps, em, od, pp⟩, ok⟩ := M2
          refine ⟨_, rfl, _, rfl, m, rfl, ⟨_, .inl (.inr ⟨o, em⟩)⟩, fun D hD' => ?_⟩
          have nDd : D ≠ d := (D2.free (H1 := H2) hD').1
          refine lc_tup (K := K) (a := m) (xs := ps.map V.ref) (fun i H3 => Same H2 H3 ∧ ∃ acc, H3 D = some (.lst acc) ∧ (∀ v ∈ acc, ∃ w p, v = .ref p ∧ H3 p = some (.tup [.str w]) ∧ sok w = true ∧ look mk w = some 0) ∧ acc.length ≤ i ∧ ((∃ kv ∈ mk.take i, kv.2 = 0) → acc ≠ [])) ?_ ?_ ?_ ?_
          · refine ⟨same_upd hD' _, [], upd_same, fun v hv => by simp at hv, Nat.le_refl _, fun ⟨kv, h, _⟩ => by simp at h⟩
          · exact fun i H3 _ ⟨sm, _⟩ => .inl (.inr ⟨o, sm _ _ em⟩)
          · intro i x H3 hx ⟨sm, acc, ea, hA, hl, hz⟩
            obtain ⟨p, kv, rfl, hkv, ep⟩ := mk_get pp hx
            have hi : i < mk.length := (List.getElem?_eq_some_iff.mp hkv).1
            have m5 := ok.len
            have tk : mk.take (i + 1) = mk.take i ++ [kv] := by
              rw [List.take_succ_eq_append_getElem hi]
              congr 2
              exact (List.getElem?_eq_some_iff.mp hkv).2
            refine ⟨p, _, rfl, .inl (.inl (sm _ _ ep)), rfl, _, _, rfl, _, _, rfl, rfl, rfl, _, rfl, rfl, _, rfl, ?_⟩
            refine ite2 (fun cz => ?_) (fun c => ?_)
            · have kz : kv.2 = 0 := V.int.inj (of_decide_eq_true cz)
              have lk := look_mem ok.nd (List.mem_of_getElem? hkv)
              rw [kz] at lk
              refine ⟨_, rfl, (by show 1 ≤ sizeLine; decide), fun t ht => ⟨acc, ?_, small1000 (by omega), ?_⟩⟩
              · rw [upd_ne (ne_of_none ea ht)]; exact ea
              · have s2 := same_upd ht (.tup [.str kv.1])
                refine ⟨Kx.Same.own (sm.trans s2) hD' _, _, upd_same, fun v hv => ?_, by rw [List.length_append]; exact Nat.succ_le_succ hl, fun _ => by simp⟩
                rcases List.mem_append.mp hv with hv | hv
                · obtain ⟨w, p2, rfl, e2, kw⟩ := hA v hv
                  have e3 := s2 _ _ e2
                  refine ⟨w, p2, rfl, ?_, kw⟩
                  rw [upd_ne (ne_of e3 (s2 _ _ ea) (by intro z; cases z))]
                  exact e3
                · rw [List.mem_singleton.mp hv]
                  refine ⟨kv.1, t, rfl, ?_, ok.good kv (List.mem_of_getElem? hkv), lk⟩
                  rw [upd_ne (ne_of_none ea ht).symm, upd_same]
            · refine ⟨sm, acc, ea, hA, Nat.le_succ_of_le hl, fun ⟨kv', h, e⟩ => hz ?_⟩
              rw [tk] at h
              rcases List.mem_append.mp h with h | h
              · exact ⟨kv', h, e⟩
              · rw [List.mem_singleton.mp h] at e
                exact absurd (by show decide (V.int kv.2 = V.int 0) = true; rw [e]; exact decide_eq_true rfl) c
          · intro H3 ⟨sm, acc, ea, hA, hl, hz⟩
            have m5 := ok.len
            rw [List.length_map, pair_len pp] at hl hz
            rw [List.take_length] at hz
            have ne := hz ok.zero
            refine ⟨d, sa, D, acc, rfl, D2.same sm, .inl ea, nDd, List.length_pos_iff.mpr ne, by omega, fun x H4 hx x4 D4 => ?_⟩
            obtain ⟨w, p, rfl, e, kw, lk⟩ := hA x hx
            refine q _ (.tup [.str w]) H4 (.tup (x4.keep e (D2.same sm).lst fun _ z => by cases z) (.cons (.str w kw) .nil)) ⟨lk, Nat.zero_le _, trivial⟩ ?_ ((x12.trans (.of sm)).trans x4) D4
            simp only [dep, depL]; omega
        · have I2 := (hN.ex x1 hD.lst).ex x2 D1.lst
          refine ⟨_, rfl, _, rfl, d, sa, nl, _, rfl, D2, .inl N2, nN, z1, by omega, fun x H3 hx x3 D3 => ?_⟩
          obtain ⟨t, ht, hi⟩ := I2.all x hx
          exact q _ t H3 (hi.ex x3 D2.lst) (tok t ht).1 (by have := (tok t ht).2; omega) (x12.trans x3) D3
      · have kn : k ≠ 0 := kb (by cases b with | true => exact absurd rfl hb | false => rfl)
        have k1 : (k : Int) - 1 = ((k - 1 : Nat) : Int) := by omega
        obtain ⟨⟨o, ps, em, od, pp⟩, ok⟩ := id M1
        obtain ⟨xs1, ed1⟩ := D1.lst
        have nm : m ≠ d := ne_of em ed1 (by intro z; cases z)
        have l1 : 1 ≤ mk.length := ok.zero.elim fun kv z => List.length_pos_of_mem z.1
        have l5 := ok.len
        refine ⟨_, rfl, _, rfl, d, sa, m, _, rfl, D1, .inr (.inl (.inr ⟨o, em⟩)), nm, ?_, ?_, fun x H2 hx x2 D2 => ?_⟩
        · rw [List.length_map, pair_len pp]; exact l1
        · rw [List.length_map, pair_len pp]; omega
        obtain ⟨p, kv, rfl, hkv, ep⟩ := mk_at pp hx
        have ep2 := x2.keep ep D1.lst (fun _ z => by cases z)
        obtain ⟨lo, hi⟩ := ok.low kv hkv
        refine ⟨p, _, rfl, .inl (.inl ep2), rfl, _, _, rfl, _, _, rfl, rfl, ?_⟩
        refine ⟨_, rfl, (by show 1 ≤ sizeLine; decide), fun t1 ht1 => ?_⟩
        have s3 := same_upd ht1 (.tup [.str kv.1])
        have M3 := (M1.ex x2 D1.lst).same s3
        have N3 := s3 _ _ (x2.but _ _ nN N1)
        have D3 := D2.same s3
        refine ⟨_, rfl, _, rfl, by omega, by omega, fun D hDn => ?_⟩
        obtain ⟨nDd, nDs⟩ := D3.free (H1 := H) hDn
        have lk := look_mem ok.nd hkv
        refine lc_range (lo := 0) (n := kv.2.toNat) (fun i H4 => ∃ vs ts, Ex d (upd H2 t1 (.tup [.str kv.1])) H4 ∧ Dr H4 d sa ∧ H4 D = some (.lst vs) ∧ IsL H4 vs ts ∧ (∀ t ∈ ts, Wf mk t ∧ dep t ≤ k + 1) ∧ ts.length = i) ?_ ?_ ?_
        · exact ⟨[], [], .new hDn _, D3.own nDd nDs, upd_same, .nil, fun t ht => by simp at ht, rfl⟩
        · intro i H4 hi2 ⟨vs, ts, x4, D4, eD, hI, hT, hl⟩
          refine ⟨rfl, yes_if ?_⟩
          refine ⟨_, rfl, _, rfl, _, rfl, _, rfl, _, _, rfl, rfl, d, sa, m, nl, mk, xsN, tsN, k - 1, ?_, D4, M3.ex x4 D3.lst, x4.but _ _ nN N3, (((hN.ex x1 hD.lst).ex x2 D1.lst).same s3).ex x4 D3.lst, nN, z1, z2, tok, by omega, fun v t H5 hv ht hc x5 D5 => ?_⟩
          · rw [← k1]; rfl
          · have eD5 := x5.but _ _ nDd eD
            have x45 := x4.trans x5
            refine ⟨vs, eD5, ?_, ?_⟩
            · rw [hI.len, hl]; exact small1000 (by omega)
            have I5 : IsL H5 vs ts := hI.ex x5 D4.lst
            have xx : Ex D H5 (upd H5 D (.lst (vs ++ [v]))) := .set _
            refine ⟨vs ++ [v], ts ++ [t], x45.own hDn _, D5.own nDd nDs, upd_same, (I5.append (.cons hv .nil)).ex xx ⟨_, eD5⟩, fun t' ht' => ?_, by rw [List.length_append, hl]; rfl⟩
            rcases List.mem_append.mp ht' with h | h
            · exact hT t' h
            · rw [List.mem_singleton.mp h]
              exact ⟨ht, by omega⟩
        · intro H4 ⟨vs, ts, x4, D4, eD, hI, hT, hl⟩
          have e1 := x4.keep upd_same D3.lst (fun _ z => by cases z)
          have hlen := hI.len
          have cb := depL_le (l := ts) (c := k + 1) fun t ht => (hT t ht).2
          refine ⟨D, vs, rfl, .inl ⟨SqL.of eD, fun l hl2 => ?_⟩⟩
          have s5 := same_upd hl2 (.tup vs)
          refine ⟨t1, l, _, _, rfl, rfl, .inl (.inl (s5 _ _ e1)), .inl (.inl upd_same), by simp, ?_, fun _ => ?_, fun _ p hp => ?_⟩
          · rw [List.length_singleton, hlen]; exact Nat.le_of_lt (small1000 (by omega))
          · refine q _ (.tup [.str kv.1]) _ (.tup (s5 _ _ e1) (.cons (.str _ (ok.good kv hkv)) .nil)) ⟨?_, Nat.zero_le _, trivial⟩ ?_ (((x1.trans x2).trans (.of s3)).trans (x4.trans (.of s5))) (D4.same s5)
            · have e0 : ts.length = 0 := by
                have := congrArg List.length (show vs = [] by assumption)
                rw [hlen] at this
                exact this
              rw [lk]; show some kv.2 = some 0; rw [show kv.2 = 0 by omega]
            · simp only [dep, depL]; omega
          · have s6 := same_upd hp (.tup ([V.str kv.1] ++ vs))
            refine q _ (.tup (.str kv.1 :: ts)) _ (.tup upd_same (.cons (.str _ (ok.good kv hkv)) (hI.same (s5.trans s6)))) ⟨?_, by omega, WfL_mem fun t ht => (hT t ht).1⟩ ?_ (((x1.trans x2).trans (.of s3)).trans (x4.trans (.of (s5.trans s6)))) (D4.same (s5.trans s6))
            · rw [lk, hl]; congr 1; omega
            · simp only [dep, depL]; omega
end
end Kx
namespace Kx
open PySem PySem.Spec PyProof.Rows L2
section
variable {P : Program} {w : World} {K : PySem.W.Frag} {mg : Str → Option Value} {base : Heap}
theorem slice1 {x : V} {vs : List V} : ¬ (HT.sIx (x :: vs).length 0 (some (1 : Int)) = 0 ∧ HT.sIx (x :: vs).length (x :: vs).length none = (x :: vs).length) := by
  intro e
  have h := e.1
  rw [show (1 : Int) = ((1 : Nat) : Int) from rfl, HT.sIx_nat, List.length_cons] at h
  omega
theorem cut1 {x : V} {vs : List V} : cutV (x :: vs) (some (1 : Int)) none = vs := cut_from (k := 1) (x :: vs) (by rw [List.length_cons]; omega)
theorem tree_inv {mk : List (Str × Int)} {H : Hp} {v : V} {t : PV} (hI : Is H v t) (hT : Wf mk t) : ∃ a w vs ts, v = .ref a ∧ t = .tup (.str w :: ts) ∧ H a = some (.tup (.str w :: vs)) ∧ IsL H vs ts ∧ sok w = true ∧ look mk w = some (ts.length : Int) ∧ ts.length ≤ 2 ∧ WfL mk ts := by
  obtain ⟨w, ts, rfl, h1, h2, h3⟩ := wf_inv hT
  obtain ⟨a, vs, rfl, ea, hL⟩ := hI.tup_inv
  cases hL with
  | cons h0 hL =>
    cases h0 with
    | str z k => exact ⟨a, w, _, ts, rfl, rfl, ea, hL, k, h1, h2, h3⟩
theorem dep_cons (w : Str) (ts : List PV) : dep (.tup (.str w :: ts)) = 1 + max 1 (depL ts) := by simp only [dep, depL]
theorem tszL_take {ts : List PV} {i : Nat} {y : PV} (h : ts[i]? = some y) : tszL (ts.take (i + 1)) = tszL (ts.take i) + tsz y := by
  induction ts generalizing i with
  | nil => simp at h
  | cons t r ih =>
    cases i with
    | zero => cases (Option.some.inj h); simp [tszL]
    | succ i =>
      have := ih (i := i) (by simpa using h)
      simp only [List.take_succ_cons, tszL]
      omega
theorem ok_size {n : Nat} (T : Txt K mg) (G_size : FnOk P w K mg base CX0 (n+1) T.a_size T.d_size ["term"] (spSize n)) : FnOk P w K mg base CX0 (n+2) T.a_size T.d_size ["term"] (spSize (n+1)) := by
  refine T.F_size.ok sc_size (fun vs H Q E h => ?_) (fun cdv A outer s H vs Q E hr h => ?_)
  · obtain ⟨v, mk, t, rfl, _⟩ := h; rfl
  · obtain ⟨v, mk, t, rfl, hI, hT, hn, q⟩ := h
    have hr_size := hr
    refine ⟨_, (pss_cons (ps_if (pt_val (pe_callB call_isi (by rfl) T.z_isinstance (by decide +kernel) (pa_cons (pv 0) (pa_cons (pe_bltn rfl T.z_str (by decide +kernel) (show RelV (V.ty "str") (Value.type "str") from rfl)) pa_nil)))) (pss_one (ps_ret pe_int)) pss_nil)
    (pss_cons (ps_set (i := 1) sc_size.nd rfl (Or.inl rfl) pe_int)
    (pss_cons (ps_for PassesOwn.never rfl (pi_tup (pe_slice sl_tup (pv 0) (po_some pe_int) po_none)) (pg_name (i := 2) sc_size.nd rfl (Or.inl rfl))
    (pss_one (ps_aug (i := 1) sc_size.nd rfl (Or.inl rfl) (pe_call G_size hr_size rfl T.m_size T.F_size.kp T.b_size .nil pass0 (pa_cons (pv 2) pa_nil)) ip_add)))
    (pss_one (ps_ret (pv 1)))))), ?_⟩
    obtain ⟨a, w, vs, ts, rfl, rfl, ea, hL, kw, lk, l2, hTl⟩ := tree_inv hI hT
    have hlen := hL.len
    rw [dep_cons] at hn
    refine ⟨_, rfl, _, _, _, _, _, rfl, .ty _, .base (.tup ea), kit_ty (show kitB "tuple" "str" = some false by decide +kernel), _, rfl, iteF ?_⟩
    refine ⟨_, rfl, _, rfl, a, _, rfl, .inl (.inl ea), slice1, fun p1 h1 => ?_⟩
    rw [cut1]
    have s1 := same_upd h1 (.tup vs)
    refine ⟨p1, rfl, ⟨_, .inl (.inl upd_same)⟩, ?_⟩
    refine for_tup (K := K) (a := p1) (xs := vs) (fun i σ H2 => ∃ y3, σ = [some (.ref a), some (.int ((1 + tszL (ts.take i) : Nat) : Int)), y3] ∧ Same (upd H p1 (.tup vs)) H2) ?_ ?_ ?_ ?_
    · exact ⟨_, rfl, .refl _⟩
    · exact fun i σ H2 _ ⟨_, _, sm⟩ => .inl (.inl (sm _ _ upd_same))
    · intro i x σ H2 hx ⟨y3, es, sm⟩
      subst es
      obtain ⟨y, ey, hy⟩ := hL.get hx
      have hm := List.mem_of_getElem? ey
      have cy := depL_mem hm
      have s12 := s1.trans sm
      refine ⟨_, rfl, _, rfl, x, mk, y, rfl, hy.same s12, mem_WfL hTl y hm, by omega, fun H3 s3 => ?_⟩
      refine ⟨_, _, rfl, rfl, some x, ?_, sm.trans s3⟩
      rw [tszL_take ey]
      show [some (V.ref a), some (V.int (((1 + tszL (ts.take i) : Nat) : Int) + (tsz y : Int))), some x] = _
      have e : (((1 + tszL (ts.take i) : Nat) : Int) + (tsz y : Int)) = ((1 + (tszL (ts.take i) + tsz y) : Nat) : Int) := by omega
      rw [e]
    · intro σ H2 ⟨y3, es, sm⟩
      subst es
      rw [hlen, List.take_length]
      exact ⟨_, rfl, q H2 (s1.trans sm)⟩
end
end Kx
namespace Kx
open PySem PySem.Spec PyProof.Rows L2
section
variable {P : Program} {w : World} {K : PySem.W.Frag} {mg : Str → Option Value} {base : Heap}
theorem words_ix {mk : List (Str × Int)} {w : Str} (nd : (mk.map (·.1)).Nodup) (h : w ∈ mk.map (·.1)) : ((mk.map (·.1)).map V.str).all flatV = true ∧ ((mk.map (·.1)).map V.str)[idx mk w]? = some (.str w) ∧ L2.eqV (.str w) (.str w) = true ∧
    ∀ (m : Nat) (z' : V), m < idx mk w → ((mk.map (·.1)).map V.str)[m]? = some z' → L2.eqV z' (.str w) = false := by
  refine ⟨List.all_eq_true.mpr fun x hx => ?_, ?_, ?_, fun m z' hm hz => ?_⟩
  · obtain ⟨z, _, rfl⟩ := List.mem_map.mp hx; rfl
  · rw [List.getElem?_map, List.getElem?_eq_getElem (idx_lt h), idx_at h]; rfl
  · show (w == w) = true; simp
  · have hl : m < (mk.map (·.1)).length := Nat.lt_trans hm (idx_lt h)
    rw [List.getElem?_map, List.getElem?_eq_getElem hl] at hz
    cases (Option.some.inj hz)
    show ((mk.map (·.1))[m] == w) = false
    refine beq_eq_false_iff_ne.mpr fun z => ?_
    have := nd.idxOf_getElem m hl
    rw [z] at this
    unfold idx at hm
    omega
theorem map_take_succ {mk : List (Str × Int)} {i : Nat} {kv : Str × Int} (h : mk[i]? = some kv) : ((mk.take (i + 1)).map (·.1)).map V.str = ((mk.take i).map (·.1)).map V.str ++ [V.str kv.1] := by
  obtain ⟨hi, e⟩ := List.getElem?_eq_some_iff.mp h
  rw [List.take_succ_eq_append_getElem hi, e, List.map_append, List.map_append]; rfl
theorem keyL_take {mk : List (Str × Int)} {ts : List PV} {i : Nat} {y : PV} (h : ts[i]? = some y) : keyL mk (ts.take (i + 1)) = keyL mk (ts.take i) ++ [key mk y] := by
  obtain ⟨hi, e⟩ := List.getElem?_eq_some_iff.mp h
  rw [List.take_succ_eq_append_getElem hi, e, keyL_map, keyL_map, List.map_append]; rfl
theorem key_size {mk : List (Str × Int)} {t : PV} (h : Wf mk t) : ∃ r, key mk t = .tup (.int ((tsz t : Nat) : Int) :: r) := by
  obtain ⟨w, ts, rfl, _⟩ := wf_inv h
  exact ⟨_, rfl⟩
theorem keyL_len (mk : List (Str × Int)) (ts : List PV) : (keyL mk ts).length = ts.length := by rw [keyL_map, List.length_map]
theorem keyL_get {mk : List (Str × Int)} {ts : List PV} {i : Nat} {y : PV} (h : (keyL mk ts)[i]? = some y) : ∃ t, ts[i]? = some t ∧ y = key mk t := by
  rw [keyL_map, List.getElem?_map] at h
  cases e : ts[i]? with
  | none => rw [e] at h; cases h
  | some t => rw [e] at h; exact ⟨t, rfl, (Option.some.inj h).symm⟩
theorem sum_sz : ∀ ts : List PV, (ts.map fun t => ((tsz t : Nat) : Int)).sum = ((tszL ts : Nat) : Int)
  | [] => rfl
  | t :: r => by
    rw [List.map_cons, List.sum_cons, sum_sz r]
    simp only [tszL]; omega
theorem ok_law_key {n : Nat} (T : Txt K mg) (G_law_key : FnOk P w K mg base CX0 (n+1) T.a_law_key T.d_law_key ["makers", "tree"] (spKey n)) : FnOk P w K mg base CX0 (n+2) T.a_law_key T.d_law_key ["makers", "tree"] (spKey (n+1)) := by
  refine T.F_law_key.ok sc_law_key (fun vs H Q E h => ?_) (fun cdv A outer s H vs Q E hr h => ?_)
  · obtain ⟨m, mk, v, t, rfl, _⟩ := h; rfl
  · obtain ⟨m, mk, v, t, rfl, hM, hI, hT, hn, q⟩ := h
    have hr_law_key := hr
    refine ⟨_, (pss_cons (ps_set (i := 2) sc_law_key.nd rfl (Or.inl rfl) (pe_bm PySem.F.plainAttrs_list PySem.F.slot_list_index PySem.F.type_list_index mt_index (pe_lc (own := [("word", 4), ("parts", 5)]) (g := (gTup K 2 (gCons (gName 4) (gCons (gName 5) gNil)))) (tt := tYes) rfl sc_law_key.nd (pi_tup (pv 0)) (blkOk_by (own := [("word", 4), ("parts", 5)]) (N := ["makers", "tree", "number", "keys", "word", "parts", "part", "key"]) (sc := defScope s_law_key) (by decide +kernel)) (fun _ _ _ _ _ => (pg_tup rfl (pgs_cons (pg_name (i := 4) sc_law_key.nd rfl (Or.inl rfl)) (pgs_cons (pg_name (i := 5) sc_law_key.nd rfl (Or.inl rfl)) pgs_nil)))) (fun _ _ _ _ _ => pts_nil) (fun _ _ _ _ _ => (pv 4))) (pa_cons (pe_ix ix_tup (pv 1) pe_int (fun _ _ => rfl)) pa_nil)))
    (pss_cons (ps_set (i := 3) sc_law_key.nd rfl (Or.inl rfl) (pe_callTy call_tuple_of (by rfl) T.z_tuple (by decide +kernel) (pa_cons (pe_lc (own := [("part", 6)]) (g := (gName 6)) (tt := tYes) rfl sc_law_key.nd (pi_tup (pe_slice sl_tup (pv 1) (po_some pe_int) po_none)) (blkOk_by (own := [("part", 6)]) (N := ["makers", "tree", "number", "keys", "word", "parts", "part", "key"]) (sc := defScope s_law_key) (by decide +kernel)) (fun _ _ _ _ _ => (pg_name (i := 6) sc_law_key.nd rfl (Or.inl rfl))) (fun _ _ _ _ _ => pts_nil) (fun _ _ _ _ _ => (pe_call G_law_key hr_law_key rfl T.m_law_key T.F_law_key.kp T.b_law_key .nil pass0 (pa_cons (pv 0) (pa_cons (pv 6) pa_nil))))) pa_nil)))
    (pss_one (ps_ret (pe_op op_catT (pe_tup (pa_cons (pe_op op_add pe_int (pe_callB (cr_sum rfl) (by rfl) T.z_sum (by decide +kernel) (pa_cons (pe_lc (own := [("key", 7)]) (g := (gName 7)) (tt := tYes) rfl sc_law_key.nd (pi_tup (pv 3)) (blkOk_by (own := [("key", 7)]) (N := ["makers", "tree", "number", "keys", "word", "parts", "part", "key"]) (sc := defScope s_law_key) (by decide +kernel)) (fun _ _ _ _ _ => (pg_name (i := 7) sc_law_key.nd rfl (Or.inl rfl))) (fun _ _ _ _ _ => pts_nil) (fun _ _ _ _ _ => (pe_ix (ixTK (K := K)) (pv 7) pe_int (fun _ _ => rfl)))) pa_nil))) (pa_cons (pv 2) pa_nil))) (pv 3)))))), ?_⟩
    obtain ⟨a, w, vs, ts, rfl, rfl, ea, hL, kw, lk, l2, hTl⟩ := tree_inv hI hT
    have hlen := hL.len
    rw [dep_cons] at hn
    obtain ⟨⟨o, ps, em, od, pp⟩, ok⟩ := id hM
    have lnP := Paired.length pp
    have m5 := ok.len
    refine ⟨_, rfl, m, rfl, ⟨_, .inl (.inr ⟨o, em⟩)⟩, fun D hD => ?_⟩
    refine lc_tup (K := K) (a := m) (xs := ps.map V.ref) (fun i H3 => Same H H3 ∧ H3 D = some (.lst (((mk.take i).map (·.1)).map V.str))) ?_ ?_ ?_ ?_
    · exact ⟨same_upd hD _, upd_same⟩
    · exact fun i H3 _ ⟨sm, _⟩ => .inl (.inr ⟨o, sm _ _ em⟩)
    · intro i x H3 hx ⟨sm, eD⟩
      obtain ⟨p, kv, rfl, hkv, ep⟩ := mk_get pp hx
      refine ⟨p, _, rfl, .inl (.inl (sm _ _ ep)), rfl, _, _, rfl, _, _, rfl, rfl, rfl, yes_if ?_⟩
      refine ⟨_, rfl, _, eD, ?_, Kx.Same.own sm hD _, ?_⟩
      · rw [List.length_map, List.length_map, List.length_take]; exact small1000 (by omega)
      · rw [map_take_succ hkv, upd_same]
    · intro H3 ⟨sm, eD⟩
      rw [List.length_map, lnP, List.take_length] at eD
      obtain ⟨i1, i2, i3, i4⟩ := words_ix ok.nd (look_in lk)
      refine ⟨.inl ⟨rfl, _, SqL.of eD⟩, _, rfl, a, _, _, _, rfl, rfl, .inl (.inl (sm _ _ ea)), atI_nat (j := 0) rfl, D, _, .str w, idx mk w, .str w, rfl, rfl, SqL.of eD, rfl, i1, i2, i3, i4, ?_⟩
      refine ⟨_, rfl, _, rfl, a, _, rfl, .inl (.inl (sm _ _ ea)), slice1, fun p1 h1 => ?_⟩
      rw [cut1]
      have s1 := same_upd h1 (.tup vs)
      have sm1 := sm.trans s1
      refine ⟨p1, rfl, ⟨_, .inl (.inl upd_same)⟩, fun D2 hD2 => ?_⟩
      refine lc_tup (K := K) (a := p1) (xs := vs) (fun i H4 => Same (upd H3 p1 (.tup vs)) H4 ∧ ∃ acc, H4 D2 = some (.lst acc) ∧ IsL H4 acc (keyL mk (ts.take i)) ∧ acc.length = i) ?_ ?_ ?_ ?_
      · exact ⟨same_upd hD2 _, [], upd_same, .nil, rfl⟩
      · exact fun i H4 _ ⟨s2, _⟩ => .inl (.inl (s2 _ _ upd_same))
      · intro i x H4 hx ⟨s2, acc, eA, hA, hl⟩
        obtain ⟨y, ey, hy⟩ := hL.get hx
        have hm := List.mem_of_getElem? ey
        have cy := depL_mem hm
        have hi := (List.getElem?_eq_some_iff.mp hx).1
        have sm2 := sm1.trans s2
        refine ⟨rfl, yes_if ?_⟩
        refine ⟨_, rfl, _, rfl, m, mk, x, y, rfl, hM.same sm2, hy.same sm2, mem_WfL hTl y hm, by omega, fun u H5 s3 hu5 => ⟨acc, s3 _ _ eA, small1000 (by omega), ?_⟩⟩
        have kk : KeepT H5 (upd H5 D2 (.lst (acc ++ [u]))) := .set (s3 _ _ eA) _
        refine ⟨Kx.Same.own (s2.trans s3) hD2 _, _, upd_same, ?_, by rw [List.length_append, hl]; rfl⟩
        rw [keyL_take ey]
        exact ((hA.same s3).append (.cons hu5 .nil)).keep kk
      · intro H4 ⟨s2, acc, eA, hA, hl⟩
        rw [hlen, List.take_length] at hA
        have sm2 := sm1.trans s2
        refine ⟨D2, acc, rfl, .inl ⟨SqL.of eA, fun l hl4 => ?_⟩⟩
        have s3 := same_upd hl4 (.tup acc)
        have sm3 := sm2.trans s3
        have hA3 := hA.same s3
        refine ⟨_, rfl, l, rfl, ⟨_, .inl (.inl upd_same)⟩, fun D3 hD3 => ?_⟩
        refine lc_tup (K := K) (a := l) (xs := acc) (fun i H5 => Same (upd H4 l (.tup acc)) H5 ∧ H5 D3 = some (.lst (((ts.take i).map fun t => ((tsz t : Nat) : Int)).map V.int))) ?_ ?_ ?_ ?_
        · exact ⟨same_upd hD3 _, upd_same⟩
        · exact fun i H5 _ ⟨s4, _⟩ => .inl (.inl (s4 _ _ upd_same))
        · intro i x H5 hx ⟨s4, eS⟩
          obtain ⟨y, ey, hy⟩ := hA3.get hx
          obtain ⟨t, et, rfl⟩ := keyL_get ey
          have hm := List.mem_of_getElem? et
          obtain ⟨r, er⟩ := key_size (mem_WfL hTl t hm)
          rw [er] at hy
          obtain ⟨b, bs, rfl, eb, hb⟩ := hy.tup_inv
          cases hb with
          | cons hb0 hb =>
          cases hb0
          have hi := (List.getElem?_eq_some_iff.mp hx).1
          have hal := hA.len
          rw [keyL_len] at hal
          refine ⟨rfl, yes_if ?_⟩
          refine ⟨_, rfl, b, _, _, _, rfl, rfl, .inl (.inl (s4 _ _ eb)), atI_nat (j := 0) rfl, _, eS, ?_, Kx.Same.own s4 hD3 _, ?_⟩
          · rw [List.length_map, List.length_map, List.length_take]; exact small1000 (by omega)
          · obtain ⟨hi2, e2⟩ := List.getElem?_eq_some_iff.mp et
            rw [upd_same, List.take_succ_eq_append_getElem hi2, e2, List.map_append, List.map_append]; rfl
        · intro H5 ⟨s4, eS⟩
          have hal := hA.len
          rw [keyL_len] at hal
          rw [hal, List.take_length] at eS
          have sm4 := sm3.trans s4
          refine ⟨D3, _, rfl, SqL.of eS, _, _, rfl, rfl, _, rfl, (by show 2 ≤ sizeLine; decide), fun t1 ht1 => ?_⟩
          have s5 := same_upd ht1 (.tup [.int (1 + (ts.map fun t => ((tsz t : Nat) : Int)).sum), .int ((idx mk w : Nat) : Int)])
          have el := s5 _ _ (s4 _ _ (upd_same (H := H4) (a := l) (o := .tup acc)))
          have hA5 := ((hA3.same s4).same s5)
          have sums : (1 + (ts.map fun t => ((tsz t : Nat) : Int)).sum) = ((1 + tszL ts : Nat) : Int) := by rw [sum_sz]; omega
          have i0 : ∀ {HH : Hp}, Is HH (V.int (1 + (ts.map fun t => ((tsz t : Nat) : Int)).sum)) (.int ((1 + tszL ts : Nat) : Int)) := by rw [sums]; exact .int _
          refine ⟨_, rfl, t1, l, _, _, rfl, rfl, .inl (.inl upd_same), .inl (.inl el), by simp, ?_, fun h0 => ?_, fun _ p hp => ?_⟩
          · have : acc.length ≤ 2 := by omega
            exact Nat.le_of_lt (small1000 (by simp; omega))
          · rw [h0] at hal
            have e0 : ts = [] := List.eq_nil_of_length_eq_zero (by simpa using hal.symm)
            subst e0
            exact q _ _ (sm4.trans s5) (.tup upd_same (.cons i0 (.cons (.int _) .nil)))
          · have s6 := same_upd hp (.tup ([.int (1 + (ts.map fun t => ((tsz t : Nat) : Int)).sum), .int ((idx mk w : Nat) : Int)] ++ acc))
            exact q _ _ ((sm4.trans s5).trans s6) (.tup upd_same (.cons i0 (.cons (.int _) (hA5.same s6))))
end
end Kx
namespace Kx
open PySem PySem.Spec PyProof.Rows L2
section
variable {P : Program} {w : World} {K : PySem.W.Frag} {mg : Str → Option Value} {base : Heap}
theorem ord_size {mk : List (Str × Int)} {w w' : Str} {ts ss : List PV} (h : tszL ts ≠ tszL ss) : ordT mk (.tup (.str w :: ts)) (.tup (.str w' :: ss)) = if tszL ts < tszL ss then -1 else 1 := by
  unfold ordT
  rw [klt_eq, klt_eq, if_neg h, if_neg (Ne.symm h)]
  by_cases q : tszL ts < tszL ss
  · have : ¬ tszL ss < tszL ts := by omega
    simp [q, this]
  · have : tszL ss < tszL ts := by omega
    simp [q, this]
theorem ord_word {mk : List (Str × Int)} {w w' : Str} {ts ss : List PV} (h : tszL ts = tszL ss) (n : idx mk w ≠ idx mk w') : ordT mk (.tup (.str w :: ts)) (.tup (.str w' :: ss)) = if idx mk w < idx mk w' then -1 else 1 := by
  unfold ordT
  rw [klt_eq, klt_eq, if_pos h, if_pos h.symm, if_neg n, if_neg (Ne.symm n)]
  by_cases q : idx mk w < idx mk w'
  · have : ¬ idx mk w' < idx mk w := by omega
    simp [q, this]
  · have : idx mk w' < idx mk w := by omega
    simp [q, this]
theorem kltL_drop {mk : List (Str × Int)} : ∀ (i : Nat) {ts ss : List PV}, WfL mk ts → ts.take i = ss.take i → kltL mk ts ss = kltL mk (ts.drop i) (ss.drop i)
  | 0, _, _, _, _ => rfl
  | i + 1, [], [], _, _ => rfl
  | i + 1, [], _ :: _, _, e => by simp at e
  | i + 1, _ :: _, [], _, e => by simp at e
  | i + 1, t :: r, s :: q, h, e => by
    simp only [List.take_succ_cons] at e
    obtain ⟨e1, e2⟩ := List.cons.inj e
    subst e1
    rw [kltL_self _ _ _ h.1]
    exact kltL_drop i h.2 e2
theorem ord_part {mk : List (Str × Int)} {w : Str} {ts ss : List PV} {i : Nat} {y z : PV} (hT : WfL mk ts) (hS : WfL mk ss) (h : tszL ts = tszL ss) (e : ts.take i = ss.take i) (ey : ts[i]? = some y) (ez : ss[i]? = some z) (n : y ≠ z) : ordT mk (.tup (.str w :: ts)) (.tup (.str w :: ss)) = ordT mk y z := by
  obtain ⟨h1, e1⟩ := List.getElem?_eq_some_iff.mp ey
  obtain ⟨h2, e2⟩ := List.getElem?_eq_some_iff.mp ez
  have wy := mem_WfL hT y (List.mem_of_getElem? ey)
  have wz := mem_WfL hS z (List.mem_of_getElem? ez)
  unfold ordT
  rw [klt_eq, klt_eq, if_pos h, if_pos h.symm, if_pos rfl, kltL_drop i hT e, kltL_drop i hS e.symm, List.drop_eq_getElem_cons h1, List.drop_eq_getElem_cons h2, e1, e2, kltL_ne _ _ wy wz n, kltL_ne _ _ wz wy (Ne.symm n)]
  simp
theorem neD_iff {y z : PV} : (!PyData.eqv (toD y) (toD z)) = true ↔ y ≠ z := by
  rw [Bool.not_eq_true', Bool.eq_false_iff]
  exact not_congr eqv_iff
theorem shp {H : Hp} {v : V} {t : PV} (h : Is H v t) (d : dep t ≤ 64) : SeqAt.shaped (toD t) = true := h.shaped d
theorem ok_order {n : Nat} (T : Txt K mg) (G_size : FnOk P w K mg base CX0 61 T.a_size T.d_size ["term"] (spSize 60)) (G_order : FnOk P w K mg base CX0 (n+61) T.a_order T.d_order ["makers", "one", "other"] (spOrder n)) : FnOk P w K mg base CX0 (n+62) T.a_order T.d_order ["makers", "one", "other"] (spOrder (n+1)) := by
  refine T.F_order.ok sc_order (fun vs H Q E h => ?_) (fun cdv A outer s H vs Q E hr h => ?_)
  · obtain ⟨m, mk, v, u, t, s, rfl, _⟩ := h; rfl
  · obtain ⟨m, mk, v, u, t, s', rfl, hM, hI, hJ, hW, hX, hn, d1, d2, q⟩ := h
    have hr_size := hr.mono (show 61 ≤ n + 61 by omega)
    have hr_order := hr
    refine ⟨_, (pss_cons (ps_if (pt_cmpR op_ne (pe_call G_size hr_size rfl T.m_size T.F_size.kp T.b_size .nil pass0 (pa_cons (pv 1) pa_nil)) (pe_call G_size hr_size rfl T.m_size T.F_size.kp T.b_size .nil pass0 (pa_cons (pv 2) pa_nil)) (nomark _)) (pss_one (ps_ret (pe_ifExp (pt_cmpR op_lt (pe_call G_size hr_size rfl T.m_size T.F_size.kp T.b_size .nil pass0 (pa_cons (pv 1) pa_nil)) (pe_call G_size hr_size rfl T.m_size T.F_size.kp T.b_size .nil pass0 (pa_cons (pv 2) pa_nil)) (nomark _)) (pe_un un_neg pe_int) pe_int))) pss_nil)
    (pss_cons (ps_if (pt_cmpR op_ne (pe_ix ix_tup (pv 1) pe_int (fun _ _ => rfl)) (pe_ix ix_tup (pv 2) pe_int (fun _ _ => rfl)) (nomark _)) (pss_cons (ps_setLc (i := 3) (own := [("word", 6), ("_", 7)]) (g := (gTup K 2 (gCons (gName 6) (gCons (gName 7) gNil)))) (tt := tYes) rfl sc_order.nd rfl rfl (sw_true rfl rfl rfl (by decide +kernel)) (pi_tup (pv 0)) (blkOk_by (own := [("word", 6), ("_", 7)]) (N := ["makers", "one", "other", "words", "part", "beside", "word", "_"]) (sc := defScope s_order) (by decide +kernel)) (fun _ _ _ _ _ => (pg_tup rfl (pgs_cons (pg_name (i := 6) sc_order.nd rfl (Or.inl rfl)) (pgs_cons (pg_name (i := 7) sc_order.nd rfl (Or.inl rfl)) pgs_nil)))) (fun _ _ _ _ _ => pts_nil) (fun _ _ _ _ _ => (pv 6)))
    (pss_one (ps_ret (pe_ifExp (pt_cmpR op_lt (pe_bm PySem.F.plainAttrs_list PySem.F.slot_list_index PySem.F.type_list_index mt_index (pv 3) (pa_cons (pe_ix ix_tup (pv 1) pe_int (fun _ _ => rfl)) pa_nil)) (pe_bm PySem.F.plainAttrs_list PySem.F.slot_list_index PySem.F.type_list_index mt_index (pv 3) (pa_cons (pe_ix ix_tup (pv 2) pe_int (fun _ _ => rfl)) pa_nil)) (nomark _)) (pe_un un_neg pe_int) pe_int)))) pss_nil)
    (pss_cons (ps_for PassesOwn.never rfl (RZ.pi_zipA (by rfl) T.z_zip (pa_cons (pe_slice sl_tup (pv 1) (po_some pe_int) po_none) (pa_cons (pe_slice sl_tup (pv 2) (po_some pe_int) po_none) pa_nil))) (pg_tup rfl (pgs_cons (pg_name (i := 4) sc_order.nd rfl (Or.inl rfl)) (pgs_cons (pg_name (i := 5) sc_order.nd rfl (Or.inl rfl)) pgs_nil)))
    (pss_one (ps_if (pt_cmpR (op_neD hr.units) (pv 4) (pv 5) (nomark _)) (pss_one (ps_ret (pe_call G_order hr_order rfl T.m_order T.F_order.kp T.b_order .nil pass0 (pa_cons (pv 0) (pa_cons (pv 4) (pa_cons (pv 5) pa_nil)))))) pss_nil)))
    (pss_one (ps_ret pe_int))))), ?_⟩
    refine ⟨_, rfl, v, mk, t, rfl, hI, hW, d1, fun H1 s1 => ⟨_, rfl, u, mk, s', rfl, hJ.same s1, hX, d2, fun H2 s2 => ⟨rfl, _, rfl, ?_⟩⟩⟩
    have s12 := s1.trans s2
    obtain ⟨a, w, vs, ts, rfl, rfl, ea, hL, kw, lk, l2, hTl⟩ := tree_inv (hI.same s12) hW
    obtain ⟨b, w', us, ss, rfl, rfl, eb, hL2, kw2, lk2, l22, hSl⟩ := tree_inv (hJ.same s12) hX
    refine ite2 (fun c => ?_) (fun c => ?_)
    · have ne : tszL ts ≠ tszL ss := fun e => by
        rw [show tsz (.tup (.str w :: ts)) = 1 + tszL ts from rfl, show tsz (.tup (.str w' :: ss)) = 1 + tszL ss from rfl, e] at c
        simp at c
      rw [ord_size ne] at q
      refine ⟨_, rfl, _, mk, _, rfl, hI.same s12, hW, d1, fun H3 s3 => ⟨_, rfl, _, mk, _, rfl, hJ.same (s12.trans s3), hX, d2, fun H4 s4 => ?_⟩⟩
      refine ⟨_, _, rfl, rfl, _, rfl, ite2 (fun c2 => ?_) (fun c2 => ?_)⟩
      · have c3 : tszL ts < tszL ss := by
          have : ((1 + tszL ts : Nat) : Int) < ((1 + tszL ss : Nat) : Int) := of_decide_eq_true c2
          omega
        rw [if_pos c3] at q
        exact ⟨_, rfl, q H4 ((s12.trans s3).trans s4)⟩
      · have c3 : ¬ tszL ts < tszL ss := fun h => by
          refine c2 (decide_eq_true ?_)
          show ((1 + tszL ts : Nat) : Int) < ((1 + tszL ss : Nat) : Int)
          omega
        rw [if_neg c3] at q
        exact q H4 ((s12.trans s3).trans s4)
    · have eqz : tszL ts = tszL ss := by
        have : V.int ((tsz (.tup (.str w :: ts)) : Nat) : Int) = V.int ((tsz (.tup (.str w' :: ss)) : Nat) : Int) := by
          refine Classical.byContradiction fun h => c ?_
          rw [decide_eq_false h]; rfl
        have h := V.int.inj this
        rw [show tsz (.tup (.str w :: ts)) = 1 + tszL ts from rfl, show tsz (.tup (.str w' :: ss)) = 1 + tszL ss from rfl] at h
        omega
      have hlen := hL.len
      have hlen2 := hL2.len
      have nd := hM.ok.nd
      refine ⟨_, rfl, a, _, _, _, rfl, rfl, .inl (.inl ea), atI_nat (j := 0) rfl, _, rfl, b, _, _, _, rfl, rfl, .inl (.inl eb), atI_nat (j := 0) rfl, rfl, _, rfl, ?_⟩
      refine ite2 (fun c2 => ?_) (fun c2 => ?_)
      · have nw : w ≠ w' := fun e => by rw [e] at c2; simp at c2
        have ni : idx mk w ≠ idx mk w' := fun e => nw (idx_inj (look_in lk) (look_in lk2) e)
        rw [ord_word eqz ni] at q
        obtain ⟨⟨o, ps, em, od, pp⟩, ok⟩ := id hM
        have lnP := Paired.length pp
        have m5 := ok.len
        refine ⟨_, rfl, m, rfl, ⟨_, .inl (.inr ⟨o, s12 _ _ em⟩)⟩, fun D hD => ?_⟩
        refine lc_tup (K := K) (a := m) (xs := ps.map V.ref) (fun i H3 => Same H2 H3 ∧ H3 D = some (.lst (((mk.take i).map (·.1)).map V.str))) ?_ ?_ ?_ ?_
        · exact ⟨same_upd hD _, upd_same⟩
        · exact fun i H3 _ ⟨sm, _⟩ => .inl (.inr ⟨o, sm _ _ (s12 _ _ em)⟩)
        · intro i x H3 hx ⟨sm, eD⟩
          obtain ⟨p, kv, rfl, hkv, ep⟩ := mk_get pp hx
          refine ⟨p, _, rfl, .inl (.inl (sm _ _ (s12 _ _ ep))), rfl, _, _, rfl, _, _, rfl, rfl, rfl, yes_if ?_⟩
          refine ⟨_, rfl, _, eD, ?_, Kx.Same.own sm hD _, ?_⟩
          · rw [List.length_map, List.length_map, List.length_take]; exact small1000 (by omega)
          · rw [map_take_succ hkv, upd_same]
        · intro H3 ⟨sm, eD⟩
          rw [List.length_map, lnP, List.take_length] at eD
          obtain ⟨i1, i2, i3, i4⟩ := words_ix ok.nd (look_in lk)
          obtain ⟨j1, j2, j3, j4⟩ := words_ix ok.nd (look_in lk2)
          refine ⟨_, rfl, .inl ⟨rfl, _, SqL.of eD⟩, _, rfl, a, _, _, _, rfl, rfl, .inl (.inl (sm _ _ ea)), atI_nat (j := 0) rfl, D, _, .str w, idx mk w, .str w, rfl, rfl, SqL.of eD, rfl, i1, i2, i3, i4, ?_⟩
          refine ⟨_, rfl, .inl ⟨rfl, _, SqL.of eD⟩, _, rfl, b, _, _, _, rfl, rfl, .inl (.inl (sm _ _ eb)), atI_nat (j := 0) rfl, D, _, .str w', idx mk w', .str w', rfl, rfl, SqL.of eD, rfl, j1, j2, j3, j4, ?_⟩
          refine ⟨_, _, rfl, rfl, _, rfl, ite2 (fun c3 => ?_) (fun c3 => ?_)⟩
          · have c4 : idx mk w < idx mk w' := by
              have : ((idx mk w : Nat) : Int) < ((idx mk w' : Nat) : Int) := of_decide_eq_true c3
              omega
            rw [if_pos c4] at q
            exact ⟨_, rfl, q H3 (s12.trans sm)⟩
          · have c4 : ¬ idx mk w < idx mk w' := fun h => by
              refine c3 (decide_eq_true ?_)
              omega
            rw [if_neg c4] at q
            exact q H3 (s12.trans sm)
      · have ew : w = w' := Classical.byContradiction fun h => c2 (by
          rw [decide_eq_false (fun e => h (V.str.inj e))]; rfl)
        subst ew
        have hpt : ts.length = ss.length := by
          have z := lk.symm.trans lk2
          have := Option.some.inj z
          omega
        refine ⟨_, rfl, _, rfl, a, _, rfl, .inl (.inl ea), slice1, fun p1 h1 => ?_⟩
        rw [cut1]
        have t1 := same_upd h1 (.tup vs)
        refine ⟨_, rfl, _, rfl, b, _, rfl, .inl (.inl (t1 _ _ eb)), slice1, fun p2 h2 => ?_⟩
        rw [cut1]
        have t2 := same_upd h2 (.tup us)
        have t12 := t1.trans t2
        have all := s12.trans t12
        refine ⟨p1, p2, vs, us, rfl, .inr ⟨.inl (.inl (t2 _ _ upd_same)), .inl (.inl upd_same), ?_⟩⟩
        rw [dep_cons] at hn d1 d2
        refine RZ.for_zipT (K := K) (a := p1) (b := p2) (xs := vs) (ys := us) (by rw [hlen, hlen2, hpt]) (fun i σ H3 => ∃ y4 y5, σ = [some (.ref m), some (.ref a), some (.ref b), none, y4, y5, none, none] ∧ Same (upd (upd H2 p1 (.tup vs)) p2 (.tup us)) H3 ∧ ts.take i = ss.take i) ?_ ?_ ?_ ?_
        · exact ⟨none, none, rfl, .refl _, rfl⟩
        · intro i σ H3 ⟨_, _, _, x, _⟩
          exact ⟨.inl (.inl (x _ _ (t2 _ _ upd_same))), .inl (.inl (x _ _ upd_same))⟩
        · intro i x x2 Tt σ H3 hx hx2 ⟨y4, y5, es, xd, hE⟩ nT
          subst es
          obtain ⟨y, ey, hy⟩ := hL.get hx
          obtain ⟨z, ez, hz⟩ := hL2.get hx2
          have hm := List.mem_of_getElem? ey
          have hm2 := List.mem_of_getElem? ez
          have dy := depL_mem hm
          have dz := depL_mem hm2
          have t3 := same_upd nT (.tup [x, x2])
          have u3 := (t12.trans xd).trans t3
          have all3 := (all.trans xd).trans t3
          have gy := hy.same u3
          have gz := hz.same u3
          have wy := mem_WfL hTl y hm
          have wz := mem_WfL hSl z hm2
          refine ⟨Tt, _, rfl, .inl (.inl upd_same), rfl, _, _, rfl, _, _, rfl, rfl, ?_⟩
          refine ⟨_, rfl, _, rfl, _, _, gy.dp, gz.dp, shp gy (by omega), shp gz (by omega), _, rfl, ite2 (fun c3 => ?_) (fun c3 => ?_)⟩
          · have nyz := neD_iff.mp c3
            rw [ord_part hTl hSl eqz hE ey ez nyz] at q
            refine ⟨_, rfl, _, rfl, _, rfl, m, mk, x, x2, y, z, rfl, hM.same all3, gy, gz, wy, wz, by omega, by omega, by omega, fun H4 s4 => ?_⟩
            exact q H4 (all3.trans s4)
          · have eyz : y = z := Classical.byContradiction fun h => c3 (neD_iff.mpr h)
            refine ⟨_, _, rfl, xd.trans t3, ?_⟩
            obtain ⟨g1, g2⟩ := List.getElem?_eq_some_iff.mp ey
            obtain ⟨g3, g4⟩ := List.getElem?_eq_some_iff.mp ez
            rw [List.take_succ_eq_append_getElem g1, List.take_succ_eq_append_getElem g3, hE, g2, g4, eyz]
        · intro σ H3 ⟨y4, y5, es, xd, hE⟩
          subst es
          rw [hlen, List.take_length, hpt, List.take_length] at hE
          subst hE
          rw [ord_self] at q
          exact q H3 (all.trans xd)
end
end Kx
namespace Kx
open PySem PySem.Spec PyProof.Rows L2
section
variable {P : Program} {w : World} {K : PySem.W.Frag} {mg : Str → Option Value} {base : Heap}
theorem smallM {n : Nat} (h : n ≤ 1000000) : n < sizeLine := Nat.lt_of_le_of_lt h (by decide)
theorem iteQ {c : Bool} {α : Type} {a b : α} {F : α → Prop} (h1 : c = true → F a) (h2 : c = false → F b) : F (if c = true then a else b) := by
  cases c with
  | true => exact h1 rfl
  | false => exact h2 rfl
theorem prt_few {R : List (List PV)} (h : R.getD 0 [] = []) (hR : R.flatten.length ≤ 39) {k : Nat} (hk : k ≤ 1) (t : Nat) : (prt R k t).length ≤ 39 := by
  match k, hk with
  | 0, _ =>
    unfold prt
    split
    · simp
    · simp
  | 1, _ =>
    rw [prt_one h, List.length_map]
    exact Nat.le_trans (row_len t) hR
theorem map_get {α β : Type} {f : α → β} {l : List α} {i : Nat} {y : β} (h : (l.map f)[i]? = some y) : ∃ x, l[i]? = some x ∧ y = f x := by
  rw [List.getElem?_map] at h
  cases e : l[i]? with
  | none => rw [e] at h; cases h
  | some x => rw [e] at h; exact ⟨x, rfl, (Option.some.inj h).symm⟩
theorem take_get {α : Type} {l : List α} {i : Nat} {x : α} (h : l[i]? = some x) : l.take (i + 1) = l.take i ++ [x] := by
  obtain ⟨hi, e⟩ := List.getElem?_eq_some_iff.mp h
  rw [List.take_succ_eq_append_getElem hi, e]
theorem prt_length {R : List (List PV)} : ∀ (k t : Nat) {r : List PV}, r ∈ prt R k t → r.length = k
  | 0, t, r, hr => by
    unfold prt at hr
    split at hr
    · rw [List.mem_singleton.mp hr]; rfl
    · simp at hr
  | k + 1, t, r, hr => by
    unfold prt at hr
    obtain ⟨l, hl, hr⟩ := List.mem_flatMap.mp hr
    obtain ⟨a, ha, hr⟩ := List.mem_flatMap.mp hr
    obtain ⟨s, hs, rfl⟩ := List.mem_map.mp hr
    rw [List.length_cons, prt_length k (t - l) hs]
theorem ok_part_rows {n : Nat} (T : Txt K mg) (G_part_rows : FnOk P w K mg base CX0 (n+1) T.a_part_rows T.d_part_rows ["rows", "parts", "total"] (spPart n)) : FnOk P w K mg base CX0 (n+2) T.a_part_rows T.d_part_rows ["rows", "parts", "total"] (spPart (n+1)) := by
  refine T.F_part_rows.ok sc_part_rows (fun vs H Q E h => ?_) (fun cdv A outer s H vs Q E hr h => ?_)
  · obtain ⟨ra, bad, R, k, t, rfl, _⟩ := h; rfl
  · obtain ⟨ra, bad, R, k, t, rfl, hR, h0, ht, h90, h39, hk, hk2, q⟩ := h
    have hr_part_rows := hr
    refine ⟨_, (pss_cons (ps_if (pt_cmpR op_eq (pv 1) pe_int (nomark _)) (pss_one (ps_ret (pe_ifExp (pt_cmpR op_eq (pv 2) pe_int (nomark _)) (pe_lst (pa_cons (pe_tup pa_nil) pa_nil)) (pe_lst pa_nil)))) pss_nil)
    (pss_cons (ps_set (i := 3) sc_part_rows.nd rfl (Or.inl rfl) (pe_lst pa_nil))
    (pss_cons (ps_for PassesOwn.never rfl (pi_range2 (by rfl) T.z_range (pa_cons pe_int (pa_cons (pe_op op_add (pe_op op_sub (pv 2) (pv 1)) pe_int) pa_nil))) (pg_name (i := 4) sc_part_rows.nd rfl (Or.inl rfl))
    (pss_cons (ps_set (i := 5) sc_part_rows.nd rfl (Or.inl rfl) (pe_call G_part_rows hr_part_rows rfl T.m_part_rows T.F_part_rows.kp T.b_part_rows .nil pass0 (pa_cons (pv 0) (pa_cons (pe_op op_sub (pv 1) pe_int) (pa_cons (pe_op op_sub (pv 2) (pv 4)) pa_nil)))))
    (pss_one (ps_for PassesOwn.never rfl (pi_list (pe_ix ix_list (pv 0) (pv 4) (fun _ _ => rfl))) (pg_name (i := 6) sc_part_rows.nd rfl (Or.inl rfl))
    (pss_one (ps_for PassesOwn.never rfl (pi_list (pv 5)) (pg_name (i := 7) sc_part_rows.nd rfl (Or.inl rfl))
    (pss_one (ps_expr (pe_bm PySem.F.plainAttrs_list PySem.F.slot_list_append PySem.F.type_list_append mt_append (pv 3) (pa_cons (pe_tup (pa_cons (pv 6) (StX.pa_star (pv 7) pa_nil (by rfl)))) pa_nil))))))))))
    (pss_one (ps_ret (pv 3)))))), ?_⟩
    refine ⟨_, rfl, rfl, _, rfl, ite2 (fun c => ?_) (fun c => ?_)⟩
    · have ek : k = 0 := by
        have := V.int.inj (of_decide_eq_true c)
        omega
      subst ek
      refine ⟨_, rfl, rfl, _, rfl, ite2 (fun c2 => ?_) (fun c2 => ?_)⟩
      · have et : t = 0 := by
          have := V.int.inj (of_decide_eq_true c2)
          omega
        subst et
        refine ⟨(by show 0 ≤ sizeLine; decide), fun p1 h1 => ⟨(by show 1 ≤ sizeLine; decide), fun l hl => ?_⟩⟩
        have s1 := same_upd h1 (.tup [])
        have s2 := same_upd hl (.lst [.ref p1])
        exact q l _ _ (s1.trans s2) (s1.free hl) upd_same (.cons (.tup (s2 _ _ upd_same) .nil) .nil)
      · have et : t ≠ 0 := fun e => by rw [e] at c2; exact c2 rfl
        refine ⟨(by show 0 ≤ sizeLine; decide), fun l hl => ?_⟩
        refine q l _ [] (same_upd hl _) hl upd_same ?_
        rw [prt_zero, if_neg et]
        exact .nil
    · obtain ⟨k, rfl⟩ : ∃ j, k = j + 1 := ⟨k - 1, by
        have : k ≠ 0 := fun e => by rw [e] at c; exact c rfl
        omega⟩
      refine ⟨(by show 0 ≤ sizeLine; decide), fun fa hf => ?_⟩
      have sf := same_upd hf (.lst [])
      refine ⟨_, rfl, _, rfl, _, _, rfl, rfl, _, _, rfl, rfl, _, _, rfl, ⟨by omega, by omega, by omega, by omega⟩, ?_⟩
      have cnt : (((t : Int) - ((k + 1 : Nat) : Int) + 2) - 1).toNat = t - k := by omega
      let G : Nat → PV → List (List PV) := fun l a => (prt R k (t - l)).map (a :: ·)
      let F : Nat → List (List PV) := fun l => (R.getD l []).flatMap (G l)
      have eF : prt R (k + 1) t = (List.range' 1 (t - k)).flatMap F := rfl
      have k1 : k ≤ 1 := by omega
      have few : ∀ l, (prt R k l).length ≤ 39 := prt_few h0 h39 k1
      have rlen : ∀ l, (R.getD l []).length ≤ 39 := fun l => Nat.le_trans (row_len l) h39
      have gl : ∀ l a, (G l a).length ≤ 39 := fun l a => by
        show ((prt R k (t - l)).map (a :: ·)).length ≤ 39
        rw [List.length_map]; exact few _
      have fl : ∀ l, (F l).length ≤ 1521 := fun l => Nat.le_trans (flatMap_len fun a _ => gl l a) (Nat.mul_le_mul_right 39 (rlen l))
      rw [cnt]
      refine for_range (fun i σ H1 => ∃ y4 y5 y6 y7 acc, σ = [some (.ref ra), some (.int ((k + 1 : Nat) : Int)), some (.int t), some (.ref fa), y4, y5, y6, y7] ∧ Same H H1 ∧ H1 fa = some (.lst acc) ∧ IsL H1 acc (((List.range' 1 i).flatMap F).map PV.tup)) ?_ ?_ ?_
      · exact ⟨none, none, none, none, [], rfl, sf, upd_same, .nil⟩
      · intro i σ H1 hi ⟨y4, y5, y6, y7, acc, es, sm, eA, hA⟩
        subst es
        have bi := flatMap_len (l := List.range' 1 i) (f := F) (c := 1521) fun l _ => fl l
        rw [List.length_range'] at bi
        refine ⟨_, rfl, _, rfl, _, _, rfl, rfl, _, rfl, _, rfl, _, _, rfl, rfl, ra, bad, R, k, t - (1 + i), ?_, hR.same sm, h0, by omega, h90, h39, by omega, by omega, fun p H2 ws s2 np ep hW => ?_⟩
        · have e1 : ((k + 1 : Nat) : Int) - 1 = (k : Int) := by omega
          have e2 : (t : Int) - (1 + (i : Int)) = ((t - (1 + i) : Nat) : Int) := by omega
          show [V.ref ra, V.int (((k + 1 : Nat) : Int) - 1), V.int ((t : Int) - (1 + (i : Int)))] = _
          rw [e1, e2]
        have sm2 := sm.trans s2
        have npf : p ≠ fa := fun e => by rw [e, eA] at np; cases np
        obtain ⟨qs, p', vs, ea, eql, eq, nb, ep', hV⟩ := hR.get (i := 1 + i) (by omega)
        have np' : p' ≠ fa := fun e => by rw [e, hf] at ep'; cases ep'
        have ep2 := hV.len
        have hwl := hW.len
        rw [List.length_map] at hwl
        have fw := few (t - (1 + i))
        refine ⟨_, rfl, _, rfl, ra, _, _, _, rfl, rfl, SqL.of (sm2 _ _ ea), ?_, p', rfl, ⟨_, SqL.of (sm2 _ _ ep')⟩, ?_⟩
        · exact atI_nat (j := 1 + i) eq
        have rl := rlen (1 + i)
        refine for_list (K := K) (a := p') (xs := vs) (fun j σ H3 => ∃ y6 y7 acc, σ = [some (.ref ra), some (.int ((k + 1 : Nat) : Int)), some (.int t), some (.ref fa), some (.int (1 + (i : Int))), some (.ref p), y6, y7] ∧ Same H H3 ∧ H3 p = some (.lst ws) ∧ IsL H3 ws ((prt R k (t - (1 + i))).map PV.tup) ∧ H3 fa = some (.lst acc) ∧ IsL H3 acc (((List.range' 1 i).flatMap F ++ ((R.getD (1 + i) []).take j).flatMap (G (1 + i))).map PV.tup)) ?_ ?_ ?_ ?_
        · refine ⟨y6, y7, acc, rfl, sm2, ep, hW, s2 _ _ eA, ?_⟩
          simpa using hA.same s2
        · exact fun j σ H3 _ ⟨_, _, _, _, s3, _⟩ => SqL.of (s3 _ _ ep')
        · intro j x σ H3 hx ⟨y6, y7, acc, es, s3, ep3, hW3, eA3, hA3⟩
          subst es
          obtain ⟨y, ey, hy⟩ := hV.get hx
          have hj := (List.getElem?_eq_some_iff.mp ey).1
          have bj := flatMap_len (l := (R.getD (1 + i) []).take j) (f := G (1 + i)) (c := 39) fun a _ => gl _ a
          rw [List.length_take] at bj
          refine ⟨_, rfl, p, rfl, ⟨_, SqL.of ep3⟩, ?_⟩
          refine for_list (K := K) (a := p) (xs := ws) (fun m σ H4 => ∃ y7 acc, σ = [some (.ref ra), some (.int ((k + 1 : Nat) : Int)), some (.int t), some (.ref fa), some (.int (1 + (i : Int))), some (.ref p), some x, y7] ∧ Same H H4 ∧ H4 p = some (.lst ws) ∧ IsL H4 ws ((prt R k (t - (1 + i))).map PV.tup) ∧ H4 fa = some (.lst acc) ∧ IsL H4 acc (((List.range' 1 i).flatMap F ++ ((R.getD (1 + i) []).take j).flatMap (G (1 + i)) ++ ((prt R k (t - (1 + i))).take m).map (y :: ·)).map PV.tup)) ?_ ?_ ?_ ?_
          · refine ⟨y7, acc, rfl, s3, ep3, hW3, eA3, ?_⟩
            simpa using hA3
          · exact fun m σ H4 _ ⟨_, _, _, _, ep4, _⟩ => SqL.of ep4
          · intro m z σ H4 hz ⟨y7, acc, es, s4, ep4, hW4, eA4, hA4⟩
            subst es
            obtain ⟨y', ey', hz'⟩ := hW4.get hz
            obtain ⟨r, er, rfl⟩ := map_get ey'
            obtain ⟨b, zs, rfl, eb, hb⟩ := hz'.tup_inv
            have hm := (List.getElem?_eq_some_iff.mp er).1
            have al := hA4.len
            simp only [List.length_map, List.length_append, List.length_take] at al
            have zl := hb.len
            have rm := List.mem_of_getElem? er
            have r3 : r.length = k := (prt_length k (t - (1 + i)) rm)
            refine ⟨_, rfl, .inl ⟨rfl, _, SqL.of eA4⟩, _, rfl, _, rfl, b, zs, rfl, .inl (.inl (.inl eb)), ?_, fun tp htp => ?_⟩
            · exact Nat.le_of_lt (smallM (by simp; omega))
            have s5 := same_upd htp (.tup (x :: (zs ++ [])))
            have eA5 := s5 _ _ eA4
            refine ⟨fa, acc, _, rfl, rfl, eA5, smallM ?_, ?_⟩
            · have : (prt R k (t - (1 + i))).length ≤ 39 := fw
              omega
            · have kk : KeepT (upd H4 tp (.tup (x :: (zs ++ [])))) (upd (upd H4 tp (.tup (x :: (zs ++ [])))) fa (.lst (acc ++ [.ref tp]))) := .set eA5 _
              refine ⟨_, acc ++ [.ref tp], rfl, Kx.Same.own (s4.trans s5) hf _, ?_, (hW4.same s5).keep kk, upd_same, ?_⟩
              · rw [upd_ne npf]; exact s5 _ _ ep4
              · have e : ((List.range' 1 i).flatMap F ++ ((R.getD (1 + i) []).take j).flatMap (G (1 + i)) ++ ((prt R k (t - (1 + i))).take (m + 1)).map (y :: ·)).map PV.tup = ((List.range' 1 i).flatMap F ++ ((R.getD (1 + i) []).take j).flatMap (G (1 + i)) ++ ((prt R k (t - (1 + i))).take m).map (y :: ·)).map PV.tup ++ [.tup (y :: r)] := by
                  rw [take_get er]
                  simp only [List.map_append, List.append_assoc, List.map_cons, List.map_nil]
                rw [e]
                refine ((hA4.same s5).append (.cons (.tup upd_same ?_) .nil)).keep kk
                have hb5 := (hb.same s5).append .nil
                rw [List.append_nil r] at hb5
                exact .cons (hy.same (s4.trans s5)) hb5
          · intro σ H4 ⟨y7, acc, es, s4, ep4, hW4, eA4, hA4⟩
            subst es
            refine ⟨_, _, acc, rfl, s4, ep4, hW4, eA4, ?_⟩
            rw [hwl, List.take_length] at hA4
            rw [take_get ey, List.flatMap_append, List.flatMap_cons, List.flatMap_nil, List.append_nil, ← List.append_assoc]
            exact hA4
        · intro σ H3 ⟨y6, y7, acc, es, s3, ep3, hW3, eA3, hA3⟩
          subst es
          refine ⟨_, _, _, _, acc, rfl, s3, eA3, ?_⟩
          rw [ep2, List.take_length] at hA3
          rw [List.range'_1_concat, List.flatMap_append, List.flatMap_cons, List.flatMap_nil, List.append_nil]
          exact hA3
      · intro σ H1 ⟨y4, y5, y6, y7, acc, es, sm, eA, hA⟩
        subst es
        rw [← eF] at hA
        exact ⟨_, rfl, q fa H1 acc sm hf eA hA⟩
end
end Kx
namespace Kx
open PySem PySem.Spec PyProof.Rows L2
section
variable {P : Program} {w : World} {K : PySem.W.Frag} {mg : Str → Option Value} {base : Heap}
theorem cut_any (xs : List V) (k : Nat) : cutV xs none (some (k : Int)) = xs.take k := by
  by_cases h : k ≤ xs.length
  · exact cut_to xs h
  · unfold cutV
    rw [HT.sIx_nat, HT.sIx_none, Nat.min_eq_right (by omega), List.take_of_length_le (l := xs) (by omega)]
    show (xs.drop 0).take (xs.length - 0) = xs
    rw [List.drop_zero, Nat.sub_zero, List.take_length]
def nOne (R : List (List PV)) (kv : Str × Int) : List PV := (prt R kv.2.toNat (R.length - 1)).map fun r => .tup (.str kv.1 :: r)
theorem nOne_len {mk : List (Str × Int)} {R : List (List PV)} (ok : MkOk mk) (h0 : R.getD 0 [] = []) (h1 : 1 ≤ R.length) (h90 : R.length ≤ 90) (h39 : R.flatten.length ≤ 39) {kv : Str × Int} (hk : kv ∈ mk) : (nOne R kv).length ≤ 136890 := by
  obtain ⟨lo, hi⟩ := ok.low kv hk
  unfold nOne
  rw [List.length_map]
  have a := prt_len h0 kv.2.toNat (R.length - 1) (by omega) 39 h39 (by omega)
  have b : (R.length - 1 + 1) * (39 * 39) ≤ 90 * (39 * 39) := Nat.mul_le_mul_right _ (by omega)
  omega
theorem ok_trees_of_size (T : Txt K mg) (G_part_rows : FnOk P w K mg base CX0 4 T.a_part_rows T.d_part_rows ["rows", "parts", "total"] (spPart 3)) : FnOk P w K mg base CX0 5 T.a_trees_of_size T.d_trees_of_size ["makers", "rows", "total"] spSized := by
  refine T.F_trees_of_size.ok sc_trees_of_size (fun vs H Q E h => ?_) (fun cdv A outer s H vs Q E hr h => ?_)
  · obtain ⟨m, ra, bad, mk, R, rfl, _⟩ := h; rfl
  · obtain ⟨m, ra, bad, mk, R, rfl, hM, hR, hO, h90, h39, q⟩ := h
    have hr_part_rows := hr
    refine ⟨_, (pss_cons (ps_set (i := 3) sc_trees_of_size.nd rfl (Or.inl rfl) (pe_lst pa_nil))
    (pss_cons (ps_for PassesOwn.never rfl (pi_tup (pv 0)) (pg_tup rfl (pgs_cons (pg_name (i := 4) sc_trees_of_size.nd rfl (Or.inl rfl)) (pgs_cons (pg_name (i := 5) sc_trees_of_size.nd rfl (Or.inl rfl)) pgs_nil)))
    (pss_one (ps_for PassesOwn.never rfl (pi_list (pe_call G_part_rows hr_part_rows rfl T.m_part_rows T.F_part_rows.kp T.b_part_rows .nil pass0 (pa_cons (pv 1) (pa_cons (pv 5) (pa_cons (pe_op op_sub (pv 2) pe_int) pa_nil))))) (pg_name (i := 6) sc_trees_of_size.nd rfl (Or.inl rfl))
    (pss_one (ps_expr (pe_bm PySem.F.plainAttrs_list PySem.F.slot_list_append PySem.F.type_list_append mt_append (pv 3) (pa_cons (pe_tup (pa_cons (pv 4) (StX.pa_star (pv 6) pa_nil (by rfl)))) pa_nil)))))))
    (pss_one (ps_ret (pv 3))))), ?_⟩
    obtain ⟨⟨o, ps, em, od, pp⟩, ok⟩ := id hM
    have lnP := Paired.length pp
    have m5 := ok.len
    have h0 := hO.zero
    have h1 := hO.one
    refine ⟨(by show 0 ≤ sizeLine; decide), fun fa hf => ?_⟩
    have sf := same_upd hf (.lst [])
    refine ⟨_, rfl, m, rfl, ⟨_, .inl (.inr ⟨o, sf _ _ em⟩)⟩, ?_⟩
    refine for_tup (K := K) (a := m) (xs := ps.map V.ref) (fun i σ H1 => ∃ y4 y5 y6 acc, σ = [some (.ref m), some (.ref ra), some (.int ((R.length : Nat) : Int)), some (.ref fa), y4, y5, y6] ∧ Same H H1 ∧ H1 fa = some (.lst acc) ∧ IsL H1 acc ((mk.take i).flatMap (nOne R))) ?_ ?_ ?_ ?_
    · exact ⟨none, none, none, [], rfl, sf, upd_same, .nil⟩
    · exact fun i σ H1 _ ⟨_, _, _, _, _, sm, _⟩ => .inl (.inr ⟨o, sm _ _ em⟩)
    · intro i x σ H1 hx ⟨y4, y5, y6, acc, es, sm, eA, hA⟩
      subst es
      obtain ⟨p, kv, rfl, hkv, ep⟩ := mk_get pp hx
      have hi := (List.getElem?_eq_some_iff.mp hkv).1
      have hm := List.mem_of_getElem? hkv
      obtain ⟨lo, hi2⟩ := ok.low kv hm
      have bi := flatMap_len (l := mk.take i) (f := nOne R) (c := 136890) fun z hz => nOne_len ok h0 h1 h90 h39 (List.mem_of_mem_take hz)
      rw [List.length_take] at bi
      have bo := nOne_len ok h0 h1 h90 h39 hm
      refine ⟨p, _, rfl, .inl (.inl (sm _ _ ep)), rfl, _, _, rfl, _, _, rfl, rfl, ?_⟩
      refine ⟨_, rfl, _, rfl, _, rfl, _, _, rfl, rfl, ra, bad, R, kv.2.toNat, R.length - 1, ?_, hR.same sm, h0, by omega, h90, h39, by omega, by omega, fun p2 H2 ws s2 np ep2 hW => ?_⟩
      · have e1 : kv.2 = ((kv.2.toNat : Nat) : Int) := by omega
        have e2 : ((R.length : Nat) : Int) - 1 = ((R.length - 1 : Nat) : Int) := by omega
        show [V.ref ra, V.int kv.2, V.int (((R.length : Nat) : Int) - 1)] = _
        rw [← e1, e2]
      have sm2 := sm.trans s2
      have npf : p2 ≠ fa := fun e => by rw [e, eA] at np; cases np
      have hwl := hW.len
      rw [List.length_map] at hwl
      refine ⟨p2, rfl, ⟨_, SqL.of ep2⟩, ?_⟩
      refine for_list (K := K) (a := p2) (xs := ws) (fun j σ H3 => ∃ y6 acc, σ = [some (.ref m), some (.ref ra), some (.int ((R.length : Nat) : Int)), some (.ref fa), some (.str kv.1), some (.int kv.2), y6] ∧ Same H H3 ∧ H3 p2 = some (.lst ws) ∧ IsL H3 ws ((prt R kv.2.toNat (R.length - 1)).map PV.tup) ∧ H3 fa = some (.lst acc) ∧ IsL H3 acc ((mk.take i).flatMap (nOne R) ++ ((prt R kv.2.toNat (R.length - 1)).take j).map fun r => .tup (.str kv.1 :: r))) ?_ ?_ ?_ ?_
      · refine ⟨y6, acc, rfl, sm2, ep2, hW, s2 _ _ eA, ?_⟩
        rw [List.take_zero, List.map_nil, List.append_nil]
        exact hA.same s2
      · exact fun j σ H3 _ ⟨_, _, _, _, e3, _⟩ => SqL.of e3
      · intro j z σ H3 hz ⟨y6, acc, es, s3, ep3, hW3, eA3, hA3⟩
        subst es
        obtain ⟨y', ey', hz'⟩ := hW3.get hz
        obtain ⟨r, er, rfl⟩ := map_get ey'
        obtain ⟨b, zs, rfl, eb, hb⟩ := hz'.tup_inv
        have hj := (List.getElem?_eq_some_iff.mp er).1
        have al := hA3.len
        simp only [List.length_map, List.length_append, List.length_take] at al
        have zl := hb.len
        have r3 := prt_length _ _ (List.mem_of_getElem? er)
        have bp : (prt R kv.2.toNat (R.length - 1)).length ≤ 136890 := by
          unfold nOne at bo
          rwa [List.length_map] at bo
        refine ⟨_, rfl, .inl ⟨rfl, _, SqL.of eA3⟩, _, rfl, _, rfl, b, zs, rfl, .inl (.inl (.inl eb)), ?_, fun tp htp => ?_⟩
        · exact Nat.le_of_lt (smallM (by simp; omega))
        have s5 := same_upd htp (.tup (.str kv.1 :: (zs ++ [])))
        have eA5 := s5 _ _ eA3
        refine ⟨fa, acc, _, rfl, rfl, eA5, smallM (by omega), ?_⟩
        have kk : KeepT (upd H3 tp (.tup (.str kv.1 :: (zs ++ [])))) (upd (upd H3 tp (.tup (.str kv.1 :: (zs ++ [])))) fa (.lst (acc ++ [.ref tp]))) := .set eA5 _
        refine ⟨_, acc ++ [.ref tp], rfl, Kx.Same.own (s3.trans s5) hf _, ?_, (hW3.same s5).keep kk, upd_same, ?_⟩
        · rw [upd_ne npf]; exact s5 _ _ ep3
        · rw [take_get er, List.map_append, ← List.append_assoc]
          have hb5 := (hb.same s5).append .nil
          rw [List.append_nil r] at hb5
          exact ((hA3.same s5).append (.cons (.tup upd_same (.cons (.str _ (ok.good kv hm)) hb5)) .nil)).keep kk
      · intro σ H3 ⟨y6, acc, es, s3, ep3, hW3, eA3, hA3⟩
        subst es
        refine ⟨_, _, _, acc, rfl, s3, eA3, ?_⟩
        rw [hwl, List.take_length] at hA3
        rw [take_get hkv, List.flatMap_append, List.flatMap_cons, List.flatMap_nil, List.append_nil]
        exact hA3
    · intro σ H1 ⟨y4, y5, y6, acc, es, sm, eA, hA⟩
      subst es
      rw [List.length_map, lnP, List.take_length] at hA
      exact ⟨_, rfl, q fa H1 acc sm hf eA hA⟩
end
end Kx
namespace Kx
open PySem PySem.Spec PyProof.Rows L2
section
variable {P : Program} {w : World} {K : PySem.W.Frag} {mg : Str → Option Value} {base : Heap}
theorem mk_pos {mk : List (Str × Int)} (ok : MkOk mk) : 1 ≤ (nxt mk [[]]).length := let ⟨x, h⟩ := leaf_in ok; List.length_pos_of_mem h
theorem pr_same {H H' : Hp} {bad : List Addr} {ps : List Addr} {R : List (List PV)} (h : Paired (fun p row => p ∉ bad ∧ ∃ vs, H p = some (.lst vs) ∧ IsL H vs row) ps R) (s : Same H H') : Paired (fun p row => p ∉ bad ∧ ∃ vs, H' p = some (.lst vs) ∧ IsL H' vs row) ps R :=
  Paired.imp h fun _ _ ⟨n, vs, e, i⟩ => ⟨n, vs, s _ _ e, i.same s⟩
theorem pr_set {H : Hp} {l : Addr} {xs : List V} {bad : List Addr} {ps : List Addr} {R : List (List PV)} (h : Paired (fun p row => p ∉ bad ∧ ∃ vs, H p = some (.lst vs) ∧ IsL H vs row) ps R) (e : H l = some (.lst xs)) (m : l ∈ bad) (o : HO) : Paired (fun p row => p ∉ bad ∧ ∃ vs, upd H l o p = some (.lst vs) ∧ IsL (upd H l o) vs row) ps R :=
  Paired.imp h fun _ _ ⟨n, vs, e1, i⟩ => ⟨n, vs, upd_out n m e1, i.keep (.set e o)⟩
theorem ok_trees (T : Txt K mg) (G_trees_of_size : FnOk P w K mg base CX0 5 T.a_trees_of_size T.d_trees_of_size ["makers", "rows", "total"] spSized) : FnOk P w K mg base CX0 6 T.a_trees T.d_trees ["makers", "many"] spTrees := by
  refine T.F_trees.ok sc_trees (fun vs H Q E h => ?_) (fun cdv A outer s H vs Q E hr h => ?_)
  · obtain ⟨m, mk, k, rfl, _⟩ := h; rfl
  · obtain ⟨m, mk, k, rfl, hM, hk, q⟩ := h
    have hr_trees_of_size := hr
    refine ⟨_, (pss_cons (ps_set (i := 2) sc_trees.nd rfl (Or.inl rfl) (pe_lst (pa_cons (pe_lst pa_nil) pa_nil)))
    (pss_cons (ps_set (i := 3) sc_trees.nd rfl (Or.inl rfl) (pe_call G_trees_of_size hr_trees_of_size rfl T.m_trees_of_size T.F_trees_of_size.kp T.b_trees_of_size .nil pass0 (pa_cons (pv 0) (pa_cons (pv 2) (pa_cons pe_int pa_nil)))))
    (pss_cons (ps_set (i := 4) sc_trees.nd rfl (Or.inl rfl) (pe_callTy call_list_of (by rfl) T.z_list (by decide +kernel) (pa_cons (pv 3) pa_nil)))
    (pss_cons (ps_expr (pe_bm PySem.F.plainAttrs_list PySem.F.slot_list_append PySem.F.type_list_append mt_append (pv 2) (pa_cons (pv 3) pa_nil)))
    (pss_cons (ps_set (i := 5) sc_trees.nd rfl (Or.inl rfl) (pe_chain op_lt op_lt pe_int (pe_callB call_len_seq (by rfl) T.z_len (by decide +kernel) (pa_cons (pv 3) pa_nil)) (pe_callB call_len_seq (by rfl) T.z_len (by decide +kernel) (pa_cons (pv 0) pa_nil)) (by with_unfolding_all rfl)))
    (pss_cons (ps_while PassesOwn.never (PW.pt (pw_and (pt_val (pv 5)) (pw_and1 (pt_cmpR op_lt (pe_callB call_len_seq (by rfl) T.z_len (by decide +kernel) (pa_cons (pv 4) pa_nil)) (pv 1) (nomark _)))))
    (pss_cons (ps_set (i := 6) sc_trees.nd rfl (Or.inl rfl) (pe_call G_trees_of_size hr_trees_of_size rfl T.m_trees_of_size T.F_trees_of_size.kp T.b_trees_of_size .nil pass0 (pa_cons (pv 0) (pa_cons (pv 2) (pa_cons (pe_callB call_len_seq (by rfl) T.z_len (by decide +kernel) (pa_cons (pv 2) pa_nil)) pa_nil)))))
    (pss_cons (ps_expr (pe_bm PySem.F.plainAttrs_list PySem.F.slot_list_extend PySem.F.type_list_extend mt_extend (pv 4) (pa_cons (pv 6) pa_nil)))
    (pss_one (ps_expr (pe_bm PySem.F.plainAttrs_list PySem.F.slot_list_append PySem.F.type_list_append mt_append (pv 2) (pa_cons (pv 6) pa_nil)))))))
    (pss_one (ps_ret (pe_slice sl_list (pv 4) po_none (po_some (pv 1))))))))))), ?_⟩
    have ok := hM.ok
    have m5 := ok.len
    refine ⟨(by show 0 ≤ sizeLine; decide), fun p0 hp0 => ⟨(by show 1 ≤ sizeLine; decide), fun ra hra => ?_⟩⟩
    have s1 := same_upd hp0 (.lst [])
    have s2 := same_upd hra (.lst [.ref p0])
    have s12 := s1.trans s2
    have fr : H ra = none := s1.free hra
    have n0 : p0 ≠ ra := fun e => by rw [← e, upd_same] at hra; cases hra
    have e0 : upd (upd H p0 (.lst [])) ra (.lst [.ref p0]) p0 = some (.lst []) := s2 _ _ upd_same
    have hR0 : RowsAt (upd (upd H p0 (.lst [])) ra (.lst [.ref p0])) ra [ra] [[]] := ⟨[p0], upd_same, .cons ⟨by simpa using n0, [], e0, .nil⟩ .nil⟩
    refine ⟨_, rfl, _, rfl, m, ra, [ra], mk, [[]], rfl, hM.same s12, hR0, rw_zero mk, by decide, by decide, fun lv H1 ws s3 nlv elv hL => ?_⟩
    have s13 := s12.trans s3
    have nlr : lv ≠ ra := fun e => by rw [e, upd_same] at nlv; cases nlv
    have nl0 : lv ≠ p0 := fun e => by rw [e, e0] at nlv; cases nlv
    refine ⟨_, rfl, lv, _, rfl, .inl (SqL.of elv), fun fa hfa => ?_⟩
    have s4 := same_upd hfa (.lst ws)
    have s14 := s13.trans s4
    have ff : H fa = none := s13.free hfa
    have nfr : fa ≠ ra := fun e => by rw [e, s3 _ _ upd_same] at hfa; cases hfa
    have nf0 : fa ≠ p0 := fun e => by rw [e, s3 _ _ e0] at hfa; cases hfa
    have nfl : fa ≠ lv := fun e => by rw [e, elv] at hfa; cases hfa
    have er4 : upd H1 fa (.lst ws) ra = some (.lst [.ref p0]) := s4 _ _ (s3 _ _ upd_same)
    refine ⟨_, rfl, .inl ⟨rfl, _, SqL.of er4⟩, _, rfl, ra, _, _, rfl, rfl, er4, (by show 1 < sizeLine; decide), ?_⟩
    have kk4 : KeepT (upd H1 fa (.lst ws)) (upd (upd H1 fa (.lst ws)) ra (.lst ([.ref p0] ++ [.ref lv]))) := .set er4 _
    have S5 : Same H (upd (upd H1 fa (.lst ws)) ra (.lst ([.ref p0] ++ [.ref lv]))) := Kx.Same.own s14 fr _
    have hL5 := (hL.same s4).keep kk4
    have elv5 : upd (upd H1 fa (.lst ws)) ra (.lst ([.ref p0] ++ [.ref lv])) lv = some (.lst ws) := by rw [upd_ne nlr]; exact s4 _ _ elv
    have efa5 : upd (upd H1 fa (.lst ws)) ra (.lst ([.ref p0] ++ [.ref lv])) fa = some (.lst ws) := by rw [upd_ne nfr]; exact upd_same
    have era5 : upd (upd H1 fa (.lst ws)) ra (.lst ([.ref p0] ++ [.ref lv])) ra = some (.lst ([p0, lv].map V.ref)) := upd_same
    have e05 : upd (upd H1 fa (.lst ws)) ra (.lst ([.ref p0] ++ [.ref lv])) p0 = some (.lst []) := by rw [upd_ne n0]; exact s4 _ _ (s3 _ _ e0)
    generalize upd (upd H1 fa (.lst ws)) ra (.lst ([.ref p0] ++ [.ref lv])) = H5 at S5 hL5 elv5 efa5 era5 e05
    have hwl := hL.len
    have pos := mk_pos ok
    obtain ⟨lle, liff⟩ := leaves_len ok
    obtain ⟨⟨o, mps, em, od, pp⟩, _⟩ := id (hM.same S5)
    have lnP := Paired.length pp
    refine ⟨_, rfl, lv, _, rfl, .inl (SqL.of elv5), _, _, rfl, rfl, _, rfl, ?_⟩
    refine ite2 (fun _ => ?_) (fun c => absurd (decide_eq_true (by omega)) c)
    refine ⟨_, rfl, m, _, rfl, .inr (.inl (.inr ⟨o, em⟩)), _, _, rfl, rfl, ?_⟩
    have bb : decide (((ws.length : Nat) : Int) < (((mps.map V.ref).length : Nat) : Int)) = true ↔ ∃ kv ∈ mk, kv.2 ≠ 0 := by
      rw [decide_eq_true_iff, ← liff, List.length_map, lnP, ← hwl]; omega
    obtain ⟨b, eb⟩ : ∃ b, b = decide (((ws.length : Nat) : Int) < (((mps.map V.ref).length : Nat) : Int)) := ⟨_, rfl⟩
    rw [← eb] at bb
    let W : Nat → L2.St → Hp → Prop := fun z σ H2 => ∃ y6 n ps vs, σ = [some (.ref m), some (.int k), some (.ref ra), some (.ref lv), some (.ref fa), some (.bl b), y6] ∧ Same H H2 ∧ H2 ra = some (.lst (ps.map V.ref)) ∧ Paired (fun p row => p ∉ [ra, fa] ∧ ∃ vs, H2 p = some (.lst vs) ∧ IsL H2 vs row) ps (rws mk n) ∧ H2 fa = some (.lst vs) ∧ IsL H2 vs (fnd mk n) ∧ 1 ≤ n ∧ n ≤ 81 ∧ z = 81 - n ∧ (b = false → n = 1)
    refine ⟨W, ⟨80, ?_⟩, ?_⟩
    · refine ⟨none, 1, [p0, lv], ws, by rw [eb]; rfl, S5, era5, .cons ⟨?_, [], e05, .nil⟩ (.cons ⟨?_, ws, elv5, ?_⟩ .nil), efa5, ?_, Nat.le_refl _, by omega, rfl, fun _ => rfl⟩
      · simp [n0, nf0.symm]
      · simp [nlr, nfl.symm]
      · exact hL5
      · show IsL H5 ws ((rws mk 1).flatten)
        simpa [rws] using hL5
    · intro z σ H2 ⟨y6, n, ps, vs, es, sm, era, hP, efa, hF, n1, n81, hz, hb1⟩
      subst es
      clear eb
      refine ⟨_, rfl, _, rfl, ?_⟩
      refine ite2 (fun hb => ?_) (fun hb => ?_)
      · refine ⟨_, rfl, fa, _, rfl, .inl (SqL.of efa), _, rfl, _, _, rfl, rfl, _, rfl, ?_⟩
        have hvl := hF.len
        refine ite2 (fun c => ?_) (fun c => ?_)
        · have c' : ((vs.length : Nat) : Int) < (k : Int) := of_decide_eq_true c
          have ex := bb.mp hb
          have n80 := fnd_few ok ex (n := n) (by omega)
          have f39 : (rws mk n).flatten.length ≤ 39 := by
            show (fnd mk n).length ≤ 39
            omega
          have hRl := rws_len mk n
          have hpl := Paired.length hP
          have hO := rws_ok ok n
          refine ⟨fun σ' H' => ∃ m', m' < z ∧ W m' σ' H', fun _ _ h => h, ?_⟩
          refine ⟨_, rfl, _, rfl, _, rfl, ra, _, rfl, .inl (SqL.of era), m, ra, [ra, fa], mk, rws mk n, ?_, hM.same sm, ⟨ps, era, hP⟩, hO, by omega, f39, fun p H3 ws' s3 np ep hN => ?_⟩
          · show [V.ref m, V.ref ra, V.int (((ps.map V.ref).length : Nat) : Int)] = _
            rw [List.length_map, hpl]
          have efa3 := s3 _ _ efa
          have era3 := s3 _ _ era
          have npr : p ≠ ra := fun e => by rw [e, era] at np; cases np
          have npf : p ≠ fa := fun e => by rw [e, efa] at np; cases np
          have hwl' := hN.len
          have bl : (nxt mk (rws mk n)).length ≤ mk.length * 136890 := flatMap_len (f := nOne (rws mk n)) fun kv hk => nOne_len ok hO.zero hO.one (by omega) f39 hk
          have bl2 : mk.length * 136890 ≤ 5 * 136890 := Nat.mul_le_mul_right _ m5
          refine ⟨_, rfl, .inl ⟨rfl, _, SqL.of efa3⟩, _, rfl, fa, p, vs, ws', rfl, rfl, efa3, ep, Nat.le_of_lt (smallM (by omega)), ?_⟩
          have k1 : KeepT H3 (upd H3 fa (.lst (vs ++ ws'))) := .set efa3 _
          have era4 : upd H3 fa (.lst (vs ++ ws')) ra = some (.lst (ps.map V.ref)) := by rw [upd_ne nfr.symm]; exact era3
          have k2 : KeepT (upd H3 fa (.lst (vs ++ ws'))) (upd (upd H3 fa (.lst (vs ++ ws'))) ra (.lst (ps.map V.ref ++ [V.ref p]))) := .set era4 _
          have hP4 := pr_set (pr_same hP s3) efa3 (show fa ∈ [ra, fa] by simp) (.lst (vs ++ ws'))
          refine ⟨_, rfl, .inl ⟨rfl, _, SqL.of era4⟩, _, rfl, ra, _, _, rfl, rfl, era4, ?_, ?_⟩
          · rw [List.length_map, hpl]; exact small1000 (by omega)
          have hP5 := pr_set hP4 era4 (show ra ∈ [ra, fa] by simp) (.lst (ps.map V.ref ++ [V.ref p]))
          refine ⟨81 - (n + 1), by omega, some (.ref p), n + 1, ps ++ [p], vs ++ ws', rfl, Kx.Same.own (Kx.Same.own (sm.trans s3) ff _) fr _, ?_, ?_, ?_, ?_, by omega, by omega, rfl, fun e => by rw [hb] at e; cases e⟩
          · rw [upd_same, List.map_append]; rfl
          · refine pair_snoc hP5 ⟨by simp [npr, npf], ws', ?_, ((hN.keep k1).keep k2)⟩
            rw [upd_ne npr, upd_ne npf]; exact ep
          · rw [upd_ne nfr, upd_same]
          · rw [fnd_succ]
            exact ((hF.same s3).append hN).keep (k1.trans k2)
        · have c' : ¬ ((vs.length : Nat) : Int) < (k : Int) := fun h => c (decide_eq_true h)
          refine ⟨_, rfl, _, rfl, _, rfl, fa, _, rfl, SqL.of efa, fun c2 hc2 => ?_⟩
          have sc := same_upd hc2 (.lst (cutV vs none (some (k : Int))))
          refine q c2 _ _ (sm.trans sc) (sm.free hc2) upd_same ?_
          rw [← due_of (n := n) (by omega) (by omega)]
          have t := (hF.same sc).take k
          rw [← cut_any vs k] at t
          exact t
      · have hb' : b = false := by cases b with | true => exact absurd rfl hb | false => rfl
        have n1' := hb1 hb'
        subst n1'
        refine iteF ?_
        refine ⟨_, rfl, _, rfl, _, rfl, fa, _, rfl, SqL.of efa, fun c2 hc2 => ?_⟩
        have sc := same_upd hc2 (.lst (cutV vs none (some (k : Int))))
        refine q c2 _ _ (sm.trans sc) (sm.free hc2) upd_same ?_
        rw [← due_leaves (fun e => hb (bb.mpr e))]
        have t := (hF.same sc).take k
        rw [← cut_any vs k] at t
        exact t
end
end Kx
namespace Kx
open PySem PySem.Spec PyProof.Rows L2
section
variable {P : Program} {w : World} {K : PySem.W.Frag} {mg : Str → Option Value} {base : Heap}
/-- a tree with its key ahead -/
def prK (mk : List (Str × Int)) (t : PV) : PV := .tup [key mk t, t]
theorem pair_alike {mk : List (Str × Int)} {x y : PV} (hx : Wf mk x) (hy : Wf mk y) : PySem.W.alike (toD (prK mk x)) (toD (prK mk y)) = true := by
  simp only [prK, toD, toDL, PySem.W.alike, PySem.W.alikeAll, alike_key hx hy, alike_tree hx hy, Bool.and_self]
theorem pair_lt {mk : List (Str × Int)} {x y : PV} (hx : Wf mk x) (hy : Wf mk y) (h : klt mk x y = true) : PySem.W.dataLt (toD (prK mk y)) (toD (prK mk x)) = false := by
  show PySem.W.dataLt (.tuple [toD (key mk y), toD y]) (.tuple [toD (key mk x), toD x]) = false
  rw [PySem.W.dataLt_pair (alike_key hy hx) (alike_tree hy hx)]
  have n : ¬ PyData.eqv (toD (key mk y)) (toD (key mk x)) = true := fun e => by
    have := key_inj hy hx (eqv_eq e)
    rw [this, klt_irrefl] at h; cases h
  rw [if_neg n]
  exact klt_asym h
theorem keyed_ok {mk : List (Str × Int)} {l : List PV} (hw : ∀ t ∈ l, Wf mk t) (hd : ∀ t ∈ l, dep t ≤ 50) (hs : l.Pairwise fun x y => klt mk x y = true) :
    PySem.W.AllAlike (toDL (l.map (prK mk))) ∧ PySem.W.Sortable (toDL (l.map (prK mk))) ∧ (∀ d ∈ toDL (l.map (prK mk)), d.depth ≤ 60) ∧ (toDL (l.map (prK mk))).Pairwise (fun x y => PySem.W.dataLt y x = false) := by
  rw [toDL_map, List.map_map]
  refine ⟨fun d h d' h' => ?_, .inl fun d h => ?_, fun d h => ?_, ?_⟩
  · obtain ⟨t, ht, rfl⟩ := List.mem_map.mp h
    obtain ⟨t', ht', rfl⟩ := List.mem_map.mp h'
    exact pair_alike (hw t ht) (hw t' ht')
  · obtain ⟨t, ht, rfl⟩ := List.mem_map.mp h
    exact ⟨_, _, rfl⟩
  · obtain ⟨t, ht, rfl⟩ := List.mem_map.mp h
    have a := toD_depth (prK mk t)
    have b := key_dep (hw t ht)
    have c := hd t ht
    have e : dep (prK mk t) ≤ 51 := by
      simp only [prK, dep, depL]; omega
    show (toD (prK mk t)).depth ≤ 60
    omega
  · rw [List.pairwise_map]
    exact List.Pairwise.imp_of_mem (fun hx hy h => pair_lt (hw _ hx) (hw _ hy) h) hs
theorem ok_law_trees (T : Txt K mg) (G_law_key : FnOk P w K mg base CX0 60 T.a_law_key T.d_law_key ["makers", "tree"] (spKey 59)) : FnOk P w K mg base CX0 61 T.a_law_trees T.d_law_trees ["makers", "many"] spTrees := by
  refine T.F_law_trees.ok sc_law_trees (fun vs H Q E h => ?_) (fun cdv A outer s H vs Q E hr h => ?_)
  · obtain ⟨m, mk, k, rfl, _⟩ := h; rfl
  · obtain ⟨m, mk, k, rfl, hM, hk, q⟩ := h
    have hr_law_key := hr
    refine ⟨_, (pss_cons (ps_set (i := 2) sc_law_trees.nd rfl (Or.inl rfl) (pe_lst (pa_cons (pe_lst pa_nil) pa_nil)))
    (pss_cons (ps_set (i := 3) sc_law_trees.nd rfl (Or.inl rfl) (pe_lst pa_nil))
    (pss_cons (ps_for PassesOwn.never rfl (pi_range2 (by rfl) T.z_range (pa_cons pe_int (pa_cons pe_int pa_nil))) (pg_name (i := 4) sc_law_trees.nd rfl (Or.inl rfl))
    (pss_cons (ps_if (pt_cmpR op_ge (pe_callB call_len_seq (by rfl) T.z_len (by decide +kernel) (pa_cons (pv 3) pa_nil)) (pv 1) (nomark _)) (pss_one ps_break) pss_nil)
    (pss_cons (ps_set (i := 5) sc_law_trees.nd rfl (Or.inl rfl) (pe_lst pa_nil))
    (pss_cons (ps_for PassesOwn.never rfl (pi_tup (pv 0)) (pg_tup rfl (pgs_cons (pg_name (i := 6) sc_law_trees.nd rfl (Or.inr rfl)) (pgs_cons (pg_name (i := 7) sc_law_trees.nd rfl (Or.inl rfl)) pgs_nil)))
    (Evl.pss_cut (ps_if (PW.pt (pw_and (pt_cmpR op_eq (pv 7) pe_int (nomark _)) (pw_and1 (pt_cmpR op_eq (pv 4) pe_int (nomark _))))) (pss_one (ps_set (i := 5) sc_law_trees.nd rfl (Or.inl rfl) (pe_op op_cat (pv 5) (pe_lst (pa_cons (pe_tup (pa_cons (pv 6) pa_nil)) pa_nil))))) pss_nil)
    (Evl.pss_cut (ps_if (pt_cmpR op_eq (pv 7) pe_int (nomark _)) (pss_one (ps_set (i := 5) sc_law_trees.nd rfl (Or.inl rfl) (pe_op op_cat (pv 5) (pe_lc (own := [("one", 8)]) (g := (gName 8)) (tt := tYes) rfl sc_law_trees.nd (pi_list (pe_ix ix_list (pv 2) (pe_op op_sub (pv 4) pe_int) (fun _ _ => rfl))) (blkOk_by (own := [("one", 8)]) (N := ["makers", "many", "rows", "found", "total", "row", "word", "parts", "one", "left", "keyed", "other", "tree", "key"]) (sc := defScope s_law_trees) (by decide +kernel)) (fun _ _ _ _ _ => (pg_name (i := 8) sc_law_trees.nd rfl (Or.inl rfl))) (fun _ _ _ _ _ => pts_nil) (fun _ _ _ _ _ => (pe_tup (pa_cons (pv 6) (pa_cons (pv 8) pa_nil)))))))) pss_nil)
    (pss_one (ps_if (pt_cmpR op_eq (pv 7) pe_int (nomark _)) (pss_one (ps_for PassesOwn.never rfl (pi_range2 (by rfl) T.z_range (pa_cons pe_int (pa_cons (pe_op op_sub (pv 4) pe_int) pa_nil))) (pg_name (i := 9) sc_law_trees.nd rfl (Or.inl rfl))
    (pss_one (ps_for PassesOwn.never rfl (pi_list (pe_ix ix_list (pv 2) (pv 9) (fun _ _ => rfl))) (pg_name (i := 8) sc_law_trees.nd rfl (Or.inr rfl))
    (pss_one (ps_set (i := 5) sc_law_trees.nd rfl (Or.inl rfl) (pe_op op_cat (pv 5) (pe_lc (own := [("other", 11)]) (g := (gName 11)) (tt := tYes) rfl sc_law_trees.nd (pi_list (pe_ix ix_list (pv 2) (pe_op op_sub (pe_op op_sub (pv 4) pe_int) (pv 9)) (fun _ _ => rfl))) (blkOk_by (own := [("other", 11)]) (N := ["makers", "many", "rows", "found", "total", "row", "word", "parts", "one", "left", "keyed", "other", "tree", "key"]) (sc := defScope s_law_trees) (by decide +kernel)) (fun _ _ _ _ _ => (pg_name (i := 11) sc_law_trees.nd rfl (Or.inl rfl))) (fun _ _ _ _ _ => pts_nil) (fun _ _ _ _ _ => (pe_tup (pa_cons (pv 6) (pa_cons (pv 8) (pa_cons (pv 11) pa_nil))))))))))))) pss_nil)))))
    (pss_cons (ps_set (i := 10) sc_law_trees.nd rfl (Or.inl rfl) (pe_callB (cr_sortedUp hr.units) (by rfl) T.z_sorted (by decide +kernel) (pa_cons (pe_lc (own := [("tree", 12)]) (g := (gName 12)) (tt := tYes) rfl sc_law_trees.nd (pi_list (pv 5)) (blkOk_by (own := [("tree", 12)]) (N := ["makers", "many", "rows", "found", "total", "row", "word", "parts", "one", "left", "keyed", "other", "tree", "key"]) (sc := defScope s_law_trees) (by decide +kernel)) (fun _ _ _ _ _ => (pg_name (i := 12) sc_law_trees.nd rfl (Or.inl rfl))) (fun _ _ _ _ _ => pts_nil) (fun _ _ _ _ _ => (pe_tup (pa_cons (pe_call G_law_key hr_law_key rfl T.m_law_key T.F_law_key.kp T.b_law_key .nil pass0 (pa_cons (pv 0) (pa_cons (pv 12) pa_nil))) (pa_cons (pv 12) pa_nil))))) pa_nil)))
    (pss_cons (ps_expr (pe_bm PySem.F.plainAttrs_list PySem.F.slot_list_append PySem.F.type_list_append mt_append (pv 2) (pa_cons (pe_lc (own := [("key", 13), ("tree", 12)]) (g := (gTup K 2 (gCons (gName 13) (gCons (gName 12) gNil)))) (tt := tYes) rfl sc_law_trees.nd (pi_list (pv 10)) (blkOk_by (own := [("key", 13), ("tree", 12)]) (N := ["makers", "many", "rows", "found", "total", "row", "word", "parts", "one", "left", "keyed", "other", "tree", "key"]) (sc := defScope s_law_trees) (by decide +kernel)) (fun _ _ _ _ _ => (pg_tup rfl (pgs_cons (pg_name (i := 13) sc_law_trees.nd rfl (Or.inl rfl)) (pgs_cons (pg_name (i := 12) sc_law_trees.nd rfl (Or.inl rfl)) pgs_nil)))) (fun _ _ _ _ _ => pts_nil) (fun _ _ _ _ _ => (pv 12))) pa_nil)))
    (pss_one (ps_set (i := 3) sc_law_trees.nd rfl (Or.inl rfl) (pe_op op_cat (pv 3) (pe_ix ix_list (pv 2) (pv 4) (fun _ _ => rfl)))))))))))
    (pss_one (ps_ret (pe_slice sl_list (pv 3) po_none (po_some (pv 1)))))))), ?_⟩
    obtain ⟨⟨o, mps, em, od, pp⟩, ok⟩ := id hM
    have lnP := Paired.length pp
    have m5 := ok.len
    refine ⟨(by show 0 ≤ sizeLine; decide), fun p0 hp0 => ⟨(by show 1 ≤ sizeLine; decide), fun ra hra => ?_⟩⟩
    have s1 := same_upd hp0 (.lst [])
    have s2 := same_upd hra (.lst [.ref p0])
    have s12 := s1.trans s2
    have fr : H ra = none := s1.free hra
    have n0 : p0 ≠ ra := fun e => by rw [← e, upd_same] at hra; cases hra
    have e0 := s2 _ _ (upd_same (H := H) (a := p0) (o := .lst []))
    refine ⟨(by show 0 ≤ sizeLine; decide), fun f0 hf0 => ?_⟩
    have s3 := same_upd hf0 (.lst [])
    have s13 := s12.trans s3
    have hR0 : RowsAt (upd (upd (upd H p0 (.lst [])) ra (.lst [.ref p0])) f0 (.lst [])) ra [ra] [[]] := ⟨[p0], s3 _ _ upd_same, .cons ⟨by simpa using n0, [], s3 _ _ e0, .nil⟩ .nil⟩
    refine ⟨_, _, rfl, ⟨by decide, by decide, by decide, by decide⟩, ?_⟩
    refine for_range (lo := 1) (n := 89) (fun i σ H1 => ∃ y4 y5 y6 y7 y8 y9 y10 fd ws, σ = [some (.ref m), some (.int k), some (.ref ra), some (.ref fd), y4, y5, y6, y7, y8, y9, y10, none, none, none] ∧ Same H H1 ∧ RowsAt H1 ra [ra] (rws mk i) ∧ H1 fd = some (.lst ws) ∧ IsL H1 ws (fnd mk i) ∧ fd ≠ ra) ?_ ?_ ?_
    · exact ⟨none, none, none, none, none, none, none, f0, [], rfl, s13, hR0, upd_same, .nil, fun e => by rw [e, upd_same] at hf0; cases hf0⟩
    · intro i σ H1 hi ⟨y4, y5, y6, y7, y8, y9, y10, fd, ws, es, sm, hR, efd, hF, nfr⟩
      subst es
      have hFl := hF.len
      refine ⟨_, rfl, fd, _, rfl, .inl (SqL.of efd), _, rfl, _, _, rfl, rfl, _, rfl, ?_⟩
      refine ite2 (fun c => ?_) (fun c => ?_)
      · have c' : (k : Int) ≤ ((ws.length : Nat) : Int) := of_decide_eq_true c
        refine ⟨_, rfl, _, rfl, _, rfl, fd, _, rfl, SqL.of efd, fun c2 hc2 => ?_⟩
        have sc := same_upd hc2 (.lst (cutV ws none (some (k : Int))))
        refine q c2 _ _ (sm.trans sc) (sm.free hc2) upd_same ?_
        rw [← due_of (n := i) (by omega) (by omega)]
        have t := (hF.same sc).take k
        rw [← cut_any ws k] at t
        exact t
      · have c' : ¬ (k : Int) ≤ ((ws.length : Nat) : Int) := fun h => c (decide_eq_true h)
        have hO := rws_ok ok i
        have hRl := rws_len mk i
        have f39 : (rws mk i).flatten.length ≤ 39 := by
          show (fnd mk i).length ≤ 39
          omega
        refine ⟨(by show 0 ≤ sizeLine; decide), fun r0 hr0 => ?_⟩
        have t1 := same_upd hr0 (.lst [])
        have bOne : ∀ kv ∈ mk, (lawOne (rws mk i) kv.1 kv.2).length ≤ 136890 := fun kv hk => by
          obtain ⟨lo, hi2⟩ := ok.low kv hk
          rw [lawOne_eq hO.zero hO.one _ lo hi2]
          exact nOne_len ok hO.zero hO.one (by omega) f39 hk
        have rlen : ∀ l, ((rws mk i).getD l []).length ≤ 39 := fun l => Nat.le_trans (row_len l) f39
        refine ⟨_, rfl, m, rfl, ⟨_, .inl (.inr ⟨o, t1 _ _ (sm _ _ em)⟩)⟩, ?_⟩
        refine for_tup (K := K) (a := m) (xs := mps.map V.ref) (fun j σ H2 => ∃ y6 y7 y8 y9 rw_ acc, σ = [some (.ref m), some (.int k), some (.ref ra), some (.ref fd), some (.int (1 + (i : Int))), some (.ref rw_), y6, y7, y8, y9, y10, none, none, none] ∧ Same H1 H2 ∧ H2 rw_ = some (.lst acc) ∧ IsL H2 acc ((mk.take j).flatMap fun kv => lawOne (rws mk i) kv.1 kv.2)) ?_ ?_ ?_ ?_
        · exact ⟨_, _, _, _, r0, [], rfl, t1, upd_same, .nil⟩
        · exact fun j σ H2 _ ⟨_, _, _, _, _, _, _, s2, _⟩ => .inl (.inr ⟨o, s2 _ _ (sm _ _ em)⟩)
        · intro j x σ H2 hx ⟨y6, y7, y8, y9, rw_, acc, es, s2, eA, hA⟩
          subst es
          obtain ⟨p, kv, rfl, hkv, ep⟩ := mk_get pp hx
          have hm := List.mem_of_getElem? hkv
          obtain ⟨lo, hi2⟩ := ok.low kv hm
          have hj := (List.getElem?_eq_some_iff.mp hkv).1
          have bi := flatMap_len (l := mk.take j) (f := fun kv => lawOne (rws mk i) kv.1 kv.2) (c := 136890) fun z hz => bOne z (List.mem_of_mem_take hz)
          rw [List.length_take] at bi
          have bi4 : ((mk.take j).flatMap fun kv => lawOne (rws mk i) kv.1 kv.2).length ≤ 4 * 136890 := Nat.le_trans bi (Nat.mul_le_mul_right _ (by omega))
          have e3 : (mk.take (j + 1)).flatMap (fun kv => lawOne (rws mk i) kv.1 kv.2) = (mk.take j).flatMap (fun kv => lawOne (rws mk i) kv.1 kv.2) ++ lawOne (rws mk i) kv.1 kv.2 := by
            rw [take_get hkv, List.flatMap_append, List.flatMap_cons, List.flatMap_nil, List.append_nil]
          generalize (mk.take j).flatMap (fun kv => lawOne (rws mk i) kv.1 kv.2) = pre at hA bi bi4 e3
          obtain ⟨tot, etot⟩ : ∃ t, t = (mk.take (j + 1)).flatMap (fun kv => lawOne (rws mk i) kv.1 kv.2) := ⟨_, rfl⟩
          rw [← etot] at e3
          have kw := ok.good kv hm
          obtain ⟨w, pt⟩ := kv
          refine ⟨p, _, rfl, .inl (.inl (s2 _ _ (sm _ _ ep))), rfl, _, _, rfl, _, _, rfl, rfl, ?_⟩
          refine ⟨fun σ H3 => ∃ rw_ acc, σ = [some (.ref m), some (.int k), some (.ref ra), some (.ref fd), some (.int (1 + (i : Int))), some (.ref rw_), some (.str w), some (.int pt), y8, y9, y10, none, none, none] ∧ Same H1 H3 ∧ H3 rw_ = some (.lst acc) ∧ IsL H3 acc (pre ++ (if pt = 0 ∧ (rws mk i).length = 1 then [.tup [.str w]] else [])), ?_, fun σ H3 hmid => ?_⟩
          · refine ⟨_, rfl, rfl, _, rfl, ite2 (fun c1 => ?_) (fun c1 => ?_)⟩
            · have p0' : pt = 0 := V.int.inj (of_decide_eq_true c1)
              refine ⟨_, rfl, rfl, _, rfl, ite2 (fun c2 => ?_) (fun c2 => ?_)⟩
              · have i0 : (1 + (i : Int)) = 1 := V.int.inj (of_decide_eq_true c2)
                have hl1 : (rws mk i).length = 1 := by omega
                refine ⟨_, rfl, _, rfl, (by show 1 ≤ sizeLine; decide), fun tp htp => ⟨(by show 1 ≤ sizeLine; decide), fun l1 hl1' => ?_⟩⟩
                have u1 := same_upd htp (.tup [.str w])
                have u2 := same_upd hl1' (.lst [.ref tp])
                have u12 := u1.trans u2
                have al := hA.len
                refine ⟨rw_, l1, _, _, rfl, rfl, u12 _ _ eA, upd_same, Nat.le_of_lt (smallM (by simp; omega)), fun l2 hl2 => ?_⟩
                have u3 := same_upd hl2 (.lst (acc ++ [.ref tp]))
                have u13 := u12.trans u3
                refine ⟨l2, _, rfl, s2.trans u13, upd_same, ?_⟩
                rw [if_pos ⟨p0', hl1⟩]
                exact (hA.same u13).append (.cons (.tup (u3 _ _ (u2 _ _ upd_same)) (.cons (.str w kw) .nil)) .nil)
              · refine ⟨rw_, acc, rfl, s2, eA, ?_⟩
                have : ¬ (rws mk i).length = 1 := fun e => c2 (by
                  have : (i : Int) = 0 := by omega
                  rw [this]; rfl)
                rw [if_neg (fun z => this z.2), List.append_nil]; exact hA
            · refine iteF ⟨rw_, acc, rfl, s2, eA, ?_⟩
              have : ¬ pt = 0 := fun e => c1 (by rw [e]; rfl)
              rw [if_neg (fun z => this z.1), List.append_nil]; exact hA
          · obtain ⟨rw_, acc, es, s3, eA, hA⟩ := hmid
            subst es
            have b1 : (pre ++ (if pt = 0 ∧ (rws mk i).length = 1 then [PV.tup [.str w]] else [])).length ≤ 4 * 136890 + 1 := by
              rw [List.length_append]
              have : (if pt = 0 ∧ (rws mk i).length = 1 then [PV.tup [.str w]] else []).length ≤ 1 := by split <;> simp
              omega
            have e4 := e3
            unfold lawOne at e4
            rw [← List.append_assoc, ← List.append_assoc] at e4
            generalize pre ++ (if pt = 0 ∧ (rws mk i).length = 1 then [PV.tup [.str w]] else []) = pre1 at hA b1 e4
            refine ⟨fun σ H4 => ∃ rw_ acc, σ = [some (.ref m), some (.int k), some (.ref ra), some (.ref fd), some (.int (1 + (i : Int))), some (.ref rw_), some (.str w), some (.int pt), y8, y9, y10, none, none, none] ∧ Same H1 H4 ∧ H4 rw_ = some (.lst acc) ∧ IsL H4 acc (pre1 ++ (if pt = 1 then ((rws mk i).getD ((rws mk i).length - 1) []).map (fun a => .tup [.str w, a]) else [])), ?_, fun σ H4 hmid => ?_⟩
            · refine ⟨_, rfl, rfl, _, rfl, ite2 (fun c1 => ?_) (fun c1 => ?_)⟩
              · have p1 : pt = 1 := V.int.inj (of_decide_eq_true c1)
                obtain ⟨qs, p', vs, ea, eql, eq, nb, ep', hV⟩ := (hR.same s3).get (i := (rws mk i).length - 1) (by omega)
                have vl := hV.len
                have rl := rlen ((rws mk i).length - 1)
                refine ⟨_, rfl, _, rfl, _, rfl, _, _, rfl, rfl, ra, _, _, _, rfl, rfl, SqL.of ea, ?_, p', rfl, ⟨_, SqL.of ep'⟩, fun D hD => ?_⟩
                · refine (show atI qs ((1 + (i : Int)) - 1) = _ from ?_)
                  rw [show (1 + (i : Int)) - 1 = (((rws mk i).length - 1 : Nat) : Int) by omega]
                  exact atI_nat eq
                refine lc_list (K := K) (a := p') (xs := vs) (fun t H5 => Same H3 H5 ∧ ∃ bs, H5 D = some (.lst bs) ∧ IsL H5 bs ((((rws mk i).getD ((rws mk i).length - 1) []).take t).map fun a => .tup [.str w, a]) ∧ bs.length = t) ?_ ?_ ?_ ?_
                · exact ⟨same_upd hD _, [], upd_same, .nil, rfl⟩
                · exact fun t H5 _ ⟨s4, _⟩ => SqL.of (s4 _ _ ep')
                · intro t x H5 hx ⟨s4, bs, eB, hB, hbl⟩
                  obtain ⟨y, ey, hy⟩ := hV.get hx
                  have ht := (List.getElem?_eq_some_iff.mp ey).1
                  refine ⟨rfl, yes_if ?_⟩
                  refine ⟨_, rfl, _, rfl, (by show 2 ≤ sizeLine; decide), fun tp htp => ⟨bs, ?_, small1000 (by omega), ?_⟩⟩
                  · rw [upd_ne (ne_of_none eB htp)]; exact eB
                  · have u1 := same_upd htp (.tup [.str w, x])
                    have kk : KeepT (upd H5 tp (.tup [.str w, x])) (upd (upd H5 tp (.tup [.str w, x])) D (.lst (bs ++ [.ref tp]))) := .set (u1 _ _ eB) _
                    refine ⟨Kx.Same.own (s4.trans u1) hD _, _, upd_same, ?_, by rw [List.length_append, hbl]; rfl⟩
                    rw [take_get ey, List.map_append]
                    exact ((hB.same u1).append (.cons (.tup upd_same (.cons (.str w kw) (.cons (hy.same (s4.trans u1)) .nil))) .nil)).keep kk
                · intro H5 ⟨s4, bs, eB, hB, hbl⟩
                  rw [vl, List.take_length] at hB
                  have al := hA.len
                  refine ⟨rw_, D, _, _, rfl, rfl, s4 _ _ eA, eB, Nat.le_of_lt (smallM (by omega)), fun l2 hl2 => ?_⟩
                  have u3 := same_upd hl2 (.lst (acc ++ bs))
                  refine ⟨l2, _, rfl, (s3.trans s4).trans u3, upd_same, ?_⟩
                  rw [if_pos p1]
                  exact (hA.same (s4.trans u3)).append (hB.same u3)
              · refine ⟨rw_, acc, rfl, s3, eA, ?_⟩
                have : ¬ pt = 1 := fun e => c1 (by rw [e]; rfl)
                rw [if_neg this, List.append_nil]; exact hA
            · obtain ⟨rw_, acc, es, s4, eA, hA⟩ := hmid
              subst es
              have b2 : (pre1 ++ (if pt = 1 then ((rws mk i).getD ((rws mk i).length - 1) []).map (fun a => PV.tup [.str w, a]) else [])).length ≤ 4 * 136890 + 40 := by
                rw [List.length_append]
                have : (if pt = 1 then ((rws mk i).getD ((rws mk i).length - 1) []).map (fun a => PV.tup [.str w, a]) else []).length ≤ 39 := by
                  split
                  · rw [List.length_map]; exact rlen _
                  · simp
                omega
              generalize pre1 ++ (if pt = 1 then ((rws mk i).getD ((rws mk i).length - 1) []).map (fun a => PV.tup [.str w, a]) else []) = pre2 at hA b2 e4
              refine ⟨_, rfl, rfl, _, rfl, ite2 (fun c1 => ?_) (fun c1 => ?_)⟩
              · have p2 : pt = 2 := V.int.inj (of_decide_eq_true c1)
                rw [if_pos p2] at e4
                let G : Nat → PV → List PV := fun l a => ((rws mk i).getD ((rws mk i).length - 1 - l) []).map fun b => .tup [.str w, a, b]
                let F : Nat → List PV := fun l => ((rws mk i).getD l []).flatMap (G l)
                have gl : ∀ l a, (G l a).length ≤ 39 := fun l a => by
                  show (((rws mk i).getD ((rws mk i).length - 1 - l) []).map _).length ≤ 39
                  rw [List.length_map]; exact rlen _
                have fl : ∀ l, (F l).length ≤ 1521 := fun l => Nat.le_trans (flatMap_len fun a _ => gl l a) (Nat.mul_le_mul_right 39 (rlen l))
                refine ⟨_, rfl, _, _, rfl, rfl, _, _, rfl, ⟨by omega, by omega, by omega, by omega⟩, ?_⟩
                have cnt : ((1 + (i : Int)) - 1 - 1).toNat = (rws mk i).length - 2 := by omega
                rw [cnt]
                refine for_range (fun l σ H5 => ∃ y8 y9 rw_ acc, σ = [some (.ref m), some (.int k), some (.ref ra), some (.ref fd), some (.int (1 + (i : Int))), some (.ref rw_), some (.str w), some (.int pt), y8, y9, y10, none, none, none] ∧ Same H1 H5 ∧ H5 rw_ = some (.lst acc) ∧ IsL H5 acc (pre2 ++ (List.range' 1 l).flatMap F)) ?_ ?_ ?_
                · refine ⟨y8, y9, rw_, acc, rfl, s4, eA, ?_⟩
                  have e0 : pre2 ++ (List.range' 1 0).flatMap F = pre2 := List.append_nil _
                  rw [e0]; exact hA
                · intro l σ H5 hl ⟨y8, y9, rw_, acc, es, s5, eA, hA⟩
                  subst es
                  have bl := flatMap_len (l := List.range' 1 l) (f := F) (c := 1521) fun l _ => fl l
                  rw [List.length_range'] at bl
                  obtain ⟨qs, p', vs, ea, eql, eq, nb, ep', hV⟩ := (hR.same s5).get (i := 1 + l) (by omega)
                  obtain ⟨qs2, p2', vs2, ea2, eql2, eq2, nb2, ep2', hV2⟩ := (hR.same s5).get (i := (rws mk i).length - 1 - (1 + l)) (by omega)
                  have vl := hV.len
                  have vl2 := hV2.len
                  have rl := rlen (1 + l)
                  have rl2 := rlen ((rws mk i).length - 1 - (1 + l))
                  refine ⟨_, rfl, _, rfl, ra, _, _, _, rfl, rfl, SqL.of ea, atI_nat (j := 1 + l) eq, p', rfl, ⟨_, SqL.of ep'⟩, ?_⟩
                  refine for_list (K := K) (a := p') (xs := vs) (fun t σ H6 => ∃ y8 rw_ acc, σ = [some (.ref m), some (.int k), some (.ref ra), some (.ref fd), some (.int (1 + (i : Int))), some (.ref rw_), some (.str w), some (.int pt), y8, some (.int (1 + (l : Int))), y10, none, none, none] ∧ Same H5 H6 ∧ H6 rw_ = some (.lst acc) ∧ IsL H6 acc (pre2 ++ (List.range' 1 l).flatMap F ++ (((rws mk i).getD (1 + l) []).take t).flatMap (G (1 + l)))) ?_ ?_ ?_ ?_
                  · refine ⟨y8, rw_, acc, rfl, .refl _, eA, ?_⟩
                    rw [List.take_zero, List.flatMap_nil, List.append_nil]; exact hA
                  · exact fun t σ H6 _ ⟨_, _, _, _, s6, _⟩ => SqL.of (s6 _ _ ep')
                  · intro t x σ H6 hx ⟨y8, rw_, acc, es, s6, eA, hA⟩
                    subst es
                    obtain ⟨y, ey, hy⟩ := hV.get hx
                    have ht := (List.getElem?_eq_some_iff.mp ey).1
                    have bt := flatMap_len (l := ((rws mk i).getD (1 + l) []).take t) (f := G (1 + l)) (c := 39) fun a _ => gl _ a
                    rw [List.length_take] at bt
                    refine ⟨_, rfl, _, rfl, _, rfl, _, _, rfl, rfl, _, rfl, _, _, rfl, rfl, ra, _, _, _, rfl, rfl, SqL.of (s6 _ _ ea2), ?_, p2', rfl, ⟨_, SqL.of (s6 _ _ ep2')⟩, fun D hD => ?_⟩
                    · refine (show atI qs2 ((1 + (i : Int)) - 1 - (1 + (l : Int))) = _ from ?_)
                      rw [show (1 + (i : Int)) - 1 - (1 + (l : Int)) = (((rws mk i).length - 1 - (1 + l) : Nat) : Int) by omega]
                      exact atI_nat eq2
                    refine lc_list (K := K) (a := p2') (xs := vs2) (fun u H7 => Same H6 H7 ∧ ∃ bs, H7 D = some (.lst bs) ∧ IsL H7 bs ((((rws mk i).getD ((rws mk i).length - 1 - (1 + l)) []).take u).map fun b => .tup [.str w, y, b]) ∧ bs.length = u) ?_ ?_ ?_ ?_
                    · exact ⟨same_upd hD _, [], upd_same, .nil, rfl⟩
                    · exact fun u H7 _ ⟨s7, _⟩ => SqL.of (s7 _ _ (s6 _ _ ep2'))
                    · intro u z H7 hz ⟨s7, bs, eB, hB, hbl⟩
                      obtain ⟨b, ebz, hb⟩ := hV2.get hz
                      have hu2 := (List.getElem?_eq_some_iff.mp ebz).1
                      refine ⟨rfl, yes_if ?_⟩
                      refine ⟨_, rfl, _, rfl, _, rfl, (by show 3 ≤ sizeLine; decide), fun tp htp => ⟨bs, ?_, small1000 (by omega), ?_⟩⟩
                      · rw [upd_ne (ne_of_none eB htp)]; exact eB
                      · have u1 := same_upd htp (.tup [.str w, x, z])
                        have s67 := (s6.trans s7).trans u1
                        have kk : KeepT (upd H7 tp (.tup [.str w, x, z])) (upd (upd H7 tp (.tup [.str w, x, z])) D (.lst (bs ++ [.ref tp]))) := .set (u1 _ _ eB) _
                        refine ⟨Kx.Same.own (s7.trans u1) hD _, _, upd_same, ?_, by rw [List.length_append, hbl]; rfl⟩
                        rw [take_get ebz, List.map_append]
                        exact ((hB.same u1).append (.cons (.tup upd_same (.cons (.str w kw) (.cons (hy.same s67) (.cons (hb.same s67) .nil)))) .nil)).keep kk
                    · intro H7 ⟨s7, bs, eB, hB, hbl⟩
                      rw [vl2, List.take_length] at hB
                      have al := hA.len
                      simp only [List.length_append] at al
                      refine ⟨rw_, D, _, _, rfl, rfl, s7 _ _ eA, eB, Nat.le_of_lt (smallM (by omega)), fun l2 hl2 => ?_⟩
                      have u3 := same_upd hl2 (.lst (acc ++ bs))
                      refine ⟨_, l2, _, rfl, (s6.trans s7).trans u3, upd_same, ?_⟩
                      rw [take_get ey, List.flatMap_append, List.flatMap_cons, List.flatMap_nil, List.append_nil, ← List.append_assoc]
                      exact (hA.same (s7.trans u3)).append (hB.same u3)
                  · intro σ H6 ⟨y8, rw_, acc, es, s6, eA, hA⟩
                    subst es
                    refine ⟨_, _, rw_, acc, rfl, s5.trans s6, eA, ?_⟩
                    rw [vl, List.take_length] at hA
                    rw [List.range'_1_concat, List.flatMap_append, List.flatMap_cons, List.flatMap_nil, List.append_nil, ← List.append_assoc]
                    exact hA
                · intro σ H5 ⟨y8, y9, rw_, acc, es, s5, eA, hA⟩
                  subst es
                  refine ⟨_, _, _, _, rw_, acc, rfl, s5, eA, ?_⟩
                  rw [← etot, e4]; exact hA
              · have : ¬ pt = 2 := fun e => c1 (by rw [e]; rfl)
                rw [if_neg this, List.append_nil] at e4
                refine ⟨_, _, _, _, rw_, acc, rfl, s4, eA, ?_⟩
                rw [← etot, e4]; exact hA
        · intro σ H2 ⟨y6, y7, y8, y9, rw_, acc, es, s2, eA, hA⟩
          subst es
          rw [List.length_map, lnP, List.take_length, ← nxt_law ok hO] at hA
          have nL : (nxt mk (rws mk i)).length ≤ 5 * 136890 := by
            rw [nxt_law ok hO]
            exact Nat.le_trans (flatMap_len fun kv hk => bOne kv hk) (Nat.mul_le_mul_right _ m5)
          have nwf : ∀ t ∈ nxt mk (rws mk i), Wf mk t := fun t ht => by
            obtain ⟨_, _, _, _, _, w, _⟩ := nxt_mem ok hO ht
            exact w
          have ndep : ∀ t ∈ nxt mk (rws mk i), dep t ≤ 41 := fun t ht => by
            have a := fnd_dep ok t ht
            have b : (fnd mk i).length ≤ 39 := f39
            omega
          have nsrt := nxt_srt ok hO
          have efnd := fnd_succ mk i
          have erws : rws mk (i + 1) = rws mk i ++ [nxt mk (rws mk i)] := rfl
          generalize nxt mk (rws mk i) = N at hA nL nwf ndep nsrt efnd erws
          have al := hA.len
          have u2 := sm.trans s2
          refine ⟨_, rfl, rw_, rfl, ⟨_, SqL.of eA⟩, fun D hD => ?_⟩
          refine lc_list (K := K) (a := rw_) (xs := acc) (fun t H3 => Same H2 H3 ∧ ∃ bs, H3 D = some (.lst bs) ∧ IsL H3 bs ((N.take t).map (prK mk)) ∧ bs.length = t) ?_ ?_ ?_ ?_
          · exact ⟨same_upd hD _, [], upd_same, .nil, rfl⟩
          · exact fun t H3 _ ⟨s3, _⟩ => SqL.of (s3 _ _ eA)
          · intro t x H3 hx ⟨s3, bs, eB, hB, hbl⟩
            obtain ⟨y, ey, hy⟩ := hA.get hx
            have hm := List.mem_of_getElem? ey
            have ht := (List.getElem?_eq_some_iff.mp ey).1
            refine ⟨rfl, yes_if ?_⟩
            refine ⟨_, rfl, _, rfl, m, mk, x, y, rfl, hM.same (u2.trans s3), hy.same s3, nwf y hm, by have := ndep y hm; omega, fun u H4 s4 hu4 => ?_⟩
            refine ⟨_, rfl, (by show 2 ≤ sizeLine; decide), fun tp htp => ⟨bs, ?_, smallM (by omega), ?_⟩⟩
            · rw [upd_ne (ne_of_none (s4 _ _ eB) htp)]; exact s4 _ _ eB
            · have u1 := same_upd htp (.tup [u, x])
              have kk : KeepT (upd H4 tp (.tup [u, x])) (upd (upd H4 tp (.tup [u, x])) D (.lst (bs ++ [.ref tp]))) := .set (u1 _ _ (s4 _ _ eB)) _
              refine ⟨Kx.Same.own ((s3.trans s4).trans u1) hD _, _, upd_same, ?_, by rw [List.length_append, hbl]; rfl⟩
              rw [take_get ey, List.map_append]
              exact ((hB.same (s4.trans u1)).append (.cons (.tup upd_same (.cons (hu4.same u1) (.cons (hy.same ((s3.trans s4).trans u1)) .nil))) .nil)).keep kk
          · intro H3 ⟨s3, bs, eB, hB, hbl⟩
            rw [al, List.take_length] at hB
            obtain ⟨k1, k2, k3, k4⟩ := keyed_ok nwf (fun t ht => by have := ndep t ht; omega) nsrt
            refine ⟨D, _, _, rfl, SqL.of eB, hB.dp, k1, k2, k3, k4, fun p hp => ?_⟩
            have s4 := same_upd hp (.lst bs)
            have u4 := (u2.trans s3).trans s4
            have u14 := (s2.trans s3).trans s4
            obtain ⟨ps, era, hP⟩ := hR.same u14
            have hpl := Paired.length hP
            have hB4 := hB.same s4
            have efd4 := u14 _ _ efd
            have hF4 := hF.same u14
            have ep : upd H3 p (.lst bs) p = some (.lst bs) := upd_same
            refine ⟨_, rfl, .inl ⟨rfl, _, SqL.of era⟩, _, rfl, p, rfl, ⟨_, SqL.of ep⟩, fun D2 hD2 => ?_⟩
            generalize upd H3 p (.lst bs) = H4 at u4 u14 era hP hB4 efd4 hF4 ep hD2
            refine lc_list (K := K) (a := p) (xs := bs) (fun t H5 => Same H4 H5 ∧ ∃ cs, H5 D2 = some (.lst cs) ∧ IsL H5 cs (N.take t) ∧ cs.length = t) ?_ ?_ ?_ ?_
            · exact ⟨same_upd hD2 _, [], upd_same, .nil, rfl⟩
            · exact fun t H5 _ ⟨s5, _⟩ => SqL.of (s5 _ _ ep)
            · intro t x H5 hx ⟨s5, cs, eC, hC, hcl⟩
              obtain ⟨y, ey, hy⟩ := hB4.get hx
              obtain ⟨y', ey', rfl⟩ := map_get ey
              have ht := (List.getElem?_eq_some_iff.mp ey').1
              obtain ⟨b, vs, rfl, eb, hb⟩ := hy.tup_inv
              cases hb with
              | cons hk hb =>
              cases hb with
              | cons hv hb =>
              cases hb
              refine ⟨b, _, rfl, .inl (.inl (s5 _ _ eb)), rfl, _, _, rfl, _, _, rfl, rfl, rfl, yes_if ?_⟩
              refine ⟨_, rfl, cs, eC, smallM (by omega), Kx.Same.own s5 hD2 _, _, upd_same, ?_, by rw [List.length_append, hcl]; rfl⟩
              rw [take_get ey']
              exact (hC.append (.cons (hv.same s5) .nil)).keep (.set eC _)
            · intro H5 ⟨s5, cs, eC, hC, hcl⟩
              have bl := hB.len
              rw [List.length_map] at bl
              rw [bl, List.take_length] at hC
              have era5 := s5 _ _ era
              refine ⟨ra, _, _, rfl, rfl, era5, ?_, ?_⟩
              · rw [List.length_map, hpl]; exact small1000 (by omega)
              have nDr : D2 ≠ ra := fun e => by rw [e, era] at hD2; cases hD2
              have R6 := RowsAt.snoc era5 (pr_same hP s5) (show ra ∈ [ra] by simp) (show D2 ∉ [ra] by simpa using nDr) eC hC
              rw [← erws] at R6
              have kk : KeepT H5 (upd H5 ra (.lst (ps.map V.ref ++ [V.ref D2]))) := .set era5 _
              have efd6 : upd H5 ra (.lst (ps.map V.ref ++ [V.ref D2])) fd = some (.lst ws) := by rw [upd_ne nfr]; exact s5 _ _ efd4
              have eC6 : upd H5 ra (.lst (ps.map V.ref ++ [V.ref D2])) D2 = some (.lst cs) := by rw [upd_ne nDr]; exact eC
              have hat : (ps.map V.ref ++ [V.ref D2])[1 + i]? = some (V.ref D2) := by
                rw [List.getElem?_append_right (by rw [List.length_map]; omega), List.length_map, hpl, hRl, show 1 + i - (i + 1) = 0 by omega]; rfl
              have hF6 := (hF4.same s5).keep kk
              have hC6 := hC.keep kk
              have S6 : Same H (upd H5 ra (.lst (ps.map V.ref ++ [V.ref D2]))) := Kx.Same.own (u4.trans s5) fr _
              have era6 : upd H5 ra (.lst (ps.map V.ref ++ [V.ref D2])) ra = some (.lst (ps.map V.ref ++ [V.ref D2])) := upd_same
              generalize upd H5 ra (.lst (ps.map V.ref ++ [V.ref D2])) = H6 at R6 efd6 eC6 hF6 hC6 S6 era6
              refine ⟨_, rfl, _, rfl, _, rfl, ra, _, _, _, rfl, rfl, SqL.of era6, atI_nat (j := 1 + i) hat, fd, D2, _, _, rfl, rfl, efd6, eC6, Nat.le_of_lt (smallM (by omega)), fun l hl => ?_⟩
              have s7 := same_upd hl (.lst (ws ++ cs))
              refine ⟨_, _, _, _, _, _, _, l, ws ++ cs, rfl, S6.trans s7, R6.same s7, upd_same, ?_, fun e => by rw [e, era6] at hl; cases hl⟩
              rw [efnd]
              exact (hF6.append hC6).same s7
    · intro σ H1 ⟨y4, y5, y6, y7, y8, y9, y10, fd, ws, es, sm, hR, efd, hF, nfr⟩
      subst es
      refine ⟨_, rfl, _, rfl, _, rfl, fd, _, rfl, SqL.of efd, fun c2 hc2 => ?_⟩
      have sc := same_upd hc2 (.lst (cutV ws none (some (k : Int))))
      refine q c2 _ _ (sm.trans sc) (sm.free hc2) upd_same ?_
      have t := (hF.same sc).take k
      rw [← cut_any ws k] at t
      exact t
end
end Kx
namespace Kx
open PySem PySem.Spec PyProof.Rows L2
section
variable {P : Program} {w : World} {K : PySem.W.Frag} {mg : Str → Option Value} {base : Heap}
theorem ok_law_sign (T : Txt K mg) (G_law_key : FnOk P w K mg base CX0 46 T.a_law_key T.d_law_key ["makers", "tree"] (spKey 45)) : FnOk P w K mg base CX0 47 T.a_law_sign T.d_law_sign ["makers", "one", "other"] spSign := by
  refine T.F_law_sign.ok sc_law_sign (fun vs H Q E h => ?_) (fun cdv A outer s H vs Q E hr h => ?_)
  · obtain ⟨m, mk, v, u, t, s, rfl, _⟩ := h; rfl
  · obtain ⟨m, mk, v, u, t, s', rfl, hM, hI, hJ, hW, hX, d1, d2, q⟩ := h
    have hr_law_key := hr
    refine ⟨_, (pss_cons (ps_set (i := 3) sc_law_sign.nd rfl (Or.inl rfl) (pe_call G_law_key hr_law_key rfl T.m_law_key T.F_law_key.kp T.b_law_key .nil pass0 (pa_cons (pv 0) (pa_cons (pv 1) pa_nil))))
    (pss_cons (ps_set (i := 4) sc_law_sign.nd rfl (Or.inl rfl) (pe_call G_law_key hr_law_key rfl T.m_law_key T.F_law_key.kp T.b_law_key .nil pass0 (pa_cons (pv 0) (pa_cons (pv 2) pa_nil))))
    (pss_one (ps_ret (pe_op op_sub (pe_callTy call_int1 (by rfl) T.z_int (by decide +kernel) (pa_cons (pe_cmpR (op_gtD hr.units) (pv 3) (pv 4) (nomark _)) pa_nil)) (pe_callTy call_int1 (by rfl) T.z_int (by decide +kernel) (pa_cons (pe_cmpR (op_ltD hr.units) (pv 3) (pv 4) (nomark _)) pa_nil))))))), ?_⟩
    refine ⟨_, rfl, _, rfl, m, mk, v, t, rfl, hM, hI, hW, d1, fun a H1 s1 ha => ?_⟩
    refine ⟨_, rfl, _, rfl, m, mk, u, s', rfl, hM.same s1, hJ.same s1, hX, d2, fun b H2 s2 hb => ?_⟩
    have ha2 := ha.same s2
    have dk : dep (key mk t) ≤ 45 := Nat.le_trans (key_dep hW) d1
    have dd : (toD (key mk t)).depth ≤ 60 := by have := toD_depth (key mk t); omega
    have nn : toD (key mk t) ≠ .none := by
      obtain ⟨w, r, rfl, _⟩ := wf_inv hW
      simp [key, toD]
    refine ⟨_, rfl, _, rfl, _, _, ha2.dp, hb.dp, alike_key hW hX, nn, dd, .inr ⟨_, rfl, ?_⟩⟩
    refine ⟨_, rfl, _, rfl, _, _, ha2.dp, hb.dp, alike_key hW hX, nn, dd, .inr ⟨_, rfl, _, _, rfl, rfl, ?_⟩⟩
    exact q H2 (s1.trans s2)
theorem ok_law_right (T : Txt K mg) (G_order : FnOk P w K mg base CX0 106 T.a_order T.d_order ["makers", "one", "other"] (spOrder 45)) (G_law_sign : FnOk P w K mg base CX0 47 T.a_law_sign T.d_law_sign ["makers", "one", "other"] spSign) : FnOk P w K mg base CX0 107 T.a_law_right T.d_law_right ["makers", "one", "other"] spRight := by
  refine T.F_law_right.ok sc_law_right (fun vs H Q E h => ?_) (fun cdv A outer s H vs Q E hr h => ?_)
  · obtain ⟨m, mk, v, u, t, s, rfl, _⟩ := h; rfl
  · obtain ⟨m, mk, v, u, t, s', rfl, hM, hI, hJ, hW, hX, d1, d2, q⟩ := h
    have hr_order := hr
    have hr_law_sign := hr.mono (show 47 ≤ 106 by decide)
    refine ⟨_, (pss_cons (ps_set (i := 3) sc_law_right.nd rfl (Or.inl rfl) (pe_call G_order hr_order rfl T.m_order T.F_order.kp T.b_order .nil pass0 (pa_cons (pv 0) (pa_cons (pv 1) (pa_cons (pv 2) pa_nil)))))
    (pss_one (ps_ret (pe_and (pe_callB call_isi (by rfl) T.z_isinstance (by decide +kernel) (pa_cons (pv 3) (pa_cons (pe_bltn rfl T.z_int (by decide +kernel) (show RelV (V.ty "int") (Value.type "int") from rfl)) pa_nil))) (pe_and (pe_not (pe_callB call_isi (by rfl) T.z_isinstance (by decide +kernel) (pa_cons (pv 3) (pa_cons (pe_bltn rfl T.z_bool (by decide +kernel) (show RelV (V.ty "bool") (Value.type "bool") from rfl)) pa_nil)))) (pe_one (pe_cmpR op_eq (pv 3) (pe_call G_law_sign hr_law_sign rfl T.m_law_sign T.F_law_sign.kp T.b_law_sign .nil pass0 (pa_cons (pv 0) (pa_cons (pv 1) (pa_cons (pv 2) pa_nil)))) (nomark _)))))))), ?_⟩
    refine ⟨_, rfl, _, rfl, _, rfl, m, mk, v, u, t, s', rfl, hM, hI, hJ, hW, hX, d1, by omega, by omega, fun H1 s1 => ?_⟩
    refine ⟨_, rfl, _, _, _, _, _, rfl, .ty _, .base (.int _), kit_ty (show kitB "int" "int" = some true by decide +kernel), _, rfl, iteT ?_⟩
    refine ⟨_, rfl, _, _, _, _, _, rfl, .ty _, .base (.int _), kit_ty (show kitB "int" "bool" = some false by decide +kernel), _, rfl, _, rfl, iteT ?_⟩
    refine ⟨_, rfl, _, rfl, _, rfl, _, rfl, m, mk, v, u, t, s', rfl, hM.same s1, hI.same s1, hJ.same s1, hW, hX, d1, d2, fun H2 s2 => ⟨rfl, ?_⟩⟩
    have e : decide (V.int (ordT mk t s') = V.int (ordT mk t s')) = true := decide_eq_true rfl
    rw [e]
    exact q H2 (s1.trans s2)
end
end Kx
namespace Kx
open PySem PySem.Spec PyProof.Rows L2
section
variable {P : Program} {w : World} {K : PySem.W.Frag} {mg : Str → Option Value} {base : Heap}
theorem no_left {f : Addr} {fd : FuncData} {ps : List Str} {k : Nat} {sp : Sp} (no : ∀ vs H Q E, ¬ sp vs H Q E) : FnOk P w K mg base CX0 k f fd ps sp :=
  ⟨fun vs H Q E h => absurd h (no vs H Q E), fun A outer s H args us vs Q E _ _ _ _ h => absurd h (no vs H Q E)⟩
theorem all_size (T : Txt K mg) : ∀ n, FnOk P w K mg base CX0 (n + 1) T.a_size T.d_size ["term"] (spSize n)
  | 0 => no_left fun vs H Q E ⟨_, _, t, _, _, _, h, _⟩ => by have := dep_pos t; omega
  | n + 1 => ok_size T (all_size T n)
theorem all_order (T : Txt K mg) : ∀ n, FnOk P w K mg base CX0 (n + 61) T.a_order T.d_order ["makers", "one", "other"] (spOrder n)
  | 0 => no_left fun vs H Q E ⟨_, _, _, _, t, _, _, _, _, _, _, _, h, _⟩ => by have := dep_pos t; omega
  | n + 1 => ok_order T (all_size T 60) (all_order T n)
theorem all_part (T : Txt K mg) : ∀ n, FnOk P w K mg base CX0 (n + 1) T.a_part_rows T.d_part_rows ["rows", "parts", "total"] (spPart n)
  | 0 => no_left fun vs H Q E ⟨_, _, _, _, _, _, _, _, _, _, _, h, _⟩ => by omega
  | n + 1 => ok_part_rows T (all_part T n)
theorem all_key (T : Txt K mg) : ∀ n, FnOk P w K mg base CX0 (n + 1) T.a_law_key T.d_law_key ["makers", "tree"] (spKey n)
  | 0 => no_left fun vs H Q E ⟨_, _, _, t, _, _, _, _, h, _⟩ => by have := dep_pos t; omega
  | n + 1 => ok_law_key T (all_key T n)
theorem all_term (T : Txt K mg) : ∀ n, FnOk P w K mg base CX0 (n + 3) T.a_law_term T.d_law_term ["draws", "makers", "names", "deep"] (spTerm n)
  | 0 => no_left fun vs H Q E ⟨_, _, _, _, _, _, _, k, _, _, _, _, _, _, _, _, _, h, _⟩ => by omega
  | n + 1 => ok_law_term T (ok_law_draw T) (ok_law_pick T (ok_law_draw T)) (all_term T n)
/-- what stands between the law's statements -/
structure St (H : Hp) (mk : List (Str × Int)) (d sa m p : Addr) (ws : List V) (k : Nat) : Prop where
  dr : Dr H d sa
  mk_ : Mk H m mk
  ep : H p = some (.lst ws)
  hl : IsL H ws (due mk k)
  npd : p ≠ d
theorem St.same {H H' : Hp} {mk : List (Str × Int)} {d sa m p : Addr} {ws : List V} {k : Nat} (h : St H mk d sa m p ws k) (s : Same H H') : St H' mk d sa m p ws k := ⟨h.dr.same s, h.mk_.same s, s _ _ h.ep, h.hl.same s, h.npd⟩
theorem St.ex {H H' : Hp} {mk : List (Str × Int)} {d sa m p : Addr} {ws : List V} {k : Nat} (h : St H mk d sa m p ws k) (x : Ex d H H') (D : Dr H' d sa) : St H' mk d sa m p ws k := ⟨D, h.mk_.ex x h.dr.lst, x.but _ _ h.npd h.ep, h.hl.ex x h.dr.lst, h.npd⟩
theorem due_shp {mk : List (Str × Int)} {k : Nat} (ok : MkOk mk) (hk : k ≤ 40) {H : Hp} {ws : List V} (h : IsL H ws (due mk k)) : SeqAt.shaped (.list (toDL (due mk k))) = true := by
  have a := toDL_depth (due mk k)
  have b := depL_le (l := due mk k) (c := 41) fun t ht => by have := due_dep ok k t ht; omega
  unfold SeqAt.shaped
  simp only [PyData.canLay0, h.lay, Bool.true_and, PyData.depth]
  exact decide_eq_true (by omega)
theorem wf_zero {mk : List (Str × Int)} (ok : MkOk mk) : Wf mk (.tup [.str (Str.ofString "zero")]) := ⟨look_mem ok.nd ok.zz, Nat.zero_le _, trivial⟩
theorem z_ok : sok (Str.ofString "zero") = true := by decide +kernel
theorem due_klt {mk : List (Str × Int)} {k i : Nat} (ok : MkOk mk) {x y : PV} (hx : (due mk k)[i]? = some x) (hy : (due mk k)[i + 1]? = some y) : klt mk x y = true := by
  obtain ⟨h1, e1⟩ := List.getElem?_eq_some_iff.mp hx
  obtain ⟨h2, e2⟩ := List.getElem?_eq_some_iff.mp hy
  have := List.pairwise_iff_getElem.mp (due_srt ok k) i (i + 1) h1 h2 (by omega)
  rwa [e1, e2] at this
theorem ok_law (T : Txt K mg) (G_law_draws : FnOk P w K mg base CX0 1 T.a_law_draws T.d_law_draws ["script"] (spDraws K)) (G_law_makers : FnOk P w K mg base CX0 2 T.a_law_makers T.d_law_makers ["draws"] spMakers) (G_law_draw : FnOk P w K mg base CX0 1 T.a_law_draw T.d_law_draw ["draws", "limit"] spDraw) (G_law_trees : FnOk P w K mg base CX0 61 T.a_law_trees T.d_law_trees ["makers", "many"] spTrees) (G_trees : FnOk P w K mg base CX0 6 T.a_trees T.d_trees ["makers", "many"] spTrees) (G_order : FnOk P w K mg base CX0 106 T.a_order T.d_order ["makers", "one", "other"] (spOrder 45)) (G_law_term : FnOk P w K mg base CX0 7 T.a_law_term T.d_law_term ["draws", "makers", "names", "deep"] (spTerm 4)) (G_law_pick : FnOk P w K mg base CX0 2 T.a_law_pick T.d_law_pick ["draws", "row"] (spPick K)) (G_law_right : FnOk P w K mg base CX0 107 T.a_law_right T.d_law_right ["makers", "one", "other"] spRight) : FnOk P w K mg base CX0 108 T.a_law T.d_law ["script"] (spLaw K) := by
  refine T.F_law.ok sc_law (fun vs H Q E h => ?_) (fun cdv A outer s H vs Q E hr h => ?_)
  · obtain ⟨a, ns, rfl, _⟩ := h; rfl
  · obtain ⟨a, ns, rfl, hS, hl, q⟩ := h
    have hr_law_draws := hr.mono (show 1 ≤ 107 by decide)
    have hr_law_makers := hr.mono (show 2 ≤ 107 by decide)
    have hr_law_draw := hr.mono (show 1 ≤ 107 by decide)
    have hr_law_trees := hr.mono (show 61 ≤ 107 by decide)
    have hr_trees := hr.mono (show 6 ≤ 107 by decide)
    have hr_order := hr.mono (show 106 ≤ 107 by decide)
    have hr_law_term := hr.mono (show 7 ≤ 107 by decide)
    have hr_law_pick := hr.mono (show 2 ≤ 107 by decide)
    have hr_law_right := hr
    refine ⟨_, (pss_cons (ps_set (i := 1) sc_law.nd rfl (Or.inl rfl) (pe_call G_law_draws hr_law_draws rfl T.m_law_draws T.F_law_draws.kp T.b_law_draws .nil pass0 (pa_cons (pv 0) pa_nil)))
    (pss_cons (ps_set (i := 2) sc_law.nd rfl (Or.inl rfl) (pe_call G_law_makers hr_law_makers rfl T.m_law_makers T.F_law_makers.kp T.b_law_makers .nil pass0 (pa_cons (pv 1) pa_nil)))
    (pss_cons (ps_set (i := 3) sc_law.nd rfl (Or.inl rfl) (pe_call G_law_draw hr_law_draw rfl T.m_law_draw T.F_law_draw.kp T.b_law_draw .nil pass0 (pa_cons (pv 1) (pa_cons pe_int pa_nil))))
    (pss_cons (ps_set (i := 4) sc_law.nd rfl (Or.inl rfl) (pe_call G_law_trees hr_law_trees rfl T.m_law_trees T.F_law_trees.kp T.b_law_trees .nil pass0 (pa_cons (pv 2) (pa_cons (pv 3) pa_nil))))
    (pss_cons (ps_if (pt_cmpR (op_neD hr.units) (pe_call G_trees hr_trees rfl T.m_trees T.F_trees.kp T.b_trees .nil pass0 (pa_cons (pv 2) (pa_cons (pv 3) pa_nil))) (pv 4) (nomark _)) (pss_one (ps_ret pe_bl)) pss_nil)
    (pss_cons (ps_for PassesOwn.never rfl (pi_range1 (by rfl) T.z_range (pa_cons (pe_op op_sub (pe_callB call_len_seq (by rfl) T.z_len (by decide +kernel) (pa_cons (pv 4) pa_nil)) pe_int) pa_nil)) (pg_name (i := 5) sc_law.nd rfl (Or.inl rfl))
    (pss_one (ps_if (PW.pt (pw_or (pt_cmpR op_ne (pe_call G_order hr_order rfl T.m_order T.F_order.kp T.b_order .nil pass0 (pa_cons (pv 2) (pa_cons (pe_ix ix_list (pv 4) (pv 5) (fun _ _ => rfl)) (pa_cons (pe_ix ix_list (pv 4) (pe_op op_add (pv 5) pe_int) (fun _ _ => rfl)) pa_nil)))) (pe_un un_neg pe_int) (nomark _)) (pw_or1 (pt_cmpR op_ne (pe_call G_order hr_order rfl T.m_order T.F_order.kp T.b_order .nil pass0 (pa_cons (pv 2) (pa_cons (pe_ix ix_list (pv 4) (pe_op op_add (pv 5) pe_int) (fun _ _ => rfl)) (pa_cons (pe_ix ix_list (pv 4) (pv 5) (fun _ _ => rfl)) pa_nil)))) pe_int (nomark _))))) (pss_one (ps_ret pe_bl)) pss_nil)))
    (pss_cons (ps_for PassesOwn.never rfl (pi_range1 (by rfl) T.z_range (pa_cons pe_int pa_nil)) (pg_name (i := 6) sc_law.nd rfl (Or.inl rfl))
    (pss_cons (ps_set (i := 7) sc_law.nd rfl (Or.inl rfl) (pe_call G_law_term hr_law_term rfl T.m_law_term T.F_law_term.kp T.b_law_term .nil pass0 (pa_cons (pv 1) (pa_cons (pv 2) (pa_cons (pe_lst (pa_cons (pe_tup (pa_cons pe_str pa_nil)) pa_nil)) (pa_cons (pe_call G_law_draw hr_law_draw rfl T.m_law_draw T.F_law_draw.kp T.b_law_draw .nil pass0 (pa_cons (pv 1) (pa_cons pe_int pa_nil))) pa_nil))))))
    (pss_cons (ps_set (i := 8) sc_law.nd rfl (Or.inl rfl) (pe_call G_law_pick hr_law_pick rfl T.m_law_pick T.F_law_pick.kp T.b_law_pick .nil pass0 (pa_cons (pv 1) (pa_cons (pe_op op_cat (pe_lst (pa_cons (pv 7) (pa_cons (pe_call G_law_term hr_law_term rfl T.m_law_term T.F_law_term.kp T.b_law_term .nil pass0 (pa_cons (pv 1) (pa_cons (pv 2) (pa_cons (pe_lst (pa_cons (pe_tup (pa_cons pe_str pa_nil)) pa_nil)) (pa_cons (pe_call G_law_draw hr_law_draw rfl T.m_law_draw T.F_law_draw.kp T.b_law_draw .nil pass0 (pa_cons (pv 1) (pa_cons pe_int pa_nil))) pa_nil))))) pa_nil))) (pv 4)) pa_nil))))
    (pss_one (ps_if (PW.pt (pw_or (pt_not (pt_val (pe_call G_law_right hr_law_right rfl T.m_law_right T.F_law_right.kp T.b_law_right .nil pass0 (pa_cons (pv 2) (pa_cons (pv 7) (pa_cons (pv 8) pa_nil)))))) (pw_or1 (pt_not (pt_val (pe_call G_law_right hr_law_right rfl T.m_law_right T.F_law_right.kp T.b_law_right .nil pass0 (pa_cons (pv 2) (pa_cons (pv 8) (pa_cons (pv 7) pa_nil))))))))) (pss_one (ps_ret pe_bl)) pss_nil)))))
    (pss_one (ps_ret pe_bl))))))))), ?_⟩
    refine ⟨_, rfl, a, ns, rfl, hS, hl, fun d sa H1 s1 D1 => ?_⟩
    refine ⟨_, rfl, d, sa, rfl, D1, fun m H2 mk M2 x2 D2 => ?_⟩
    refine ⟨_, rfl, d, sa, 41, rfl, D2, by omega, by omega, fun r H3 r0 r1 x3 D3 => ?_⟩
    obtain ⟨k, rfl⟩ : ∃ k : Nat, r = (k : Int) := ⟨r.toNat, by omega⟩
    have hk : k ≤ 40 := by omega
    have M3 := M2.ex x3 D2.lst
    have ok := M3.ok
    refine ⟨_, rfl, _, rfl, m, mk, k, rfl, M3, hk, fun p H4 ws s4 np ep hL => ?_⟩
    have npd : p ≠ d := (D3.free (H1 := H3) np).1
    refine ⟨_, rfl, _, rfl, m, mk, k, rfl, M3.same s4, hk, fun p2 H5 ws2 s5 np2 ep2 hL2 => ?_⟩
    have shp := due_shp ok hk hL
    refine ⟨_, rfl, _, _, .lst (SqL.of ep2) hL2.dp, .lst (SqL.of (s5 _ _ ep)) (hL.same s5).dp, shp, shp, _, rfl, ?_⟩
    have S5 : St H5 mk d sa m p ws k := ⟨(D3.same s4).same s5, (M3.same s4).same s5, s5 _ _ ep, hL.same s5, npd⟩
    refine ite2 (fun c => absurd c ?_) (fun _ => ?_)
    · rw [SeqAt.eqv_refl _ (SeqAt.canLay_of_shaped shp)]; simp
    have wl := hL.len
    have dl := due_len mk k
    refine ⟨_, rfl, p, ws, rfl, .inl (SqL.of S5.ep), _, _, rfl, rfl, _, rfl, by omega, by omega, ?_⟩
    refine for_range (lo := 0) (fun i σ H6 => ∃ y5, σ = [some (.ref a), some (.ref d), some (.ref m), some (.int k), some (.ref p), y5, none, none, none] ∧ Same H5 H6) ?_ ?_ ?_
    · exact ⟨none, rfl, .refl _⟩
    · intro i σ H6 hi ⟨y5, es, s6⟩
      subst es
      have S6 := S5.same s6
      have i1 : i < (due mk k).length := by omega
      have i2 : i + 1 < (due mk k).length := by omega
      have g1 : ws[i]? = some (ws[i]'(by omega)) := List.getElem?_eq_getElem (by omega)
      have g2 : ws[i + 1]? = some (ws[i + 1]'(by omega)) := List.getElem?_eq_getElem (by omega)
      obtain ⟨x, ex, hx⟩ := S6.hl.get g1
      obtain ⟨y, ey, hy⟩ := S6.hl.get g2
      have wx := due_wf ok k x (List.mem_of_getElem? ex)
      have wy := due_wf ok k y (List.mem_of_getElem? ey)
      have dx := due_dep ok k x (List.mem_of_getElem? ex)
      have dy := due_dep ok k y (List.mem_of_getElem? ey)
      have lt := due_klt ok ex ey
      have a1 : atI ws (0 + (i : Int)) = some (ws[i]'(by omega)) := by rw [Int.zero_add]; exact atI_nat g1
      have a2 : atI ws (0 + (i : Int) + 1) = some (ws[i + 1]'(by omega)) := by
        rw [show 0 + (i : Int) + 1 = ((i + 1 : Nat) : Int) by omega]; exact atI_nat g2
      refine ⟨_, rfl, _, rfl, _, rfl, p, _, _, _, rfl, rfl, SqL.of S6.ep, a1, _, rfl, _, rfl, _, _, rfl, rfl, p, _, _, _, rfl, rfl, SqL.of S6.ep, a2, m, mk, _, _, x, y, rfl, S6.mk_, hx, hy, wx, wy, by omega, by omega, by omega, fun H7 s7 => ?_⟩
      rw [ord_lt lt]
      refine ⟨_, rfl, rfl, _, rfl, ?_⟩
      refine ite2 (fun c => absurd c (by decide)) (fun _ => ?_)
      have S7 := S6.same s7
      refine ⟨_, rfl, _, rfl, _, rfl, _, _, rfl, rfl, p, _, _, _, rfl, rfl, SqL.of S7.ep, a2, _, rfl, _, rfl, p, _, _, _, rfl, rfl, SqL.of S7.ep, a1, m, mk, _, _, y, x, rfl, S7.mk_, hy.same s7, hx.same s7, wy, wx, by omega, by omega, by omega, fun H8 s8 => ?_⟩
      rw [ord_gt lt]
      refine ⟨rfl, _, rfl, ?_⟩
      refine ite2 (fun c => absurd c (by decide)) (fun _ => ?_)
      exact ⟨_, rfl, (s6.trans s7).trans s8⟩
    · intro σ H6 ⟨y5, es, s6⟩
      subst es
      have S6 := S5.same s6
      refine ⟨_, rfl, by omega, by omega, ?_⟩
      refine for_range (lo := 0) (fun i σ H7 => ∃ y6 y7 y8, σ = [some (.ref a), some (.ref d), some (.ref m), some (.int k), some (.ref p), y5, y6, y7, y8] ∧ St H7 mk d sa m p ws k) ?_ ?_ ?_
      · exact ⟨none, none, none, rfl, S6⟩
      · intro i σ H7 hi ⟨y6, y7, y8, es, S7⟩
        subst es
        refine ⟨_, rfl, _, rfl, (by show 1 ≤ sizeLine; decide), fun tp htp => ⟨(by show 1 ≤ sizeLine; decide), fun nl hnl => ?_⟩⟩
        have t1 := same_upd htp (.tup [.str (Str.ofString "zero")])
        have t2 := same_upd hnl (.lst [.ref tp])
        have S8 := S7.same (t1.trans t2)
        have iz : Is (upd (upd H7 tp (.tup [.str (Str.ofString "zero")])) nl (.lst [.ref tp])) (.ref tp) (.tup [.str (Str.ofString "zero")]) := .tup (t2 _ _ upd_same) (.cons (.str _ z_ok) .nil)
        have nnd : nl ≠ d := ((S7.same t1).dr.free (H1 := H7) hnl).1
        refine ⟨_, rfl, d, sa, 4, rfl, S8.dr, by omega, by omega, fun r H9 r0 r1 x9 D9 => ?_⟩
        have S9 := S8.ex x9 D9
        have e9 := x9.but _ _ nnd upd_same
        have i9 := iz.ex x9 S8.dr.lst
        obtain ⟨k4, rfl⟩ : ∃ k : Nat, r = (k : Int) := ⟨r.toNat, by omega⟩
        refine ⟨d, sa, m, nl, mk, [.ref tp], [.tup [.str (Str.ofString "zero")]], k4, rfl, D9, S9.mk_, e9, .cons i9 .nil, nnd, by simp, by simp, fun t ht => ?_, by omega, fun v t H10 hv ht hd x10 D10 => ?_⟩
        · rw [List.mem_singleton.mp ht]
          exact ⟨wf_zero ok, by simp only [dep, depL]; omega⟩
        have S10 := S9.ex x10 D10
        refine ⟨_, rfl, _, rfl, _, rfl, _, rfl, (by show 1 ≤ sizeLine; decide), fun tp2 htp2 => ⟨(by show 1 ≤ sizeLine; decide), fun nl2 hnl2 => ?_⟩⟩
        have t3 := same_upd htp2 (.tup [.str (Str.ofString "zero")])
        have t4 := same_upd hnl2 (.lst [.ref tp2])
        have S11 := S10.same (t3.trans t4)
        have iz2 : Is (upd (upd H10 tp2 (.tup [.str (Str.ofString "zero")])) nl2 (.lst [.ref tp2])) (.ref tp2) (.tup [.str (Str.ofString "zero")]) := .tup (t4 _ _ upd_same) (.cons (.str _ z_ok) .nil)
        have nnd2 : nl2 ≠ d := ((S10.same t3).dr.free (H1 := H10) hnl2).1
        refine ⟨_, rfl, d, sa, 4, rfl, S11.dr, by omega, by omega, fun r2 H12 r0' r1' x12 D12 => ?_⟩
        have S12 := S11.ex x12 D12
        have e12 := x12.but _ _ nnd2 upd_same
        have i12 := iz2.ex x12 S11.dr.lst
        obtain ⟨k5, rfl⟩ : ∃ k : Nat, r2 = (k : Int) := ⟨r2.toNat, by omega⟩
        refine ⟨d, sa, m, nl2, mk, [.ref tp2], [.tup [.str (Str.ofString "zero")]], k5, rfl, D12, S12.mk_, e12, .cons i12 .nil, nnd2, by simp, by simp, fun t ht => ?_, by omega, fun v2 tt H13 hv2 ht2 hd2 x13 D13 => ?_⟩
        · rw [List.mem_singleton.mp ht]
          exact ⟨wf_zero ok, by simp only [dep, depL]; omega⟩
        have S13 := S12.ex x13 D13
        have hv13 := ((hv.same (t3.trans t4)).ex x12 S11.dr.lst).ex x13 D12.lst
        refine ⟨(by show 2 ≤ sizeLine; decide), fun l hl => ?_⟩
        have t5 := same_upd hl (.lst [v, v2])
        have S14 := S13.same t5
        refine ⟨_, rfl, l, p, _, _, rfl, rfl, upd_same, S14.ep, Nat.le_of_lt (small1000 (by simp; omega)), fun l2 hl2 => ?_⟩
        have t6 := same_upd hl2 (.lst ([v, v2] ++ ws))
        have S15 := S14.same t6
        have n2 : l2 ≠ d := (S14.dr.free (H1 := H13) hl2).1
        have t56 := t5.trans t6
        have all : IsL (upd (upd H13 l (.lst [v, v2])) l2 (.lst ([v, v2] ++ ws))) ([v, v2] ++ ws) ([t, tt] ++ due mk k) := IsL.append (.cons (hv13.same t56) (.cons (hv2.same t56) .nil)) S15.hl
        have okA : ∀ z ∈ [t, tt] ++ due mk k, Wf mk z ∧ dep z ≤ 45 := fun z hz => by
          rcases List.mem_append.mp hz with hz | hz
          · rcases List.mem_cons.mp hz with rfl | hz
            · exact ⟨ht, by omega⟩
            · rw [List.mem_singleton.mp hz]; exact ⟨ht2, by omega⟩
          · exact ⟨due_wf ok k z hz, by have := due_dep ok k z hz; omega⟩
        refine ⟨d, sa, l2, _, rfl, S15.dr, .inl upd_same, n2, by simp, by simp; omega, fun x H16 hx x16 D16 => ?_⟩
        have S16 := S15.ex x16 D16
        obtain ⟨z, hz, iz⟩ := all.all x hx
        have gz := iz.ex x16 S15.dr.lst
        have gv := (hv13.same t56).ex x16 S15.dr.lst
        obtain ⟨wz, dz⟩ := okA z hz
        refine ⟨_, rfl, _, rfl, _, rfl, m, mk, v, x, t, z, rfl, S16.mk_, gv, gz, ht, wz, by omega, dz, fun H17 s17 => ⟨_, rfl, ?_⟩⟩
        refine ite2 (fun c => absurd c (by decide)) (fun _ => ?_)
        refine ⟨_, rfl, _, rfl, _, rfl, m, mk, x, v, z, t, rfl, S16.mk_.same s17, gz.same s17, gv.same s17, wz, ht, dz, by omega, fun H18 s18 => ⟨_, rfl, ?_⟩⟩
        refine ite2 (fun c => absurd c (by decide)) (fun _ => ?_)
        exact ⟨_, _, _, rfl, S16.same (s17.trans s18)⟩
      · intro σ H7 ⟨y6, y7, y8, es, S7⟩
        subst es
        exact q H7
end
end Kx
/-! The end: the program's top leaves the defs where the text says. -/
namespace Kx
open PySem L2
theorem all_mk {l : PySem.W.OpenLaw} {w : World} {K : PySem.W.Frag} {h : Heap} {mg : Str → Option Value} {fa f0 f1 f2 f3 f4 f5 f6 f7 f8 f9 f10 f11 f12 f13 f14 : Addr} (X : K.In h) (G : h.Ns mainGlobals mg) (hfa : mg "law" = some (.ref fa))
    {od0 an0 od1 an1 od2 an2 od3 an3 od4 an4 od5 an5 od6 an6 od7 an7 od8 an8 od9 an9 od10 an10 od11 an11 od12 an12 od13 an13 od14 an14 : Option Addr} {sl0 sl1 sl2 sl3 sl4 sl5 sl6 sl7 sl8 sl9 sl10 sl11 sl12 sl13 sl14 : Array (Option Value)} {oc0 kV0 dc0 pm0 cd0 ct0 oc1 kV1 dc1 pm1 cd1 ct1 oc2 kV2 dc2 pm2 cd2 ct2 oc3 kV3 dc3 pm3 cd3 ct3 oc4 kV4 dc4 pm4 cd4 ct4 oc5 kV5 dc5 pm5 cd5 ct5 oc6 kV6 dc6 pm6 cd6 ct6 oc7 kV7 dc7 pm7 cd7 ct7 oc8 kV8 dc8 pm8 cd8 ct8 oc9 kV9 dc9 pm9 cd9 ct9 oc10 kV10 dc10 pm10 cd10 ct10 oc11 kV11 dc11 pm11 cd11 ct11 oc12 kV12 dc12 pm12 cd12 ct12 oc13 kV13 dc13 pm13 cd13 ct13 oc14 kV14 dc14 pm14 cd14 ct14 : Value}
    (a0 : PySem.W.nsIn K mainGlobals "size" = some (some (.ref f0))) (l0 : K.lookup f0 = some ⟨oc0, od0, .func (PySem.W.fnOf "size" "size" (defArgs s_size) (defBody s_size) (defScope s_size) .none kV0 dc0 pm0 an0 cd0 ct0), sl0⟩) (c0 : PySem.W.codeIn K cd0 "size" = true) (k0 : PySem.W.keepIn K (.ref f0) = true)
    (a1 : PySem.W.nsIn K mainGlobals "order" = some (some (.ref f1))) (l1 : K.lookup f1 = some ⟨oc1, od1, .func (PySem.W.fnOf "order" "order" (defArgs s_order) (defBody s_order) (defScope s_order) .none kV1 dc1 pm1 an1 cd1 ct1), sl1⟩) (c1 : PySem.W.codeIn K cd1 "order" = true) (k1 : PySem.W.keepIn K (.ref f1) = true)
    (a2 : PySem.W.nsIn K mainGlobals "trees" = some (some (.ref f2))) (l2 : K.lookup f2 = some ⟨oc2, od2, .func (PySem.W.fnOf "trees" "trees" (defArgs s_trees) (defBody s_trees) (defScope s_trees) .none kV2 dc2 pm2 an2 cd2 ct2), sl2⟩) (c2 : PySem.W.codeIn K cd2 "trees" = true) (k2 : PySem.W.keepIn K (.ref f2) = true)
    (a3 : PySem.W.nsIn K mainGlobals "_trees_of_size" = some (some (.ref f3))) (l3 : K.lookup f3 = some ⟨oc3, od3, .func (PySem.W.fnOf "_trees_of_size" "_trees_of_size" (defArgs s_trees_of_size) (defBody s_trees_of_size) (defScope s_trees_of_size) .none kV3 dc3 pm3 an3 cd3 ct3), sl3⟩) (c3 : PySem.W.codeIn K cd3 "_trees_of_size" = true) (k3 : PySem.W.keepIn K (.ref f3) = true)
    (a4 : PySem.W.nsIn K mainGlobals "part_rows" = some (some (.ref f4))) (l4 : K.lookup f4 = some ⟨oc4, od4, .func (PySem.W.fnOf "part_rows" "part_rows" (defArgs s_part_rows) (defBody s_part_rows) (defScope s_part_rows) .none kV4 dc4 pm4 an4 cd4 ct4), sl4⟩) (c4 : PySem.W.codeIn K cd4 "part_rows" = true) (k4 : PySem.W.keepIn K (.ref f4) = true)
    (a5 : PySem.W.nsIn K mainGlobals "_law_draws" = some (some (.ref f5))) (l5 : K.lookup f5 = some ⟨oc5, od5, .func (PySem.W.fnOf "_law_draws" "_law_draws" (defArgs s_law_draws) (defBody s_law_draws) (defScope s_law_draws) .none kV5 dc5 pm5 an5 cd5 ct5), sl5⟩) (c5 : PySem.W.codeIn K cd5 "_law_draws" = true) (k5 : PySem.W.keepIn K (.ref f5) = true)
    (a6 : PySem.W.nsIn K mainGlobals "_law_draw" = some (some (.ref f6))) (l6 : K.lookup f6 = some ⟨oc6, od6, .func (PySem.W.fnOf "_law_draw" "_law_draw" (defArgs s_law_draw) (defBody s_law_draw) (defScope s_law_draw) .none kV6 dc6 pm6 an6 cd6 ct6), sl6⟩) (c6 : PySem.W.codeIn K cd6 "_law_draw" = true) (k6 : PySem.W.keepIn K (.ref f6) = true)
    (a7 : PySem.W.nsIn K mainGlobals "_law_pick" = some (some (.ref f7))) (l7 : K.lookup f7 = some ⟨oc7, od7, .func (PySem.W.fnOf "_law_pick" "_law_pick" (defArgs s_law_pick) (defBody s_law_pick) (defScope s_law_pick) .none kV7 dc7 pm7 an7 cd7 ct7), sl7⟩) (c7 : PySem.W.codeIn K cd7 "_law_pick" = true) (k7 : PySem.W.keepIn K (.ref f7) = true)
    (a8 : PySem.W.nsIn K mainGlobals "_law_makers" = some (some (.ref f8))) (l8 : K.lookup f8 = some ⟨oc8, od8, .func (PySem.W.fnOf "_law_makers" "_law_makers" (defArgs s_law_makers) (defBody s_law_makers) (defScope s_law_makers) .none kV8 dc8 pm8 an8 cd8 ct8), sl8⟩) (c8 : PySem.W.codeIn K cd8 "_law_makers" = true) (k8 : PySem.W.keepIn K (.ref f8) = true)
    (a9 : PySem.W.nsIn K mainGlobals "_law_term" = some (some (.ref f9))) (l9 : K.lookup f9 = some ⟨oc9, od9, .func (PySem.W.fnOf "_law_term" "_law_term" (defArgs s_law_term) (defBody s_law_term) (defScope s_law_term) .none kV9 dc9 pm9 an9 cd9 ct9), sl9⟩) (c9 : PySem.W.codeIn K cd9 "_law_term" = true) (k9 : PySem.W.keepIn K (.ref f9) = true)
    (a10 : PySem.W.nsIn K mainGlobals "_law_key" = some (some (.ref f10))) (l10 : K.lookup f10 = some ⟨oc10, od10, .func (PySem.W.fnOf "_law_key" "_law_key" (defArgs s_law_key) (defBody s_law_key) (defScope s_law_key) .none kV10 dc10 pm10 an10 cd10 ct10), sl10⟩) (c10 : PySem.W.codeIn K cd10 "_law_key" = true) (k10 : PySem.W.keepIn K (.ref f10) = true)
    (a11 : PySem.W.nsIn K mainGlobals "_law_trees" = some (some (.ref f11))) (l11 : K.lookup f11 = some ⟨oc11, od11, .func (PySem.W.fnOf "_law_trees" "_law_trees" (defArgs s_law_trees) (defBody s_law_trees) (defScope s_law_trees) .none kV11 dc11 pm11 an11 cd11 ct11), sl11⟩) (c11 : PySem.W.codeIn K cd11 "_law_trees" = true) (k11 : PySem.W.keepIn K (.ref f11) = true)
    (a12 : PySem.W.nsIn K mainGlobals "_law_sign" = some (some (.ref f12))) (l12 : K.lookup f12 = some ⟨oc12, od12, .func (PySem.W.fnOf "_law_sign" "_law_sign" (defArgs s_law_sign) (defBody s_law_sign) (defScope s_law_sign) .none kV12 dc12 pm12 an12 cd12 ct12), sl12⟩) (c12 : PySem.W.codeIn K cd12 "_law_sign" = true) (k12 : PySem.W.keepIn K (.ref f12) = true)
    (a13 : PySem.W.nsIn K mainGlobals "_law_right" = some (some (.ref f13))) (l13 : K.lookup f13 = some ⟨oc13, od13, .func (PySem.W.fnOf "_law_right" "_law_right" (defArgs s_law_right) (defBody s_law_right) (defScope s_law_right) .none kV13 dc13 pm13 an13 cd13 ct13), sl13⟩) (c13 : PySem.W.codeIn K cd13 "_law_right" = true) (k13 : PySem.W.keepIn K (.ref f13) = true)
    (a14 : PySem.W.nsIn K mainGlobals "law" = some (some (.ref f14))) (l14 : K.lookup f14 = some ⟨oc14, od14, .func (PySem.W.fnOf "law" "law" (defArgs s_law) (defBody s_law) (defScope s_law) .none kV14 dc14 pm14 an14 cd14 ct14), sl14⟩) (c14 : PySem.W.codeIn K cd14 "law" = true) (k14 : PySem.W.keepIn K (.ref f14) = true)
    (z0 : PySem.W.nsIn K mainGlobals "isinstance" = some none)
    (z1 : PySem.W.nsIn K mainGlobals "str" = some none)
    (z2 : PySem.W.nsIn K mainGlobals "zip" = some none)
    (z3 : PySem.W.nsIn K mainGlobals "list" = some none)
    (z4 : PySem.W.nsIn K mainGlobals "len" = some none)
    (z5 : PySem.W.nsIn K mainGlobals "range" = some none)
    (z6 : PySem.W.nsIn K mainGlobals "abs" = some none)
    (z7 : PySem.W.nsIn K mainGlobals "int" = some none)
    (z8 : PySem.W.nsIn K mainGlobals "tuple" = some none)
    (z9 : PySem.W.nsIn K mainGlobals "sum" = some none)
    (z10 : PySem.W.nsIn K mainGlobals "sorted" = some none)
    (z11 : PySem.W.nsIn K mainGlobals "bool" = some none)
    : ∃ fd : FuncData, (∀ (s : Shared) (v : Value), BindsTo s fd ⟨[v], []⟩ [("script", v)]) ∧ ∀ base : Heap, K.In base → base.Ns mainGlobals mg → FnOk l.prog w K mg base CX0 108 fa fd ["script"] (spLaw K) := by
  have e := hfa.symm.trans (PySem.W.mg_of X G a14)
  cases e
  let T : Txt K mg := {
    a_size := f0, d_size := _, F_size := fun_mk (st := s_size) l0 c0 k0, b_size := (fun_mk (st := s_size) l0 c0 k0).binds (ps := ["term"]) (fun _ _ _ _ _ _ us hl => match us, hl with | [_], _ => rfl), m_size := PySem.W.mg_of X G a0,
    a_order := f1, d_order := _, F_order := fun_mk (st := s_order) l1 c1 k1, b_order := (fun_mk (st := s_order) l1 c1 k1).binds (ps := ["makers", "one", "other"]) (fun _ _ _ _ _ _ us hl => match us, hl with | [_, _, _], _ => rfl), m_order := PySem.W.mg_of X G a1,
    a_trees := f2, d_trees := _, F_trees := fun_mk (st := s_trees) l2 c2 k2, b_trees := (fun_mk (st := s_trees) l2 c2 k2).binds (ps := ["makers", "many"]) (fun _ _ _ _ _ _ us hl => match us, hl with | [_, _], _ => rfl), m_trees := PySem.W.mg_of X G a2,
    a_trees_of_size := f3, d_trees_of_size := _, F_trees_of_size := fun_mk (st := s_trees_of_size) l3 c3 k3, b_trees_of_size := (fun_mk (st := s_trees_of_size) l3 c3 k3).binds (ps := ["makers", "rows", "total"]) (fun _ _ _ _ _ _ us hl => match us, hl with | [_, _, _], _ => rfl), m_trees_of_size := PySem.W.mg_of X G a3,
    a_part_rows := f4, d_part_rows := _, F_part_rows := fun_mk (st := s_part_rows) l4 c4 k4, b_part_rows := (fun_mk (st := s_part_rows) l4 c4 k4).binds (ps := ["rows", "parts", "total"]) (fun _ _ _ _ _ _ us hl => match us, hl with | [_, _, _], _ => rfl), m_part_rows := PySem.W.mg_of X G a4,
    a_law_draws := f5, d_law_draws := _, F_law_draws := fun_mk (st := s_law_draws) l5 c5 k5, b_law_draws := (fun_mk (st := s_law_draws) l5 c5 k5).binds (ps := ["script"]) (fun _ _ _ _ _ _ us hl => match us, hl with | [_], _ => rfl), m_law_draws := PySem.W.mg_of X G a5,
    a_law_draw := f6, d_law_draw := _, F_law_draw := fun_mk (st := s_law_draw) l6 c6 k6, b_law_draw := (fun_mk (st := s_law_draw) l6 c6 k6).binds (ps := ["draws", "limit"]) (fun _ _ _ _ _ _ us hl => match us, hl with | [_, _], _ => rfl), m_law_draw := PySem.W.mg_of X G a6,
    a_law_pick := f7, d_law_pick := _, F_law_pick := fun_mk (st := s_law_pick) l7 c7 k7, b_law_pick := (fun_mk (st := s_law_pick) l7 c7 k7).binds (ps := ["draws", "row"]) (fun _ _ _ _ _ _ us hl => match us, hl with | [_, _], _ => rfl), m_law_pick := PySem.W.mg_of X G a7,
    a_law_makers := f8, d_law_makers := _, F_law_makers := fun_mk (st := s_law_makers) l8 c8 k8, b_law_makers := (fun_mk (st := s_law_makers) l8 c8 k8).binds (ps := ["draws"]) (fun _ _ _ _ _ _ us hl => match us, hl with | [_], _ => rfl), m_law_makers := PySem.W.mg_of X G a8,
    a_law_term := f9, d_law_term := _, F_law_term := fun_mk (st := s_law_term) l9 c9 k9, b_law_term := (fun_mk (st := s_law_term) l9 c9 k9).binds (ps := ["draws", "makers", "names", "deep"]) (fun _ _ _ _ _ _ us hl => match us, hl with | [_, _, _, _], _ => rfl), m_law_term := PySem.W.mg_of X G a9,
    a_law_key := f10, d_law_key := _, F_law_key := fun_mk (st := s_law_key) l10 c10 k10, b_law_key := (fun_mk (st := s_law_key) l10 c10 k10).binds (ps := ["makers", "tree"]) (fun _ _ _ _ _ _ us hl => match us, hl with | [_, _], _ => rfl), m_law_key := PySem.W.mg_of X G a10,
    a_law_trees := f11, d_law_trees := _, F_law_trees := fun_mk (st := s_law_trees) l11 c11 k11, b_law_trees := (fun_mk (st := s_law_trees) l11 c11 k11).binds (ps := ["makers", "many"]) (fun _ _ _ _ _ _ us hl => match us, hl with | [_, _], _ => rfl), m_law_trees := PySem.W.mg_of X G a11,
    a_law_sign := f12, d_law_sign := _, F_law_sign := fun_mk (st := s_law_sign) l12 c12 k12, b_law_sign := (fun_mk (st := s_law_sign) l12 c12 k12).binds (ps := ["makers", "one", "other"]) (fun _ _ _ _ _ _ us hl => match us, hl with | [_, _, _], _ => rfl), m_law_sign := PySem.W.mg_of X G a12,
    a_law_right := f13, d_law_right := _, F_law_right := fun_mk (st := s_law_right) l13 c13 k13, b_law_right := (fun_mk (st := s_law_right) l13 c13 k13).binds (ps := ["makers", "one", "other"]) (fun _ _ _ _ _ _ us hl => match us, hl with | [_, _, _], _ => rfl), m_law_right := PySem.W.mg_of X G a13,
    a_law := fa, d_law := _, F_law := fun_mk (st := s_law) l14 c14 k14, b_law := (fun_mk (st := s_law) l14 c14 k14).binds (ps := ["script"]) (fun _ _ _ _ _ _ us hl => match us, hl with | [_], _ => rfl), m_law := PySem.W.mg_of X G a14,
    z_isinstance := PySem.W.mg_none_of X G z0,
    z_str := PySem.W.mg_none_of X G z1,
    z_zip := PySem.W.mg_none_of X G z2,
    z_list := PySem.W.mg_none_of X G z3,
    z_len := PySem.W.mg_none_of X G z4,
    z_range := PySem.W.mg_none_of X G z5,
    z_abs := PySem.W.mg_none_of X G z6,
    z_int := PySem.W.mg_none_of X G z7,
    z_tuple := PySem.W.mg_none_of X G z8,
    z_sum := PySem.W.mg_none_of X G z9,
    z_sorted := PySem.W.mg_none_of X G z10,
    z_bool := PySem.W.mg_none_of X G z11 }
  refine ⟨PySem.W.fnOf "law" "law" (defArgs s_law) (defBody s_law) (defScope s_law) .none kV14 dc14 pm14 an14 cd14 ct14, fun _ _ => .of_eq rfl, fun base _ _ => ?_⟩
  have d1 := ok_law_draw (P := l.prog) (w := w) (base := base) T
  exact ok_law T (ok_law_draws T) (ok_law_makers T d1) d1 (ok_law_trees T (all_key T 59)) (ok_trees T (ok_trees_of_size T (all_part T 3))) (all_order T 45) (all_term T 4) (ok_law_pick T d1) (ok_law_right T (all_order T 45) (ok_law_sign T (all_key T 45)))
theorem law_walk {l : PySem.W.OpenLaw} {q : Program} {loose : List Str} {XP : (Str → Option Value) → Heap → Prop} {YP : World → Heap → Prop} {r : DefRec} {K : Params → PySem.W.Frag}
    (h63 : l.most = some 63) (hno : r.params.defaults = []) (hK : ∀ (w : World) (h : Heap), YP w h → (K w.params).In h)
    (ok : ∀ (w : World) (mg : Str → Option Value) (fa : Addr) (h : Heap), (K w.params).In h → h.Ns mainGlobals mg → mg r.name = some (.ref fa) →
      ∃ fd : FuncData, (∀ (s : Shared) (u : Value), BindsTo s fd ⟨[u], []⟩ [("script", u)]) ∧
        ∀ base : Heap, (K w.params).In base → base.Ns mainGlobals mg → FnOk l.prog w (K w.params) mg base CX0 108 fa fd ["script"] (spLaw (K w.params))) :
    PySem.W.WalkO q loose XP YP l.row.toRowW r [] (fun f vs => PySem.call f vs) :=
  L2.walk_of (n := 63) (k := 108) (x := "script") (CX := fun _ => CX0) (sp := fun w => spLaw (K w.params)) h63 (by decide) hno ⟨rfl, by decide, by decide⟩ hK ok
    (fun _ _ a ns few _ seq => ⟨a, ns, rfl, seq, few, fun _ => rfl⟩) fun _ _ _ _ _ z => z
end Kx
open PySem PySem.W PyProof.Rows
set_option maxRecDepth 100000 in
set_option maxHeartbeats 0 in
theorem PySem.Challenge.cw_exactkinds_k02_trees_in_their_order_holds : PySem.Challenge.rw_exactkinds_k02_trees_in_their_order.Holds := by
  w_on; o_law; k_head; (case hw => w_witness2)
  k_fill
  refine Kx.law_walk (l := PySem.Challenge.rw_exactkinds_k02_trees_in_their_order) rfl rfl (fun _ _ Y => PySem.W.kIn_of Y) ?walked
  case walked =>
    intro w mg fa h inK names hmg
    refine' Kx.all_mk inK names hmg ?a0 ?l0 ?c0 ?k0 ?a1 ?l1 ?c1 ?k1 ?a2 ?l2 ?c2 ?k2 ?a3 ?l3 ?c3 ?k3 ?a4 ?l4 ?c4 ?k4 ?a5 ?l5 ?c5 ?k5 ?a6 ?l6 ?c6 ?k6 ?a7 ?l7 ?c7 ?k7 ?a8 ?l8 ?c8 ?k8 ?a9 ?l9 ?c9 ?k9 ?a10 ?l10 ?c10 ?k10 ?a11 ?l11 ?c11 ?k11 ?a12 ?l12 ?c12 ?k12 ?a13 ?l13 ?c13 ?k13 ?a14 ?l14 ?c14 ?k14 ?z0 ?z1 ?z2 ?z3 ?z4 ?z5 ?z6 ?z7 ?z8 ?z9 ?z10 ?z11
    (case a0 => k_is); (case l0 => k_is); (case c0 => k_is); (case k0 => k_is)
    (case a1 => k_is); (case l1 => k_is); (case c1 => k_is); (case k1 => k_is)
    (case a2 => k_is); (case l2 => k_is); (case c2 => k_is); (case k2 => k_is)
    (case a3 => k_is); (case l3 => k_is); (case c3 => k_is); (case k3 => k_is)
    (case a4 => k_is); (case l4 => k_is); (case c4 => k_is); (case k4 => k_is)
    (case a5 => k_is); (case l5 => k_is); (case c5 => k_is); (case k5 => k_is)
    (case a6 => k_is); (case l6 => k_is); (case c6 => k_is); (case k6 => k_is)
    (case a7 => k_is); (case l7 => k_is); (case c7 => k_is); (case k7 => k_is)
    (case a8 => k_is); (case l8 => k_is); (case c8 => k_is); (case k8 => k_is)
    (case a9 => k_is); (case l9 => k_is); (case c9 => k_is); (case k9 => k_is)
    (case a10 => k_is); (case l10 => k_is); (case c10 => k_is); (case k10 => k_is)
    (case a11 => k_is); (case l11 => k_is); (case c11 => k_is); (case k11 => k_is)
    (case a12 => k_is); (case l12 => k_is); (case c12 => k_is); (case k12 => k_is)
    (case a13 => k_is); (case l13 => k_is); (case c13 => k_is); (case k13 => k_is)
    (case a14 => k_is); (case l14 => k_is); (case c14 => k_is); (case k14 => k_is)
    (case z0 => k_is)
    (case z1 => k_is)
    (case z2 => k_is)
    (case z3 => k_is)
    (case z4 => k_is)
    (case z5 => k_is)
    (case z6 => k_is)
    (case z7 => k_is)
    (case z8 => k_is)
    (case z9 => k_is)
    (case z10 => k_is)
    (case z11 => k_is)

