import PyProof.Rows.All
import Wide.All
import OpenK.AllK
import Wide.FinOn
import HandS.ForMost
import HandS.IsInst
import HandS.Conv
import HandS.TupAny
import HandS.Evl
import HandS.SetKeys
import HandS.More
import HandS.Zip
import HandS.DictComp
import HandS.Walk
import HandS.Style
import KE.KDictPairs
import PySem.Challenge.RW_exactkinds_k03_terms_that_fit
set_option Elab.async false
set_option linter.all false
set_option maxRecDepth 100000
namespace Kx
open PySem PySem.Spec PyProof.Rows L2
def top (i : Nat) : Stmt := PySem.Challenge.pw_exactkinds_k03_terms_that_fit.main.body.getD i (.Pass ⟨0, 0, 0, 0⟩)
abbrev s_put : Stmt := top 1
abbrev s_fitted : Stmt := top 2
abbrev s_fits : Stmt := top 3
abbrev s_law_draws : Stmt := top 5
abbrev s_law_draw : Stmt := top 6
abbrev s_law_pick : Stmt := top 7
abbrev s_law_makers : Stmt := top 8
abbrev s_law_term : Stmt := top 9
abbrev s_law_put : Stmt := top 10
abbrev s_law_fit : Stmt := top 11
abbrev s_law_fitted : Stmt := top 12
abbrev s_law_same : Stmt := top 13
abbrev s_law_changed : Stmt := top 14
abbrev s_law : Stmt := top 15
theorem sc_put : FnScope ["term", "assignment", "items", "part"] ["term", "assignment"] (defScope s_put) := ⟨rfl, rfl, rfl, by decide +kernel, rfl, by decide +kernel, by decide +kernel⟩
theorem sc_fitted : FnScope ["patterns", "terms", "found", "pattern", "term"] ["patterns", "terms"] (defScope s_fitted) := ⟨rfl, rfl, rfl, by decide +kernel, rfl, by decide +kernel, by decide +kernel⟩
theorem sc_fits : FnScope ["pattern", "term", "found", "inner", "part"] ["pattern", "term", "found"] (defScope s_fits) := ⟨rfl, rfl, rfl, by decide +kernel, rfl, by decide +kernel, by decide +kernel⟩
theorem sc_law_draws : FnScope ["script"] ["script"] (defScope s_law_draws) := ⟨rfl, rfl, rfl, by decide +kernel, rfl, by decide +kernel, by decide +kernel⟩
theorem sc_law_draw : FnScope ["draws", "limit", "cell", "value"] ["draws", "limit"] (defScope s_law_draw) := ⟨rfl, rfl, rfl, by decide +kernel, rfl, by decide +kernel, by decide +kernel⟩
theorem sc_law_pick : FnScope ["draws", "row"] ["draws", "row"] (defScope s_law_pick) := ⟨rfl, rfl, rfl, by decide +kernel, rfl, by decide +kernel, by decide +kernel⟩
theorem sc_law_makers : FnScope ["draws", "rows", "word", "turn"] ["draws"] (defScope s_law_makers) := ⟨rfl, rfl, rfl, by decide +kernel, rfl, by decide +kernel, by decide +kernel⟩
theorem sc_law_term : FnScope ["draws", "makers", "names", "deep", "word", "parts", "k"] ["draws", "makers", "names", "deep"] (defScope s_law_term) := ⟨rfl, rfl, rfl, by decide +kernel, rfl, by decide +kernel, by decide +kernel⟩
theorem sc_law_put : FnScope ["term", "assignment", "part"] ["term", "assignment"] (defScope s_law_put) := ⟨rfl, rfl, rfl, by decide +kernel, rfl, by decide +kernel, by decide +kernel⟩
theorem sc_law_fit : FnScope ["pattern", "term", "found", "k"] ["pattern", "term", "found"] (defScope s_law_fit) := ⟨rfl, rfl, rfl, by decide +kernel, rfl, by decide +kernel, by decide +kernel⟩
theorem sc_law_fitted : FnScope ["patterns", "terms", "found", "k"] ["patterns", "terms"] (defScope s_law_fitted) := ⟨rfl, rfl, rfl, by decide +kernel, rfl, by decide +kernel, by decide +kernel⟩
theorem sc_law_same : FnScope ["told", "due", "key", "k"] ["told", "due"] (defScope s_law_same) := ⟨rfl, rfl, rfl, by decide +kernel, rfl, by decide +kernel, by decide +kernel⟩
theorem sc_law_changed : FnScope ["draws", "makers", "term", "at"] ["draws", "makers", "term"] (defScope s_law_changed) := ⟨rfl, rfl, rfl, by decide +kernel, rfl, by decide +kernel, by decide +kernel⟩
theorem sc_law : FnScope ["script", "draws", "makers", "turn", "many", "patterns", "assignment", "name", "terms", "kept", "at", "due", "handed", "k", "pattern"] ["script"] (defScope s_law) := ⟨rfl, rfl, rfl, by decide +kernel, rfl, by decide +kernel, by decide +kernel⟩
structure Txt (K : PySem.W.Frag) (mg : Str → Option Value) where
  a_put : Addr
  d_put : FuncData
  F_put : Fun K "put" "put" s_put a_put d_put
  b_put : Binds K d_put ["term", "assignment"] []
  m_put : mg "put" = some (.ref a_put)
  a_fitted : Addr
  d_fitted : FuncData
  F_fitted : Fun K "fitted" "fitted" s_fitted a_fitted d_fitted
  b_fitted : Binds K d_fitted ["patterns", "terms"] []
  m_fitted : mg "fitted" = some (.ref a_fitted)
  a_fits : Addr
  d_fits : FuncData
  F_fits : Fun K "_fits" "_fits" s_fits a_fits d_fits
  b_fits : Binds K d_fits ["pattern", "term", "found"] []
  m_fits : mg "_fits" = some (.ref a_fits)
  a_law_draws : Addr
  d_law_draws : FuncData
  F_law_draws : Fun K "_law_draws" "_law_draws" s_law_draws a_law_draws d_law_draws
  b_law_draws : Binds K d_law_draws ["script"] []
  m_law_draws : mg "_law_draws" = some (.ref a_law_draws)
  a_law_draw : Addr
  d_law_draw : FuncData
  F_law_draw : Fun K "_law_draw" "_law_draw" s_law_draw a_law_draw d_law_draw
  b_law_draw : Binds K d_law_draw ["draws", "limit"] []
  m_law_draw : mg "_law_draw" = some (.ref a_law_draw)
  a_law_pick : Addr
  d_law_pick : FuncData
  F_law_pick : Fun K "_law_pick" "_law_pick" s_law_pick a_law_pick d_law_pick
  b_law_pick : Binds K d_law_pick ["draws", "row"] []
  m_law_pick : mg "_law_pick" = some (.ref a_law_pick)
  a_law_makers : Addr
  d_law_makers : FuncData
  F_law_makers : Fun K "_law_makers" "_law_makers" s_law_makers a_law_makers d_law_makers
  b_law_makers : Binds K d_law_makers ["draws"] []
  m_law_makers : mg "_law_makers" = some (.ref a_law_makers)
  a_law_term : Addr
  d_law_term : FuncData
  F_law_term : Fun K "_law_term" "_law_term" s_law_term a_law_term d_law_term
  b_law_term : Binds K d_law_term ["draws", "makers", "names", "deep"] []
  m_law_term : mg "_law_term" = some (.ref a_law_term)
  a_law_put : Addr
  d_law_put : FuncData
  F_law_put : Fun K "_law_put" "_law_put" s_law_put a_law_put d_law_put
  b_law_put : Binds K d_law_put ["term", "assignment"] []
  m_law_put : mg "_law_put" = some (.ref a_law_put)
  a_law_fit : Addr
  d_law_fit : FuncData
  F_law_fit : Fun K "_law_fit" "_law_fit" s_law_fit a_law_fit d_law_fit
  b_law_fit : Binds K d_law_fit ["pattern", "term", "found"] []
  m_law_fit : mg "_law_fit" = some (.ref a_law_fit)
  a_law_fitted : Addr
  d_law_fitted : FuncData
  F_law_fitted : Fun K "_law_fitted" "_law_fitted" s_law_fitted a_law_fitted d_law_fitted
  b_law_fitted : Binds K d_law_fitted ["patterns", "terms"] []
  m_law_fitted : mg "_law_fitted" = some (.ref a_law_fitted)
  a_law_same : Addr
  d_law_same : FuncData
  F_law_same : Fun K "_law_same" "_law_same" s_law_same a_law_same d_law_same
  b_law_same : Binds K d_law_same ["told", "due"] []
  m_law_same : mg "_law_same" = some (.ref a_law_same)
  a_law_changed : Addr
  d_law_changed : FuncData
  F_law_changed : Fun K "_law_changed" "_law_changed" s_law_changed a_law_changed d_law_changed
  b_law_changed : Binds K d_law_changed ["draws", "makers", "term"] []
  m_law_changed : mg "_law_changed" = some (.ref a_law_changed)
  a_law : Addr
  d_law : FuncData
  F_law : Fun K "law" "law" s_law a_law d_law
  b_law : Binds K d_law ["script"] []
  m_law : mg "law" = some (.ref a_law)
  z_isinstance : mg "isinstance" = none
  z_str : mg "str" = none
  z_tuple : mg "tuple" = none
  z_zip : mg "zip" = none
  z_list : mg "list" = none
  z_len : mg "len" = none
  z_abs : mg "abs" = none
  z_int : mg "int" = none
  z_range : mg "range" = none
  z_dict : mg "dict" = none
  z_sorted : mg "sorted" = none
  z_all : mg "all" = none
  z_bool : mg "bool" = none
end Kx
set_option maxHeartbeats 2000000
/-! Rules of our own over the layer: see the remarks. -/
namespace Kx
open PySem PySem.Spec PyProof.Rows L2
/-! ### rules with the written part named (for the blocks of comprehensions) -/
section
variable {X : Cx} {K : PySem.W.Frag}
theorem inSeqK (h : X.K = K := by rfl) : OpR X (compareOp .In) (rIn K false) := by subst h; exact op_in_seq
theorem notInSeqK (h : X.K = K := by rfl) : OpR X (compareOp .NotIn) (rIn K true) := by subst h; exact op_notIn_seq
theorem ixLK (h : X.K = K := by rfl) : IxR X (rIxL K) := by subst h; exact ix_list
theorem ixSK (h : X.K = K := by rfl) : IxR X (rIx K) := by subst h; exact ix_seq
theorem ixTK (h : X.K = K := by rfl) : IxR X (rIxT K) := by subst h; exact ix_tup
end
/-! ### l.extend(t), t a tuple -/
def rExtT (K : PySem.W.Frag) : V → List V → Hp → VK → Prop := fun x vs H Q => ∃ l b xs zs, x = .ref l ∧ vs = [.ref b] ∧ H l = some (.lst xs) ∧ (∃ o : Obj, H b = some (.frz o (.tup zs)) ∧ o.dict = none ∧ o.slots = #[]) ∧ xs.length + zs.length ≤ sizeLine ∧ Q .non (upd H l (.lst (xs ++ zs)))
section
variable {X : Cx}
theorem mt_extT : MtR X "list.extend" (rExtT X.K) := by
  intro pins s σ H x vs v us Q I rx rv hyp
  obtain ⟨l, b, xs, zs, rfl, rfl, hH, ⟨o, hB, hd, hsl⟩, hz, fin⟩ := hyp
  cases rx
  obtain ⟨u, rfl, ru⟩ := rv.one
  cases ru
  obtain ⟨z, its, n, r, hl, e⟩ := I.lstM hH
  obtain ⟨e2, z2, its2, r2, hT⟩ := (show ObjOk X.prog X.w H s.heap b (.frz o (.tup zs)) from I.hok b _ hB)
  obtain ⟨o2, e3, hc2, n2, hd2⟩ := hT
  rw [e2] at e3
  cases e3
  obtain ⟨oc, od, dt, sl⟩ := o
  simp only at hc2 hd2 hd hsl
  subst hc2 hd2 hd hsl
  have w1 : its.length = xs.length := r.length.symm
  have w2 : its2.length = zs.length := r2.length.symm
  have size2 : its.toArray.size + its2.toArray.size ≤ sizeLine := by
    simp only [List.size_toArray, w1, w2]; exact hz
  have few : ¬ (!its.toArray.isEmpty && Builtin.List.listTooLong (its.toArray.size + its2.toArray.size)) = true := by
    rw [notLongL size2, Bool.and_false]; simp
  refine call_meets F.slot_list_extend ⟨_, e, rfl⟩ F.entry_list_extend (F.args_list_extend_2 _ _)
    (AutoSeq1.list_extend_list_tuple_0 l its.toArray n b its2.toArray n2 few (Nat.le_trans (Nat.le_add_right _ _) size2) (Nat.le_succ_of_le size2)) ⟨e, e2, ?_⟩
  refine ⟨.non, _, I.lset (its' := its ++ its2) hH e (by simp) (r.append r2) ?_, rfl, fin⟩
  simp only [List.length_append]; exact hz
end
/-! ### t[:0:-1]: a tuple backwards without its first item -/
section
variable {prog : Program} {w : World} {A : Around} {E : Value → Shared → Prop} {s : Shared}
theorem back_pick {α : Type} : ∀ l : List α, (List.range l.length).filterMap (fun m => l[l.length - 1 - m]?) = l.reverse := by
  intro l
  have h : ∀ k, k ≤ l.length → (List.range k).filterMap (fun m => l[l.length - 1 - m]?) = (l.drop (l.length - k)).reverse := by
    intro k
    induction k with
    | zero => intro _; simp
    | succ k ih =>
      intro hk
      rw [List.range_succ, List.filterMap_append, ih (by omega)]
      have e : l.drop (l.length - (k + 1)) = l[l.length - (k + 1)]'(by omega) :: l.drop (l.length - k) := by
        rw [List.drop_eq_getElem_cons (by omega)]
        congr 2
        omega
      rw [e, List.reverse_cons]
      congr 1
      have e2 : l[l.length - 1 - k]? = some (l[l.length - (k + 1)]'(by omega)) := by
        rw [← List.getElem?_eq_getElem]
        congr 1
        omega
      simp [e2]
  have := h l.length (Nat.le_refl _)
  simpa using this
theorem back_pick1 (xs : List Value) (h1 : 1 ≤ xs.length) : (List.range (xs.length - 1)).filterMap (fun (m : Nat) => xs[(((xs.length - 1 : Nat) : Int) + (m : Int) * (-1)).toNat]?) = (xs.drop 1).reverse := by
  have h := back_pick (xs.drop 1)
  rw [List.length_drop] at h
  rw [← h]
  have key : ∀ k, k ≤ xs.length - 1 → (List.range k).filterMap (fun (m : Nat) => xs[(((xs.length - 1 : Nat) : Int) + (m : Int) * (-1)).toNat]?) = (List.range k).filterMap (fun m => (xs.drop 1)[xs.length - 1 - 1 - m]?) := by
    intro k
    induction k with
    | zero => intro _; rfl
    | succ k ih =>
      intro hk
      rw [List.range_succ, List.filterMap_append, List.filterMap_append, ih (by omega)]
      congr 1
      have e : (((xs.length - 1 : Nat) : Int) + (k : Int) * (-1)).toNat = 1 + (xs.length - 1 - 1 - k) := by omega
      simp only [List.filterMap_cons, List.filterMap_nil, e, List.getElem?_drop]
  exact key _ (Nat.le_refl _)
theorem back_adjust (n : Nat) (h : 1 ≤ n) : Builtin.Slice.sliceAdjust none (some 0) (-1) (n : Int) = (((n - 1 : Nat) : Int), 0) := by
  unfold Builtin.Slice.sliceAdjust
  simp only [show ((-1 : Int) < 0) from by omega, if_true]
  refine Prod.ext ?_ ?_
  · show (n : Int) - 1 = _; omega
  · show (if (0 : Int) < 0 then max ((0 : Int) + (n : Int)) (-1) else min (0 : Int) ((n : Int) - 1)) = 0
    rw [if_neg (by omega)]; omega
theorem back_places (n : Nat) : Builtin.Slice.slicePlaces ((n : Nat) : Int) 0 (-1) = n := by
  unfold Builtin.Slice.slicePlaces
  simp only [show ¬ ((-1 : Int) > 0) from by omega, if_false, Int.neg_neg, Int.ediv_one]
  split <;> omega
theorem back_applied {sl : Addr} {vl vu vs : Value} {n : Nat} {Q : Int × Int × Nat → Shared → Prop} (h1 : 1 ≤ n) (hs : s.heap.IsSliceOf sl vl vu vs) (pl : IsPart vl none) (pu : IsPart vu (some 0)) (ps : IsPart vs (some (-1)))
    (h : Q (((n - 1 : Nat) : Int), -1, n - 1) s) : wpAny (model prog w) A (Builtin.Slice.sliceApplied (.ref sl) (pure (n : Int))) Q E s := by
  obtain ⟨os, ho, hc, hd⟩ := id hs
  unfold Builtin.Slice.sliceApplied Builtin.Slice.sliceFields
  refine wpAny_bind (wpAny_bind (wpAny_field ho hd (x := vl) rfl (wpAny_bind (wpAny_field ho hd (x := vu) rfl (wpAny_bind (wpAny_field ho hd (x := vs) rfl (wpAny_pure ?_)))))))
  refine wpAny_bind (HT.slicePart_ ps ?_)
  show wpAny _ _ (if ((-1 : Int) == 0) = true then _ else _) _ _ s
  rw [if_neg (by decide)]
  refine wpAny_bind (HT.slicePart_ pl (wpAny_bind (HT.slicePart_ pu (wpAny_bind (wpAny_pure ?_)))))
  show wpAny _ _ (match Builtin.Slice.sliceAdjust none (some 0) (-1) (n : Int) with | (lo, hi) => pure (lo, (-1 : Int), Builtin.Slice.slicePlaces lo hi (-1))) _ _ s
  rw [back_adjust n h1]
  show wpAny _ _ (pure (((n - 1 : Nat) : Int), (-1 : Int), Builtin.Slice.slicePlaces ((n - 1 : Nat) : Int) 0 (-1))) _ _ s
  rw [back_places]
  exact wpAny_pure h
theorem getItem_back {t sl : Addr} {items : Array Value} {vl vu vs : Value} {Q : Value → Shared → Prop} (h1 : 1 ≤ items.size) (ht : IsTup s.heap t items) (hs : s.heap.IsSliceOf sl vl vu vs) (pl : IsPart vl none) (pu : IsPart vu (some 0)) (ps : IsPart vs (some (-1)))
    (h : Q (.ref s.heap.objs.size) { s with heap := s.heap.push { cls := .type "tuple", data := .seq ((items.toList.drop 1).reverse).toArray } })
    (hsz : items.size ≤ sizeLine) : wpAny (model prog w) A (getItem (.ref t) (.ref sl)) Q E s := by
  have fits : sizeOk (.seq ((items.toList.drop 1).reverse).toArray) := by
    show ((items.toList.drop 1).reverse).toArray.size ≤ sizeLine
    simp only [List.size_toArray, List.length_reverse, List.length_drop, Array.length_toList]
    omega
  obtain ⟨os, ho, hc, hd⟩ := id hs
  have ty : s.TypeIs (.ref sl) "slice" := ⟨os, ho, hc⟩
  unfold getItem
  try with_reducible refine wpAny_holding ?_
  first | refine wpAny_bind (wpAny_pure ?_) | skip
  refine wpAny_bind (wpAny_sequenceKey ht.typeIs (by decide) ?_)
  refine wpAny_bind (wpAny_callSpecial?_slot (name := Str.ofString "__getitem__") ht.typeIs PyProof.Rows.slot_tuple_getitem
    (wpAny_call_entry PyProof.Rows.slot_tuple_getitem ht.typeIs F.entry_tuple_getitem ?_ (F.args_tuple_getitem_2 _ _)))
  show wpAny _ _ (Builtin.Tuple.tupleItemsOf (.ref t) >>= _) _ _ s
  refine wpAny_bind (tupleItemsOf_ ht ?_)
  refine wpAny_bind (wpAny_typeOf ty ?_)
  rw [if_pos (by decide)]
  refine wpAny_bind (back_applied (n := items.size) h1 hs pl pu ps ?_)
  have no : ¬ ((((items.size - 1 : Nat) : Int) == 0 && (-1 : Int) == 1 && (items.size - 1) == items.size) = true) := by simp
  show wpAny _ _ (if (((items.size - 1 : Nat) : Int) == 0 && (-1 : Int) == 1 && (items.size - 1) == items.size) = true then _ else _) _ _ s
  have e := back_pick1 items.toList (by simpa using h1)
  simp only [Array.length_toList, Array.getElem?_toList] at e
  rw [if_neg no, e]
  first
    | exact wpAny_bind (m := Builtin.Tuple.tupleExact _) (wpAny_newObj_type (wpAny_pure ⟨_, rfl, wpAny_pure h⟩) fits)
    | exact wpAny_bind (m := Builtin.Tuple.tupleExact _) (wpAny_newObj_type (wpAny_bind (wpAny_pure (wpAny_pure ⟨_, rfl, wpAny_pure h⟩))) fits)
    | exact wpAny_bind (wpAny_bind (m := Builtin.Tuple.tupleExact _) (wpAny_newObj_type (wpAny_pure (wpAny_pure ⟨_, rfl, wpAny_pure h⟩)) fits))
    | exact wpAny_bind (wpAny_bind (m := Builtin.Tuple.tupleExact _) (wpAny_newObj_type (wpAny_pure ⟨_, rfl, wpAny_pure h⟩) fits))
end
/-- what t[:0:-1] asks: t is not empty; the new tuple is told as an object that stands as it is -/
def tBackT (K : PySem.W.Frag) (te : TE) : TE := fun σ H Q => te σ H fun x H1 => ∃ a xs, x = .ref a ∧ SqT K H1 a xs ∧ xs ≠ [] ∧ ∀ p (o : Obj), H1 p = none → o.dict = none → o.slots = #[] → Q (.ref p) (upd H1 p (.frz o (.tup (xs.drop 1).reverse)))
section
variable {X : Cx}
theorem pe_cutback {e : Expr} {te : TE} {j k : Nat} {p0 p1 p2 p3 pos : Pos} (he : PE X e te) : PE X (.Subscript e (.Slice none (some (.Constant (.int 0) j p0)) (some (.UnaryOp .USub (.Constant (.int 1) k p1) p2)) p3) pos) (tBackT X.K te) := by
  refine ⟨fun pins s σ H Q I h => ?_⟩
  refine Subscript_ (thn (he.run pins s σ H _ I h) fun v s1 ⟨x, H1, I1, r1, q1⟩ => ?_)
  obtain ⟨a, xs, ex, hx, hne, fin⟩ := q1
  subst ex
  cases r1
  have hst : PO X (some (.UnaryOp .USub (.Constant (.int 1) k p1) p2)) (tPart (tUn (rU fun i => .int (-i)) (tC (.int 1)))) := po_some (pe_un un_neg pe_int)
  have hup : PO X (some (.Constant (.int 0) j p0)) (tPart (tC (.int 0))) := po_some pe_int
  refine wpAny_Slice (thn (po_none.run pins s1 σ H1 (fun o H2 => o = none ∧ H2 = H1) I1 ⟨rfl, rfl⟩) fun vl s2 ⟨l, H2, I2, pl, el, e2⟩ => ?_)
  subst el e2
  refine thn (hup.run pins s2 σ H2 (fun o H3 => o = some 0 ∧ H3 = H2) I2 ⟨0, rfl, rfl, rfl⟩) fun vu s3 ⟨u, H3, I3, pu, eu, e3⟩ => ?_
  subst eu e3
  refine thn (hst.run pins s3 σ H3 (fun o H4 => o = some (-1) ∧ H4 = H3) I3 ⟨1, rfl, -1, rfl, rfl, rfl⟩) fun vs s4 ⟨o, H4, I4, ps, eo, e4⟩ => ?_
  subst eo e4
  have I5 : Inv X pins σ H4 { s4 with heap := s4.heap.push { cls := .type "slice", data := .fields #[vl, vu, vs] } } := I4.kept (t' := s4.toks) fun b ob q => Heap.get?_push_of_some _ q
  obtain ⟨its, r, ht, hz⟩ := I5.tuple hx
  have hlen : its.length = xs.length := r.length.symm
  have h1 : 1 ≤ xs.length := by cases xs with | nil => exact absurd rfl hne | cons _ _ => simp
  show wpAny (model X.prog X.w) X.A (subscriptTail e (.Slice none (some (.Constant (.int 0) j p0)) (some (.UnaryOp .USub (.Constant (.int 1) k p1) p2)) p3) (.ref a) (.ref s4.heap.objs.size)) (EP X pins σ Q) X.xe { s4 with heap := s4.heap.push { cls := .type "slice", data := .fields #[vl, vu, vs] } }
  refine tail_any (ops := [.ref a, .ref s4.heap.objs.size]) ht.typeIs (PyProof.Rows.slot_tuple_getitem.lookup) ?_ (by with_unfolding_all rfl)
  refine getItem_back (by rw [List.size_toArray, hlen]; exact h1) ht (Heap.IsSliceOf.new _ vl vu vs) pl pu ps ?_ (by rw [List.size_toArray, hlen]; exact hz)
  refine ⟨.ref _, _, I5.laid (t' := s4.toks) (o := .frz { cls := .type "tuple", data := .seq ((its.drop 1).reverse).toArray } (.tup (xs.drop 1).reverse)) (fun b ob q => Heap.get?_push_of_some _ q) (Nat.le_refl _) ?_, rfl, fin _ _ (I5.hok.fresh (Nat.le_refl _)) rfl rfl⟩
  refine ⟨Heap.get?_push_size _ rfl, ?_, _, (r.drop 1).reverse, IsTup.new _ _⟩
  rw [List.length_reverse, List.length_drop]
  exact Nat.le_trans (Nat.sub_le _ _) hz
/-! ### tuple(l) of a list, told as an object that stands as it is -/
theorem call_tupleF : CallR X (.type "tuple") (fun xs H Q => ∃ p ys, xs = [.ref p] ∧ SqL X.K H p ys ∧ ∀ l (o : Obj), H l = none → o.dict = none → o.slots = #[] → Q (.ref l) (upd H l (.frz o (.tup ys)))) := by
  intro pins s σ H xs us Q I r hyp
  obtain ⟨p, ys, rfl, hq, fin⟩ := hyp
  obtain ⟨u, rfl, rx⟩ := vals1 r
  cases rx
  obtain ⟨its, r', pl, hz⟩ := I.list hq
  have w1 : its.length = ys.length := r'.length.symm
  refine call_tuple_list pl.isList (fun h' kp => ?_) (by rw [List.size_toArray, w1]; exact hz)
  have J : Inv X pins σ H { s with heap := h' } := I.kept (t' := s.toks) kp
  have J2 : Inv X pins σ (upd H h'.objs.size (.frz { cls := .type "tuple", data := .seq its.toArray } (.tup ys))) { s with heap := h'.push { cls := .type "tuple", data := .seq its.toArray } } :=
    J.laid (t' := s.toks) (fun b o e => Heap.get?_push_of_some _ e) (Nat.le_refl _) ⟨Heap.get?_push_size _ rfl, hz, its, r', IsTup.new _ _⟩
  exact ⟨.ref h'.objs.size, _, J2, rfl, fin _ _ (J.hok.fresh (Nat.le_refl _)) rfl rfl⟩
/-! ### dict(t) of a tuple of pairs -/
theorem pairs_list {pins : List (Addr × Obj)} {σ : L2.St} {H : Hp} {s : Shared} (I : Inv X pins σ H s) : ∀ {ps : List Addr} {kvs : List (Key × V)}, Paired (fun p kv => SqT X.K H p [kV kv.1, kv.2]) ps kvs →
    ∃ (prs : List (Key × Value)) (psv : List (Value × Value)), KV kvs prs ∧ prs.length = ps.length ∧ psv.length = ps.length ∧ ∀ (j : Nat) (u v : Value), psv[j]? = some (u, v) → ∃ b k, ps[j]? = some b ∧ prs[j]? = some (k, v) ∧ IsTup s.heap b #[u, v] ∧ keyIs k u = true
  | _, _, .nil => ⟨[], [], .nil, rfl, rfl, fun j u v e => by simp at e⟩
  | _, _, .cons (a := p) (b := kv) h t => by
    obtain ⟨prs, psv, r, l1, l2, hp⟩ := pairs_list I t
    obtain ⟨its, rv, ht, _⟩ := I.tuple h
    obtain ⟨u, y, ei, ru, ry⟩ := vals2 rv
    subst ei
    refine ⟨(kv.1, y) :: prs, (u, y) :: psv, .cons ⟨rfl, ry⟩ r, by simp [l1], by simp [l2], fun j u' v' e => ?_⟩
    cases j with
    | zero =>
      cases (Option.some.inj e)
      exact ⟨p, kv.1, rfl, rfl, ht, kV_is (P := X.prog) (w := X.w) ru⟩
    | succ j => exact hp j u' v' (by simpa using e)
theorem call_dictT (hcalm : X.calm = true) : CallR X (.type "dict") (fun xs H Q => ∃ (a : Addr) (o : Obj) (ps : List Addr) (kvs : List (Key × V)), xs = [.ref a] ∧ H a = some (.frz o (.tup (ps.map V.ref))) ∧ o.dict = none ∧ Paired (fun p kv => SqT X.K H p [kV kv.1, kv.2]) ps kvs ∧
    ∀ p, H p = none → Q (.ref p) (upd H p (.dK (mergeK [] kvs)))) := by
  intro pins s σ H xs us Q I r hyp
  obtain ⟨a, o, ps, kvs, ex, hq, hd, hp, fin⟩ := hyp
  subst ex
  obtain ⟨u, eu, rx⟩ := vals1 r
  subst eu
  cases rx
  obtain ⟨e2, hz, its, rv, hT⟩ := (show ObjOk X.prog X.w H s.heap a (.frz o (.tup (ps.map V.ref))) from I.hok a _ hq)
  obtain ⟨o2, e3, hc2, n2, hd2⟩ := hT
  rw [e2] at e3
  cases e3
  have ei := refs_at rv
  subst ei
  rw [List.length_map] at hz
  obtain ⟨prs, psv, rel, l1, l2, hpr⟩ := pairs_list I hp
  have items : PairItems s.heap (ps.map Value.ref).toArray (fun j => ps.getD j 0) psv := by
    refine ⟨by simp [l2], fun j k v e => ?_⟩
    obtain ⟨b, k', e1, _, e4, _⟩ := hpr j k v e
    refine ⟨by simp [e1], ?_⟩
    have eb : ps.getD j 0 = b := by simp [List.getD, e1]
    show PairAt s.heap (ps.getD j 0) k v
    rw [eb]
    exact .inl e4
  refine PySem.call_dict_pairs (knd := mixKind X.prog X.w) (kvs := prs) (PairArg.tuple a (ps.map Value.ref).toArray (fun j => ps.getD j 0) psv) (I.ok.hd hcalm) ⟨⟨o, n2, e2, hc2, hd, hd2⟩, items⟩ ⟨by rw [l1, l2], fun i key v e => ?_⟩ (by rw [l2]; exact hz) fun h' tk hd' k => ?_
  · obtain ⟨b, k', _, e5, _, e6⟩ := hpr i key v e
    exact ⟨k', e5, e6⟩
  · have hm : (s.heap.objs.size == sysModules) = false := beq_eq_false_iff_ne.mpr (Nat.ne_of_gt I.big)
    have few : (mergeK [] kvs).length ≤ sizeLine := by
      have z := length_mergeK kvs []
      rw [List.length_nil, Nat.zero_add, rel.length, l1] at z
      exact Nat.le_trans z hz
    exact ⟨.ref s.heap.objs.size, _, I.laid (t' := tk) (fun b o q => k b o (by simp) q) (Nat.le_refl _) (show ObjOk X.prog X.w _ _ _ (.dK (mergeK [] kvs)) from ⟨few, hm, merged [] prs, KV.merge rel .nil, hd'⟩), rfl, fin _ (I.hok.fresh (Nat.le_refl _))⟩
end
end Kx
namespace Kx
open PySem PySem.Spec PyProof.Rows L2
/-- a block cut behind its first statement: what holds there is named -/
theorem pss_cutK {X : Cx} {st : Stmt} {rest : List Stmt} {t u : TS} (h1 : PS X st t) (h2 : PSs X rest u) :
    PSs X (st :: rest) (fun D σ H => ∃ Mid : L2.St → Hp → Prop, t { D with nx := Mid } σ H ∧ ∀ σ' H', Mid σ' H' → u D σ' H') := Evl.pss_cut h1 h2
end Kx
namespace Kx
open PySem PySem.Spec PyProof.Rows L2
section
variable {X : Cx}
/-- a test, an expression, with a word behind it: what follows is shown once -/
theorem pt_cut {e : Expr} {t : TT} (h : PT X e t) : PT X e (fun σ H Q => ∃ M : Bool → Hp → Prop, t σ H M ∧ ∀ b H1, M b H1 → Q b H1) :=
  ⟨fun pins s σ H Q I ⟨M, hm, k⟩ => thn (h.run pins s σ H M I hm) fun b s1 ⟨H1, I1, q⟩ => ⟨H1, I1, k b H1 q⟩⟩
theorem pe_cut {e : Expr} {t : TE} (h : PE X e t) : PE X e (fun σ H Q => ∃ M : VK, t σ H M ∧ ∀ v H1, M v H1 → Q v H1) :=
  ⟨fun pins s σ H Q I ⟨M, hm, k⟩ => thn (h.run pins s σ H M I hm) fun b s1 ⟨v, H1, I1, r, q⟩ => ⟨v, H1, I1, r, k v H1 q⟩⟩
end
end Kx
namespace Kx
open PySem PySem.Spec PyProof.Rows L2
/-- a comprehension without a test: its element is asked -/
theorem yes_if {σ : L2.St} {H : Hp} {A B : Hp → Prop} (h : A H) : tYes σ H (fun b H3 => if b = true then A H3 else B H3) := by
  have e : (if true = true then A H else B H) := iteT h
  exact e
end Kx
namespace Kx
open PySem PySem.Spec PyProof.Rows L2
/-- flat, or an object: two of one V are equal -/
def oneV (v : V) : Prop := flatB v = true ∨ ∃ a, v = .ref a
theorem hits_one {A : Around} {s : Shared} {ls : List (Key × V)} {vb : List (Key × Value)} (rb : KV ls vb) : ∀ {ks : List (Key × V)} {va : List (Key × Value)}, KV ks va → (∀ p ∈ ks, valV ls p.1 = some p.2 ∧ oneV p.2) → PySem.W.KeqHits A s vb va true
  | _, _, .nil, _ => .nil
  | _, _, .cons (a := p) (b := q) ⟨e, ry⟩ t, h => by
    obtain ⟨h1, h2⟩ := h p (List.mem_cons_self ..)
    have k := hits_one (A := A) (s := s) rb t fun p' hm => h p' (List.mem_cons_of_mem _ hm)
    obtain ⟨q1, q2⟩ := q
    simp only at e ry
    subst e
    have z := rb.val p.1
    rw [h1] at z
    cases hv : valueAt vb p.1 with
    | none => rw [hv] at z; exact (show False from z).elim
    | some u =>
      rw [hv] at z
      have z' : RelV p.2 u := z
      refine .hit (e := true) hv ?_ k
      rcases h2 with f | ⟨a, ea⟩
      · exact eqAt_same ry z' f
      · rw [ea] at ry z'
        cases (show q2 = Value.ref a from ry)
        cases (show u = Value.ref a from z')
        exact SeqAt.EqAt.same _
def rNeDict : R2 := fun x y H Q => ∃ a b ks ls, x = .ref a ∧ y = .ref b ∧ H a = some (.dK ks) ∧ H b = some (.dK ls) ∧ ks.length = ls.length ∧ (∀ p ∈ ks, valV ls p.1 = some p.2 ∧ oneV p.2) ∧ Q (.bl false) H
section
variable {X : Cx}
theorem op_neDict (hu : X.A.units < cLine) : OpR X (compareOp .NotEq) rNeDict := by
  intro pins s σ H x y v u Q I rx ry hyp
  obtain ⟨a, b, ks, ls, rfl, rfl, ea, eb, hlen, hp, fin⟩ := hyp
  cases (show v = Value.ref a from rx)
  cases (show u = Value.ref b from ry)
  obtain ⟨_, y1, va, ra, da⟩ := (show ObjOk X.prog X.w H s.heap a (.dK ks) from I.hok a _ ea)
  obtain ⟨_, y2, vb, rb, db⟩ := (show ObjOk X.prog X.w H s.heap b (.dK ls) from I.hok b _ eb)
  have few : va.length = vb.length := by rw [← ra.length, ← rb.length]; exact hlen
  exact PySem.W.keq_ne (knd := mixKind X.prog X.w) (r := true) y1 y2 da db hu (fun _ => hits_one rb ra hp) (fin_bl I fin (by simp [few]))
end
end Kx
/-! The mathematics: terms as trees, putting and fitting. -/
namespace Kx
open PySem PySem.Spec PyProof.Rows L2
inductive PV where
  | str (z : Str)
  | oth
  | tup (xs : List PV)
mutual
/-- how deep -/
def dep : PV → Nat
  | .str _ => 1
  | .oth => 1
  | .tup ts => 1 + depL ts
def depL : List PV → Nat
  | [] => 0
  | t :: r => max (dep t) (depL r)
end
theorem dep_pos : ∀ t : PV, 1 ≤ dep t
  | .str _ => by simp [dep]
  | .oth => by simp [dep]
  | .tup ts => by simp [dep]
theorem depL_mem : ∀ {l : List PV} {t : PV}, t ∈ l → dep t ≤ depL l
  | a :: r, t, h => by
    rcases List.mem_cons.mp h with rfl | h
    · simp only [depL]; omega
    · have := depL_mem h
      simp only [depL]; omega
theorem depL_le {l : List PV} {c : Nat} (h : ∀ t ∈ l, dep t ≤ c) : depL l ≤ c := by
  induction l with
  | nil => simp [depL]
  | cons t r ih =>
    have a := h t (List.mem_cons_self ..)
    have b := ih fun x hx => h x (List.mem_cons_of_mem _ hx)
    simp only [depL]; omega
/-- the number of parts of the maker with a word -/
def look (mk : List (Str × Int)) (w : Str) : Option Int := (mk.find? fun kv => kv.1 == w).map (·.2)
mutual
/-- a term over the makers (names may be any texts) -/
def Wf (mk : List (Str × Int)) : PV → Prop
  | .str _ => True
  | .oth => False
  | .tup [] => False
  | .tup (.oth :: _) => False
  | .tup (.tup _ :: _) => False
  | .tup (.str w :: r) => look mk w = some (r.length : Int) ∧ r.length ≤ 2 ∧ WfL mk r
def WfL (mk : List (Str × Int)) : List PV → Prop
  | [] => True
  | t :: r => Wf mk t ∧ WfL mk r
end
theorem WfL_mem {mk : List (Str × Int)} : ∀ {l : List PV}, (∀ t ∈ l, Wf mk t) → WfL mk l
  | [], _ => trivial
  | t :: r, h => ⟨h t (List.mem_cons_self ..), WfL_mem fun x hx => h x (List.mem_cons_of_mem _ hx)⟩
theorem mem_WfL {mk : List (Str × Int)} : ∀ {l : List PV}, WfL mk l → ∀ t ∈ l, Wf mk t
  | a :: r, h, t, ht => by
    rcases List.mem_cons.mp ht with rfl | ht
    · exact h.1
    · exact mem_WfL h.2 t ht
theorem wf_inv {mk : List (Str × Int)} : ∀ {ts : List PV}, Wf mk (.tup ts) → ∃ w r, ts = .str w :: r ∧ look mk w = some (r.length : Int) ∧ r.length ≤ 2 ∧ WfL mk r
  | .str w :: r, h => ⟨w, r, rfl, h.1, h.2.1, h.2.2⟩
/-! ### as data -/
mutual
def toD : PV → PyData
  | .str z => .str z
  | .oth => .none
  | .tup ts => .tuple (toDL ts)
def toDL : List PV → List PyData
  | [] => []
  | t :: r => toD t :: toDL r
end
mutual
/-- no other things -/
def Tr : PV → Prop
  | .str _ => True
  | .oth => False
  | .tup ts => TrL ts
def TrL : List PV → Prop
  | [] => True
  | t :: r => Tr t ∧ TrL r
end
mutual
theorem wf_tr {mk : List (Str × Int)} : ∀ {t : PV}, Wf mk t → Tr t
  | .str _, _ => trivial
  | .tup (.str w :: r), h => ⟨trivial, wfL_tr h.2.2⟩
theorem wfL_tr {mk : List (Str × Int)} : ∀ {l : List PV}, WfL mk l → TrL l
  | [], _ => trivial
  | t :: r, h => ⟨wf_tr h.1, wfL_tr h.2⟩
end
mutual
theorem eqv_eq : ∀ {a b : PV}, Tr a → Tr b → PyData.eqv (toD a) (toD b) = true → a = b
  | .str x, .str y, _, _, h => by simp only [toD, PyData.eqv, beq_iff_eq] at h; rw [h]
  | .str x, .tup _, _, _, h => by simp [toD, PyData.eqv] at h
  | .tup _, .str y, _, _, h => by simp [toD, PyData.eqv] at h
  | .tup xs, .tup ys, ha, hb, h => by
    simp only [toD, PyData.eqv] at h
    rw [eqvL_eq ha hb h]
theorem eqvL_eq : ∀ {a b : List PV}, TrL a → TrL b → PyData.eqvAll (toDL a) (toDL b) = true → a = b
  | [], [], _, _, _ => rfl
  | [], _ :: _, _, _, h => by simp [toDL, PyData.eqvAll] at h
  | _ :: _, [], _, _, h => by simp [toDL, PyData.eqvAll] at h
  | x :: r, y :: s, ha, hb, h => by
    simp only [toDL, PyData.eqvAll, Bool.and_eq_true] at h
    rw [eqv_eq ha.1 hb.1 h.1, eqvL_eq ha.2 hb.2 h.2]
end
mutual
theorem toD_depth : ∀ t : PV, (toD t).depth ≤ dep t
  | .str _ => by simp [toD, PyData.depth]
  | .oth => by simp [toD, PyData.depth]
  | .tup ts => by
    have := toDL_depth ts
    simp only [toD, PyData.depth, dep]; omega
theorem toDL_depth : ∀ l : List PV, PyData.depthAll (toDL l) ≤ depL l
  | [] => by simp [toDL, PyData.depthAll]
  | t :: r => by
    have a := toD_depth t
    have b := toDL_depth r
    simp only [toDL, PyData.depthAll, depL]; omega
end
/-! ### assignments -/
abbrev AL := List (Str × PV)
def get (al : AL) (z : Str) : Option PV := (al.find? fun kv => kv.1 == z).map (·.2)
mutual
/-- putting -/
def psub (al : AL) : PV → PV
  | .str z => (get al z).getD (.str z)
  | .oth => .oth
  | .tup [] => .tup []
  | .tup (w :: r) => .tup (w :: psubL al r)
def psubL (al : AL) : List PV → List PV
  | [] => []
  | t :: r => psub al t :: psubL al r
end
theorem psubL_map (al : AL) : ∀ l : List PV, psubL al l = l.map (psub al)
  | [] => rfl
  | t :: r => by simp only [psubL, List.map_cons, psubL_map al r]
def eqD (a b : PV) : Bool := PyData.eqv (toD a) (toD b)
mutual
/-- fitting: whether it goes on, and what is found -/
def fit (f : AL) : PV → PV → Bool × AL
  | .str z, t => match get f z with
    | some u => (eqD u t, f)
    | none => (true, f ++ [(z, t)])
  | .tup (.str w :: ps), .tup (.str w' :: ts) => if w = w' then fitL f ps ts else (false, f)
  | .tup _, _ => (false, f)
  | .oth, _ => (false, f)
def fitL (f : AL) : List PV → List PV → Bool × AL
  | p :: ps, t :: ts => if (fit f p t).1 = true then fitL (fit f p t).2 ps ts else (false, (fit f p t).2)
  | _, _ => (true, f)
end
theorem get_append {f : AL} {z : Str} {t : PV} (h : get f z = none) (y : Str) : get (f ++ [(z, t)]) y = if y = z then some t else get f y := by
  unfold get at *
  rw [List.find?_append]
  by_cases e : y = z
  · subst e
    rw [if_pos rfl]
    have h' : f.find? (fun kv => kv.1 == y) = none := by
      cases q : f.find? (fun kv => kv.1 == y) with
      | none => rfl
      | some _ => rw [q] at h; cases h
    rw [h']
    simp
  · rw [if_neg e]
    have ne : ¬ z = y := fun q => e q.symm
    cases q : f.find? (fun kv => kv.1 == y) with
    | none => simp [ne]
    | some _ => simp
/-- g knows all that f knows -/
def Le (f g : AL) : Prop := ∀ z u, get f z = some u → get g z = some u
theorem Le.refl (f : AL) : Le f f := fun _ _ h => h
theorem Le.trans {f g h : AL} (a : Le f g) (b : Le g h) : Le f h := fun z u e => b z u (a z u e)
mutual
theorem fit_le : ∀ (p t : PV) (f : AL), Le f (fit f p t).2
  | .str z, t, f => by
    unfold fit
    cases h : get f z with
    | some u => exact .refl f
    | none =>
      intro y u e
      show get (f ++ [(z, t)]) y = some u
      rw [get_append h, if_neg (by intro q; rw [q, h] at e; cases e)]
      exact e
  | .tup (.str w :: ps), .tup (.str w' :: ts), f => by
    unfold fit
    split
    · exact fitL_le ps ts f
    · exact .refl f
  | .tup (.str w :: ps), .str _, f => by simp only [fit]; exact .refl f
  | .tup (.str w :: ps), .oth, f => by simp only [fit]; exact .refl f
  | .tup (.str w :: ps), .tup [], f => by simp only [fit]; exact .refl f
  | .tup (.str w :: ps), .tup (.oth :: _), f => by simp only [fit]; exact .refl f
  | .tup (.str w :: ps), .tup (.tup _ :: _), f => by simp only [fit]; exact .refl f
  | .tup [], t, f => by cases t <;> (simp only [fit]; exact .refl f)
  | .tup (.oth :: _), t, f => by cases t <;> (simp only [fit]; exact .refl f)
  | .tup (.tup _ :: _), t, f => by cases t <;> (simp only [fit]; exact .refl f)
  | .oth, t, f => by cases t <;> (simp only [fit]; exact .refl f)
theorem fitL_le : ∀ (ps ts : List PV) (f : AL), Le f (fitL f ps ts).2
  | p :: ps, t :: ts, f => by
    have a := fit_le p t f
    unfold fitL
    split
    · exact a.trans (fitL_le ps ts _)
    · exact a
  | [], t, f => by cases t <;> exact .refl f
  | _ :: _, [], f => .refl f
end
def AlTr (f : AL) : Prop := ∀ kv ∈ f, Tr kv.2
theorem AlTr.get {f : AL} (h : AlTr f) {z : Str} {u : PV} (e : get f z = some u) : Tr u := by
  unfold Kx.get at e
  cases q : f.find? (fun kv => kv.1 == z) with
  | none => rw [q] at e; cases e
  | some kv =>
    rw [q] at e
    cases (Option.some.inj e)
    exact h kv (List.mem_of_find?_eq_some q)
mutual
theorem fit_tr {mk : List (Str × Int)} : ∀ (p t : PV) (f : AL), Wf mk t → AlTr f → AlTr (fit f p t).2
  | .str z, t, f, ht, hf => by
    unfold fit
    cases h : get f z with
    | some u => exact hf
    | none =>
      intro kv hk
      rcases List.mem_append.mp hk with hk | hk
      · exact hf kv hk
      · rw [List.mem_singleton.mp hk]; exact wf_tr ht
  | .tup (.str w :: ps), .tup (.str w' :: ts), f, ht, hf => by
    unfold fit
    split
    · exact fitL_tr ps ts f ht.2.2 hf
    · exact hf
  | .tup (.str w :: ps), .str _, f, _, hf => by simp only [fit]; exact hf
  | .tup (.str w :: ps), .oth, f, _, hf => by simp only [fit]; exact hf
  | .tup (.str w :: ps), .tup [], f, _, hf => by simp only [fit]; exact hf
  | .tup (.str w :: ps), .tup (.oth :: _), f, _, hf => by simp only [fit]; exact hf
  | .tup (.str w :: ps), .tup (.tup _ :: _), f, _, hf => by simp only [fit]; exact hf
  | .tup [], t, f, _, hf => by cases t <;> (simp only [fit]; exact hf)
  | .tup (.oth :: _), t, f, _, hf => by cases t <;> (simp only [fit]; exact hf)
  | .tup (.tup _ :: _), t, f, _, hf => by cases t <;> (simp only [fit]; exact hf)
  | .oth, t, f, _, hf => by cases t <;> (simp only [fit]; exact hf)
theorem fitL_tr {mk : List (Str × Int)} : ∀ (ps ts : List PV) (f : AL), WfL mk ts → AlTr f → AlTr (fitL f ps ts).2
  | p :: ps, t :: ts, f, ht, hf => by
    have a := fit_tr p t f ht.1 hf
    unfold fitL
    split
    · exact fitL_tr ps ts _ ht.2 a
    · exact a
  | [], t, f, _, hf => by cases t <;> exact hf
  | _ :: _, [], f, _, hf => hf
end
mutual
theorem fit_put {mk : List (Str × Int)} (g : AL) : ∀ (p t : PV) (f : AL), Wf mk p → Wf mk t → AlTr f → (fit f p t).1 = true → Le (fit f p t).2 g → psub g p = t
  | .str z, t, f, _, ht, hf, h1, hg => by
    unfold fit at h1 hg
    cases e : get f z with
    | some u =>
      rw [e] at h1 hg
      have gz := hg z u e
      simp only [psub, gz, Option.getD_some]
      exact eqv_eq (hf.get e) (wf_tr ht) h1
    | none =>
      rw [e] at hg
      have gz := hg z t (by
        show Kx.get (f ++ [(z, t)]) z = some t
        rw [get_append e, if_pos rfl])
      simp only [psub, gz, Option.getD_some]
  | .tup (.str w :: ps), .tup (.str w' :: ts), f, hp, ht, hf, h1, hg => by
    unfold fit at h1 hg
    by_cases e : w = w'
    · rw [if_pos e] at h1 hg
      subst e
      have hl : ps.length = ts.length := by
        have a := hp.1
        rw [ht.1] at a
        have b := Option.some.inj a
        omega
      have r := fitL_put g ps ts f hl hp.2.2 ht.2.2 hf h1 hg
      simp only [psub, r]
    · rw [if_neg e] at h1; cases h1
  | .tup (.str w :: ps), .str _, f, _, _, _, h1, _ => by simp [fit] at h1
  | .tup (.str w :: ps), .oth, f, _, _, _, h1, _ => by simp [fit] at h1
  | .tup (.str w :: ps), .tup [], f, _, _, _, h1, _ => by simp [fit] at h1
  | .tup (.str w :: ps), .tup (.oth :: _), f, _, _, _, h1, _ => by simp [fit] at h1
  | .tup (.str w :: ps), .tup (.tup _ :: _), f, _, _, _, h1, _ => by simp [fit] at h1
theorem fitL_put {mk : List (Str × Int)} (g : AL) : ∀ (ps ts : List PV) (f : AL), ps.length = ts.length → WfL mk ps → WfL mk ts → AlTr f → (fitL f ps ts).1 = true → Le (fitL f ps ts).2 g → psubL g ps = ts
  | p :: ps, t :: ts, f, hl, hp, ht, hf, h1, hg => by
    unfold fitL at h1 hg
    by_cases c : (fit f p t).1 = true
    · rw [if_pos c] at h1 hg
      have a := fit_tr p t f ht.1 hf
      have b := fitL_put g ps ts _ (by simpa using hl) hp.2 ht.2 a h1 hg
      have d := fit_put g p t f hp.1 ht.1 hf c ((fitL_le ps ts _).trans hg)
      simp only [psubL, b, d]
    · rw [if_neg c] at h1; cases h1
  | [], [], f, _, _, _, _, _, _ => rfl
  | [], _ :: _, f, hl, _, _, _, _, _ => by simp at hl
  | _ :: _, [], f, hl, _, _, _, _, _ => by simp at hl
end
mutual
theorem psub_wf {mk : List (Str × Int)} {al : AL} (h : ∀ kv ∈ al, Wf mk kv.2) : ∀ {t : PV}, Wf mk t → Wf mk (psub al t)
  | .str z, _ => by
    simp only [psub]
    cases e : get al z with
    | none => exact trivial
    | some u =>
      unfold Kx.get at e
      cases q : al.find? (fun kv => kv.1 == z) with
      | none => rw [q] at e; cases e
      | some kv =>
        rw [q] at e
        cases (Option.some.inj e)
        exact h kv (List.mem_of_find?_eq_some q)
  | .tup (.str w :: r), ht => by
    refine ⟨?_, ?_, psubL_wf h ht.2.2⟩
    · rw [psubL_map, List.length_map]; exact ht.1
    · rw [psubL_map, List.length_map]; exact ht.2.1
theorem psubL_wf {mk : List (Str × Int)} {al : AL} (h : ∀ kv ∈ al, Wf mk kv.2) : ∀ {l : List PV}, WfL mk l → WfL mk (psubL al l)
  | [], _ => trivial
  | t :: r, ht => ⟨psub_wf h ht.1, psubL_wf h ht.2⟩
end
mutual
theorem psub_dep {al : AL} {c : Nat} (h : ∀ kv ∈ al, dep kv.2 ≤ c) : ∀ t : PV, dep (psub al t) ≤ dep t + c
  | .str z => by
    simp only [psub]
    cases e : get al z with
    | none => simp [dep]
    | some u =>
      unfold Kx.get at e
      cases q : al.find? (fun kv => kv.1 == z) with
      | none => rw [q] at e; cases e
      | some kv =>
        rw [q] at e
        cases (Option.some.inj e)
        have := h kv (List.mem_of_find?_eq_some q)
        simp only [Option.getD_some]; omega
  | .oth => by simp [psub, dep]
  | .tup [] => by simp [psub, dep, depL]
  | .tup (w :: r) => by
    have := psubL_dep h r
    simp only [psub, dep, depL]; omega
theorem psubL_dep {al : AL} {c : Nat} (h : ∀ kv ∈ al, dep kv.2 ≤ c) : ∀ l : List PV, depL (psubL al l) ≤ depL l + c
  | [] => by simp [psubL, depL]
  | t :: r => by
    have a := psub_dep h t
    have b := psubL_dep h r
    simp only [psubL, depL]; omega
end
end Kx
/-! The heap: what stands for a tree; the promises of the defs. -/
namespace Kx
open PySem PySem.Spec PyProof.Rows L2
/-- all its signs are signs -/
abbrev sok (z : Str) : Bool := PyData.strOk z
mutual
/-- the value v stands for the tree -/
inductive Is (H : Hp) : V → PV → Prop
  | str (z : Str) (ok : sok z = true) : Is H (.str z) (.str z)
  | tup {a : Addr} {vs : List V} {ts : List PV} (e : H a = some (.tup vs)) (h : IsL H vs ts) : Is H (.ref a) (.tup ts)
inductive IsL (H : Hp) : List V → List PV → Prop
  | nil : IsL H [] []
  | cons {v : V} {vs : List V} {t : PV} {ts : List PV} (h : Is H v t) (r : IsL H vs ts) : IsL H (v :: vs) (t :: ts)
end
/-- all but the list at d stands; that one is a list still -/
structure Ex (d : Addr) (H H' : Hp) : Prop where
  but : ∀ b o, b ≠ d → H b = some o → H' b = some o
  lst : (∃ xs, H d = some (.lst xs)) → ∃ xs, H' d = some (.lst xs)
theorem Ex.refl (d : Addr) (H : Hp) : Ex d H H := ⟨fun _ _ _ h => h, fun h => h⟩
theorem Ex.trans {d : Addr} {H H1 H2 : Hp} (a : Ex d H H1) (b : Ex d H1 H2) : Ex d H H2 := ⟨fun c o n h => b.but c o n (a.but c o n h), fun h => b.lst (a.lst h)⟩
theorem Ex.of {d : Addr} {H H' : Hp} (s : Same H H') : Ex d H H' := ⟨fun b o _ h => s b o h, fun ⟨xs, h⟩ => ⟨xs, s _ _ h⟩⟩
theorem Ex.new {d p : Addr} {H : Hp} (h : H p = none) (o : HO) : Ex d H (upd H p o) := .of fun b u e => by rw [upd_ne (ne_of_none e h)]; exact e
theorem Ex.set {d : Addr} {H : Hp} (xs : List V) : Ex d H (upd H d (.lst xs)) := ⟨fun b o n h => by rw [upd_ne n]; exact h, fun _ => ⟨xs, upd_same⟩⟩
theorem Ex.keep {d b : Addr} {H H' : Hp} {o : HO} (x : Ex d H H') (e : H b = some o) (hd : ∃ xs, H d = some (.lst xs)) (ho : ∀ xs, o ≠ .lst xs) : H' b = some o := by
  refine x.but b o (fun q => ?_) e
  subst q
  obtain ⟨xs, h⟩ := hd
  rw [e] at h
  cases h
  exact ho xs rfl
mutual
theorem Is.ex {d : Addr} {H H' : Hp} (x : Ex d H H') (hd : ∃ xs, H d = some (.lst xs)) : ∀ {v : V} {t : PV}, Is H v t → Is H' v t
  | _, _, .str z k => .str z k
  | _, _, .tup e h => .tup (x.keep e hd fun xs q => by cases q) (IsL.ex x hd h)
theorem IsL.ex {d : Addr} {H H' : Hp} (x : Ex d H H') (hd : ∃ xs, H d = some (.lst xs)) : ∀ {v : List V} {t : List PV}, IsL H v t → IsL H' v t
  | _, _, .nil => .nil
  | _, _, .cons h r => .cons (Is.ex x hd h) (IsL.ex x hd r)
end
mutual
theorem Is.same {H H' : Hp} (x : Same H H') : ∀ {v : V} {t : PV}, Is H v t → Is H' v t
  | _, _, .str z k => .str z k
  | _, _, .tup e h => .tup (x _ _ e) (IsL.same x h)
theorem IsL.same {H H' : Hp} (x : Same H H') : ∀ {v : List V} {t : List PV}, IsL H v t → IsL H' v t
  | _, _, .nil => .nil
  | _, _, .cons h r => .cons (Is.same x h) (IsL.same x r)
end
/-- all but the dict at f stands -/
def ExD (f : Addr) (H H' : Hp) : Prop := ∀ b o, b ≠ f → H b = some o → H' b = some o
theorem ExD.refl (f : Addr) (H : Hp) : ExD f H H := fun _ _ _ h => h
theorem ExD.trans {f : Addr} {H H1 H2 : Hp} (a : ExD f H H1) (b : ExD f H1 H2) : ExD f H H2 := fun c o n h => b c o n (a c o n h)
theorem ExD.of {f : Addr} {H H' : Hp} (s : Same H H') : ExD f H H' := fun b o _ h => s b o h
theorem ExD.set {f : Addr} {H : Hp} (o : HO) : ExD f H (upd H f o) := fun b u n h => by rw [upd_ne n]; exact h
def isD (H : Hp) (f : Addr) : Prop := ∃ kvs : List (Key × V), H f = some (.dK kvs)
theorem ExD.tup {f : Addr} {H H' : Hp} (x : ExD f H H') (hf : isD H f) {a : Addr} {vs : List V} (e : H a = some (.tup vs)) : H' a = some (.tup vs) := x a _ (fun q => by
  subst q
  obtain ⟨kvs, h⟩ := hf
  rw [e] at h
  cases h) e
mutual
theorem Is.exD {f : Addr} {H H' : Hp} (x : ExD f H H') (hf : isD H f) : ∀ {v : V} {t : PV}, Is H v t → Is H' v t
  | _, _, .str z k => .str z k
  | _, _, .tup e h => .tup (x.tup hf e) (IsL.exD x hf h)
theorem IsL.exD {f : Addr} {H H' : Hp} (x : ExD f H H') (hf : isD H f) : ∀ {v : List V} {t : List PV}, IsL H v t → IsL H' v t
  | _, _, .nil => .nil
  | _, _, .cons h r => .cons (Is.exD x hf h) (IsL.exD x hf r)
end
theorem same_upd {H : Hp} {p : Addr} (h : H p = none) (o : HO) : Same H (upd H p o) := fun b u e => by rw [upd_ne (ne_of_none e h)]; exact e
theorem IsL.len {H : Hp} : ∀ {v : List V} {t : List PV}, IsL H v t → v.length = t.length
  | _, _, .nil => rfl
  | _, _, .cons _ r => by simp [IsL.len r]
theorem IsL.get {H : Hp} : ∀ {v : List V} {t : List PV}, IsL H v t → ∀ {i : Nat} {x : V}, v[i]? = some x → ∃ y, t[i]? = some y ∧ Is H x y
  | _, _, .nil, i, x, h => by simp at h
  | _, _, .cons h r, 0, x, e => by cases (Option.some.inj e); exact ⟨_, rfl, h⟩
  | _, _, .cons h r, i + 1, x, e => IsL.get r (by simpa using e)
theorem IsL.append {H : Hp} : ∀ {v : List V} {t : List PV} {v' : List V} {t' : List PV}, IsL H v t → IsL H v' t' → IsL H (v ++ v') (t ++ t')
  | _, _, _, _, .nil, h => h
  | _, _, _, _, .cons a r, h => .cons a (r.append h)
theorem IsL.take {H : Hp} : ∀ (n : Nat) {v : List V} {t : List PV}, IsL H v t → IsL H (v.take n) (t.take n)
  | 0, _, _, _ => .nil
  | n + 1, _, _, .nil => .nil
  | n + 1, _, _, .cons a r => .cons a (r.take n)
theorem IsL.drop {H : Hp} : ∀ (n : Nat) {v : List V} {t : List PV}, IsL H v t → IsL H (v.drop n) (t.drop n)
  | 0, _, _, h => h
  | n + 1, _, _, .nil => .nil
  | n + 1, _, _, .cons a r => r.drop n
theorem IsL.reverse {H : Hp} : ∀ {v : List V} {t : List PV}, IsL H v t → IsL H v.reverse t.reverse
  | _, _, .nil => .nil
  | _, _, .cons a r => by simp only [List.reverse_cons]; exact r.reverse.append (.cons a .nil)
theorem IsL.snoc_inv {H : Hp} {v : List V} {t : List PV} {x : V} (h : IsL H v t) (e : v[v.length - 1]? = some x) (hn : v ≠ []) : ∃ ts y, t = ts ++ [y] ∧ Is H x y ∧ IsL H v.dropLast ts := by
  have hl := h.len
  have hv : 0 < v.length := by cases v with | nil => exact absurd rfl hn | cons _ _ => simp
  obtain ⟨y, e2, hy⟩ := h.get e
  refine ⟨t.take (t.length - 1), y, ?_, hy, ?_⟩
  · have : t.length - 1 < t.length := by omega
    have e3 : t[t.length - 1]'this = y := by
      rw [hl, List.getElem?_eq_getElem this] at e2
      exact Option.some.inj e2
    have h2 := List.take_append_drop (t.length - 1) t
    have h3 : t.drop (t.length - 1) = [y] := by
      rw [List.drop_eq_getElem_cons this, e3, List.drop_eq_nil_of_le (by omega)]
    rw [h3] at h2
    exact h2.symm
  · rw [List.dropLast_eq_take, hl]
    exact h.take _
mutual
theorem Is.lay {H : Hp} : ∀ {v : V} {t : PV}, Is H v t → (toD t).canLay0 = true
  | _, _, .str z k => by simp only [toD, PyData.canLay0]; exact k
  | _, _, .tup e h => by simp only [toD, PyData.canLay0]; exact IsL.lay h
theorem IsL.lay {H : Hp} : ∀ {v : List V} {t : List PV}, IsL H v t → PyData.canLayAll0 (toDL t) = true
  | _, _, .nil => by simp [toDL, PyData.canLayAll0]
  | _, _, .cons h r => by simp only [toDL, PyData.canLayAll0, Is.lay h, IsL.lay r, Bool.and_self]
end
mutual
theorem Is.dp {K : PySem.W.Frag} {H : Hp} : ∀ {v : V} {t : PV}, Is H v t → Dp K H v (toD t)
  | _, _, .str z k => by simp only [toD]; exact .str z
  | _, _, .tup e h => by simp only [toD]; exact .tup (.inl (.inl e)) (IsL.dp h)
theorem IsL.dp {K : PySem.W.Frag} {H : Hp} : ∀ {v : List V} {t : List PV}, IsL H v t → DpAll K H v (toDL t)
  | _, _, .nil => by simp only [toDL]; exact .nil
  | _, _, .cons h r => by simp only [toDL]; exact .cons (Is.dp h) (IsL.dp r)
end
theorem Is.shaped {H : Hp} {v : V} {t : PV} (h : Is H v t) (d : dep t ≤ 64) : SeqAt.shaped (toD t) = true := by
  have a := toD_depth t
  unfold SeqAt.shaped
  rw [h.lay, Bool.true_and]
  exact decide_eq_true (by omega)
theorem Is.self {H : Hp} {v : V} {t : PV} (h : Is H v t) : eqD t t = true := SeqAt.eqv_refl _ h.lay
theorem Is.str_inv {H : Hp} {v : V} {z : Str} (h : Is H v (.str z)) : v = .str z := by cases h; rfl
theorem Is.tup_inv {H : Hp} {v : V} {ts : List PV} (h : Is H v (.tup ts)) : ∃ a vs, v = .ref a ∧ H a = some (.tup vs) ∧ IsL H vs ts := by
  cases h with
  | tup e h => exact ⟨_, _, rfl, e, h⟩
/-! ### isinstance -/
def tyOf : PV → Value → Prop := fun t u => match t with
  | .str _ => u = .type "str"
  | .tup _ => u = .type "tuple"
  | .oth => False
theorem Is.ty {K : PySem.W.Frag} {H : Hp} {v : V} {t : PV} (h : Is H v t) : ∃ u, TyX K H v u ∧ tyOf t u := by
  cases h with
  | str z _ => exact ⟨_, .base (.str z), rfl⟩
  | tup e h => exact ⟨_, .base (.tup e), rfl⟩
def isStr : PV → Bool
  | .str _ => true
  | _ => false
def isTup : PV → Bool
  | .tup _ => true
  | _ => false
theorem kit_str {K : PySem.W.Frag} {t : PV} {u : Value} (h : tyOf t u) : PySem.W.kitOne K u (.type "str") = some (isStr t) := by
  cases t with
  | str z => cases h; exact kit_ty (show kitB "str" "str" = some true by decide +kernel)
  | tup ts => cases h; exact kit_ty (show kitB "tuple" "str" = some false by decide +kernel)
  | oth => exact h.elim
theorem kit_tup {K : PySem.W.Frag} {t : PV} {u : Value} (h : tyOf t u) : PySem.W.kitOne K u (.type "tuple") = some (isTup t) := by
  cases t with
  | str z => cases h; exact kit_ty (show kitB "str" "tuple" = some false by decide +kernel)
  | tup ts => cases h; exact kit_ty (show kitB "tuple" "tuple" = some true by decide +kernel)
  | oth => exact h.elim
/-- what isinstance asks of such a value -/
theorem isi_str {K : PySem.W.Frag} {H : Hp} {v : V} {t : PV} {Q : VK} (h : Is H v t) (q : Q (.bl (isStr t)) H) : rIsi K [v, .ty "str"] H Q := by
  obtain ⟨u, a, b⟩ := h.ty (K := K)
  exact ⟨_, _, u, _, _, rfl, .ty _, a, kit_str b, q⟩
theorem isi_tup {K : PySem.W.Frag} {H : Hp} {v : V} {t : PV} {Q : VK} (h : Is H v t) (q : Q (.bl (isTup t)) H) : rIsi K [v, .ty "tuple"] H Q := by
  obtain ⟨u, a, b⟩ := h.ty (K := K)
  exact ⟨_, _, u, _, _, rfl, .ty _, a, kit_tup b, q⟩
/-! ### makers -/
def mkV (kv : Str × Int) : List V := [.str kv.1, .int kv.2]
structure MkOk (mk : List (Str × Int)) : Prop where
  nd : (mk.map (·.1)).Nodup
  zero : ∃ kv ∈ mk, kv.2 = 0
  low : ∀ kv ∈ mk, 0 ≤ kv.2 ∧ kv.2 ≤ 2
  len : mk.length ≤ 5
  good : ∀ kv ∈ mk, sok kv.1 = true
structure Mk (H : Hp) (a : Addr) (mk : List (Str × Int)) : Prop where
  at_ : ∃ (o : Obj) (ps : List Addr), H a = some (.frz o (.tup (ps.map V.ref))) ∧ o.dict = none ∧ Paired (fun p kv => H p = some (.tup (mkV kv))) ps mk
  ok : MkOk mk
theorem Paired.imp {α β : Type} {F G : α → β → Prop} : ∀ {l : List α} {m : List β}, Paired F l m → (∀ a b, F a b → G a b) → Paired G l m
  | _, _, .nil, _ => .nil
  | _, _, .cons h t, f => .cons (f _ _ h) (Paired.imp t f)
theorem Mk.same {H H' : Hp} {a : Addr} {mk : List (Str × Int)} (x : Same H H') (h : Mk H a mk) : Mk H' a mk := by
  obtain ⟨⟨o, ps, e, d, p⟩, k⟩ := h
  exact ⟨⟨o, ps, x _ _ e, d, Paired.imp p fun _ _ q => x _ _ q⟩, k⟩
theorem Mk.ex {d : Addr} {H H' : Hp} {a : Addr} {mk : List (Str × Int)} (x : Ex d H H') (hd : ∃ xs, H d = some (.lst xs)) (h : Mk H a mk) : Mk H' a mk := by
  obtain ⟨⟨o, ps, e, dn, p⟩, k⟩ := h
  exact ⟨⟨o, ps, x.keep e hd (fun _ q => by cases q), dn, Paired.imp p fun _ _ q => x.keep q hd (fun _ q => by cases q)⟩, k⟩
/-! ### draws -/
def Dr (H : Hp) (d sa : Addr) : Prop := ∃ (ns : List Int) (i c m : Int), H d = some (.lst [.ref sa, .int i, .int c, .int m]) ∧ H sa = some (.lst (ns.map V.int)) ∧ sa ≠ d ∧ 0 ≤ i ∧ 0 ≤ c ∧ 0 ≤ m ∧ m < 2147483648 ∧ ns.length ≤ 63
theorem Dr.lst {H : Hp} {d sa : Addr} (h : Dr H d sa) : ∃ xs, H d = some (.lst xs) := by
  obtain ⟨ns, i, c, m, e, _⟩ := h
  exact ⟨_, e⟩
theorem Dr.same {H H' : Hp} {d sa : Addr} (x : Same H H') (h : Dr H d sa) : Dr H' d sa := by
  obtain ⟨ns, i, c, m, e, e2, r⟩ := h
  exact ⟨ns, i, c, m, x _ _ e, x _ _ e2, r⟩
theorem Dr.own {H : Hp} {d sa l : Addr} {o : HO} (h : Dr H d sa) (n1 : l ≠ d) (n2 : l ≠ sa) : Dr (upd H l o) d sa := by
  obtain ⟨ns, i, c, m, e, e2, r⟩ := h
  exact ⟨ns, i, c, m, by rw [upd_ne n1.symm]; exact e, by rw [upd_ne n2.symm]; exact e2, r⟩
theorem Dr.free {H H1 : Hp} {d sa l : Addr} (h : Dr H d sa) (n : H l = none) : l ≠ d ∧ l ≠ sa := by
  obtain ⟨ns, i, c, m, e, e2, r⟩ := h
  exact ⟨(ne_of_none e n).symm, (ne_of_none e2 n).symm⟩
theorem Ex.own {d l : Addr} {H H1 : Hp} (x : Ex d H H1) (hl : H l = none) (o : HO) : Ex d H (upd H1 l o) :=
  ⟨fun b u n h => by rw [upd_ne (ne_of_none h hl)]; exact x.but b u n h, fun h => by
    obtain ⟨xs, e⟩ := h
    rw [upd_ne (ne_of_none e hl)]
    exact x.lst ⟨xs, e⟩⟩
theorem Same.own {l : Addr} {H H1 : Hp} (x : Same H H1) (hl : H l = none) (o : HO) : Same H (upd H1 l o) := fun b u h => by rw [upd_ne (ne_of_none h hl)]; exact x b u h
def spDraws (K : PySem.W.Frag) : Sp := fun vs H Q _ => ∃ (a : Addr) (ns : List Int), vs = [.ref a] ∧ SqL K H a (ns.map V.int) ∧ ns.length ≤ 63 ∧ ∀ d sa H', Same H H' → Dr H' d sa → Q (.ref d) H'
def spDraw : Sp := fun vs H Q _ => ∃ (d sa : Addr) (n : Int), vs = [.ref d, .int n] ∧ Dr H d sa ∧ 1 ≤ n ∧ n ≤ 1000 ∧ ∀ (r : Int) H', 0 ≤ r → r < n → Ex d H H' → Dr H' d sa → Q (.int r) H'
def spPick (K : PySem.W.Frag) : Sp := fun vs H Q _ => ∃ (d sa p : Addr) (xs : List V), vs = [.ref d, .ref p] ∧ Dr H d sa ∧ (H p = some (.lst xs) ∨ SqT K H p xs) ∧ p ≠ d ∧ 1 ≤ xs.length ∧ xs.length ≤ 1000 ∧ ∀ (x : V) H', x ∈ xs → Ex d H H' → Dr H' d sa → Q x H'
def spMakers : Sp := fun vs H Q _ => ∃ (d sa : Addr), vs = [.ref d] ∧ Dr H d sa ∧ ∀ a H' mk, Mk H' a mk → Ex d H H' → Dr H' d sa → Q (.ref a) H'
def spTerm (n : Nat) : Sp := fun vs H Q _ => ∃ (d sa m nl : Addr) (mk : List (Str × Int)) (zs : List Str) (k : Nat), vs = [.ref d, .ref m, .ref nl, .int k] ∧ Dr H d sa ∧ Mk H m mk ∧ H nl = some (.lst (zs.map V.str)) ∧ nl ≠ d ∧ 1 ≤ zs.length ∧ zs.length ≤ 10 ∧ (∀ z ∈ zs, sok z = true) ∧ k < n ∧
  ∀ v t H', Is H' v t → Wf mk t → dep t ≤ k + 2 → Ex d H H' → Dr H' d sa → Q v H'
def spChanged (n : Nat) : Sp := fun vs H Q _ => ∃ (d sa m : Addr) (mk : List (Str × Int)) (v : V) (t : PV), vs = [.ref d, .ref m, v] ∧ Dr H d sa ∧ Mk H m mk ∧ Is H v t ∧ Wf mk t ∧ dep t ≤ n ∧ ∀ v' t' H', Is H' v' t' → Wf mk t' → dep t' ≤ dep t + 3 → Ex d H H' → Dr H' d sa → Q v' H'
/-- the dict at p stands for the assignment -/
def AsD (H : Hp) (p : Addr) (al : AL) : Prop := ∃ kvs : List (Key × V), H p = some (.dK kvs) ∧ Paired (fun kv zt => kv.1 = Sum.inr zt.1 ∧ Is H kv.2 zt.2) kvs al
def spPut (n : Nat) : Sp := fun vs H Q _ => ∃ (p : Addr) (mk : List (Str × Int)) (v : V) (t : PV) (al : AL), vs = [v, .ref p] ∧ AsD H p al ∧ Is H v t ∧ Wf mk t ∧ dep t ≤ n ∧ ∀ v' H', Same H H' → Is H' v' (psub al t) → Q v' H'
mutual
/-- how many names stand in it -/
def lc : PV → Nat
  | .str _ => 1
  | .oth => 0
  | .tup [] => 0
  | .tup (_ :: r) => lcL r
def lcL : List PV → Nat
  | [] => 0
  | t :: r => lc t + lcL r
end
def spFit (n : Nat) : Sp := fun vs H Q _ => ∃ (f : Addr) (mk : List (Str × Int)) (v u : V) (p t : PV) (al : AL), vs = [v, u, .ref f] ∧ AsD H f al ∧ Is H v p ∧ Is H u t ∧ Wf mk p ∧ Wf mk t ∧ dep p ≤ n ∧ dep t ≤ 60 ∧ (∀ kv ∈ al, dep kv.2 ≤ 60) ∧ al.length + lc p ≤ 100000 ∧
  ∀ H', ExD f H H' → AsD H' f (fit al p t).2 → Q (.bl (fit al p t).1) H'
def spFitted (K : PySem.W.Frag) (n : Nat) : Sp := fun vs H Q _ => ∃ (a b : Addr) (mk : List (Str × Int)) (xs ys : List V) (ps ts : List PV), vs = [.ref a, .ref b] ∧ ((H a = some (.lst xs) ∧ H b = some (.lst ys)) ∨ (SqT K H a xs ∧ SqT K H b ys)) ∧ IsL H xs ps ∧ IsL H ys ts ∧ WfL mk ps ∧ WfL mk ts ∧ ps.length = ts.length ∧ (∀ t ∈ ps, dep t ≤ n) ∧ (∀ t ∈ ts, dep t ≤ 60) ∧ lcL ps ≤ 100000 ∧ ps.length ≤ 1000 ∧
  ((fitL [] ps ts).1 = true → ∀ f H', Same H H' → H f = none → AsD H' f (fitL [] ps ts).2 → Q (.ref f) H') ∧ ((fitL [] ps ts).1 = false → ∀ H', Same H H' → Q .non H')
/-- two that are the same -/
def sameV (H : Hp) (n : Nat) (v u : V) : Prop :=
  (∃ (mk : List (Str × Int)) (t : PV), Is H v t ∧ Is H u t ∧ Wf mk t ∧ dep t ≤ n) ∨
  (∃ (a b : Addr) (mk : List (Str × Int)) (xs ys : List V) (ts : List PV), v = .ref a ∧ u = .ref b ∧ H a = some (.lst xs) ∧ H b = some (.lst ys) ∧ IsL H xs ts ∧ IsL H ys ts ∧ WfL mk ts ∧ (∀ t ∈ ts, dep t + 1 ≤ n) ∧ ts.length ≤ 10) ∨
  (v = .non ∧ u = .non) ∨
  (∃ (a b : Addr) (mk : List (Str × Int)) (al : AL), v = .ref a ∧ u = .ref b ∧ a ≠ b ∧ AsD H a al ∧ AsD H b al ∧ (al.map (·.1)).Nodup ∧ (∀ kv ∈ al, Wf mk kv.2 ∧ dep kv.2 + 1 ≤ n ∧ sok kv.1 = true) ∧ al.length ≤ 50)
def spSame (n : Nat) : Sp := fun vs H Q _ => ∃ v u, vs = [v, u] ∧ 1 ≤ n ∧ sameV H n v u ∧ ∀ H', Same H H' → Q (.bl true) H'
def spLaw (K : PySem.W.Frag) : Sp := fun vs H Q _ => ∃ (a : Addr) (ns : List Int), vs = [.ref a] ∧ SqL K H a (ns.map V.int) ∧ ns.length ≤ 63 ∧ ∀ H', Q (.bl true) H'
/-! ### what an assignment's dict says -/
theorem AsD.isD {H : Hp} {p : Addr} {al : AL} (h : AsD H p al) : isD H p := let ⟨kvs, e, _⟩ := h; ⟨kvs, e⟩
theorem pair_val {H : Hp} (z : Str) : ∀ {kvs : List (Key × V)} {al : AL}, Paired (fun kv zt => kv.1 = Sum.inr zt.1 ∧ Is H kv.2 zt.2) kvs al → (valV kvs (Sum.inr z) = none ∧ get al z = none) ∨ ∃ v t, valV kvs (Sum.inr z) = some v ∧ get al z = some t ∧ Is H v t
  | _, _, .nil => .inl ⟨rfl, rfl⟩
  | _, _, .cons (a := kv) (b := zt) ⟨e, h⟩ t => by
    by_cases q : zt.1 = z
    · exact .inr ⟨kv.2, zt.2, valV_pos (by rw [e, q]), by simp [Kx.get, q], h⟩
    · rw [valV_neg (by rw [e]; intro x; exact q (Sum.inr.inj x))]
      rcases pair_val z t with ⟨a, b⟩ | ⟨v, u, a, b, c⟩
      · exact .inl ⟨a, by simpa [Kx.get, q] using b⟩
      · exact .inr ⟨v, u, a, by simpa [Kx.get, q] using b, c⟩
theorem AsD.imp {H H' : Hp} {p : Addr} {al : AL} (h : AsD H p al) (e : ∀ o, H p = some o → H' p = some o) (k : ∀ v t, Is H v t → Is H' v t) : AsD H' p al := by
  obtain ⟨kvs, a, b⟩ := h
  exact ⟨kvs, e _ a, Paired.imp b fun _ _ ⟨x, y⟩ => ⟨x, k _ _ y⟩⟩
theorem AsD.same {H H' : Hp} {p : Addr} {al : AL} (h : AsD H p al) (s : Same H H') : AsD H' p al := h.imp (fun o e => s _ _ e) fun _ _ x => x.same s
theorem AsD.ex {d : Addr} {H H' : Hp} {p : Addr} {al : AL} (h : AsD H p al) (x : Ex d H H') (hd : ∃ xs, H d = some (.lst xs)) : AsD H' p al := by
  obtain ⟨kvs, a, b⟩ := h
  exact ⟨kvs, x.keep a hd (fun _ q => by cases q), Paired.imp b fun _ _ ⟨q, y⟩ => ⟨q, y.ex x hd⟩⟩
theorem AsD.len {H : Hp} {p : Addr} {al : AL} (h : AsD H p al) : ∃ kvs : List (Key × V), H p = some (.dK kvs) ∧ kvs.length = al.length := by
  obtain ⟨kvs, a, b⟩ := h
  exact ⟨kvs, a, Paired.length b⟩
theorem pair_snoc {α β : Type} {F : α → β → Prop} : ∀ {l : List α} {m : List β} {x : α} {y : β}, Paired F l m → F x y → Paired F (l ++ [x]) (m ++ [y])
  | _, _, _, _, .nil, h => .cons h .nil
  | _, _, _, _, .cons a t, h => .cons a (pair_snoc t h)
theorem AsD.put {H : Hp} {p : Addr} {al : AL} {kvs : List (Key × V)} {z : Str} {v : V} {t : PV} (e : H p = some (.dK kvs)) (b : Paired (fun kv zt => kv.1 = Sum.inr zt.1 ∧ Is H kv.2 zt.2) kvs al) (n : valV kvs (Sum.inr z) = none) (h : Is H v t) :
    AsD (upd H p (.dK (putK kvs (Sum.inr z) v))) p (al ++ [(z, t)]) := by
  have x : ExD p H (upd H p (.dK (putK kvs (Sum.inr z) v))) := .set _
  refine ⟨_, upd_same, ?_⟩
  rw [putK_new _ n] at x ⊢
  exact pair_snoc (Paired.imp b fun _ _ ⟨q, y⟩ => ⟨q, y.exD x ⟨_, e⟩⟩) ⟨rfl, h.exD x ⟨_, e⟩⟩
end Kx
namespace Kx
open PySem PySem.Spec PyProof.Rows L2
section
variable {P : Program} {w : World} {K : PySem.W.Frag} {mg : Str → Option Value} {base : Heap}
theorem fmb (a : Int) {b : Int} (hb : 0 < b) : 0 ≤ a.fmod b ∧ a.fmod b < b := ⟨Int.fmod_nonneg_of_pos a hb, Int.fmod_lt_of_pos a hb⟩
theorem at_int {ns : List Int} {i : Int} (h0 : 0 ≤ i) (h : i < ns.length) : ∃ x : Int, atI (ns.map V.int) i = some (.int x) := by
  have hk : i.toNat < ns.length := by omega
  have q : atI (ns.map V.int) ((i.toNat : Nat) : Int) = some (.int ns[i.toNat]) := atI_nat (by rw [List.getElem?_map, List.getElem?_eq_getElem hk] <;> rfl)
  rw [show ((i.toNat : Nat) : Int) = i by omega] at q
  exact ⟨_, q⟩
theorem ok_law_draws (T : Txt K mg)  : FnOk P w K mg base CX0 1 T.a_law_draws T.d_law_draws ["script"] (spDraws K) := by
  refine T.F_law_draws.ok sc_law_draws (fun vs H Q E h => ?_) (fun cdv A outer s H vs Q E hr h => ?_)
  · obtain ⟨a, ns, rfl, _⟩ := h; rfl
  · obtain ⟨a, ns, rfl, hS, hl, q⟩ := h
    refine ⟨_, (pss_one (ps_ret (pe_lst (pa_cons (pe_callTy call_list_of (by rfl) T.z_list (by decide +kernel) (pa_cons (pv 0) pa_nil)) (pa_cons pe_int (pa_cons pe_int (pa_cons pe_int pa_nil))))))), ?_⟩
    refine ⟨_, rfl, a, _, rfl, .inl hS, fun l hl1 => ?_⟩
    refine ⟨(by show 4 ≤ sizeLine; decide), fun d hd => ?_⟩
    have n1 : l ≠ d := ne_of_none upd_same hd
    refine q d l _ (Same.trans (same_upd hl1 _) (same_upd hd _)) ⟨ns, 0, 0, 1, upd_same, ?_, n1, by omega, by omega, by omega, by omega, hl⟩
    rw [upd_ne n1, upd_same]
theorem ok_law_draw (T : Txt K mg)  : FnOk P w K mg base CX0 1 T.a_law_draw T.d_law_draw ["draws", "limit"] spDraw := by
  refine T.F_law_draw.ok sc_law_draw (fun vs H Q E h => ?_) (fun cdv A outer s H vs Q E hr h => ?_)
  · obtain ⟨d, sa, n, rfl, _⟩ := h; rfl
  · obtain ⟨d, sa, n, rfl, hD, h1, h2, q⟩ := h
    refine ⟨_, (pss_cutK (ps_if (PW.pt (pw_and (pt_cmpR op_eq (pe_ix ix_list (pv 0) pe_int (fun _ _ => rfl)) pe_int (nomark _)) (pw_and1 (pt_cmpR op_lt (pe_ix ix_list (pv 0) pe_int (fun _ _ => rfl)) (pe_callB call_len_seq (by rfl) T.z_len (by decide +kernel) (pa_cons (pe_ix ix_list (pv 0) pe_int (fun _ _ => rfl)) pa_nil)) (nomark _))))) (pss_cons (ps_set (i := 2) sc_law_draw.nd rfl (Or.inl rfl) (pe_callB call_abs (by rfl) T.z_abs (by decide +kernel) (pa_cons (pe_ix ix_list (pe_ix ix_list (pv 0) pe_int (fun _ _ => rfl)) (pe_ix ix_list (pv 0) pe_int (fun _ _ => rfl)) (fun _ _ => rfl)) pa_nil)))
    (pss_cons (ps_asg (pe_op op_add (pe_ix ix_list (pv 0) pe_int (fun _ _ => rfl)) pe_int) (pg_sub (pv 0) pe_int set_list))
    (pss_cons (ps_if (pt_cmpR op_ge (pv 2) (pe_op op_pow pe_int pe_int) (nomark _)) (pss_one (ps_asg (pv 2) (pg_sub (pv 0) pe_int set_list))) pss_nil)
    (pss_one (ps_asg (pe_op op_modN (pe_callTy call_int1 (by rfl) T.z_int (by decide +kernel) (pa_cons (pe_op op_add (pe_op op_add (pe_op op_mul (pe_ix ix_list (pv 0) pe_int (fun _ _ => rfl)) pe_int) (pv 2)) pe_int) pa_nil)) pe_int) (pg_sub (pv 0) pe_int set_list)))))) pss_nil)
    (pss_cons (ps_if (pt_cmpR op_gt (pe_ix ix_list (pv 0) pe_int (fun _ _ => rfl)) pe_int (nomark _)) (pss_cons (ps_set (i := 3) sc_law_draw.nd rfl (Or.inl rfl) (pe_op op_modN (pe_callTy call_int1 (by rfl) T.z_int (by decide +kernel) (pa_cons (pe_ix ix_list (pv 0) pe_int (fun _ _ => rfl)) pa_nil)) (pv 1)))
    (pss_cons (ps_asg (pe_op op_fdivN (pe_ix ix_list (pv 0) pe_int (fun _ _ => rfl)) (pv 1)) (pg_sub (pv 0) pe_int set_list))
    (pss_one (ps_ret (pv 3))))) pss_nil)
    (pss_cons (ps_asg (pe_op op_modN (pe_callTy call_int1 (by rfl) T.z_int (by decide +kernel) (pa_cons (pe_op op_add (pe_op op_mul (pe_ix ix_list (pv 0) pe_int (fun _ _ => rfl)) pe_int) pe_int) pa_nil)) pe_int) (pg_sub (pv 0) pe_int set_list))
    (pss_one (ps_ret (pe_op op_modN (pe_callTy call_int1 (by rfl) T.z_int (by decide +kernel) (pa_cons (pe_op op_fdivN (pe_ix ix_list (pv 0) pe_int (fun _ _ => rfl)) pe_int) pa_nil)) (pv 1))))))), ?_⟩
    refine ⟨fun σ H1 => ∃ y, σ = [some (.ref d), some (.int n), y, none] ∧ Dr H1 d sa ∧ Ex d H H1, ?_, fun σ' H' hm => ?_⟩
    · have hD0 := hD
      obtain ⟨ns, i, c, m, e, e2, hn, i0, c0, m0, m1, hl⟩ := hD
      refine ⟨_, rfl, d, _, _, _, rfl, rfl, SqL.of e, rfl, rfl, _, rfl, ?_⟩
      refine ite2 (fun cz => ?_) (fun cz => iteF ⟨none, rfl, hD0, .refl _ _⟩)
      refine ⟨_, rfl, d, _, _, _, rfl, rfl, SqL.of e, rfl, _, rfl, d, _, _, _, rfl, rfl, SqL.of e, rfl, sa, _, rfl, .inl (SqL.of e2), _, _, rfl, rfl, _, rfl, ?_⟩
      refine ite2 (fun ci => ?_) (fun ci => ⟨none, rfl, hD0, .refl _ _⟩)
      have ci' : i < (((ns.map V.int).length : Nat) : Int) := of_decide_eq_true ci
      rw [List.length_map] at ci'
      obtain ⟨x, hx⟩ := at_int i0 ci'
      refine ⟨_, rfl, d, _, _, _, rfl, rfl, SqL.of e, rfl, _, rfl, d, _, _, _, rfl, rfl, SqL.of e, rfl, sa, _, _, _, rfl, rfl, SqL.of e2, hx, _, rfl, ?_⟩
      refine ⟨_, rfl, d, _, _, _, rfl, rfl, SqL.of e, rfl, _, _, rfl, rfl, _, rfl, d, _, _, 1, rfl, rfl, e, rfl, ?_⟩
      refine ⟨_, rfl, _, _, rfl, rfl, ⟨by decide, by decide, by decide⟩, _, _, rfl, rfl, _, rfl, ?_⟩
      have ax : 0 ≤ (if x < 0 then -x else x) := by split <;> omega
      generalize (if x < 0 then -x else x) = cell at ax
      refine ite2 (fun cc => ?_) (fun cc => ?_)
      · refine ⟨_, rfl, _, rfl, d, _, _, 2, rfl, rfl, upd_same, rfl, ?_⟩
        refine ⟨_, rfl, d, _, _, _, rfl, rfl, SqL.of upd_same, rfl, _, _, rfl, rfl, .inl ⟨by omega, by omega⟩, _, rfl, _, _, rfl, rfl, _, _, rfl, rfl, .inl ⟨_, rfl, _, _, rfl, rfl, (by show (2147483647 : Int) ≠ 0; decide), _, rfl, d, _, _, 3, rfl, rfl, upd_same, rfl, ?_⟩⟩
        obtain ⟨b0, b1⟩ := fmb (m * 48271 + cell + 13) (b := 2147483647) (by decide)
        refine ⟨_, rfl, ⟨ns, i + 1, cell, _, upd_same, ?_, hn, by omega, ax, b0, by omega, hl⟩, ((Ex.set _).trans (.set _)).trans (.set _)⟩
        rw [upd_ne hn, upd_ne hn, upd_ne hn, e2]
      · refine ⟨_, rfl, d, _, _, _, rfl, rfl, SqL.of upd_same, rfl, _, _, rfl, rfl, .inl ⟨by omega, by omega⟩, _, rfl, _, _, rfl, rfl, _, _, rfl, rfl, .inl ⟨_, rfl, _, _, rfl, rfl, (by show (2147483647 : Int) ≠ 0; decide), _, rfl, d, _, _, 3, rfl, rfl, upd_same, rfl, ?_⟩⟩
        obtain ⟨b0, b1⟩ := fmb (m * 48271 + cell + 13) (b := 2147483647) (by decide)
        refine ⟨_, rfl, ⟨ns, i + 1, c, _, upd_same, ?_, hn, by omega, c0, b0, by omega, hl⟩, (Ex.set _).trans (.set _)⟩
        rw [upd_ne hn, upd_ne hn, e2]
    · obtain ⟨y, rfl, hD, hx⟩ := hm
      obtain ⟨ns, i, c, m, e, e2, hn, i0, c0, m0, m1, hl⟩ := hD
      have nz : n ≠ 0 := by omega
      refine ⟨_, rfl, d, _, _, _, rfl, rfl, SqL.of e, rfl, _, _, rfl, rfl, _, rfl, ?_⟩
      refine ite2 (fun cc => ?_) (fun cc => ?_)
      · refine ⟨_, rfl, d, _, _, _, rfl, rfl, SqL.of e, rfl, .inl ⟨_, rfl, _, rfl, _, _, rfl, rfl, nz, ?_⟩⟩
        refine ⟨_, rfl, d, _, _, _, rfl, rfl, SqL.of e, rfl, _, rfl, _, _, rfl, rfl, ⟨nz, by omega⟩, _, rfl, d, _, _, 2, rfl, rfl, e, rfl, _, rfl, ?_⟩
        obtain ⟨b0, b1⟩ := fmb c (b := n) (by omega)
        refine q _ _ b0 b1 (hx.trans (.set _)) ⟨ns, i, _, m, upd_same, ?_, hn, i0, Int.fdiv_nonneg c0 (by omega), m0, m1, hl⟩
        rw [upd_ne hn, e2]
      · refine ⟨_, rfl, d, _, _, _, rfl, rfl, SqL.of e, rfl, _, _, rfl, rfl, .inl ⟨by omega, by omega⟩, _, _, rfl, rfl, .inl ⟨_, rfl, _, _, rfl, rfl, (by show (2147483629 : Int) ≠ 0; decide), _, rfl, d, _, _, 3, rfl, rfl, e, rfl, ?_⟩⟩
        obtain ⟨b0, b1⟩ := fmb (m * 69621 + 7) (b := 2147483629) (by decide)
        refine ⟨_, rfl, d, _, _, _, rfl, rfl, SqL.of upd_same, rfl, _, _, rfl, rfl, ⟨by decide, by decide⟩, .inl ⟨_, rfl, _, rfl, _, _, rfl, rfl, nz, ?_⟩⟩
        obtain ⟨c0', c1⟩ := fmb (((m * 69621 + 7).fmod 2147483629).fdiv 11) (b := n) (by omega)
        refine q _ _ c0' c1 (hx.trans (.set _)) ⟨ns, i, c, _, upd_same, ?_, hn, i0, c0, b0, by omega, hl⟩
        rw [upd_ne hn, e2]
theorem ok_law_pick (T : Txt K mg) (G_law_draw : FnOk P w K mg base CX0 1 T.a_law_draw T.d_law_draw ["draws", "limit"] spDraw) : FnOk P w K mg base CX0 2 T.a_law_pick T.d_law_pick ["draws", "row"] (spPick K) := by
  refine T.F_law_pick.ok sc_law_pick (fun vs H Q E h => ?_) (fun cdv A outer s H vs Q E hr h => ?_)
  · obtain ⟨d, sa, p, xs, rfl, _⟩ := h; rfl
  · obtain ⟨d, sa, p, xs, rfl, hD, hP, hn, h1, h2, q⟩ := h
    have hr_law_draw := hr
    refine ⟨_, (pss_one (ps_ret (pe_ix ix_seq (pv 1) (pe_call G_law_draw hr_law_draw rfl T.m_law_draw T.F_law_draw.kp T.b_law_draw .nil pass0 (pa_cons (pv 0) (pa_cons (pe_callB call_len_seq (by rfl) T.z_len (by decide +kernel) (pa_cons (pv 1) pa_nil)) pa_nil))) (fun _ _ => rfl)))), ?_⟩
    have hD0 := hD.lst
    have seqs : ∀ H', Ex d H H' → H' p = some (.lst xs) ∨ SqT K H' p xs := fun H' x => by
      rcases hP with e | (e | ⟨o, e⟩) | e
      · exact .inl (x.but _ _ hn e)
      · exact .inr (.inl (.inl (x.but _ _ hn e)))
      · exact .inr (.inl (.inr ⟨o, x.but _ _ hn e⟩))
      · exact .inr (.inr e)
    refine ⟨_, rfl, _, rfl, _, rfl, p, xs, rfl, hP.imp SqL.of id, d, sa, _, rfl, hD, by omega, by omega, fun r H' r0 r1 hx hD' => ?_⟩
    have hk : r.toNat < xs.length := by omega
    have hat : atI xs r = some (xs[r.toNat]) := by
      have z : atI xs ((r.toNat : Nat) : Int) = some (xs[r.toNat]) := atI_nat (List.getElem?_eq_getElem hk)
      rwa [show ((r.toNat : Nat) : Int) = r by omega] at z
    have fin := q (xs[r.toNat]) H' (List.getElem_mem hk) hx hD'
    rcases seqs H' hx with e | e
    · exact .inl ⟨p, _, _, _, rfl, rfl, SqL.of e, hat, fin⟩
    · exact .inr (.inl ⟨p, _, _, _, rfl, rfl, e, hat, fin⟩)
end
end Kx
namespace Kx
open PySem PySem.Spec PyProof.Rows L2
section
variable {P : Program} {w : World} {K : PySem.W.Frag} {mg : Str → Option Value} {base : Heap}
theorem cut_from (xs : List V) {k : Nat} (h : k ≤ xs.length) : cutV xs (some (k : Int)) none = xs.drop k := by
  unfold cutV
  rw [HT.sIx_nat, HT.sIx_none, Nat.min_eq_left h, List.take_of_length_le (by rw [List.length_drop]; exact Nat.le_refl _)]
theorem cut_to (xs : List V) {k : Nat} (h : k ≤ xs.length) : cutV xs none (some (k : Int)) = xs.take k := by
  unfold cutV
  rw [HT.sIx_nat, HT.sIx_none, Nat.min_eq_left h]
  rfl
theorem pair_drop {α β : Type} {F : α → β → Prop} : ∀ (n : Nat) {l : List α} {m : List β}, Paired F l m → Paired F (l.drop n) (m.drop n)
  | 0, _, _, h => h
  | n + 1, _, _, .nil => .nil
  | n + 1, _, _, .cons _ t => pair_drop n t
theorem pair_take {α β : Type} {F : α → β → Prop} : ∀ (n : Nat) {l : List α} {m : List β}, Paired F l m → Paired F (l.take n) (m.take n)
  | 0, _, _, _ => .nil
  | n + 1, _, _, .nil => .nil
  | n + 1, _, _, .cons h t => .cons h (pair_take n t)
theorem pair_append {α β : Type} {F : α → β → Prop} : ∀ {l l' : List α} {m m' : List β}, Paired F l m → Paired F l' m' → Paired F (l ++ l') (m ++ m')
  | _, _, _, _, .nil, h => h
  | _, _, _, _, .cons h t, h' => .cons h (pair_append t h')
theorem pair_len {α β : Type} {F : α → β → Prop} : ∀ {l : List α} {m : List β}, Paired F l m → l.length = m.length
  | _, _, .nil => rfl
  | _, _, .cons _ t => by simp [pair_len t]
theorem mk_turn {mk : List (Str × Int)} (k : Nat) (h : MkOk mk) : MkOk (mk.drop k ++ mk.take k) := by
  have p : (mk.drop k ++ mk.take k).Perm mk := by
    have := List.perm_append_comm (l₁ := mk.drop k) (l₂ := mk.take k)
    rwa [List.take_append_drop] at this
  exact ⟨((p.map (·.1)).nodup_iff).mpr h.nd, h.zero.elim fun kv z => ⟨kv, p.mem_iff.mpr z.1, z.2⟩, fun kv z => h.low kv (p.mem_iff.mp z), by rw [p.length_eq]; exact h.len, fun kv z => h.good kv (p.mem_iff.mp z)⟩
abbrev wds : List Str := ["next", "pair", "top", "x"]
theorem all_nd : ((Str.ofString "zero") :: wds).Nodup := by decide +kernel
theorem all_ok : ∀ z ∈ (Str.ofString "zero") :: wds, sok z = true := by decide +kernel
/-- what the loop has made so far -/
structure Rows (H : Hp) (l : Addr) (mk : List (Str × Int)) (i : Nat) : Prop where
  at_ : ∃ ps : List Addr, H l = some (.lst (ps.map V.ref)) ∧ Paired (fun p kv => H p = some (.tup (mkV kv))) ps mk
  sub : (mk.map (·.1)).Sublist ((Str.ofString "zero") :: wds.take i)
  zero : ∃ kv ∈ mk, kv.2 = 0
  low : ∀ kv ∈ mk, 0 ≤ kv.2 ∧ kv.2 ≤ 2
theorem Rows.len {H : Hp} {l : Addr} {mk : List (Str × Int)} {i : Nat} (h : Rows H l mk i) : mk.length ≤ 5 := by
  have a := h.sub.length_le
  rw [List.length_map, List.length_cons] at a
  have b : (wds.take i).length ≤ 4 := by rw [List.length_take]; exact Nat.min_le_right _ _
  omega
theorem Rows.okM {H : Hp} {l : Addr} {mk : List (Str × Int)} {i : Nat} (h : Rows H l mk i) : MkOk mk :=
  ⟨(h.sub.trans ((List.take_sublist i wds).cons_cons _)).nodup all_nd, h.zero, h.low, h.len, fun kv hk => all_ok _ ((h.sub.trans ((List.take_sublist i wds).cons_cons _)).subset (List.mem_map_of_mem hk))⟩
theorem Rows.ex {d : Addr} {H H' : Hp} {l : Addr} {mk : List (Str × Int)} {i : Nat} (x : Ex d H H') (hd : ∃ xs, H d = some (.lst xs)) (hl : l ≠ d) (h : Rows H l mk i) : Rows H' l mk i := by
  obtain ⟨⟨ps, e, p⟩, a, b, c⟩ := h
  exact ⟨⟨ps, x.but _ _ hl e, Paired.imp p fun _ _ q => x.keep q hd (fun _ q => by cases q)⟩, a, b, c⟩
theorem ok_law_makers (T : Txt K mg) (G_law_draw : FnOk P w K mg base CX0 1 T.a_law_draw T.d_law_draw ["draws", "limit"] spDraw) : FnOk P w K mg base CX0 2 T.a_law_makers T.d_law_makers ["draws"] spMakers := by
  refine T.F_law_makers.ok sc_law_makers (fun vs H Q E h => ?_) (fun cdv A outer s H vs Q E hr h => ?_)
  · obtain ⟨d, sa, rfl, _⟩ := h; rfl
  · obtain ⟨d, sa, rfl, hD, q⟩ := h
    have hr_law_draw := hr
    refine ⟨_, (pss_cons (ps_set (i := 1) sc_law_makers.nd rfl (Or.inl rfl) (pe_lst (pa_cons (pe_tup (pa_cons pe_str (pa_cons pe_int pa_nil))) pa_nil)))
    (pss_cons (ps_for PassesOwn.never rfl (pi_list (pe_lst (pa_cons pe_str (pa_cons pe_str (pa_cons pe_str (pa_cons pe_str pa_nil)))))) (pg_name (i := 2) sc_law_makers.nd rfl (Or.inl rfl))
    (pss_one (ps_if (pt_cmpR op_gt (pe_call G_law_draw hr_law_draw rfl T.m_law_draw T.F_law_draw.kp T.b_law_draw .nil pass0 (pa_cons (pv 0) (pa_cons pe_int pa_nil))) pe_int (nomark _)) (pss_one (ps_expr (pe_bm PySem.F.plainAttrs_list PySem.F.slot_list_append PySem.F.type_list_append mt_append (pv 1) (pa_cons (pe_tup (pa_cons (pv 2) (pa_cons (pe_call G_law_draw hr_law_draw rfl T.m_law_draw T.F_law_draw.kp T.b_law_draw .nil pass0 (pa_cons (pv 0) (pa_cons pe_int pa_nil))) pa_nil))) pa_nil)))) pss_nil)))
    (pss_cons (ps_set (i := 3) sc_law_makers.nd rfl (Or.inl rfl) (pe_call G_law_draw hr_law_draw rfl T.m_law_draw T.F_law_draw.kp T.b_law_draw .nil pass0 (pa_cons (pv 0) (pa_cons (pe_callB call_len_seq (by rfl) T.z_len (by decide +kernel) (pa_cons (pv 1) pa_nil)) pa_nil))))
    (pss_one (ps_ret (pe_callTy call_tupleF (by rfl) T.z_tuple (by decide +kernel) (pa_cons (pe_op op_cat (pe_slice sl_list (pv 1) (po_some (pv 3)) po_none) (pe_slice sl_list (pv 1) po_none (po_some (pv 3)))) pa_nil))))))), ?_⟩
    refine ⟨(by show 2 ≤ sizeLine; decide), fun p1 hp1 => ⟨(by show 1 ≤ sizeLine; decide), fun l hl => ?_⟩⟩
    refine ⟨(by show 4 ≤ sizeLine; decide), fun wl hwl => ⟨wl, rfl, ⟨_, SqL.of upd_same⟩, ?_⟩⟩
    have nl1 : l ≠ p1 := fun e => by rw [e, upd_same] at hl; cases hl
    have nw1 : wl ≠ l := fun e => by rw [e, upd_same] at hwl; cases hwl
    have nw2 : wl ≠ p1 := fun e => by rw [e, upd_ne nl1.symm, upd_same] at hwl; cases hwl
    have s1 := same_upd hp1 (.tup [.str "zero", .int 0])
    have s2 := same_upd hl (.lst [.ref p1])
    have s3 := same_upd hwl (.lst (wds.map V.str))
    have s123 := (s1.trans s2).trans s3
    have fl : H l = none := s1.free hl
    have fw : H wl = none := (s1.trans s2).free hwl
    obtain ⟨nd1, ns1⟩ := hD.free (H1 := H) fl
    obtain ⟨ndw, nsw⟩ := hD.free (H1 := H) fw
    refine for_list (xs := wds.map V.str) (fun i σ H1 => ∃ y2 mk, σ = [some (.ref d), some (.ref l), y2, none] ∧ Dr H1 d sa ∧ Ex d H H1 ∧ H1 wl = some (.lst (wds.map V.str)) ∧ Rows H1 l mk i) ?_ ?_ ?_ ?_
    · refine ⟨none, [("zero", 0)], rfl, hD.same s123, .of s123, upd_same, ⟨[p1], ?_, ?_⟩, ?_, ⟨_, List.mem_singleton_self _, rfl⟩, ?_⟩
      · rw [upd_ne nw1.symm, upd_same]; rfl
      · refine .cons ?_ .nil
        rw [upd_ne nw2.symm, upd_ne nl1.symm, upd_same]; rfl
      · exact List.Sublist.refl _
      · intro kv hk
        rw [List.mem_singleton.mp hk]
        exact ⟨Int.le_refl _, by decide⟩
    · intro i σ H1 _ ⟨_, _, _, _, _, e, _⟩
      exact SqL.of e
    · intro i x σ H1 hx ⟨y2, mk, es, hD1, hx1, ew, hR⟩
      subst es
      refine ⟨_, rfl, d, sa, _, rfl, hD1, by omega, by omega, fun r H2 r0 r1 hx2 hD2 => ⟨_, _, rfl, rfl, _, rfl, ?_⟩⟩
      have hR2 := hR.ex hx2 hD1.lst nd1
      have ew2 := hx2.but _ _ ndw ew
      have hi : i < wds.length := by
        have := (List.getElem?_eq_some_iff.mp hx).1
        rwa [List.length_map] at this
      have xw : x = .str wds[i] := by
        rw [List.getElem?_map, List.getElem?_eq_getElem hi] at hx
        exact (Option.some.inj hx).symm
      subst xw
      have st : wds.take (i + 1) = wds.take i ++ [wds[i]] := List.take_succ_eq_append_getElem hi
      refine ite2 (fun _ => ?_) (fun _ => ?_)
      · obtain ⟨⟨ps, el, pp⟩, sb, zr, lw⟩ := hR2
        have le5 : mk.length ≤ 5 := hR.len
        refine ⟨_, rfl, .inl ⟨rfl, _, SqL.of el⟩, _, rfl, _, rfl, d, sa, _, rfl, hD2, by omega, by omega, fun r2 H3 a0 a1 hx3 hD3 => ⟨(by show 2 ≤ sizeLine; decide), fun t ht => ?_⟩⟩
        have el3 := hx3.but _ _ nd1 el
        have nlt : l ≠ t := ne_of_none el3 ht
        have s4 := same_upd ht (.tup [.str wds[i], .int r2])
        refine ⟨l, _, _, rfl, rfl, s4 _ _ el3, ?_, ?_⟩
        · rw [List.length_map, pair_len pp]
          exact small1000 (by omega)
        · refine ⟨_, mk ++ [(wds[i], r2)], rfl, (hD3.same s4).own nd1 ns1, ((hx1.trans hx2).trans (hx3.trans (.of s4))).own fl _, ?_, ⟨ps ++ [t], ?_, ?_⟩, ?_, ?_, ?_⟩
          · rw [upd_ne nw1]
            exact s4 _ _ (hx3.but _ _ ndw ew2)
          · rw [upd_same, List.map_append]; rfl
          · refine pair_append (Paired.imp pp fun a b e => ?_) (.cons ?_ .nil)
            · have e3 := hx3.keep e hD2.lst (fun _ q => by cases q)
              rw [upd_ne (ne_of e3 el3 (by intro z; cases z))]
              exact s4 _ _ e3
            · rw [upd_ne nlt.symm, upd_same]; rfl
          · rw [st, List.map_append, ← List.cons_append]
            exact sb.append (List.Sublist.refl _)
          · obtain ⟨kv, hk, z⟩ := zr
            exact ⟨kv, List.mem_append_left _ hk, z⟩
          · intro kv hk
            rcases List.mem_append.mp hk with hk | hk
            · exact lw kv hk
            · rw [List.mem_singleton.mp hk]
              exact ⟨a0, by show r2 ≤ 2; omega⟩
      · refine ⟨_, mk, rfl, hD2, hx1.trans hx2, ew2, ?_⟩
        obtain ⟨a, sb, zr, lw⟩ := hR2
        refine ⟨a, ?_, zr, lw⟩
        rw [st]
        exact sb.trans (((List.sublist_append_left _ _)).cons_cons _)
    · intro σ H1 ⟨y2, mk, es, hD1, hx1, ew, hR⟩
      subst es
      have hM := hR.okM
      obtain ⟨⟨ps, el, pp⟩, _⟩ := hR
      have hlen := pair_len pp
      have h5 := hM.len
      have h1 : 1 ≤ mk.length := by
        obtain ⟨kv, hk, _⟩ := hM.zero
        exact List.length_pos_of_mem hk
      refine ⟨_, rfl, _, rfl, l, _, rfl, .inl (SqL.of el), d, sa, _, rfl, hD1, ?_, ?_, fun r H2 r0 r1 hx2 hD2 => ?_⟩
      · rw [List.length_map]; omega
      · rw [List.length_map]; omega
      rw [List.length_map] at r1
      obtain ⟨k, rfl⟩ : ∃ k : Nat, r = (k : Int) := ⟨r.toNat, by omega⟩
      have hk : k ≤ (ps.map V.ref).length := by rw [List.length_map]; omega
      have el2 := hx2.but _ _ nd1 el
      refine ⟨_, rfl, _, rfl, _, rfl, l, _, rfl, SqL.of el2, fun c hc => ?_⟩
      have s5 := same_upd hc (.lst (cutV (ps.map V.ref) (some (k : Int)) none))
      refine ⟨_, rfl, _, rfl, _, rfl, l, _, rfl, SqL.of (s5 _ _ el2), fun c2 hc2 => ?_⟩
      have s6 := same_upd hc2 (.lst (cutV (ps.map V.ref) none (some (k : Int))))
      refine ⟨c, c2, _, _, rfl, rfl, s6 _ _ upd_same, upd_same, ?_, fun p hp => ?_⟩
      · have a := cutV_length (ps.map V.ref) (some (k : Int)) none
        have b := cutV_length (ps.map V.ref) none (some (k : Int))
        rw [List.length_map] at a b
        exact Nat.le_of_lt (small1000 (by omega))
      have s7 := same_upd hp (.lst (cutV (ps.map V.ref) (some (k : Int)) none ++ cutV (ps.map V.ref) none (some (k : Int))))
      refine ⟨p, _, rfl, SqL.of upd_same, fun a o ha od _ => ?_⟩
      have s8 := same_upd ha (.frz o (.tup (cutV (ps.map V.ref) (some (k : Int)) none ++ cutV (ps.map V.ref) none (some (k : Int)))))
      have s58 := ((s5.trans s6).trans s7).trans s8
      refine q a _ (mk.drop k ++ mk.take k) ⟨⟨o, ps.drop k ++ ps.take k, ?_, od, ?_⟩, mk_turn k hM⟩ ((hx1.trans hx2).trans (.of s58)) (hD2.same s58)
      · rw [upd_same, cut_from _ hk, cut_to _ hk, List.map_append, List.map_drop, List.map_take]
      · have pp2 := pair_append (pair_drop k pp) (pair_take k pp)
        exact Paired.imp pp2 fun x y e => s58 _ _ (hx2.keep e hD1.lst (fun _ q => by cases q))
end
end Kx
namespace Kx
open PySem PySem.Spec PyProof.Rows L2
section
variable {P : Program} {w : World} {K : PySem.W.Frag} {mg : Str → Option Value} {base : Heap}
theorem atT (x y : V) : atI [x, y] (1 : Int) = some y := rfl
theorem look_mem : ∀ {mk : List (Str × Int)}, (mk.map (·.1)).Nodup → ∀ {kv : Str × Int}, kv ∈ mk → look mk kv.1 = some kv.2
  | [], _, kv, h => by simp at h
  | a :: r, nd, kv, h => by
    rw [List.map_cons] at nd
    obtain ⟨n1, n2⟩ := List.nodup_cons.mp nd
    rcases List.mem_cons.mp h with rfl | h
    · simp [look]
    · have ne : ¬ a.1 = kv.1 := fun e => n1 (by rw [e]; exact List.mem_map_of_mem h)
      have ih := look_mem n2 h
      unfold look at ih ⊢
      rw [List.find?_cons_of_neg (by simpa using ne)]
      exact ih
/-- a list of values for terms that grow -/
theorem IsL.all {H : Hp} : ∀ {vs : List V} {ts : List PV}, IsL H vs ts → ∀ v ∈ vs, ∃ t ∈ ts, Is H v t
  | _, _, .nil, v, h => by simp at h
  | _, _, .cons a r, v, h => by
    rcases List.mem_cons.mp h with rfl | h
    · exact ⟨_, List.mem_cons_self .., a⟩
    · obtain ⟨t, ht, e⟩ := r.all v h
      exact ⟨t, List.mem_cons_of_mem _ ht, e⟩
theorem mk_at {H : Hp} {ps : List Addr} {mk : List (Str × Int)} (h : Paired (fun p kv => H p = some (.tup (mkV kv))) ps mk) {x : V} (hx : x ∈ ps.map V.ref) : ∃ p kv, x = .ref p ∧ kv ∈ mk ∧ H p = some (.tup (mkV kv)) := by
  induction h with
  | nil => simp at hx
  | cons a t ih =>
    rw [List.map_cons] at hx
    rcases List.mem_cons.mp hx with rfl | hx
    · exact ⟨_, _, rfl, List.mem_cons_self .., a⟩
    · obtain ⟨p, kv, e, m, z⟩ := ih hx
      exact ⟨p, kv, e, List.mem_cons_of_mem _ m, z⟩
theorem mk_get {H : Hp} {ps : List Addr} {mk : List (Str × Int)} (h : Paired (fun p kv => H p = some (.tup (mkV kv))) ps mk) : ∀ {i : Nat} {x : V}, (ps.map V.ref)[i]? = some x → ∃ p kv, x = .ref p ∧ mk[i]? = some kv ∧ H p = some (.tup (mkV kv)) := by
  induction h with
  | nil => intro i x hx; simp at hx
  | cons a t ih =>
    intro i x hx
    cases i with
    | zero => cases (Option.some.inj hx); exact ⟨_, _, rfl, rfl, a⟩
    | succ i => exact ih (by simpa using hx)
theorem ok_law_term {n : Nat} (T : Txt K mg) (G_law_draw : FnOk P w K mg base CX0 1 T.a_law_draw T.d_law_draw ["draws", "limit"] spDraw) (G_law_pick : FnOk P w K mg base CX0 2 T.a_law_pick T.d_law_pick ["draws", "row"] (spPick K)) (G_law_term : FnOk P w K mg base CX0 (n+3) T.a_law_term T.d_law_term ["draws", "makers", "names", "deep"] (spTerm n)) : FnOk P w K mg base CX0 (n+4) T.a_law_term T.d_law_term ["draws", "makers", "names", "deep"] (spTerm (n+1)) := by
  refine T.F_law_term.ok sc_law_term (fun vs H Q E h => ?_) (fun cdv A outer s H vs Q E hr h => ?_)
  · obtain ⟨d, sa, m, nl, mk, zs, k, rfl, _⟩ := h; rfl
  · obtain ⟨d, sa, m, nl, mk, zs, k, rfl, hD, hM, eN, nN, z1, z2, zok, hk, q⟩ := h
    have hr_law_draw := hr.mono (show 1 ≤ n + 3 by omega)
    have hr_law_pick := hr.mono (show 2 ≤ n + 3 by omega)
    have hr_law_term := hr
    refine ⟨_, (pss_cons (ps_if (pt_cut (PW.pt (pw_or (pt_cmpR op_eq (pv 3) pe_int (nomark _)) (pw_or1 (pt_cmpR op_eq (pe_call G_law_draw hr_law_draw rfl T.m_law_draw T.F_law_draw.kp T.b_law_draw .nil pass0 (pa_cons (pv 0) (pa_cons pe_int pa_nil))) pe_int (nomark _)))))) (pss_cons (ps_if (pt_cmpR op_eq (pe_call G_law_draw hr_law_draw rfl T.m_law_draw T.F_law_draw.kp T.b_law_draw .nil pass0 (pa_cons (pv 0) (pa_cons pe_int pa_nil))) pe_int (nomark _)) (pss_one (ps_ret (pe_call G_law_pick hr_law_pick rfl T.m_law_pick T.F_law_pick.kp T.b_law_pick .nil pass0 (pa_cons (pv 0) (pa_cons (pe_lc (own := [("word", 4), ("parts", 5)]) (g := (gTup K 2 (gCons (gName 4) (gCons (gName 5) gNil)))) rfl sc_law_term.nd (pi_tup (pv 1)) (blkOk_by (own := [("word", 4), ("parts", 5)]) (N := ["draws", "makers", "names", "deep", "word", "parts", "k"]) (sc := defScope s_law_term) (by decide +kernel)) (fun _ _ _ _ _ => (pg_tup rfl (pgs_cons (pg_name (i := 4) sc_law_term.nd rfl (Or.inl rfl)) (pgs_cons (pg_name (i := 5) sc_law_term.nd rfl (Or.inl rfl)) pgs_nil)))) (fun _ _ _ _ _ => pts_one (pt_cmpR op_eq (pv 5) pe_int (nomark _))) (fun _ _ _ _ _ => (pe_tup (pa_cons (pv 4) pa_nil)))) pa_nil))))) pss_nil)
    (pss_one (ps_ret (pe_call G_law_pick hr_law_pick rfl T.m_law_pick T.F_law_pick.kp T.b_law_pick .nil pass0 (pa_cons (pv 0) (pa_cons (pv 2) pa_nil)))))) pss_nil)
    (pss_cons (ps_asg (pe_call G_law_pick hr_law_pick rfl T.m_law_pick T.F_law_pick.kp T.b_law_pick .nil pass0 (pa_cons (pv 0) (pa_cons (pv 1) pa_nil))) (pg_tup rfl (pgs_cons (pg_name (i := 4) sc_law_term.nd rfl (Or.inl rfl)) (pgs_cons (pg_name (i := 5) sc_law_term.nd rfl (Or.inl rfl)) pgs_nil))))
    (pss_one (ps_ret (pe_op op_catT (pe_tup (pa_cons (pv 4) pa_nil)) (pe_callTy call_tuple_of (by rfl) T.z_tuple (by decide +kernel) (pa_cons (pe_lc (own := [("k", 6)]) (g := (gName 6)) (tt := tYes) rfl sc_law_term.nd (pi_range1 (by rfl) T.z_range (pa_cons (pv 5) pa_nil)) (blkOk_by (own := [("k", 6)]) (N := ["draws", "makers", "names", "deep", "word", "parts", "k"]) (sc := defScope s_law_term) (by decide +kernel)) (fun _ _ _ _ _ => (pg_name (i := 6) sc_law_term.nd rfl (Or.inl rfl))) (fun _ _ _ _ _ => pts_nil) (fun _ _ _ _ _ => (pe_call G_law_term hr_law_term rfl T.m_law_term T.F_law_term.kp T.b_law_term .nil pass0 (pa_cons (pv 0) (pa_cons (pv 1) (pa_cons (pv 2) (pa_cons (pe_op op_sub (pv 3) pe_int) pa_nil))))))) pa_nil))))))), ?_⟩
    refine ⟨fun b H1 => Ex d H H1 ∧ Dr H1 d sa ∧ (b = false → k ≠ 0), ?_, fun b H1 ⟨x1, D1, kb⟩ => ?_⟩
    · refine ⟨_, rfl, rfl, _, rfl, ?_⟩
      refine ite2 (fun c => ⟨.refl _ _, hD, fun z => by cases z⟩) (fun c => ?_)
      refine ⟨_, rfl, d, sa, _, rfl, hD, by omega, by omega, fun r H1 r0 r1 hx1 hD1 => ⟨rfl, _, rfl, hx1, hD1, fun _ e => ?_⟩⟩
      subst e
      exact c rfl
    · have M1 := hM.ex x1 hD.lst
      have N1 := x1.but _ _ nN eN
      refine ite2 (fun _ => ?_) (fun hb => ?_)
      · refine ⟨_, rfl, d, sa, _, rfl, D1, by omega, by omega, fun r H2 r0 r1 x2 D2 => ⟨rfl, _, rfl, ?_⟩⟩
        have M2 := M1.ex x2 D1.lst
        have N2 := x2.but _ _ nN N1
        have x12 := x1.trans x2
        refine ite2 (fun _ => ?_) (fun _ => ?_)
        · obtain ⟨⟨o, ps, em, od, pp⟩, ok⟩ := M2
          refine ⟨_, rfl, _, rfl, m, rfl, ⟨_, .inl (.inr ⟨o, em⟩)⟩, fun D hD' => ?_⟩
          have nDd : D ≠ d := (D2.free (H1 := H2) hD').1
          refine lc_tup (K := K) (a := m) (xs := ps.map V.ref) (fun i H3 => Same H2 H3 ∧ ∃ acc, H3 D = some (.lst acc) ∧ (∀ v ∈ acc, ∃ w p, v = .ref p ∧ H3 p = some (.tup [.str w]) ∧ sok w = true ∧ look mk w = some 0) ∧ acc.length ≤ i ∧ ((∃ kv ∈ mk.take i, kv.2 = 0) → acc ≠ [])) ?_ ?_ ?_ ?_
          · refine ⟨same_upd hD' _, [], upd_same, fun v hv => by simp at hv, Nat.le_refl _, fun ⟨kv, h, _⟩ => by simp at h⟩
          · exact fun i H3 _ ⟨sm, _⟩ => .inl (.inr ⟨o, sm _ _ em⟩)
          · intro i x H3 hx ⟨sm, acc, ea, hA, hl, hz⟩
            obtain ⟨p, kv, rfl, hkv, ep⟩ := mk_get pp hx
            have hi : i < mk.length := (List.getElem?_eq_some_iff.mp hkv).1
            have m5 := ok.len
            have tk : mk.take (i + 1) = mk.take i ++ [kv] := by
              rw [List.take_succ_eq_append_getElem hi]
              congr 2
              exact (List.getElem?_eq_some_iff.mp hkv).2
            refine ⟨p, _, rfl, .inl (.inl (sm _ _ ep)), rfl, _, _, rfl, _, _, rfl, rfl, rfl, _, rfl, rfl, _, rfl, ?_⟩
            refine ite2 (fun cz => ?_) (fun c => ?_)
            · have kz : kv.2 = 0 := V.int.inj (of_decide_eq_true cz)
              have lk := look_mem ok.nd (List.mem_of_getElem? hkv)
              rw [kz] at lk
              refine ⟨_, rfl, (by show 1 ≤ sizeLine; decide), fun t ht => ⟨acc, ?_, small1000 (by omega), ?_⟩⟩
              · rw [upd_ne (ne_of_none ea ht)]; exact ea
              · have s2 := same_upd ht (.tup [.str kv.1])
                refine ⟨Kx.Same.own (sm.trans s2) hD' _, _, upd_same, fun v hv => ?_, by rw [List.length_append]; exact Nat.succ_le_succ hl, fun _ => by simp⟩
                rcases List.mem_append.mp hv with hv | hv
                · obtain ⟨w, p2, rfl, e2, kw⟩ := hA v hv
                  have e3 := s2 _ _ e2
                  refine ⟨w, p2, rfl, ?_, kw⟩
                  rw [upd_ne (ne_of e3 (s2 _ _ ea) (by intro z; cases z))]
                  exact e3
                · rw [List.mem_singleton.mp hv]
                  refine ⟨kv.1, t, rfl, ?_, ok.good kv (List.mem_of_getElem? hkv), lk⟩
                  rw [upd_ne (ne_of_none ea ht).symm, upd_same]
            · refine ⟨sm, acc, ea, hA, Nat.le_succ_of_le hl, fun ⟨kv', h, e⟩ => hz ?_⟩
              rw [tk] at h
              rcases List.mem_append.mp h with h | h
              · exact ⟨kv', h, e⟩
              · rw [List.mem_singleton.mp h] at e
                exact absurd (by show decide (V.int kv.2 = V.int 0) = true; rw [e]; exact decide_eq_true rfl) c
          · intro H3 ⟨sm, acc, ea, hA, hl, hz⟩
            have m5 := ok.len
            rw [List.length_map, pair_len pp] at hl hz
            rw [List.take_length] at hz
            have ne := hz ok.zero
            refine ⟨d, sa, D, acc, rfl, D2.same sm, .inl ea, nDd, List.length_pos_iff.mpr ne, by omega, fun x H4 hx x4 D4 => ?_⟩
            obtain ⟨w, p, rfl, e, kw, lk⟩ := hA x hx
            refine q _ (.tup [.str w]) H4 (.tup (x4.keep e (D2.same sm).lst fun _ z => by cases z) (.cons (.str w kw) .nil)) ⟨lk, Nat.zero_le _, trivial⟩ ?_ ((x12.trans (.of sm)).trans x4) D4
            simp only [dep, depL]; omega
        · refine ⟨_, rfl, _, rfl, d, sa, nl, _, rfl, D2, .inl N2, nN, ?_, ?_, fun x H3 hx x3 D3 => ?_⟩
          · rw [List.length_map]; exact z1
          · rw [List.length_map]; omega
          · obtain ⟨z, hz, rfl⟩ := List.mem_map.mp hx
            exact q _ (.str z) H3 (.str z (zok z hz)) trivial (by simp only [dep]; omega) (x12.trans x3) D3
      · have kn : k ≠ 0 := kb (by cases b with | true => exact absurd rfl hb | false => rfl)
        have k1 : (k : Int) - 1 = ((k - 1 : Nat) : Int) := by omega
        obtain ⟨⟨o, ps, em, od, pp⟩, ok⟩ := id M1
        obtain ⟨xs1, ed1⟩ := D1.lst
        have nm : m ≠ d := ne_of em ed1 (by intro z; cases z)
        have l1 : 1 ≤ mk.length := ok.zero.elim fun kv z => List.length_pos_of_mem z.1
        have l5 := ok.len
        refine ⟨_, rfl, _, rfl, d, sa, m, _, rfl, D1, .inr (.inl (.inr ⟨o, em⟩)), nm, ?_, ?_, fun x H2 hx x2 D2 => ?_⟩
        · rw [List.length_map, pair_len pp]; exact l1
        · rw [List.length_map, pair_len pp]; omega
        obtain ⟨p, kv, rfl, hkv, ep⟩ := mk_at pp hx
        have ep2 := x2.keep ep D1.lst (fun _ z => by cases z)
        obtain ⟨lo, hi⟩ := ok.low kv hkv
        refine ⟨p, _, rfl, .inl (.inl ep2), rfl, _, _, rfl, _, _, rfl, rfl, ?_⟩
        refine ⟨_, rfl, (by show 1 ≤ sizeLine; decide), fun t1 ht1 => ?_⟩
        have s3 := same_upd ht1 (.tup [.str kv.1])
        have M3 := (M1.ex x2 D1.lst).same s3
        have N3 := s3 _ _ (x2.but _ _ nN N1)
        have D3 := D2.same s3
        refine ⟨_, rfl, _, rfl, by omega, by omega, fun D hDn => ?_⟩
        obtain ⟨nDd, nDs⟩ := D3.free (H1 := H) hDn
        have lk := look_mem ok.nd hkv
        refine lc_range (lo := 0) (n := kv.2.toNat) (fun i H4 => ∃ vs ts, Ex d (upd H2 t1 (.tup [.str kv.1])) H4 ∧ Dr H4 d sa ∧ H4 D = some (.lst vs) ∧ IsL H4 vs ts ∧ (∀ t ∈ ts, Wf mk t ∧ dep t ≤ k + 1) ∧ ts.length = i) ?_ ?_ ?_
        · exact ⟨[], [], .new hDn _, D3.own nDd nDs, upd_same, .nil, fun t ht => by simp at ht, rfl⟩
        · intro i H4 hi2 ⟨vs, ts, x4, D4, eD, hI, hT, hl⟩
          refine ⟨rfl, yes_if ?_⟩
          refine ⟨_, rfl, _, rfl, _, rfl, _, rfl, _, _, rfl, rfl, d, sa, m, nl, mk, zs, k - 1, ?_, D4, M3.ex x4 D3.lst, x4.but _ _ nN N3, nN, z1, z2, zok, by omega, fun v t H5 hv ht hc x5 D5 => ?_⟩
          · rw [← k1]; rfl
          · have eD5 := x5.but _ _ nDd eD
            have x45 := x4.trans x5
            refine ⟨vs, eD5, ?_, ?_⟩
            · rw [hI.len, hl]; exact small1000 (by omega)
            have I5 : IsL H5 vs ts := hI.ex x5 D4.lst
            have xx : Ex D H5 (upd H5 D (.lst (vs ++ [v]))) := .set _
            refine ⟨vs ++ [v], ts ++ [t], x45.own hDn _, D5.own nDd nDs, upd_same, (I5.append (.cons hv .nil)).ex xx ⟨_, eD5⟩, fun t' ht' => ?_, by rw [List.length_append, hl]; rfl⟩
            rcases List.mem_append.mp ht' with h | h
            · exact hT t' h
            · rw [List.mem_singleton.mp h]
              exact ⟨ht, by omega⟩
        · intro H4 ⟨vs, ts, x4, D4, eD, hI, hT, hl⟩
          have e1 := x4.keep upd_same D3.lst (fun _ z => by cases z)
          have hlen := hI.len
          have cb := depL_le (l := ts) (c := k + 1) fun t ht => (hT t ht).2
          refine ⟨D, vs, rfl, .inl ⟨SqL.of eD, fun l hl2 => ?_⟩⟩
          have s5 := same_upd hl2 (.tup vs)
          refine ⟨t1, l, _, _, rfl, rfl, .inl (.inl (s5 _ _ e1)), .inl (.inl upd_same), by simp, ?_, fun _ => ?_, fun _ p hp => ?_⟩
          · rw [List.length_singleton, hlen]; exact Nat.le_of_lt (small1000 (by omega))
          · refine q _ (.tup [.str kv.1]) _ (.tup (s5 _ _ e1) (.cons (.str _ (ok.good kv hkv)) .nil)) ⟨?_, Nat.zero_le _, trivial⟩ ?_ (((x1.trans x2).trans (.of s3)).trans (x4.trans (.of s5))) (D4.same s5)
            · have e0 : ts.length = 0 := by
                have := congrArg List.length (show vs = [] by assumption)
                rw [hlen] at this
                exact this
              rw [lk]; show some kv.2 = some 0; rw [show kv.2 = 0 by omega]
            · simp only [dep, depL]; omega
          · have s6 := same_upd hp (.tup ([V.str kv.1] ++ vs))
            refine q _ (.tup (.str kv.1 :: ts)) _ (.tup upd_same (.cons (.str _ (ok.good kv hkv)) (hI.same (s5.trans s6)))) ⟨?_, by omega, WfL_mem fun t ht => (hT t ht).1⟩ ?_ (((x1.trans x2).trans (.of s3)).trans (x4.trans (.of (s5.trans s6)))) (D4.same (s5.trans s6))
            · rw [lk, hl]; congr 1; omega
            · simp only [dep, depL]; omega
end
end Kx
namespace Kx
open PySem PySem.Spec PyProof.Rows L2
section
variable {P : Program} {w : World} {K : PySem.W.Frag} {mg : Str → Option Value} {base : Heap}
theorem slice1 {x : V} {vs : List V} : ¬ (HT.sIx (x :: vs).length 0 (some (1 : Int)) = 0 ∧ HT.sIx (x :: vs).length (x :: vs).length none = (x :: vs).length) := by
  intro e
  have h := e.1
  rw [show (1 : Int) = ((1 : Nat) : Int) from rfl, HT.sIx_nat, List.length_cons] at h
  omega
theorem cut1 {x : V} {vs : List V} : cutV (x :: vs) (some (1 : Int)) none = vs := cut_from (k := 1) (x :: vs) (by rw [List.length_cons]; omega)
theorem wf_tup_inv {mk : List (Str × Int)} {H : Hp} {v : V} {t : PV} (hI : Is H v t) (hT : Wf mk t) (c : isStr t = false) : ∃ a w vs ts, v = .ref a ∧ t = .tup (.str w :: ts) ∧ H a = some (.tup (.str w :: vs)) ∧ IsL H vs ts ∧ sok w = true ∧ look mk w = some (ts.length : Int) ∧ ts.length ≤ 2 ∧ WfL mk ts := by
  cases t with
  | str z => cases c
  | oth => exact absurd hT (by simp [Wf])
  | tup l =>
    obtain ⟨a, vs, rfl, ea, hL⟩ := hI.tup_inv
    obtain ⟨w, ts, rfl, h1, h2, h3⟩ := wf_inv hT
    cases hL with
    | cons h0 hL =>
      cases h0 with
      | str z k => exact ⟨a, w, _, ts, rfl, rfl, ea, hL, k, h1, h2, h3⟩
theorem get_is {H : Hp} {p : Addr} {al : AL} (h : AsD H p al) (z : Str) : ∃ (kvs : List (Key × V)), H p = some (.dK kvs) ∧ kvs.length = al.length ∧ ((valV kvs (Sum.inr z) = none ∧ get al z = none) ∨ ∃ v t, valV kvs (Sum.inr z) = some v ∧ get al z = some t ∧ Is H v t) := by
  obtain ⟨kvs, e, b⟩ := h
  exact ⟨kvs, e, Paired.length b, pair_val z b⟩
theorem psubL_take {al : AL} {ts : List PV} {i : Nat} {y : PV} (h : ts[i]? = some y) : psubL al (ts.take (i + 1)) = psubL al (ts.take i) ++ [psub al y] := by
  obtain ⟨hi, e⟩ := List.getElem?_eq_some_iff.mp h
  rw [List.take_succ_eq_append_getElem hi, e, psubL_map, psubL_map, List.map_append]
  rfl
theorem dep_cons (w : Str) (ts : List PV) : dep (.tup (.str w :: ts)) = 1 + max 1 (depL ts) := by simp only [dep, depL]
theorem ok_put {n : Nat} (T : Txt K mg) (G_put : FnOk P w K mg base CX0 (n+1) T.a_put T.d_put ["term", "assignment"] (spPut n)) : FnOk P w K mg base CX0 (n+2) T.a_put T.d_put ["term", "assignment"] (spPut (n+1)) := by
  refine T.F_put.ok sc_put (fun vs H Q E h => ?_) (fun cdv A outer s H vs Q E hr h => ?_)
  · obtain ⟨p, mk, v, t, al, rfl, _⟩ := h; rfl
  · obtain ⟨p, mk, v, t, al, rfl, hA, hI, hW, hn, q⟩ := h
    have hu := hu_of hr
    have hr_put := hr
    refine ⟨_, (pss_cons (ps_if (pt_val (pe_callB call_isi (by rfl) T.z_isinstance (by decide +kernel) (pa_cons (pv 0) (pa_cons (pe_bltn rfl T.z_str (by decide +kernel) (show RelV (V.ty "str") (Value.type "str") from rfl)) pa_nil)))) (pss_one (ps_ret (pe_dget2 hu (pv 1) (pv 0) (pv 0) ⟨rfl, rfl, rfl, rfl⟩))) pss_nil)
    (pss_cons (ps_set (i := 2) sc_put.nd rfl (Or.inl rfl) (pe_lst (pa_cons (pe_ix ix_tup (pv 0) pe_int (fun _ _ => rfl)) pa_nil)))
    (pss_cons (ps_for PassesOwn.never rfl (pi_tup (pe_slice sl_tup (pv 0) (po_some pe_int) po_none)) (pg_name (i := 3) sc_put.nd rfl (Or.inl rfl))
    (pss_one (ps_expr (pe_bm PySem.F.plainAttrs_list PySem.F.slot_list_append PySem.F.type_list_append mt_append (pv 2) (pa_cons (pe_call G_put hr_put rfl T.m_put T.F_put.kp T.b_put .nil pass0 (pa_cons (pv 3) (pa_cons (pv 1) pa_nil))) pa_nil)))))
    (pss_one (ps_ret (pe_callTy call_tuple_of (by rfl) T.z_tuple (by decide +kernel) (pa_cons (pv 2) pa_nil))))))), ?_⟩
    obtain ⟨u, ty, kt⟩ := hI.ty (K := K)
    refine ⟨_, rfl, _, _, u, _, _, rfl, .ty _, ty, kit_str kt, _, rfl, ite2 (fun c => ?_) (fun c => ?_)⟩
    · cases t with
      | oth => cases c
      | tup ts => cases c
      | str z =>
      cases hI with
      | str z k =>
      obtain ⟨kvs, e, _, hv⟩ := get_is hA z
      refine ⟨_, rfl, p, rfl, .inl ⟨_, .of e⟩, _, rfl, _, rfl, _, DGet.k (k := Sum.inr z) e, ?_⟩
      rcases hv with ⟨a, b⟩ | ⟨v, t, a, b, hI⟩
      · rw [a]
        exact q _ H (.refl _) (by simp only [psub, b]; exact .str z k)
      · rw [a]
        exact q _ H (.refl _) (by simp only [psub, b]; exact hI)
    · obtain ⟨a, w, vs, ts, rfl, rfl, ea, hL, kw, lk, l2, hWl⟩ := wf_tup_inv hI hW (Bool.eq_false_iff.mpr c)
      have hlen := hL.len
      rw [dep_cons] at hn
      refine ⟨_, rfl, a, _, _, _, rfl, rfl, .inl (.inl ea), atI_nat (j := 0) rfl, (by show 1 ≤ sizeLine; decide), fun il hil => ?_⟩
      have s0 := same_upd hil (.lst [.str w])
      refine ⟨_, rfl, _, rfl, a, _, rfl, .inl (.inl (s0 _ _ ea)), slice1, fun p1 h1 => ?_⟩
      rw [cut1]
      have s1 := same_upd h1 (.tup vs)
      have s01 := s0.trans s1
      have n1 : il ≠ p1 := ne_of_none upd_same h1
      refine ⟨p1, rfl, ⟨_, .inl (.inl upd_same)⟩, ?_⟩
      refine for_tup (K := K) (a := p1) (xs := vs) (fun i σ H2 => ∃ y3 ws, σ = [some (.ref a), some (.ref p), some (.ref il), y3] ∧ Same H H2 ∧ H2 p1 = some (.tup vs) ∧ H2 il = some (.lst (.str w :: ws)) ∧ IsL H2 ws (psubL al (ts.take i)) ∧ ws.length = i) ?_ ?_ ?_ ?_
      · exact ⟨none, [], rfl, s01, upd_same, by rw [upd_ne n1, upd_same], .nil, rfl⟩
      · exact fun i σ H2 _ ⟨_, _, _, _, e, _⟩ => .inl (.inl e)
      · intro i x σ H2 hx ⟨y3, ws, es, sm, e1, el, hW2, wl⟩
        subst es
        obtain ⟨y, ey, hy⟩ := hL.get hx
        have hm := List.mem_of_getElem? ey
        have dy := depL_mem hm
        refine ⟨_, rfl, .inl ⟨rfl, _, SqL.of el⟩, _, rfl, _, rfl, p, mk, x, y, al, rfl, hA.same sm, hy.same sm, mem_WfL hWl y hm, by omega, fun v' H3 s3 hv' => ?_⟩
        have hi := (List.getElem?_eq_some_iff.mp hx).1
        refine ⟨il, _, _, rfl, rfl, s3 _ _ el, ?_, ?_⟩
        · rw [List.length_cons]; exact small1000 (by omega)
        · have xx : Ex il H3 (upd H3 il (.lst (.str w :: ws ++ [v']))) := .set _
          refine ⟨_, ws ++ [v'], rfl, Kx.Same.own (sm.trans s3) hil _, ?_, by rw [upd_same]; rfl, ?_, by rw [List.length_append, wl]; rfl⟩
          · rw [upd_ne n1.symm]; exact s3 _ _ e1
          · rw [psubL_take ey]
            exact ((hW2.same s3).append (.cons hv' .nil)).ex xx ⟨_, s3 _ _ el⟩
      · intro σ H2 ⟨y3, ws, es, sm, e1, el, hW2, wl⟩
        subst es
        rw [hlen, List.take_length] at hW2
        refine ⟨_, rfl, il, _, rfl, .inl ⟨SqL.of el, fun l hl => ?_⟩⟩
        have s5 := same_upd hl (.tup (.str w :: ws))
        exact q _ _ (sm.trans s5) (by simp only [psub]; exact .tup upd_same (.cons (.str w kw) (hW2.same s5)))
theorem ok_law_put {n : Nat} (T : Txt K mg) (G_law_put : FnOk P w K mg base CX0 (n+1) T.a_law_put T.d_law_put ["term", "assignment"] (spPut n)) : FnOk P w K mg base CX0 (n+2) T.a_law_put T.d_law_put ["term", "assignment"] (spPut (n+1)) := by
  refine T.F_law_put.ok sc_law_put (fun vs H Q E h => ?_) (fun cdv A outer s H vs Q E hr h => ?_)
  · obtain ⟨p, mk, v, t, al, rfl, _⟩ := h; rfl
  · obtain ⟨p, mk, v, t, al, rfl, hA, hI, hW, hn, q⟩ := h
    have hu := hu_of hr
    have hr_law_put := hr
    refine ⟨_, (pss_cons (ps_if (pt_val (pe_callB call_isi (by rfl) T.z_isinstance (by decide +kernel) (pa_cons (pv 0) (pa_cons (pe_bltn rfl T.z_str (by decide +kernel) (show RelV (V.ty "str") (Value.type "str") from rfl)) pa_nil)))) (pss_one (ps_ret (pe_dget2 hu (pv 1) (pv 0) (pv 0) ⟨rfl, rfl, rfl, rfl⟩))) pss_nil)
    (pss_one (ps_ret (pe_op op_catT (pe_tup (pa_cons (pe_ix ix_tup (pv 0) pe_int (fun _ _ => rfl)) pa_nil)) (pe_callTy call_tuple_of (by rfl) T.z_tuple (by decide +kernel) (pa_cons (pe_lc (own := [("part", 2)]) (g := (gName 2)) (tt := tYes) rfl sc_law_put.nd (pi_tup (pe_slice sl_tup (pv 0) (po_some pe_int) po_none)) (blkOk_by (own := [("part", 2)]) (N := ["term", "assignment", "part"]) (sc := defScope s_law_put) (by decide +kernel)) (fun _ _ _ _ _ => (pg_name (i := 2) sc_law_put.nd rfl (Or.inl rfl))) (fun _ _ _ _ _ => pts_nil) (fun _ _ _ _ _ => (pe_call G_law_put hr_law_put rfl T.m_law_put T.F_law_put.kp T.b_law_put .nil pass0 (pa_cons (pv 2) (pa_cons (pv 1) pa_nil))))) pa_nil)))))), ?_⟩
    obtain ⟨u, ty, kt⟩ := hI.ty (K := K)
    refine ⟨_, rfl, _, _, u, _, _, rfl, .ty _, ty, kit_str kt, _, rfl, ite2 (fun c => ?_) (fun c => ?_)⟩
    · cases t with
      | oth => cases c
      | tup ts => cases c
      | str z =>
      cases hI with
      | str z k =>
      obtain ⟨kvs, e, _, hv⟩ := get_is hA z
      refine ⟨_, rfl, p, rfl, .inl ⟨_, .of e⟩, _, rfl, _, rfl, _, DGet.k (k := Sum.inr z) e, ?_⟩
      rcases hv with ⟨a, b⟩ | ⟨v, t, a, b, hI⟩
      · rw [a]
        exact q _ H (.refl _) (by simp only [psub, b]; exact .str z k)
      · rw [a]
        exact q _ H (.refl _) (by simp only [psub, b]; exact hI)
    · obtain ⟨a, w, vs, ts, rfl, rfl, ea, hL, kw, lk, l2, hWl⟩ := wf_tup_inv hI hW (Bool.eq_false_iff.mpr c)
      have hlen := hL.len
      rw [dep_cons] at hn
      refine ⟨_, rfl, a, _, _, _, rfl, rfl, .inl (.inl ea), atI_nat (j := 0) rfl, (by show 1 ≤ sizeLine; decide), fun t1 ht1 => ?_⟩
      have s0 := same_upd ht1 (.tup [.str w])
      refine ⟨_, rfl, _, rfl, a, _, rfl, .inl (.inl (s0 _ _ ea)), slice1, fun p1 h1 => ?_⟩
      rw [cut1]
      have s1 := same_upd h1 (.tup vs)
      have s01 := s0.trans s1
      refine ⟨p1, rfl, ⟨_, .inl (.inl upd_same)⟩, fun D hD => ?_⟩
      refine lc_tup (K := K) (a := p1) (xs := vs) (fun i H2 => Same (upd (upd H t1 (.tup [.str w])) p1 (.tup vs)) H2 ∧ ∃ ws, H2 D = some (.lst ws) ∧ IsL H2 ws (psubL al (ts.take i)) ∧ ws.length = i) ?_ ?_ ?_ ?_
      · exact ⟨same_upd hD _, [], upd_same, .nil, rfl⟩
      · exact fun i H2 _ ⟨sm, _⟩ => .inl (.inl (sm _ _ upd_same))
      · intro i x H2 hx ⟨sm, ws, eD, hW2, wl⟩
        obtain ⟨y, ey, hy⟩ := hL.get hx
        have hm := List.mem_of_getElem? ey
        have dy := depL_mem hm
        have hi := (List.getElem?_eq_some_iff.mp hx).1
        have s02 := s01.trans sm
        refine ⟨rfl, yes_if ?_⟩
        refine ⟨_, rfl, _, rfl, p, mk, x, y, al, rfl, hA.same s02, hy.same s02, mem_WfL hWl y hm, by omega, fun v' H3 s3 hv' => ?_⟩
        have xx : Ex D H3 (upd H3 D (.lst (ws ++ [v']))) := .set _
        refine ⟨ws, s3 _ _ eD, small1000 (by omega), Kx.Same.own (sm.trans s3) hD _, ws ++ [v'], upd_same, ?_, by rw [List.length_append, wl]; rfl⟩
        rw [psubL_take ey]
        exact ((hW2.same s3).append (.cons hv' .nil)).ex xx ⟨_, s3 _ _ eD⟩
      · intro H2 ⟨sm, ws, eD, hW2, wl⟩
        rw [hlen, List.take_length] at hW2
        have e1 := sm _ _ (s1 _ _ upd_same)
        refine ⟨D, ws, rfl, .inl ⟨SqL.of eD, fun l hl => ?_⟩⟩
        have s5 := same_upd hl (.tup ws)
        have s25 := (s01.trans sm).trans s5
        refine ⟨t1, l, _, _, rfl, rfl, .inl (.inl (s5 _ _ e1)), .inl (.inl upd_same), by simp, ?_, fun e => ?_, fun _ p5 h5 => ?_⟩
        · rw [List.length_singleton, wl]; exact Nat.le_of_lt (small1000 (by omega))
        · have e0 : ws.length = 0 := by rw [e]; rfl
          have t0 : ts = [] := List.length_eq_zero_iff.mp (by omega)
          refine q _ _ s25 ?_
          subst t0
          simp only [psub, psubL]
          exact .tup (s5 _ _ e1) (.cons (.str w kw) .nil)
        · have s6 := same_upd h5 (.tup ([V.str w] ++ ws))
          refine q _ _ (s25.trans s6) ?_
          simp only [psub]
          exact .tup upd_same (.cons (.str w kw) (hW2.same (s5.trans s6)))
end
end Kx
namespace Kx
open PySem PySem.Spec PyProof.Rows L2
section
variable {P : Program} {w : World} {K : PySem.W.Frag} {mg : Str → Option Value} {base : Heap}
theorem fit_other {al : AL} {w : Str} {ps : List PV} {z : Str} : fit al (.tup (.str w :: ps)) (.str z) = (false, al) := by simp [fit]
theorem fit_tups {al : AL} {w w' : Str} {ps ts : List PV} : fit al (.tup (.str w :: ps)) (.tup (.str w' :: ts)) = if w = w' then fitL al ps ts else (false, al) := by rw [fit]
theorem fitL_nil {al : AL} {ts : List PV} : fitL al [] ts = (true, al) := by cases ts <;> simp [fitL]
theorem fitL_cons {al : AL} {p t : PV} {ps ts : List PV} : fitL al (p :: ps) (t :: ts) = if (fit al p t).1 = true then fitL (fit al p t).2 ps ts else (false, (fit al p t).2) := by rw [fitL]
mutual
/-- the values that are found are not deeper than the terms -/
theorem fit_dep {c : Nat} : ∀ (p t : PV) (f : AL), dep t ≤ c → (∀ kv ∈ f, dep kv.2 ≤ c) → ∀ kv ∈ (fit f p t).2, dep kv.2 ≤ c
  | .str z, t, f, ht, hf => by
    unfold fit
    cases h : Kx.get f z with
    | some u => exact hf
    | none =>
      intro kv hk
      rcases List.mem_append.mp hk with hk | hk
      · exact hf kv hk
      · rw [List.mem_singleton.mp hk]; exact ht
  | .tup (.str w :: ps), .tup (.str w' :: ts), f, ht, hf => by
    rw [fit_tups]
    split
    · simp only [dep, depL] at ht
      exact fitL_dep ps ts f (by omega) hf
    · exact hf
  | .tup (.str w :: ps), .str _, f, _, hf => by simp only [fit]; exact hf
  | .tup (.str w :: ps), .oth, f, _, hf => by simp only [fit]; exact hf
  | .tup (.str w :: ps), .tup [], f, _, hf => by simp only [fit]; exact hf
  | .tup (.str w :: ps), .tup (.oth :: _), f, _, hf => by simp only [fit]; exact hf
  | .tup (.str w :: ps), .tup (.tup _ :: _), f, _, hf => by simp only [fit]; exact hf
  | .tup [], t, f, _, hf => by cases t <;> (simp only [fit]; exact hf)
  | .tup (.oth :: _), t, f, _, hf => by cases t <;> (simp only [fit]; exact hf)
  | .tup (.tup _ :: _), t, f, _, hf => by cases t <;> (simp only [fit]; exact hf)
  | .oth, t, f, _, hf => by cases t <;> (simp only [fit]; exact hf)
theorem fitL_dep {c : Nat} : ∀ (ps ts : List PV) (f : AL), depL ts ≤ c → (∀ kv ∈ f, dep kv.2 ≤ c) → ∀ kv ∈ (fitL f ps ts).2, dep kv.2 ≤ c
  | p :: ps, t :: ts, f, ht, hf => by
    simp only [depL] at ht
    have a := fit_dep p t f (by omega) hf
    rw [fitL_cons]
    split
    · exact fitL_dep ps ts _ (by omega) a
    · exact a
  | [], t, f, _, hf => by rw [fitL_nil]; exact hf
  | _ :: _, [], f, _, hf => by simp only [fitL]; exact hf
end
mutual
theorem fit_len : ∀ (p t : PV) (f : AL), (fit f p t).2.length ≤ f.length + lc p
  | .str z, t, f => by
    unfold fit
    cases h : Kx.get f z with
    | some u => simp
    | none => simp [lc]
  | .tup (.str w :: ps), .tup (.str w' :: ts), f => by
    rw [fit_tups]
    split
    · have := fitL_len ps ts f
      simp only [lc]; exact this
    · simp
  | .tup (.str w :: ps), .str _, f => by simp [fit]
  | .tup (.str w :: ps), .oth, f => by simp [fit]
  | .tup (.str w :: ps), .tup [], f => by simp [fit]
  | .tup (.str w :: ps), .tup (.oth :: _), f => by simp [fit]
  | .tup (.str w :: ps), .tup (.tup _ :: _), f => by simp [fit]
  | .tup [], t, f => by cases t <;> simp [fit]
  | .tup (.oth :: _), t, f => by cases t <;> simp [fit]
  | .tup (.tup _ :: _), t, f => by cases t <;> simp [fit]
  | .oth, t, f => by cases t <;> simp [fit]
theorem fitL_len : ∀ (ps ts : List PV) (f : AL), (fitL f ps ts).2.length ≤ f.length + lcL ps
  | p :: ps, t :: ts, f => by
    have a := fit_len p t f
    rw [fitL_cons]
    split
    · have b := fitL_len ps ts (fit f p t).2
      simp only [lcL]; omega
    · simp only [lcL]; omega
  | [], t, f => by rw [fitL_nil]; simp [lcL]
  | _ :: _, [], f => by simp [fitL]
end
theorem lcL_get : ∀ {l : List PV} {t : PV} {i : Nat}, l[i]? = some t → lcL (l.drop i) = lc t + lcL (l.drop (i + 1)) := by
  intro l t i h
  obtain ⟨hi, e⟩ := List.getElem?_eq_some_iff.mp h
  rw [List.drop_eq_getElem_cons hi, e]
  simp only [lcL]
/-- where a walk over both lists stands -/
structure Mid (al0 : AL) (ps ts : List PV) (i : Nat) (al : AL) : Prop where
  eq : fitL al0 ps ts = fitL al (ps.drop i) (ts.drop i)
  dp : ∀ kv ∈ al, dep kv.2 ≤ 60
  few : al.length + lcL (ps.drop i) ≤ 100000
theorem Mid.turn {al0 al : AL} {ps ts : List PV} {i : Nat} {p t : PV} (h : Mid al0 ps ts i al) (hp : ps[i]? = some p) (ht : ts[i]? = some t) (d : dep t ≤ 60) :
    ((fit al p t).1 = true → Mid al0 ps ts (i + 1) (fit al p t).2) ∧ ((fit al p t).1 = false → fitL al0 ps ts = (false, (fit al p t).2)) := by
  obtain ⟨hi, e⟩ := List.getElem?_eq_some_iff.mp hp
  obtain ⟨hj, e2⟩ := List.getElem?_eq_some_iff.mp ht
  have hq := h.eq
  rw [List.drop_eq_getElem_cons hi, List.drop_eq_getElem_cons hj, e, e2, fitL_cons] at hq
  have hf := h.few
  rw [lcL_get hp] at hf
  have hl := fit_len p t al
  refine ⟨fun c => ⟨?_, fit_dep p t al d h.dp, by omega⟩, fun c => ?_⟩
  · rw [hq, if_pos c]
  · rw [hq, if_neg (by rw [c]; exact Bool.false_ne_true)]
theorem Mid.end_ {al0 al : AL} {ps ts : List PV} (h : Mid al0 ps ts ps.length al) : fitL al0 ps ts = (true, al) := by
  have hq := h.eq
  rw [List.drop_length] at hq
  rw [hq, fitL_nil]
theorem ok_fits {n : Nat} (T : Txt K mg) (G_fits : FnOk P w K mg base CX0 (n+1) T.a_fits T.d_fits ["pattern", "term", "found"] (spFit n)) : FnOk P w K mg base CX0 (n+2) T.a_fits T.d_fits ["pattern", "term", "found"] (spFit (n+1)) := by
  refine T.F_fits.ok sc_fits (fun vs H Q E h => ?_) (fun cdv A outer s H vs Q E hr h => ?_)
  · obtain ⟨f, mk, v, u, p, t, al, rfl, _⟩ := h; rfl
  · obtain ⟨f, mk, v, u, p, t, al, rfl, hA, hI, hJ, hW, hX, hn, h60, hd, hl, q⟩ := h
    have hu := hu_of hr
    have hr_fits := hr
    refine ⟨_, (pss_cons (ps_if (pt_val (pe_callB call_isi (by rfl) T.z_isinstance (by decide +kernel) (pa_cons (pv 0) (pa_cons (pe_bltn rfl T.z_str (by decide +kernel) (show RelV (V.ty "str") (Value.type "str") from rfl)) pa_nil)))) (pss_one (ps_ret (pe_cmpR (op_eqD hr.units) (pe_dsetd (pv 2) (pv 0) (pv 1) ⟨rfl, rfl, rfl, rfl⟩) (pv 1) (nomark _)))) pss_nil)
    (pss_cons (ps_if (PW.pt (pw_or (pt_val (pe_callB call_isi (by rfl) T.z_isinstance (by decide +kernel) (pa_cons (pv 1) (pa_cons (pe_bltn rfl T.z_str (by decide +kernel) (show RelV (V.ty "str") (Value.type "str") from rfl)) pa_nil)))) (pw_or1 (pt_cmpR op_ne (pe_ix ix_tup (pv 0) pe_int (fun _ _ => rfl)) (pe_ix ix_tup (pv 1) pe_int (fun _ _ => rfl)) (nomark _))))) (pss_one (ps_ret pe_bl)) pss_nil)
    (pss_cons (ps_for PassesOwn.never rfl (RZ.pi_zipA (by rfl) T.z_zip (pa_cons (pe_slice sl_tup (pv 0) (po_some pe_int) po_none) (pa_cons (pe_slice sl_tup (pv 1) (po_some pe_int) po_none) pa_nil))) (pg_tup rfl (pgs_cons (pg_name (i := 3) sc_fits.nd rfl (Or.inl rfl)) (pgs_cons (pg_name (i := 4) sc_fits.nd rfl (Or.inl rfl)) pgs_nil)))
    (pss_one (ps_if (pt_not (pt_val (pe_call G_fits hr_fits rfl T.m_fits T.F_fits.kp T.b_fits .nil pass0 (pa_cons (pv 3) (pa_cons (pv 4) (pa_cons (pv 2) pa_nil)))))) (pss_one (ps_ret pe_bl)) pss_nil)))
    (pss_one (ps_ret pe_bl))))), ?_⟩
    obtain ⟨y, ty, kt⟩ := hI.ty (K := K)
    refine ⟨_, rfl, _, _, y, _, _, rfl, .ty _, ty, kit_str kt, _, rfl, ite2 (fun c => ?_) (fun c => ?_)⟩
    · cases p with
      | oth => cases c
      | tup ts => cases c
      | str z =>
      cases hI with
      | str z k =>
      obtain ⟨kvs, e, ek, b⟩ : ∃ kvs : List (Key × V), H f = some (.dK kvs) ∧ kvs.length = al.length ∧ Paired (fun kv zt => kv.1 = Sum.inr zt.1 ∧ Is H kv.2 zt.2) kvs al := by
        obtain ⟨kvs, e, b⟩ := hA
        exact ⟨kvs, e, Paired.length b, b⟩
      refine ⟨_, rfl, f, rfl, .inl ⟨_, .of e⟩, _, rfl, _, rfl, kvs, Sum.inr z, e, rfl, ?_, fun v0 hv0 => ?_, fun hv0 => ?_⟩
      · rw [ek]; exact Nat.lt_of_le_of_lt (show al.length ≤ 100000 by omega) (by decide)
      · rcases pair_val z b with ⟨a, _⟩ | ⟨v1, t1, a, g, hI1⟩
        · rw [a] at hv0; cases hv0
        · rw [a] at hv0
          cases (Option.some.inj hv0)
          have d1 : dep t1 ≤ 60 := by
            unfold Kx.get at g
            cases qf : al.find? (fun kv => kv.1 == z) with
            | none => rw [qf] at g; cases g
            | some kv =>
              rw [qf] at g
              cases (Option.some.inj g)
              exact hd kv (List.mem_of_find?_eq_some qf)
          have ef : fit al (.str z) t = (eqD t1 t, al) := by simp only [fit, g]
          rw [ef] at q
          exact ⟨_, rfl, _, _, hI1.dp, hJ.dp, hI1.shaped (by omega), hJ.shaped (by omega), q H (.refl _ _) hA⟩
      · rcases pair_val z b with ⟨a, g⟩ | ⟨v1, t1, a, g, hI1⟩
        · have ef : fit al (.str z) t = (true, al ++ [(z, t)]) := by simp only [fit, g]
          rw [ef] at q
          have x : ExD f H (upd H f (.dK (putK kvs (Sum.inr z) u))) := .set _
          have hJ2 := hJ.exD x ⟨_, e⟩
          refine ⟨_, rfl, _, _, hJ2.dp, hJ2.dp, hJ2.shaped (by omega), hJ2.shaped (by omega), ?_⟩
          rw [show PyData.eqv (toD t) (toD t) = true from hJ.self]
          exact q _ x (AsD.put e b hv0 hJ)
        · rw [a] at hv0; cases hv0
    · obtain ⟨a, w, vs, ps, rfl, rfl, ea, hL, kw, lk, l2, hWl⟩ := wf_tup_inv hI hW (Bool.eq_false_iff.mpr c)
      have hlen := hL.len
      rw [dep_cons] at hn
      obtain ⟨y2, ty2, kt2⟩ := hJ.ty (K := K)
      refine ⟨_, rfl, _, _, y2, _, _, rfl, .ty _, ty2, kit_str kt2, _, rfl, ite2 (fun c2 => ?_) (fun c2 => ?_)⟩
      · cases t with
        | oth => cases c2
        | tup ts => cases c2
        | str z =>
          rw [fit_other] at q
          exact iteT (q H (.refl _ _) hA)
      · obtain ⟨a2, w2, vs2, ts, rfl, rfl, ea2, hL2, kw2, lk2, l22, hWl2⟩ := wf_tup_inv hJ hX (Bool.eq_false_iff.mpr c2)
        have hlen2 := hL2.len
        rw [dep_cons] at h60
        refine ⟨_, rfl, a, _, _, _, rfl, rfl, .inl (.inl ea), atI_nat (j := 0) rfl, _, rfl, a2, _, _, _, rfl, rfl, .inl (.inl ea2), atI_nat (j := 0) rfl, rfl, _, rfl, ?_⟩
        rw [fit_tups] at q
        by_cases ew : w = w2
        case neg =>
          rw [if_neg ew] at q
          refine ite2 (fun _ => q H (.refl _ _) hA) (fun c3 => ?_)
          exfalso
          apply c3
          show (!decide (V.str w = V.str w2)) = true
          rw [decide_eq_false (fun e => ew (V.str.inj e))]
          rfl
        rw [if_pos ew] at q
        subst ew
        have hpt : ps.length = ts.length := by
          rw [lk] at lk2
          have b := Option.some.inj lk2
          omega
        refine ite2 (fun c3 => absurd c3 (by simp)) (fun _ => ?_)
        refine ⟨_, rfl, _, rfl, a, _, rfl, .inl (.inl ea), slice1, fun p1 h1 => ?_⟩
        rw [cut1]
        have s1 := same_upd h1 (.tup vs)
        refine ⟨_, rfl, _, rfl, a2, _, rfl, .inl (.inl (s1 _ _ ea2)), slice1, fun p2 h2 => ?_⟩
        rw [cut1]
        have s2 := same_upd h2 (.tup vs2)
        have s12 := s1.trans s2
        have n12 : p1 ≠ p2 := ne_of_none upd_same h2
        refine ⟨p1, p2, vs, vs2, rfl, .inr ⟨.inl (.inl (s2 _ _ upd_same)), .inl (.inl upd_same), ?_⟩⟩
        refine RZ.for_zipT (K := K) (a := p1) (b := p2) (xs := vs) (ys := vs2) (by rw [hlen, hlen2, hpt]) (fun i σ H2 => ∃ y3 y4 al2, σ = [some (.ref a), some (.ref a2), some (.ref f), y3, y4] ∧ ExD f (upd (upd H p1 (.tup vs)) p2 (.tup vs2)) H2 ∧ AsD H2 f al2 ∧ Mid al ps ts i al2) ?_ ?_ ?_ ?_
        · refine ⟨none, none, al, rfl, .refl _ _, hA.same s12, rfl, hd, ?_⟩
          rw [List.drop_zero]
          simpa only [lc] using hl
        · intro i σ H2 ⟨_, _, _, _, x, _, _⟩
          have hD := (hA.same s12).isD
          exact ⟨.inl (.inl (x.tup hD (s2 _ _ upd_same))), .inl (.inl (x.tup hD upd_same))⟩
        · intro i x x2 Tt σ H2 hx hx2 ⟨y3, y4, al2, es, xd, hA2, hM⟩ nT
          subst es
          obtain ⟨y, ey, hy⟩ := hL.get hx
          obtain ⟨z, ez, hz⟩ := hL2.get hx2
          have hm := List.mem_of_getElem? ey
          have hm2 := List.mem_of_getElem? ez
          have dy := depL_mem hm
          have dz := depL_mem hm2
          have s3 := same_upd nT (.tup [x, x2])
          have hD := (hA.same s12).isD
          have up := fun {v t} (h : Is H v t) => ((h.same s12).exD xd hD).same s3
          obtain ⟨turn1, turn2⟩ := hM.turn ey ez (by omega)
          have hf := hM.few
          rw [lcL_get ey] at hf
          refine ⟨Tt, _, rfl, .inl (.inl upd_same), rfl, _, _, rfl, _, _, rfl, rfl, ?_⟩
          refine ⟨_, rfl, _, rfl, _, rfl, f, mk, x, x2, y, z, al2, rfl, hA2.same s3, up hy, up hz, mem_WfL hWl y hm, mem_WfL hWl2 z hm2, by omega, by omega, hM.dp, by omega, fun H3 xd3 hA3 => ⟨_, rfl, ?_⟩⟩
          have xall : ExD f H H3 := ((ExD.of s12).trans xd).trans ((ExD.of s3).trans xd3)
          cases hb : (fit al2 y z).1 with
          | false =>
            rw [turn2 hb] at q
            exact iteT (q H3 xall hA3)
          | true => exact iteF ⟨_, _, _, rfl, xd.trans ((ExD.of s3).trans xd3), hA3, turn1 hb⟩
        · intro σ H2 ⟨y3, y4, al2, es, xd, hA2, hM⟩
          subst es
          rw [hlen] at hM
          rw [hM.end_] at q
          exact q H2 ((ExD.of s12).trans xd) hA2
theorem ok_law_fit {n : Nat} (T : Txt K mg) (G_law_fit : FnOk P w K mg base CX0 (n+1) T.a_law_fit T.d_law_fit ["pattern", "term", "found"] (spFit n)) : FnOk P w K mg base CX0 (n+2) T.a_law_fit T.d_law_fit ["pattern", "term", "found"] (spFit (n+1)) := by
  refine T.F_law_fit.ok sc_law_fit (fun vs H Q E h => ?_) (fun cdv A outer s H vs Q E hr h => ?_)
  · obtain ⟨f, mk, v, u, p, t, al, rfl, _⟩ := h; rfl
  · obtain ⟨f, mk, v, u, p, t, al, rfl, hA, hI, hJ, hW, hX, hn, h60, hd, hl, q⟩ := h
    have hu := hu_of hr
    have hr_law_fit := hr
    refine ⟨_, (pss_cons (ps_if (pt_val (pe_callB call_isi (by rfl) T.z_isinstance (by decide +kernel) (pa_cons (pv 0) (pa_cons (pe_bltn rfl T.z_str (by decide +kernel) (show RelV (V.ty "str") (Value.type "str") from rfl)) pa_nil)))) (pss_cons (ps_if (pt_cmp (pc_din hu (pv 0) (pv 2))) (pss_one (ps_ret (pe_cmpR (op_eqD hr.units) (pe_dget hu (pv 2) (pv 0) (fun _ _ => rfl)) (pv 1) (nomark _)))) pss_nil)
    (pss_cons (ps_dput hu (pv 2) (pv 0) (pv 1) rfl)
    (pss_one (ps_ret pe_bl)))) pss_nil)
    (pss_cons (ps_if (PW.pt (pw_or (pt_val (pe_callB call_isi (by rfl) T.z_isinstance (by decide +kernel) (pa_cons (pv 1) (pa_cons (pe_bltn rfl T.z_str (by decide +kernel) (show RelV (V.ty "str") (Value.type "str") from rfl)) pa_nil)))) (pw_or1 (pt_cmpR op_ne (pe_ix ix_tup (pv 0) pe_int (fun _ _ => rfl)) (pe_ix ix_tup (pv 1) pe_int (fun _ _ => rfl)) (nomark _))))) (pss_one (ps_ret pe_bl)) pss_nil)
    (pss_cons (ps_for PassesOwn.never rfl (pi_range2 (by rfl) T.z_range (pa_cons pe_int (pa_cons (pe_callB call_len_seq (by rfl) T.z_len (by decide +kernel) (pa_cons (pv 0) pa_nil)) pa_nil))) (pg_name (i := 3) sc_law_fit.nd rfl (Or.inl rfl))
    (pss_one (ps_if (pt_not (pt_val (pe_call G_law_fit hr_law_fit rfl T.m_law_fit T.F_law_fit.kp T.b_law_fit .nil pass0 (pa_cons (pe_ix ix_tup (pv 0) (pv 3) (fun _ _ => rfl)) (pa_cons (pe_ix ix_tup (pv 1) (pv 3) (fun _ _ => rfl)) (pa_cons (pv 2) pa_nil)))))) (pss_one (ps_ret pe_bl)) pss_nil)))
    (pss_one (ps_ret pe_bl))))), ?_⟩
    obtain ⟨y, ty, kt⟩ := hI.ty (K := K)
    refine ⟨_, rfl, _, _, y, _, _, rfl, .ty _, ty, kit_str kt, _, rfl, ite2 (fun c => ?_) (fun c => ?_)⟩
    · cases p with
      | oth => cases c
      | tup ts => cases c
      | str z =>
      cases hI with
      | str z k =>
      obtain ⟨kvs, e, ek, b⟩ : ∃ kvs : List (Key × V), H f = some (.dK kvs) ∧ kvs.length = al.length ∧ Paired (fun kv zt => kv.1 = Sum.inr zt.1 ∧ Is H kv.2 zt.2) kvs al := by
        obtain ⟨kvs, e, b⟩ := hA
        exact ⟨kvs, e, Paired.length b, b⟩
      refine ⟨_, rfl, _, rfl, f, _, rfl, DGet.k (k := Sum.inr z) e, _, rfl, ?_⟩
      rcases pair_val z b with ⟨a, g⟩ | ⟨v1, t1, a, g, hI1⟩
      · rw [a]
        have ef : fit al (.str z) t = (true, al ++ [(z, t)]) := by simp only [fit, g]
        rw [ef] at q
        have x : ExD f H (upd H f (.dK (putK kvs (Sum.inr z) u))) := .set _
        refine ite2 (fun c => absurd c (by simp)) (fun _ => ?_)
        refine ⟨_, rfl, _, rfl, _, rfl, f, _, rfl, DPut.k (k := Sum.inr z) e ?_, ?_⟩
        · rw [ek]; exact Nat.lt_of_le_of_lt (show al.length ≤ 100000 by omega) (by decide)
        · exact q _ x (AsD.put e b a hJ)
      · rw [a]
        have d1 : dep t1 ≤ 60 := by
          unfold Kx.get at g
          cases qf : al.find? (fun kv => kv.1 == z) with
          | none => rw [qf] at g; cases g
          | some kv =>
            rw [qf] at g
            cases (Option.some.inj g)
            exact hd kv (List.mem_of_find?_eq_some qf)
        have ef : fit al (.str z) t = (eqD t1 t, al) := by simp only [fit, g]
        rw [ef] at q
        refine ite2 (fun _ => ?_) (fun c => absurd rfl c)
        have hget := DGet.k (k := Sum.inr z) e
        rw [a] at hget
        exact ⟨_, rfl, _, rfl, f, _, rfl, hget, _, rfl, _, _, hI1.dp, hJ.dp, hI1.shaped (by omega), hJ.shaped (by omega), q H (.refl _ _) hA⟩
    · obtain ⟨a, w, vs, ps, rfl, rfl, ea, hL, kw, lk, l2, hWl⟩ := wf_tup_inv hI hW (Bool.eq_false_iff.mpr c)
      have hlen := hL.len
      rw [dep_cons] at hn
      obtain ⟨y2, ty2, kt2⟩ := hJ.ty (K := K)
      refine ⟨_, rfl, _, _, y2, _, _, rfl, .ty _, ty2, kit_str kt2, _, rfl, ite2 (fun c2 => ?_) (fun c2 => ?_)⟩
      · cases t with
        | oth => cases c2
        | tup ts => cases c2
        | str z =>
          rw [fit_other] at q
          exact iteT (q H (.refl _ _) hA)
      · obtain ⟨a2, w2, vs2, ts, rfl, rfl, ea2, hL2, kw2, lk2, l22, hWl2⟩ := wf_tup_inv hJ hX (Bool.eq_false_iff.mpr c2)
        have hlen2 := hL2.len
        rw [dep_cons] at h60
        refine ⟨_, rfl, a, _, _, _, rfl, rfl, .inl (.inl ea), atI_nat (j := 0) rfl, _, rfl, a2, _, _, _, rfl, rfl, .inl (.inl ea2), atI_nat (j := 0) rfl, rfl, _, rfl, ?_⟩
        rw [fit_tups] at q
        by_cases ew : w = w2
        case neg =>
          rw [if_neg ew] at q
          refine ite2 (fun _ => q H (.refl _ _) hA) (fun c3 => ?_)
          exfalso
          apply c3
          show (!decide (V.str w = V.str w2)) = true
          rw [decide_eq_false (fun e => ew (V.str.inj e))]
          rfl
        rw [if_pos ew] at q
        subst ew
        have hpt : ps.length = ts.length := by
          rw [lk] at lk2
          have b := Option.some.inj lk2
          omega
        refine ite2 (fun c3 => absurd c3 (by simp)) (fun _ => ?_)
        have lv : (((V.str w :: vs).length : Nat) : Int) = (ps.length : Int) + 1 := by rw [List.length_cons, hlen]; omega
        refine ⟨_, rfl, a, _, rfl, .inr (.inl (.inl ea)), 1, _, rfl, by omega, ?_⟩
        refine for_range (lo := 1) (n := ((((V.str w :: vs).length : Nat) : Int) - 1).toNat) (fun i σ H2 => ∃ y3 al2, σ = [some (.ref a), some (.ref a2), some (.ref f), y3] ∧ ExD f H H2 ∧ AsD H2 f al2 ∧ Mid al ps ts i al2) ?_ ?_ ?_
        · refine ⟨none, al, rfl, .refl _ _, hA, rfl, hd, ?_⟩
          rw [List.drop_zero]
          simpa only [lc] using hl
        · intro i σ H2 hi ⟨y3, al2, es, xd, hA2, hM⟩
          subst es
          rw [lv] at hi
          have hi1 : i < ps.length := by omega
          have hi2 : i < ts.length := by omega
          have hD := hA.isD
          have ey : ps[i]? = some ps[i] := List.getElem?_eq_getElem hi1
          have ez : ts[i]? = some ts[i] := List.getElem?_eq_getElem hi2
          have hx : vs[i]? = some (vs[i]'(by omega)) := List.getElem?_eq_getElem _
          have hx2 : vs2[i]? = some (vs2[i]'(by omega)) := List.getElem?_eq_getElem _
          obtain ⟨y, ey', hy⟩ := hL.get hx
          obtain ⟨z, ez', hz⟩ := hL2.get hx2
          have hm := List.mem_of_getElem? ey'
          have hm2 := List.mem_of_getElem? ez'
          have dy := depL_mem hm
          have dz := depL_mem hm2
          obtain ⟨turn1, turn2⟩ := hM.turn ey' ez' (by omega)
          have hf := hM.few
          rw [lcL_get ey'] at hf
          have ki : (1 : Int) + (i : Int) = ((i + 1 : Nat) : Int) := by omega
          have at1 : atI (V.str w :: vs) ((i + 1 : Nat) : Int) = some (vs[i]'(by omega)) := atI_nat (by rw [List.getElem?_cons_succ]; exact hx)
          have at2 : atI (V.str w :: vs2) ((i + 1 : Nat) : Int) = some (vs2[i]'(by omega)) := atI_nat (by rw [List.getElem?_cons_succ]; exact hx2)
          rw [← ki] at at1 at2
          refine ⟨_, rfl, _, rfl, a, _, _, _, rfl, rfl, .inl (.inl (xd.tup hD ea)), at1, _, rfl, _, rfl, a2, _, _, _, rfl, rfl, .inl (.inl (xd.tup hD ea2)), at2, _, rfl, ?_⟩
          refine ⟨f, mk, _, _, y, z, al2, rfl, hA2, hy.exD xd hD, hz.exD xd hD, mem_WfL hWl y hm, mem_WfL hWl2 z hm2, by omega, by omega, hM.dp, by omega, fun H3 xd3 hA3 => ⟨_, rfl, ?_⟩⟩
          cases hb : (fit al2 y z).1 with
          | false =>
            rw [turn2 hb] at q
            exact iteT (q H3 (xd.trans xd3) hA3)
          | true => exact iteF ⟨_, _, rfl, xd.trans xd3, hA3, turn1 hb⟩
        · intro σ H2 ⟨y3, al2, es, xd, hA2, hM⟩
          subst es
          rw [lv, show ((ps.length : Int) + 1 - 1).toNat = ps.length by omega] at hM
          rw [hM.end_] at q
          exact q H2 xd hA2
end
end Kx
namespace Kx
open PySem PySem.Spec PyProof.Rows L2
section
variable {P : Program} {w : World} {K : PySem.W.Frag} {mg : Str → Option Value} {base : Heap}
theorem ok_fitted {n : Nat} (T : Txt K mg) (G_fits : FnOk P w K mg base CX0 (n+1) T.a_fits T.d_fits ["pattern", "term", "found"] (spFit n)) : FnOk P w K mg base CX0 (n+2) T.a_fitted T.d_fitted ["patterns", "terms"] (spFitted K n) := by
  refine T.F_fitted.ok sc_fitted (fun vs H Q E h => ?_) (fun cdv A outer s H vs Q E hr h => ?_)
  · obtain ⟨a, b, mk, xs, ys, ps, ts, rfl, _⟩ := h; rfl
  · obtain ⟨a, b, mk, xs, ys, ps, ts, rfl, hAB, hL, hL2, hW, hX, hpt, hn, ht60, hlc, h1000, q1, q2⟩ := h
    have hr_fits := hr
    refine ⟨_, (pss_cons (ps_set (i := 2) sc_fitted.nd rfl (Or.inl rfl) pe_dnewK)
    (pss_cons (ps_for PassesOwn.never rfl (RZ.pi_zipA (by rfl) T.z_zip (pa_cons (pv 0) (pa_cons (pv 1) pa_nil))) (pg_tup rfl (pgs_cons (pg_name (i := 3) sc_fitted.nd rfl (Or.inl rfl)) (pgs_cons (pg_name (i := 4) sc_fitted.nd rfl (Or.inl rfl)) pgs_nil)))
    (pss_one (ps_if (pt_not (pt_val (pe_call G_fits hr_fits rfl T.m_fits T.F_fits.kp T.b_fits .nil pass0 (pa_cons (pv 3) (pa_cons (pv 4) (pa_cons (pv 2) pa_nil)))))) (pss_one (ps_ret pe_non)) pss_nil)))
    (pss_one (ps_ret (pv 2))))), ?_⟩
    refine fun f hf0 => ?_
    have s0 := same_upd hf0 (.dK [])
    have fin : ∀ {H3 : Hp}, ExD f (upd H f (.dK [])) H3 → Same H H3 := fun x b o e => by
      have nb := ne_of_none e hf0
      exact x b o nb (by rw [upd_ne nb]; exact e)
    rcases hAB with ⟨eA, eB⟩ | ⟨eA, eB⟩
    · have nA := ne_of_none eA hf0
      have nB := ne_of_none eB hf0
      refine ⟨_, rfl, _, rfl, a, b, xs, ys, rfl, .inl ⟨SqL.of (s0 _ _ eA), SqL.of (s0 _ _ eB), ?_⟩⟩
      refine RZ.for_zipL (K := K) (a := a) (b := b) (xs := xs) (ys := ys) (by rw [hL.len, hL2.len, hpt]) (fun i σ H2 => ∃ y3 y4 al2, σ = [some (.ref a), some (.ref b), some (.ref f), y3, y4] ∧ ExD f (upd H f (.dK [])) H2 ∧ AsD H2 f al2 ∧ Mid [] ps ts i al2) ?_ ?_ ?_ ?_
      · refine ⟨none, none, [], rfl, .refl _ _, ⟨[], upd_same, .nil⟩, rfl, fun kv hk => by simp at hk, ?_⟩
        rw [List.drop_zero]; simpa using hlc
      · intro i σ H2 ⟨_, _, _, _, x, _, _⟩
        exact ⟨SqL.of (x _ _ nA (s0 _ _ eA)), SqL.of (x _ _ nB (s0 _ _ eB))⟩
      · intro i x x2 Tt σ H2 hx hx2 ⟨y3, y4, al2, es, xd, hA2, hM⟩ nT
        subst es
        obtain ⟨y, ey, hy⟩ := hL.get hx
        obtain ⟨z, ez, hz⟩ := hL2.get hx2
        have hm := List.mem_of_getElem? ey
        have hm2 := List.mem_of_getElem? ez
        have s3 := same_upd nT (.tup [x, x2])
        have up := fun {v t} (h : Is H v t) => ((h.same s0).exD xd ⟨[], upd_same⟩).same s3
        obtain ⟨turn1, turn2⟩ := hM.turn ey ez (ht60 z hm2)
        have hf := hM.few
        rw [lcL_get ey] at hf
        refine ⟨Tt, _, rfl, .inl (.inl upd_same), rfl, _, _, rfl, _, _, rfl, rfl, ?_⟩
        refine ⟨_, rfl, _, rfl, _, rfl, f, mk, x, x2, y, z, al2, rfl, hA2.same s3, up hy, up hz, mem_WfL hW y hm, mem_WfL hX z hm2, hn y hm, ht60 z hm2, hM.dp, by omega, fun H3 xd3 hA3 => ⟨_, rfl, ?_⟩⟩
        have xall := xd.trans ((ExD.of s3).trans xd3)
        cases hb : (fit al2 y z).1 with
        | false =>
          refine iteT (q2 (by rw [turn2 hb]) H3 (fin xall))
        | true => exact iteF ⟨_, _, _, rfl, xall, hA3, turn1 hb⟩
      · intro σ H2 ⟨y3, y4, al2, es, xd, hA2, hM⟩
        subst es
        rw [hL.len] at hM
        have e := hM.end_
        rw [e] at q1
        exact ⟨_, rfl, q1 rfl f H2 (fin xd) hf0 hA2⟩
    · have keep : ∀ {H2 : Hp} {c : Addr} {zs : List V}, ExD f (upd H f (.dK [])) H2 → SqT K H c zs → SqT K H2 c zs := fun x h => by
        rcases h with (e | ⟨o, e⟩) | e
        · exact .inl (.inl (fin x _ _ e))
        · exact .inl (.inr ⟨o, fin x _ _ e⟩)
        · exact .inr e
      refine ⟨_, rfl, _, rfl, a, b, xs, ys, rfl, .inr ⟨keep (.refl _ _) eA, keep (.refl _ _) eB, ?_⟩⟩
      refine RZ.for_zipT (K := K) (a := a) (b := b) (xs := xs) (ys := ys) (by rw [hL.len, hL2.len, hpt]) (fun i σ H2 => ∃ y3 y4 al2, σ = [some (.ref a), some (.ref b), some (.ref f), y3, y4] ∧ ExD f (upd H f (.dK [])) H2 ∧ AsD H2 f al2 ∧ Mid [] ps ts i al2) ?_ ?_ ?_ ?_
      · refine ⟨none, none, [], rfl, .refl _ _, ⟨[], upd_same, .nil⟩, rfl, fun kv hk => by simp at hk, ?_⟩
        rw [List.drop_zero]; simpa using hlc
      · intro i σ H2 ⟨_, _, _, _, x, _, _⟩
        exact ⟨keep x eA, keep x eB⟩
      · intro i x x2 Tt σ H2 hx hx2 ⟨y3, y4, al2, es, xd, hA2, hM⟩ nT
        subst es
        obtain ⟨y, ey, hy⟩ := hL.get hx
        obtain ⟨z, ez, hz⟩ := hL2.get hx2
        have hm := List.mem_of_getElem? ey
        have hm2 := List.mem_of_getElem? ez
        have s3 := same_upd nT (.tup [x, x2])
        have up := fun {v t} (h : Is H v t) => ((h.same s0).exD xd ⟨[], upd_same⟩).same s3
        obtain ⟨turn1, turn2⟩ := hM.turn ey ez (ht60 z hm2)
        have hf := hM.few
        rw [lcL_get ey] at hf
        refine ⟨Tt, _, rfl, .inl (.inl upd_same), rfl, _, _, rfl, _, _, rfl, rfl, ?_⟩
        refine ⟨_, rfl, _, rfl, _, rfl, f, mk, x, x2, y, z, al2, rfl, hA2.same s3, up hy, up hz, mem_WfL hW y hm, mem_WfL hX z hm2, hn y hm, ht60 z hm2, hM.dp, by omega, fun H3 xd3 hA3 => ⟨_, rfl, ?_⟩⟩
        have xall := xd.trans ((ExD.of s3).trans xd3)
        cases hb : (fit al2 y z).1 with
        | false =>
          refine iteT (q2 (by rw [turn2 hb]) H3 (fin xall))
        | true => exact iteF ⟨_, _, _, rfl, xall, hA3, turn1 hb⟩
      · intro σ H2 ⟨y3, y4, al2, es, xd, hA2, hM⟩
        subst es
        rw [hL.len] at hM
        have e := hM.end_
        rw [e] at q1
        exact ⟨_, rfl, q1 rfl f H2 (fin xd) hf0 hA2⟩
def spFittedL (n : Nat) : Sp := fun vs H Q _ => ∃ (a b : Addr) (mk : List (Str × Int)) (xs ys : List V) (ps ts : List PV), vs = [.ref a, .ref b] ∧ H a = some (.lst xs) ∧ H b = some (.lst ys) ∧ IsL H xs ps ∧ IsL H ys ts ∧ WfL mk ps ∧ WfL mk ts ∧ ps.length = ts.length ∧ (∀ t ∈ ps, dep t ≤ n) ∧ (∀ t ∈ ts, dep t ≤ 60) ∧ lcL ps ≤ 100000 ∧ ps.length ≤ 1000 ∧
  ((fitL [] ps ts).1 = true → ∀ f H', Same H H' → H f = none → AsD H' f (fitL [] ps ts).2 → Q (.ref f) H') ∧ ((fitL [] ps ts).1 = false → ∀ H', Same H H' → Q .non H')
theorem ok_law_fitted {n : Nat} (T : Txt K mg) (G_law_fit : FnOk P w K mg base CX0 (n+1) T.a_law_fit T.d_law_fit ["pattern", "term", "found"] (spFit n)) : FnOk P w K mg base CX0 (n+2) T.a_law_fitted T.d_law_fitted ["patterns", "terms"] (spFittedL n) := by
  refine T.F_law_fitted.ok sc_law_fitted (fun vs H Q E h => ?_) (fun cdv A outer s H vs Q E hr h => ?_)
  · obtain ⟨a, b, mk, xs, ys, ps, ts, rfl, _⟩ := h; rfl
  · obtain ⟨a, b, mk, xs, ys, ps, ts, rfl, eA, eB, hL, hL2, hW, hX, hpt, hn, ht60, hlc, h1000, q1, q2⟩ := h
    have hr_law_fit := hr
    refine ⟨_, (pss_cons (ps_set (i := 2) sc_law_fitted.nd rfl (Or.inl rfl) pe_dnewK)
    (pss_cons (ps_for PassesOwn.never rfl (pi_range1 (by rfl) T.z_range (pa_cons (pe_callB call_len_seq (by rfl) T.z_len (by decide +kernel) (pa_cons (pv 0) pa_nil)) pa_nil)) (pg_name (i := 3) sc_law_fitted.nd rfl (Or.inl rfl))
    (pss_one (ps_if (pt_not (pt_val (pe_call G_law_fit hr_law_fit rfl T.m_law_fit T.F_law_fit.kp T.b_law_fit .nil pass0 (pa_cons (pe_ix ix_list (pv 0) (pv 3) (fun _ _ => rfl)) (pa_cons (pe_ix ix_list (pv 1) (pv 3) (fun _ _ => rfl)) (pa_cons (pv 2) pa_nil)))))) (pss_one (ps_ret pe_non)) pss_nil)))
    (pss_one (ps_ret (pv 2))))), ?_⟩
    refine fun f hf0 => ?_
    have s0 := same_upd hf0 (.dK [])
    have fin : ∀ {H3 : Hp}, ExD f (upd H f (.dK [])) H3 → Same H H3 := fun x b o e => by
      have nb := ne_of_none e hf0
      exact x b o nb (by rw [upd_ne nb]; exact e)
    have hl := hL.len
    have hl2 := hL2.len
    refine ⟨_, rfl, a, _, rfl, .inl (SqL.of (s0 _ _ eA)), _, rfl, by omega, by omega, ?_⟩
    refine for_range (lo := 0) (n := ((xs.length : Nat) : Int).toNat) (fun i σ H2 => ∃ y3 al2, σ = [some (.ref a), some (.ref b), some (.ref f), y3] ∧ ExD f (upd H f (.dK [])) H2 ∧ AsD H2 f al2 ∧ Mid [] ps ts i al2) ?_ ?_ ?_
    · refine ⟨none, [], rfl, .refl _ _, ⟨[], upd_same, .nil⟩, rfl, fun kv hk => by simp at hk, ?_⟩
      rw [List.drop_zero]; simpa using hlc
    · intro i σ H2 hi ⟨y3, al2, es, xd, hA2, hM⟩
      subst es
      have hi1 : i < xs.length := by omega
      have hi2 : i < ys.length := by omega
      have hx : xs[i]? = some xs[i] := List.getElem?_eq_getElem _
      have hx2 : ys[i]? = some ys[i] := List.getElem?_eq_getElem _
      obtain ⟨y, ey, hy⟩ := hL.get hx
      obtain ⟨z, ez, hz⟩ := hL2.get hx2
      have hm := List.mem_of_getElem? ey
      have hm2 := List.mem_of_getElem? ez
      obtain ⟨turn1, turn2⟩ := hM.turn ey ez (ht60 z hm2)
      have hf := hM.few
      rw [lcL_get ey] at hf
      have ki : (0 : Int) + (i : Int) = ((i : Nat) : Int) := by omega
      have at1 : atI xs ((i : Nat) : Int) = some xs[i] := atI_nat hx
      have at2 : atI ys ((i : Nat) : Int) = some ys[i] := atI_nat hx2
      rw [← ki] at at1 at2
      have f1 := fin xd _ _ eA
      have f2 := fin xd _ _ eB
      refine ⟨_, rfl, _, rfl, a, _, _, _, rfl, rfl, SqL.of f1, at1, _, rfl, _, rfl, b, _, _, _, rfl, rfl, SqL.of f2, at2, _, rfl, ?_⟩
      refine ⟨f, mk, _, _, y, z, al2, rfl, hA2, hy.same (fin xd), hz.same (fin xd), mem_WfL hW y hm, mem_WfL hX z hm2, hn y hm, ht60 z hm2, hM.dp, by omega, fun H3 xd3 hA3 => ⟨_, rfl, ?_⟩⟩
      have xall := xd.trans xd3
      cases hb : (fit al2 y z).1 with
      | false => exact iteT (q2 (by rw [turn2 hb]) H3 (fin xall))
      | true => exact iteF ⟨_, _, rfl, xall, hA3, turn1 hb⟩
    · intro σ H2 ⟨y3, al2, es, xd, hA2, hM⟩
      subst es
      rw [show ((xs.length : Nat) : Int).toNat = ps.length by omega] at hM
      have e := hM.end_
      rw [e] at q1
      exact ⟨_, rfl, q1 rfl f H2 (fin xd) hf0 hA2⟩
end
end Kx
namespace Kx
open PySem PySem.Spec PyProof.Rows L2
section
variable {P : Program} {w : World} {K : PySem.W.Frag} {mg : Str → Option Value} {base : Heap}
theorem rising_pair : ∀ (l : List Str) (p : Str), risingS p l = true → (p :: l).Pairwise fun a b => a.cps.toList ≤ b.cps.toList
  | [], p, _ => List.pairwise_singleton ..
  | x :: r, p, h => by
    have h' : (!ltCps x.cps.toList p.cps.toList && risingS x r) = true := h
    rw [Bool.and_eq_true, ltCps_eq] at h'
    have ih := rising_pair r x h'.2
    have px : p.cps.toList ≤ x.cps.toList := by
      have := h'.1
      simpa using this
    refine List.pairwise_cons.mpr ⟨fun y hy => ?_, ih⟩
    rcases List.mem_cons.mp hy with rfl | hy
    · exact px
    · exact List.le_trans px ((List.pairwise_cons.mp ih).1 y hy)
theorem sorted_pair : ∀ (l : List Str), sortedS l = true → l.Pairwise fun a b => a.cps.toList ≤ b.cps.toList
  | [], _ => .nil
  | x :: r, h => rising_pair r x h
theorem str_ext {a b : Str} (h : a.cps.toList = b.cps.toList) : a = b := by
  cases a; cases b
  congr 1
  exact Array.toList_inj.mp h
theorem sorted_one {l ys zs : List Str} (p1 : ys.Perm l) (s1 : sortedS ys = true) (p2 : zs.Perm l) (s2 : sortedS zs = true) : ys = zs :=
  List.Perm.eq_of_pairwise (fun _ _ _ _ h1 h2 => str_ext (List.le_antisymm h1 h2)) (sorted_pair ys s1) (sorted_pair zs s2) (p1.trans p2.symm)
theorem dp_strs {H : Hp} : ∀ f : List Str, DpAll K H (f.map V.str) (f.map PyData.str)
  | [] => .nil
  | z :: r => .cons (.str z) (dp_strs r)
theorem lay_strs : ∀ f : List Str, (∀ z ∈ f, sok z = true) → PyData.canLayAll0 (f.map PyData.str) = true
  | [], _ => rfl
  | z :: r, h => by
    have a := h z (List.mem_cons_self ..)
    have b := lay_strs r fun x hx => h x (List.mem_cons_of_mem _ hx)
    show (PyData.canLay0 (.str z) && PyData.canLayAll0 (r.map PyData.str)) = true
    rw [b, Bool.and_true]
    simp only [PyData.canLay0]
    exact a
theorem depth_strs : ∀ f : List Str, PyData.depthAll (f.map PyData.str) = 0
  | [] => rfl
  | z :: r => by
    have b := depth_strs r
    show max (PyData.depth (.str z)) (PyData.depthAll (r.map PyData.str)) = 0
    rw [b]
    simp [PyData.depth]
theorem shaped_strs {f : List Str} (h : ∀ z ∈ f, sok z = true) : SeqAt.shaped (.list (f.map PyData.str)) = true := by
  have a := lay_strs f h
  have b := depth_strs f
  unfold SeqAt.shaped
  simp only [PyData.canLay0, PyData.depth, a, b, Bool.true_and]
  decide
theorem keys_at {H : Hp} : ∀ {kvs : List (Key × V)} {al : AL}, Paired (fun kv zt => kv.1 = Sum.inr zt.1 ∧ Is H kv.2 zt.2) kvs al → (kvs.map fun kv => kV kv.1) = (al.map (·.1)).map V.str
  | _, _, .nil => rfl
  | _, _, .cons ⟨e, _⟩ t => by
    rw [List.map_cons, List.map_cons, List.map_cons, keys_at t, e]
    rfl
theorem pair_get {H : Hp} : ∀ {kvs : List (Key × V)} {al : AL}, Paired (fun kv zt => kv.1 = Sum.inr zt.1 ∧ Is H kv.2 zt.2) kvs al → ∀ {i : Nat} {k : Key} {v : V}, kvs[i]? = some (k, v) → ∃ zt, al[i]? = some zt ∧ k = Sum.inr zt.1 ∧ Is H v zt.2
  | _, _, .nil, i, k, v, h => by simp at h
  | _, _, .cons (b := zt) ⟨e, h⟩ t, 0, k, v, q => by
    cases (Option.some.inj q)
    exact ⟨zt, rfl, e, h⟩
  | _, _, .cons _ t, i + 1, k, v, q => pair_get t (by simpa using q)
theorem get_mem : ∀ {al : AL}, (al.map (·.1)).Nodup → ∀ {zt : Str × PV}, zt ∈ al → Kx.get al zt.1 = some zt.2
  | [], _, zt, h => by simp at h
  | a :: r, nd, zt, h => by
    rw [List.map_cons] at nd
    obtain ⟨n1, n2⟩ := List.nodup_cons.mp nd
    rcases List.mem_cons.mp h with rfl | h
    · simp [Kx.get]
    · have ne : ¬ a.1 = zt.1 := fun e => n1 (by rw [e]; exact List.mem_map_of_mem h)
      have ih := get_mem n2 h
      unfold Kx.get at ih ⊢
      rw [List.find?_cons_of_neg (by simpa using ne)]
      exact ih
theorem rep_snoc (i : Nat) : (List.replicate i true).map V.bl ++ [V.bl true] = (List.replicate (i + 1) true).map V.bl := by
  rw [List.replicate_succ', List.map_append]; rfl
theorem rep_all (n : Nat) : (List.replicate n true).all id = true := by
  rw [List.all_eq_true]
  intro x hx
  exact (List.mem_replicate.mp hx).2
theorem ok_law_same {n : Nat} (T : Txt K mg) (G_law_same : FnOk P w K mg base CX0 (n+1) T.a_law_same T.d_law_same ["told", "due"] (spSame n)) : FnOk P w K mg base CX0 (n+2) T.a_law_same T.d_law_same ["told", "due"] (spSame (n+1)) := by
  refine T.F_law_same.ok sc_law_same (fun vs H Q E h => ?_) (fun cdv A outer s H vs Q E hr h => ?_)
  · obtain ⟨v, u, rfl, _⟩ := h; rfl
  · obtain ⟨v, u, rfl, h1, hS, q⟩ := h
    have hu := hu_of hr
    have hr_law_same := hr
    refine ⟨_, (pss_cons (ps_if (pt_val (pe_callB call_isi (by rfl) T.z_isinstance (by decide +kernel) (pa_cons (pv 1) (pa_cons (pe_bltn rfl T.z_dict (by decide +kernel) (show RelV (V.ty "dict") (Value.type "dict") from rfl)) pa_nil)))) (pss_cons (ps_if (PW.pt (pw_or (pt_not (pt_val (pe_callB call_isi (by rfl) T.z_isinstance (by decide +kernel) (pa_cons (pv 0) (pa_cons (pe_bltn rfl T.z_dict (by decide +kernel) (show RelV (V.ty "dict") (Value.type "dict") from rfl)) pa_nil))))) (pw_or1 (pt_cmpR (op_neD hr.units) (pe_callB cr_sortedS (by rfl) T.z_sorted (by decide +kernel) (pa_cons (pe_callTy (call_list_dK rfl) (by rfl) T.z_list (by decide +kernel) (pa_cons (pv 0) pa_nil)) pa_nil)) (pe_callB cr_sortedS (by rfl) T.z_sorted (by decide +kernel) (pa_cons (pe_callTy (call_list_dK rfl) (by rfl) T.z_list (by decide +kernel) (pa_cons (pv 1) pa_nil)) pa_nil)) (nomark _))))) (pss_one (ps_ret pe_bl)) pss_nil)
    (pss_one (ps_ret (pe_callB (cr_all rfl) (by rfl) T.z_all (by decide +kernel) (pa_cons (pe_lock (pe_lc (own := [("key", 2)]) (g := (gName 2)) (tt := tYes) rfl sc_law_same.nd (pi_keys (pv 1)) (blkOk_by (own := [("key", 2)]) (N := ["told", "due", "key", "k"]) (sc := defScope s_law_same) (by decide +kernel)) (fun _ _ _ _ _ => (pg_name (i := 2) sc_law_same.nd rfl (Or.inl rfl))) (fun _ _ _ _ _ => pts_nil) (fun _ _ _ _ _ => (pe_call G_law_same hr_law_same rfl T.m_law_same T.F_law_same.kp T.b_law_same .nil pass0 (pa_cons (pe_dget hu (pv 0) (pv 2) (fun _ _ => rfl)) (pa_cons (pe_dget hu (pv 1) (pv 2) (fun _ _ => rfl)) pa_nil)))))) pa_nil))))) pss_nil)
    (pss_cons (ps_if (pt_val (pe_callB call_isiT (by rfl) T.z_isinstance (by decide +kernel) (pa_cons (pv 1) (pa_cons (pe_tup (pa_cons (pe_bltn rfl T.z_list (by decide +kernel) (show RelV (V.ty "list") (Value.type "list") from rfl)) (pa_cons (pe_bltn rfl T.z_tuple (by decide +kernel) (show RelV (V.ty "tuple") (Value.type "tuple") from rfl)) pa_nil))) pa_nil)))) (pss_cons (ps_if (PW.pt (pw_or (pt_cmpR op_ne (pe_callB call_isi (by rfl) T.z_isinstance (by decide +kernel) (pa_cons (pv 0) (pa_cons (pe_bltn rfl T.z_list (by decide +kernel) (show RelV (V.ty "list") (Value.type "list") from rfl)) pa_nil))) (pe_callB call_isi (by rfl) T.z_isinstance (by decide +kernel) (pa_cons (pv 1) (pa_cons (pe_bltn rfl T.z_list (by decide +kernel) (show RelV (V.ty "list") (Value.type "list") from rfl)) pa_nil))) (nomark _)) (pw_or (pt_cmpR op_ne (pe_callB call_isi (by rfl) T.z_isinstance (by decide +kernel) (pa_cons (pv 0) (pa_cons (pe_bltn rfl T.z_tuple (by decide +kernel) (show RelV (V.ty "tuple") (Value.type "tuple") from rfl)) pa_nil))) (pe_callB call_isi (by rfl) T.z_isinstance (by decide +kernel) (pa_cons (pv 1) (pa_cons (pe_bltn rfl T.z_tuple (by decide +kernel) (show RelV (V.ty "tuple") (Value.type "tuple") from rfl)) pa_nil))) (nomark _)) (pw_or1 (pt_cmpR op_ne (pe_callB call_len_seq (by rfl) T.z_len (by decide +kernel) (pa_cons (pv 0) pa_nil)) (pe_callB call_len_seq (by rfl) T.z_len (by decide +kernel) (pa_cons (pv 1) pa_nil)) (nomark _)))))) (pss_one (ps_ret pe_bl)) pss_nil)
    (pss_one (ps_ret (pe_callB (cr_all rfl) (by rfl) T.z_all (by decide +kernel) (pa_cons (pe_lc (own := [("k", 3)]) (g := (gName 3)) (tt := tYes) rfl sc_law_same.nd (pi_range1 (by rfl) T.z_range (pa_cons (pe_callB call_len_seq (by rfl) T.z_len (by decide +kernel) (pa_cons (pv 1) pa_nil)) pa_nil)) (blkOk_by (own := [("k", 3)]) (N := ["told", "due", "key", "k"]) (sc := defScope s_law_same) (by decide +kernel)) (fun _ _ _ _ _ => (pg_name (i := 3) sc_law_same.nd rfl (Or.inl rfl))) (fun _ _ _ _ _ => pts_nil) (fun _ _ _ _ _ => (pe_call G_law_same hr_law_same rfl T.m_law_same T.F_law_same.kp T.b_law_same .nil pass0 (pa_cons (pe_ix (ixSK (K := K)) (pv 0) (pv 3) (fun _ _ => rfl)) (pa_cons (pe_ix (ixSK (K := K)) (pv 1) (pv 3) (fun _ _ => rfl)) pa_nil))))) pa_nil))))) pss_nil)
    (pss_cons (ps_if (pt_val (pe_callB call_isi (by rfl) T.z_isinstance (by decide +kernel) (pa_cons (pv 1) (pa_cons (pe_bltn rfl T.z_str (by decide +kernel) (show RelV (V.ty "str") (Value.type "str") from rfl)) pa_nil)))) (pss_one (ps_ret (pe_and (pe_callB call_isi (by rfl) T.z_isinstance (by decide +kernel) (pa_cons (pv 0) (pa_cons (pe_bltn rfl T.z_str (by decide +kernel) (show RelV (V.ty "str") (Value.type "str") from rfl)) pa_nil))) (pe_one (pe_cmpR op_eq (pv 0) (pv 1) (nomark _)))))) pss_nil)
    (pss_cons (ps_if (pt_cmpR op_isN (pv 1) pe_non (nomark _)) (pss_one (ps_ret (pe_cmpR op_isN (pv 0) pe_non (nomark _)))) pss_nil)
    (pss_cons (ps_if (PW.pt (pw_or (pt_val (pe_callB call_isi (by rfl) T.z_isinstance (by decide +kernel) (pa_cons (pv 1) (pa_cons (pe_bltn rfl T.z_bool (by decide +kernel) (show RelV (V.ty "bool") (Value.type "bool") from rfl)) pa_nil)))) (pw_or1 (pt_val (pe_callB call_isi (by rfl) T.z_isinstance (by decide +kernel) (pa_cons (pv 0) (pa_cons (pe_bltn rfl T.z_bool (by decide +kernel) (show RelV (V.ty "bool") (Value.type "bool") from rfl)) pa_nil))))))) (pss_one (ps_ret (pe_and (pe_callB call_isi (by rfl) T.z_isinstance (by decide +kernel) (pa_cons (pv 0) (pa_cons (pe_bltn rfl T.z_bool (by decide +kernel) (show RelV (V.ty "bool") (Value.type "bool") from rfl)) pa_nil))) (pe_and (pe_callB call_isi (by rfl) T.z_isinstance (by decide +kernel) (pa_cons (pv 1) (pa_cons (pe_bltn rfl T.z_bool (by decide +kernel) (show RelV (V.ty "bool") (Value.type "bool") from rfl)) pa_nil))) (pe_one (pe_cmpR op_eq (pv 0) (pv 1) (nomark _))))))) pss_nil)
    (pss_one (ps_ret (pe_and (pe_callB call_isi (by rfl) T.z_isinstance (by decide +kernel) (pa_cons (pv 0) (pa_cons (pe_bltn rfl T.z_int (by decide +kernel) (show RelV (V.ty "int") (Value.type "int") from rfl)) pa_nil))) (pe_one (pe_cmpR op_eq (pv 0) (pv 1) (nomark _))))))))))), ?_⟩
    rcases hS with ⟨mk, t, hI, hJ, hW, hd⟩ | ⟨a, b, mk, xs, ys, ts, rfl, rfl, ea, eb, hL, hL2, hW, hd, few⟩ | ⟨rfl, rfl⟩ | ⟨a, b, mk, al, rfl, rfl, nab, hA, hB, nd, hk, few⟩
    · cases t with
      | oth => exact absurd hW (by simp [Wf])
      | str z =>
        cases hI with
        | str z k =>
        cases hJ.str_inv
        refine ⟨_, rfl, _, _, _, _, false, rfl, .ty _, .base (.str z), kit_ty (by decide +kernel), _, rfl, iteF ⟨_, rfl, (by show 2 ≤ sizeLine; decide), fun tp htp => ?_⟩⟩
        have st := same_upd htp (.tup [.ty "list", .ty "tuple"])
        refine ⟨_, tp, _, _, _, false, rfl, upd_same, .cons (.ty _) (.cons (.ty _) .nil), .base (.str z), kitAny_cons (kit_ty (r := false) (by decide +kernel)) (fun _ => kitAny_cons (kit_ty (r := false) (by decide +kernel)) (fun _ => kitAny_nil) (fun e => by cases e)) (fun e => by cases e), _, rfl, iteF ?_⟩
        refine ⟨_, rfl, _, _, _, _, true, rfl, .ty _, .base (.str z), kit_ty (by decide +kernel), _, rfl, iteT ?_⟩
        refine ⟨_, rfl, _, _, _, _, true, rfl, .ty _, .base (.str z), kit_ty (by decide +kernel), _, rfl, iteT ⟨_, rfl, _, rfl, rfl, ?_⟩⟩
        rw [decide_eq_true rfl]
        exact q _ st
      | tup tl =>
      obtain ⟨a, xs, rfl, ea, hL⟩ := hI.tup_inv
      obtain ⟨b, ys, rfl, eb, hL2⟩ := hJ.tup_inv
      obtain ⟨w, r, rfl, _, l2, hWl⟩ := wf_inv hW
      have hW' : WfL mk (.str w :: r) := ⟨trivial, hWl⟩
      rw [dep_cons] at hd
      have hd' : ∀ t ∈ (PV.str w :: r), dep t ≤ n := fun t ht => by
        rcases List.mem_cons.mp ht with rfl | ht
        · simp only [dep]; omega
        · have := depL_mem ht; omega
      have few : (PV.str w :: r).length ≤ 10 := by rw [List.length_cons]; omega
      refine ⟨_, rfl, _, _, _, _, false, rfl, .ty _, .base (.tup eb), kit_ty (by decide +kernel), _, rfl, iteF ⟨_, rfl, ?_⟩⟩
      refine ⟨(by show 2 ≤ sizeLine; decide), fun tp htp => ?_⟩
      have st := same_upd htp (.tup [.ty "list", .ty "tuple"])
      refine ⟨_, tp, _, _, _, true, rfl, upd_same, .cons (.ty _) (.cons (.ty _) .nil), .base (.tup (st _ _ eb)), kitAny_cons (kit_ty (r := false) (by decide +kernel)) (fun _ => kitAny_cons (kit_ty (r := true) (by decide +kernel)) (fun e => by cases e) (fun _ => rfl)) (fun e => by cases e), _, rfl, iteT ?_⟩
      refine ⟨_, rfl, _, _, _, _, false, rfl, .ty _, .base (.tup (st _ _ ea)), kit_ty (by decide +kernel), _, rfl, _, _, _, _, false, rfl, .ty _, .base (.tup (st _ _ eb)), kit_ty (by decide +kernel), rfl, _, rfl, ?_⟩
      refine ite2 (fun c => absurd c (by simp)) (fun _ => ?_)
      refine ⟨_, rfl, _, _, _, _, true, rfl, .ty _, .base (.tup (st _ _ ea)), kit_ty (by decide +kernel), _, rfl, _, _, _, _, true, rfl, .ty _, .base (.tup (st _ _ eb)), kit_ty (by decide +kernel), rfl, _, rfl, ?_⟩
      refine ite2 (fun c => absurd c (by simp)) (fun _ => ?_)
      refine ⟨_, rfl, a, _, rfl, .inr (.inl (.inl (st _ _ ea))), _, rfl, b, _, rfl, .inr (.inl (.inl (st _ _ eb))), rfl, _, rfl, ?_⟩
      refine ite2 (fun c => absurd c (by rw [hL.len, hL2.len]; simp)) (fun _ => ?_)
      refine ⟨_, rfl, b, _, rfl, .inr (.inl (.inl (st _ _ eb))), _, rfl, by omega, ?_, fun D hD => ?_⟩
      · rw [hL2.len]; omega
      refine lc_range (lo := 0) (n := ((ys.length : Nat) : Int).toNat) (fun i H3 => Same (upd H tp (.tup [.ty "list", .ty "tuple"])) H3 ∧ H3 D = some (.lst ((List.replicate i true).map V.bl))) ?_ ?_ ?_
      · exact ⟨same_upd hD _, upd_same⟩
      · intro i H3 hi ⟨sm, eD⟩
        have s03 := st.trans sm
        have i1 : i < ys.length := by omega
        have i2 : i < xs.length := by rw [hL.len, ← hL2.len]; exact i1
        obtain ⟨y, ey, hy⟩ := hL.get (List.getElem?_eq_getElem i2)
        obtain ⟨z, ez, hz⟩ := hL2.get (List.getElem?_eq_getElem i1)
        rw [ey] at ez
        cases (Option.some.inj ez)
        have hm := List.mem_of_getElem? ey
        have ki : (0 : Int) + (i : Int) = ((i : Nat) : Int) := by omega
        have at1 : atI xs ((i : Nat) : Int) = some xs[i] := atI_nat (List.getElem?_eq_getElem i2)
        have at2 : atI ys ((i : Nat) : Int) = some ys[i] := atI_nat (List.getElem?_eq_getElem i1)
        rw [← ki] at at1 at2
        refine ⟨rfl, yes_if ?_⟩
        refine ⟨_, rfl, _, rfl, .inr (.inl ⟨a, _, _, _, rfl, rfl, .inl (.inl (s03 _ _ ea)), at1, ?_⟩)⟩
        refine ⟨_, rfl, _, rfl, .inr (.inl ⟨b, _, _, _, rfl, rfl, .inl (.inl (s03 _ _ eb)), at2, ?_⟩)⟩
        refine ⟨_, _, rfl, by have := hd' y hm; have := dep_pos y; omega, .inl ⟨mk, y, hy.same s03, hz.same s03, mem_WfL hW' y hm, hd' y hm⟩, fun H4 s4 => ?_⟩
        refine ⟨_, s4 _ _ eD, ?_, Kx.Same.own (sm.trans s4) hD _, ?_⟩
        · rw [List.length_map, List.length_replicate]
          have := hL2.len
          exact small1000 (by omega)
        · rw [upd_same, rep_snoc]
      · intro H3 ⟨sm, eD⟩
        refine ⟨D, _, rfl, SqL.of eD, ?_⟩
        rw [rep_all]
        exact q H3 (st.trans sm)
    · refine ⟨_, rfl, _, _, _, _, false, rfl, .ty _, .base (.lst eb), kit_ty (by decide +kernel), _, rfl, iteF ⟨_, rfl, ?_⟩⟩
      refine ⟨(by show 2 ≤ sizeLine; decide), fun tp htp => ?_⟩
      have st := same_upd htp (.tup [.ty "list", .ty "tuple"])
      refine ⟨_, tp, _, _, _, true, rfl, upd_same, .cons (.ty _) (.cons (.ty _) .nil), .base (.lst (st _ _ eb)), kitAny_cons (kit_ty (r := true) (by decide +kernel)) (fun e => by cases e) (fun _ => rfl), _, rfl, iteT ?_⟩
      refine ⟨_, rfl, _, _, _, _, true, rfl, .ty _, .base (.lst (st _ _ ea)), kit_ty (by decide +kernel), _, rfl, _, _, _, _, true, rfl, .ty _, .base (.lst (st _ _ eb)), kit_ty (by decide +kernel), rfl, _, rfl, ?_⟩
      refine ite2 (fun c => absurd c (by simp)) (fun _ => ?_)
      refine ⟨_, rfl, _, _, _, _, false, rfl, .ty _, .base (.lst (st _ _ ea)), kit_ty (by decide +kernel), _, rfl, _, _, _, _, false, rfl, .ty _, .base (.lst (st _ _ eb)), kit_ty (by decide +kernel), rfl, _, rfl, ?_⟩
      refine ite2 (fun c => absurd c (by simp)) (fun _ => ?_)
      refine ⟨_, rfl, a, _, rfl, .inl (SqL.of (st _ _ ea)), _, rfl, b, _, rfl, .inl (SqL.of (st _ _ eb)), rfl, _, rfl, ?_⟩
      refine ite2 (fun c => absurd c (by rw [hL.len, hL2.len]; simp)) (fun _ => ?_)
      refine ⟨_, rfl, b, _, rfl, .inl (SqL.of (st _ _ eb)), _, rfl, by omega, ?_, fun D hD => ?_⟩
      · rw [hL2.len]; omega
      refine lc_range (lo := 0) (n := ((ys.length : Nat) : Int).toNat) (fun i H3 => Same (upd H tp (.tup [.ty "list", .ty "tuple"])) H3 ∧ H3 D = some (.lst ((List.replicate i true).map V.bl))) ?_ ?_ ?_
      · exact ⟨same_upd hD _, upd_same⟩
      · intro i H3 hi ⟨sm, eD⟩
        have s03 := st.trans sm
        have i1 : i < ys.length := by omega
        have i2 : i < xs.length := by rw [hL.len, ← hL2.len]; exact i1
        obtain ⟨y, ey, hy⟩ := hL.get (List.getElem?_eq_getElem i2)
        obtain ⟨z, ez, hz⟩ := hL2.get (List.getElem?_eq_getElem i1)
        rw [ey] at ez
        cases (Option.some.inj ez)
        have hm := List.mem_of_getElem? ey
        have dy := hd y hm
        have dp := dep_pos y
        have ki : (0 : Int) + (i : Int) = ((i : Nat) : Int) := by omega
        have at1 : atI xs ((i : Nat) : Int) = some xs[i] := atI_nat (List.getElem?_eq_getElem i2)
        have at2 : atI ys ((i : Nat) : Int) = some ys[i] := atI_nat (List.getElem?_eq_getElem i1)
        rw [← ki] at at1 at2
        refine ⟨rfl, yes_if ?_⟩
        refine ⟨_, rfl, _, rfl, .inl ⟨a, _, _, _, rfl, rfl, SqL.of (s03 _ _ ea), at1, ?_⟩⟩
        refine ⟨_, rfl, _, rfl, .inl ⟨b, _, _, _, rfl, rfl, SqL.of (s03 _ _ eb), at2, ?_⟩⟩
        refine ⟨_, _, rfl, by omega, .inl ⟨mk, y, hy.same s03, hz.same s03, mem_WfL hW y hm, by omega⟩, fun H4 s4 => ?_⟩
        refine ⟨_, s4 _ _ eD, ?_, Kx.Same.own (sm.trans s4) hD _, ?_⟩
        · rw [List.length_map, List.length_replicate]
          have := hL2.len
          exact small1000 (by omega)
        · rw [upd_same, rep_snoc]
      · intro H3 ⟨sm, eD⟩
        refine ⟨D, _, rfl, SqL.of eD, ?_⟩
        rw [rep_all]
        exact q H3 (st.trans sm)
    · refine ⟨_, rfl, _, _, _, _, false, rfl, .ty _, .base .non, kit_ty (by decide +kernel), _, rfl, iteF ⟨_, rfl, (by show 2 ≤ sizeLine; decide), fun tp htp => ?_⟩⟩
      have st := same_upd htp (.tup [.ty "list", .ty "tuple"])
      refine ⟨_, tp, _, _, _, false, rfl, upd_same, .cons (.ty _) (.cons (.ty _) .nil), .base .non, kitAny_cons (kit_ty (r := false) (by decide +kernel)) (fun _ => kitAny_cons (kit_ty (r := false) (by decide +kernel)) (fun _ => kitAny_nil) (fun e => by cases e)) (fun e => by cases e), _, rfl, iteF ?_⟩
      refine ⟨_, rfl, _, _, _, _, false, rfl, .ty _, .base .non, kit_ty (by decide +kernel), _, rfl, iteF ?_⟩
      refine ⟨_, rfl, rfl, _, rfl, ite2 (fun _ => ?_) (fun c => absurd (decide_eq_true rfl) c)⟩
      refine ⟨_, rfl, rfl, ?_⟩
      rw [decide_eq_true rfl]
      exact q _ st
    · obtain ⟨kva, ea, pa⟩ := id hA
      obtain ⟨kvb, eb, pb⟩ := id hB
      have lenb : kvb.length = al.length := Paired.length pb
      refine ⟨_, rfl, _, _, _, _, true, rfl, .ty _, .base (.dK eb), kit_ty (by decide +kernel), _, rfl, iteT ?_⟩
      refine ⟨_, rfl, _, _, _, _, true, rfl, .ty _, .base (.dK ea), kit_ty (by decide +kernel), _, rfl, iteF ?_⟩
      refine ⟨_, rfl, a, kva, rfl, ea, fun q1 hq1 => ?_⟩
      rw [keys_at pa]
      have s1 := same_upd hq1 (.lst ((al.map (·.1)).map V.str))
      refine ⟨q1, _, rfl, SqL.of upd_same, by rw [List.length_map]; omega, fun ys p1 pm1 sr1 hp1 => ?_⟩
      have s2 := same_upd hp1 (.lst (ys.map V.str))
      have s12 := s1.trans s2
      refine ⟨_, rfl, b, kvb, rfl, s12 _ _ eb, fun q2 hq2 => ?_⟩
      rw [keys_at pb]
      have s3 := same_upd hq2 (.lst ((al.map (·.1)).map V.str))
      refine ⟨q2, _, rfl, SqL.of upd_same, by rw [List.length_map]; omega, fun zs p2 pm2 sr2 hp2 => ?_⟩
      have s4 := same_upd hp2 (.lst (zs.map V.str))
      have s34 := s3.trans s4
      have e12 := sorted_one pm1 sr1 pm2 sr2
      have oks : ∀ z ∈ zs, sok z = true := fun z hz => by
        obtain ⟨kv, hkv, rfl⟩ := List.mem_map.mp (pm2.mem_iff.mp hz)
        exact (hk kv hkv).2.2
      have shp := shaped_strs oks
      subst e12
      refine ⟨_, _, .lst (SqL.of (s34 _ _ upd_same)) (dp_strs ys), .lst (SqL.of upd_same) (dp_strs ys), shp, shp, _, rfl, ?_⟩
      refine ite2 (fun c => absurd c ?_) (fun _ => ?_)
      · rw [SeqAt.eqv_refl _ (SeqAt.canLay_of_shaped shp)]
        simp
      have s14 := s12.trans s34
      refine ⟨b, _, s14 _ _ eb, trivial, fun od => ?_⟩
      have na := s14 _ _ ea
      have lockS : ∀ {H3 : Hp}, Same (upd (upd (upd (upd (upd H q1 (.lst ((al.map (·.1)).map V.str))) p1 (.lst (ys.map V.str))) q2 (.lst ((al.map (·.1)).map V.str))) p2 (.lst (ys.map V.str))) b (.frz od (.dK kvb))) H3 → ∀ c o, c ≠ b → H c = some o → H3 c = some o := fun x c o n e => x _ _ (by rw [upd_ne n]; exact s14 _ _ e)
      have tupS : ∀ {H3 : Hp}, Same (upd (upd (upd (upd (upd H q1 (.lst ((al.map (·.1)).map V.str))) p1 (.lst (ys.map V.str))) q2 (.lst ((al.map (·.1)).map V.str))) p2 (.lst (ys.map V.str))) b (.frz od (.dK kvb))) H3 → ∀ {v t}, Is H v t → Is H3 v t := fun x => fun hh => hh.exD (f := b) (lockS x) ⟨_, eb⟩
      refine ⟨_, rfl, b, od, rfl, .inl ⟨kvb, upd_same, fun D hD => ?_⟩⟩
      refine L2.lc_it walk_keys (fun i H3 => Same (upd (upd (upd (upd (upd H q1 (.lst ((al.map (·.1)).map V.str))) p1 (.lst (ys.map V.str))) q2 (.lst ((al.map (·.1)).map V.str))) p2 (.lst (ys.map V.str))) b (.frz od (.dK kvb))) H3 ∧ H3 D = some (.lst ((List.replicate i true).map V.bl))) ?_ ?_ ?_ ?_
      · exact ⟨same_upd hD _, upd_same⟩
      · exact fun i H3 _ ⟨sm, _⟩ => sm _ _ upd_same
      · intro i x H3 H3' hi ⟨sm, eD⟩ ⟨e, k, v, hkv, ex⟩
        subst e ex
        obtain ⟨zt, ezt, ek, hv⟩ := pair_get pb hkv
        subst ek
        have hm := List.mem_of_getElem? ezt
        obtain ⟨hw, hd, hok⟩ := hk zt hm
        have g := get_mem nd hm
        have da := dep_pos zt.2
        rcases pair_val zt.1 pa with ⟨_, g2⟩ | ⟨va, ta, ga, g2, hva⟩
        · rw [g] at g2; cases g2
        rw [g] at g2
        cases (Option.some.inj g2)
        rcases pair_val zt.1 pb with ⟨_, g3⟩ | ⟨vb, tb, gb, g3, hvb⟩
        · rw [g] at g3; cases g3
        rw [g] at g3
        cases (Option.some.inj g3)
        have ha3 := lockS sm _ _ nab ea
        have hb3 := sm _ _ upd_same
        have get1 : DGet H3' a (kV (Sum.inr zt.1)) (some va) := by
          rw [← ga]; exact DGet.k ha3
        have get2 : DGet H3' b (kV (Sum.inr zt.1)) (some vb) := by
          rw [← gb]; exact .inl ⟨kvb, Sum.inr zt.1, .inr ⟨od, hb3⟩, rfl, rfl⟩
        refine ⟨rfl, yes_if ?_⟩
        refine ⟨_, rfl, _, rfl, a, va, rfl, get1, _, rfl, _, rfl, b, vb, rfl, get2, ?_⟩
        refine ⟨_, _, rfl, by omega, .inl ⟨mk, zt.2, tupS sm hva, tupS sm hvb, hw, by omega⟩, fun H4 s5 => ?_⟩
        refine ⟨_, s5 _ _ eD, ?_, Kx.Same.own (sm.trans s5) hD _, ?_⟩
        · rw [List.length_map, List.length_replicate]
          exact small1000 (by omega)
        · rw [upd_same, rep_snoc]
      · intro H3 ⟨sm, eD⟩
        refine ⟨sm _ _ upd_same, D, List.replicate kvb.length true, rfl, SqL.of ?_, ?_⟩
        · rw [upd_ne (ne_of_none upd_same hD).symm]; exact eD
        rw [rep_all]
        refine q _ fun c o e => ?_
        by_cases nb : c = b
        · subst nb
          rw [upd_same, ← eb, e]
        · rw [upd_ne nb]
          exact lockS sm c o nb e
end
end Kx
namespace Kx
open PySem PySem.Spec PyProof.Rows L2
section
variable {P : Program} {w : World} {K : PySem.W.Frag} {mg : Str → Option Value} {base : Heap}
theorem depL_cut {l : List PV} {j : Nat} {x y : PV} (h : l[j]? = some x) (c : Nat) (hy : dep y ≤ dep x + c) : depL (l.take j ++ [y] ++ l.drop (j + 1)) ≤ depL l + c := by
  have dx := depL_mem (List.mem_of_getElem? h)
  refine depL_le fun t ht => ?_
  rcases List.mem_append.mp ht with ht | ht
  · rcases List.mem_append.mp ht with ht | ht
    · have := depL_mem (List.mem_of_mem_take ht); omega
    · rw [List.mem_singleton.mp ht]; omega
  · have := depL_mem (List.mem_of_mem_drop ht); omega
theorem ok_law_changed {n : Nat} (T : Txt K mg) (G_law_draw : FnOk P w K mg base CX0 1 T.a_law_draw T.d_law_draw ["draws", "limit"] spDraw) (G_law_term : FnOk P w K mg base CX0 5 T.a_law_term T.d_law_term ["draws", "makers", "names", "deep"] (spTerm 2)) (G_law_changed : FnOk P w K mg base CX0 (n+5) T.a_law_changed T.d_law_changed ["draws", "makers", "term"] (spChanged n)) : FnOk P w K mg base CX0 (n+6) T.a_law_changed T.d_law_changed ["draws", "makers", "term"] (spChanged (n+1)) := by
  refine T.F_law_changed.ok sc_law_changed (fun vs H Q E h => ?_) (fun cdv A outer s H vs Q E hr h => ?_)
  · obtain ⟨d, sa, m, mk, v, t, rfl, _⟩ := h; rfl
  · obtain ⟨d, sa, m, mk, v, t, rfl, hD, hM, hI, hT, hn, q⟩ := h
    have hr_law_draw := hr.mono (show 1 ≤ n + 5 by omega)
    have hr_law_term := hr.mono (show 5 ≤ n + 5 by omega)
    have hr_law_changed := hr
    refine ⟨_, (pss_cons (ps_if (pt_cut (PW.pt (pw_or (pt_val (pe_callB call_isi (by rfl) T.z_isinstance (by decide +kernel) (pa_cons (pv 2) (pa_cons (pe_bltn rfl T.z_str (by decide +kernel) (show RelV (V.ty "str") (Value.type "str") from rfl)) pa_nil)))) (pw_or (pt_cmpR op_eq (pe_callB call_len_seq (by rfl) T.z_len (by decide +kernel) (pa_cons (pv 2) pa_nil)) pe_int (nomark _)) (pw_or1 (pt_cmpR op_eq (pe_call G_law_draw hr_law_draw rfl T.m_law_draw T.F_law_draw.kp T.b_law_draw .nil pass0 (pa_cons (pv 0) (pa_cons pe_int pa_nil))) pe_int (nomark _))))))) (pss_one (ps_ret (pe_call G_law_term hr_law_term rfl T.m_law_term T.F_law_term.kp T.b_law_term .nil pass0 (pa_cons (pv 0) (pa_cons (pv 1) (pa_cons (pe_lst (pa_cons pe_str (pa_cons pe_str (pa_cons pe_str pa_nil)))) (pa_cons pe_int pa_nil))))))) pss_nil)
    (pss_cons (ps_set (i := 3) sc_law_changed.nd rfl (Or.inl rfl) (pe_op op_add pe_int (pe_call G_law_draw hr_law_draw rfl T.m_law_draw T.F_law_draw.kp T.b_law_draw .nil pass0 (pa_cons (pv 0) (pa_cons (pe_op op_sub (pe_callB call_len_seq (by rfl) T.z_len (by decide +kernel) (pa_cons (pv 2) pa_nil)) pe_int) pa_nil)))))
    (pss_one (ps_ret (pe_op op_catT (pe_op op_catT (pe_slice sl_tup (pv 2) po_none (po_some (pv 3))) (pe_tup (pa_cons (pe_call G_law_changed hr_law_changed rfl T.m_law_changed T.F_law_changed.kp T.b_law_changed .nil pass0 (pa_cons (pv 0) (pa_cons (pv 1) (pa_cons (pe_ix ix_tup (pv 2) (pv 3) (fun _ _ => rfl)) pa_nil)))) pa_nil))) (pe_slice sl_tup (pv 2) (po_some (pe_op op_add (pv 3) pe_int)) po_none)))))), ?_⟩
    refine ⟨fun b H1 => Ex d H H1 ∧ Dr H1 d sa ∧ (b = false → isStr t = false ∧ ∀ a w vs ts, v = .ref a → t = .tup (.str w :: ts) → H a = some (.tup (.str w :: vs)) → 2 ≤ (V.str w :: vs).length), ?_, fun b H1 ⟨x1, D1, kb⟩ => ?_⟩
    · obtain ⟨u, ty, kt⟩ := hI.ty (K := K)
      refine ⟨_, rfl, _, _, u, _, _, rfl, .ty _, ty, kit_str kt, _, rfl, ?_⟩
      refine ite2 (fun c => ⟨.refl _ _, hD, fun z => by cases z⟩) (fun c => ?_)
      have ns : isStr t = false := Bool.eq_false_iff.mpr c
      obtain ⟨a, w, vs, ts, rfl, rfl, ea, hL, kw, lk, l2, hWl⟩ := wf_tup_inv hI hT ns
      refine ⟨_, rfl, a, _, rfl, .inr (.inl (.inl ea)), rfl, _, rfl, ?_⟩
      refine ite2 (fun c1 => ⟨.refl _ _, hD, fun z => by cases z⟩) (fun c1 => ?_)
      refine ⟨_, rfl, d, sa, _, rfl, hD, by omega, by omega, fun r H1 r0 r1 hx1 hD1 => ⟨rfl, _, rfl, hx1, hD1, fun _ => ⟨ns, fun a' w' vs' ts' e1 _ e3 => ?_⟩⟩⟩
      cases e1
      rw [ea] at e3
      cases e3
      rcases Nat.lt_or_ge 1 (V.str w :: vs).length with h | h
      · exact h
      · exfalso
        have e : (V.str w :: vs).length = 1 := by rw [List.length_cons] at h ⊢; omega
        exact c1 (by rw [e]; rfl)
    · have M1 := hM.ex x1 hD.lst
      have I1 := hI.ex x1 hD.lst
      refine ite2 (fun _ => ?_) (fun hb => ?_)
      · refine ⟨_, rfl, _, rfl, (by show 3 ≤ sizeLine; decide), fun nl hnl => ?_⟩
        have sN := same_upd hnl (.lst [.str "a", .str "p", .str "q"])
        obtain ⟨nd, nsa⟩ := D1.free (H1 := H1) hnl
        refine ⟨d, sa, m, nl, mk, ["a", "p", "q"], 1, rfl, D1.same sN, M1.same sN, upd_same, nd, by decide, by decide, by decide +kernel, by omega, fun v' t' H5 hv ht hc x5 D5 => ?_⟩
        exact q v' t' H5 hv ht (by have := dep_pos t; omega) ((x1.trans (.of sN)).trans x5) D5
      · obtain ⟨ns, two⟩ := kb (by cases b with | true => exact absurd rfl hb | false => rfl)
        obtain ⟨a, w, vt, r0, rfl, rfl, ea0, hL0, kw, lk, l2, hTr⟩ := wf_tup_inv hI hT ns
        have two := two a w vt r0 rfl rfl ea0
        have ea1 := x1.keep ea0 hD.lst (fun _ z => by cases z)
        obtain ⟨ets, hets⟩ : ∃ ts, ts = PV.str w :: r0 := ⟨_, rfl⟩
        obtain ⟨vs, evs⟩ : ∃ vs, vs = V.str w :: vt := ⟨_, rfl⟩
        have hL : IsL H1 vs ets := by rw [evs, hets]; exact .cons (.str w kw) (hL0.ex x1 hD.lst)
        rw [← evs] at ea1 two
        rw [← hets] at q hn
        have hlen := hL.len
        have l3 : vs.length ≤ 3 := by rw [evs, List.length_cons, hL0.len]; omega
        have dcons : dep (.tup ets) = 1 + depL ets := by simp only [dep]
        rw [dcons] at hn
        have hT1 : SqT K H1 a vs := .inl (.inl ea1)
        refine ⟨_, rfl, _, rfl, a, _, rfl, .inr hT1, _, _, rfl, rfl, d, sa, _, rfl, D1, by omega, by omega, fun z H3 z0 z1 x3 D3 => ?_⟩
        obtain ⟨k, rfl⟩ : ∃ k : Nat, z = (k : Int) := ⟨z.toNat, by omega⟩
        have hk : k + 1 < vs.length := by omega
        have ek : (1 : Int) + (k : Int) = ((k + 1 : Nat) : Int) := by omega
        have ek2 : (1 : Int) + (k : Int) + 1 = ((k + 2 : Nat) : Int) := by omega
        have ea3 := x3.keep ea1 D1.lst (fun _ z => by cases z)
        have hT3 : SqT K H3 a vs := .inl (.inl ea3)
        have L3 := hL.ex x3 D1.lst
        have M3 := M1.ex x3 D1.lst
        refine ⟨_, _, rfl, rfl, ?_⟩
        refine ⟨_, rfl, _, rfl, _, rfl, a, _, rfl, hT3, ?_, fun p1 h1 => ?_⟩
        · rw [ek, HT.sIx_nat]
          intro e
          have := e.2
          omega
        rw [ek]
        have s1 := same_upd h1 (.tup (cutV vs none (some ((k + 1 : Nat) : Int))))
        obtain ⟨y, ey, hy⟩ := L3.get (List.getElem?_eq_getElem hk)
        have ym : y ∈ r0 := by
          rw [hets] at ey
          exact List.mem_of_getElem? (by simpa using ey)
        have yt : Wf mk y := mem_WfL hTr y ym
        have dy := depL_mem (List.mem_of_getElem? ey)
        have hat : atI vs ((k + 1 : Nat) : Int) = some vs[k + 1] := atI_nat (List.getElem?_eq_getElem hk)
        refine ⟨_, rfl, _, rfl, _, rfl, _, rfl, a, _, _, _, rfl, rfl, .inl (.inl (s1 _ _ ea3)), ?_, d, sa, m, mk, _, y, rfl, D3.same s1, M3.same s1, hy.same s1, yt, by omega, fun v' t' H4 hv ht' hc x4 D4 => ?_⟩
        · rw [ek]; exact hat
        refine ⟨(by show 1 ≤ sizeLine; decide), fun p2 h2 => ?_⟩
        have x14 := (Ex.of (d := d) s1).trans x4
        have e1 := x4.keep upd_same (D3.same s1).lst (fun _ z => by cases z)
        have ea4 := x14.keep ea3 D3.lst (fun _ z => by cases z)
        have L4 := L3.ex x14 D3.lst
        have s2 := same_upd h2 (.tup [v'])
        have cl1 := cutV_length vs none (some ((k + 1 : Nat) : Int))
        have cl2 := cutV_length vs (some ((k + 2 : Nat) : Int)) none
        have f1 : cutV vs none (some ((k + 1 : Nat) : Int)) = vs.take (k + 1) := cut_to _ (by omega)
        have f2 : cutV vs (some ((k + 2 : Nat) : Int)) none = vs.drop (k + 2) := cut_from _ (by omega)
        refine ⟨p1, p2, _, _, rfl, rfl, .inl (.inl (s2 _ _ e1)), .inl (.inl upd_same), ?_, ?_, fun e => by simp at e, fun _ p3 h3 => ?_⟩
        · rw [f1]; intro e
          have hh := congrArg List.length e
          rw [List.length_take, List.length_nil] at hh
          omega
        · rw [List.length_singleton]; exact Nat.le_of_lt (small1000 (by omega))
        have s3 := same_upd h3 (.tup (cutV vs none (some ((k + 1 : Nat) : Int)) ++ [v']))
        refine ⟨_, rfl, _, rfl, _, _, rfl, rfl, _, rfl, a, _, rfl, .inl (.inl (s3 _ _ (s2 _ _ ea4))), ?_, fun p4 h4 => ?_⟩
        · rw [ek2, HT.sIx_nat]
          intro e
          have := e.1
          omega
        rw [ek2]
        have s4 := same_upd h4 (.tup (cutV vs (some ((k + 2 : Nat) : Int)) none))
        have base : IsL H4 (cutV vs none (some ((k + 1 : Nat) : Int)) ++ [v']) (ets.take (k + 1) ++ [t']) := by
          rw [f1]
          exact (L4.take _).append (.cons hv .nil)
        have s234 := (s2.trans s3).trans s4
        have cb : depL (ets.take (k + 1) ++ [t'] ++ ets.drop (k + 2)) ≤ depL ets + 3 := depL_cut ey 3 hc
        have wfn : Wf mk (.tup (ets.take (k + 1) ++ [t'] ++ ets.drop (k + 2))) := by
          rw [hets]
          have e : (PV.str w :: r0).take (k + 1) ++ [t'] ++ (PV.str w :: r0).drop (k + 2) = PV.str w :: (r0.take k ++ [t'] ++ r0.drop (k + 1)) := by simp
          rw [e]
          have kr : k < r0.length := by
            have := hL0.len
            rw [evs, List.length_cons] at hk
            omega
          have ln : (r0.take k ++ [t'] ++ r0.drop (k + 1)).length = r0.length := by
            rw [List.length_append, List.length_append, List.length_take, List.length_drop, List.length_singleton]
            omega
          refine ⟨by rw [ln]; exact lk, by rw [ln]; exact l2, WfL_mem fun x hx => ?_⟩
          rcases List.mem_append.mp hx with hx | hx
          · rcases List.mem_append.mp hx with hx | hx
            · exact mem_WfL hTr x (List.mem_of_mem_take hx)
            · rw [List.mem_singleton.mp hx]; exact ht'
          · exact mem_WfL hTr x (List.mem_of_mem_drop hx)
        refine ⟨p3, p4, _, _, rfl, rfl, .inl (.inl (s4 _ _ upd_same)), .inl (.inl upd_same), by simp, ?_, fun e => ?_, fun _ p5 h5 => ?_⟩
        · rw [List.length_append, List.length_singleton]; exact Nat.le_of_lt (small1000 (by omega))
        · have e2 : ets.drop (k + 2) = [] := by
            rw [f2] at e
            have hh := congrArg List.length e
            rw [List.length_drop, List.length_nil] at hh
            exact List.drop_eq_nil_of_le (by omega)
          rw [e2, List.append_nil] at cb wfn
          refine q _ (.tup (ets.take (k + 1) ++ [t'])) _ (.tup (s4 _ _ upd_same) (base.same s234)) wfn ?_ ((x1.trans x3).trans (x14.trans (.of s234))) (D4.same s234)
          rw [dcons]
          simp only [dep]; omega
        · have s5 := same_upd h5 (.tup (cutV vs none (some ((k + 1 : Nat) : Int)) ++ [v'] ++ cutV vs (some ((k + 2 : Nat) : Int)) none))
          have s25 := s234.trans s5
          refine q _ (.tup (ets.take (k + 1) ++ [t'] ++ ets.drop (k + 2))) _ (.tup upd_same ((base.append ?_).same s25)) wfn ?_ ((x1.trans x3).trans (x14.trans (.of s25))) (D4.same s25)
          · rw [f2]; exact L4.drop _
          · rw [dcons]
            simp only [dep]; omega
end
end Kx
namespace Kx
open PySem PySem.Spec PyProof.Rows L2
section
variable {P : Program} {w : World} {K : PySem.W.Frag} {mg : Str → Option Value} {base : Heap}
mutual
/-- the names, from the left -/
def lv : PV → List Str
  | .str z => [z]
  | .oth => []
  | .tup [] => []
  | .tup (_ :: r) => lvL r
def lvL : List PV → List Str
  | [] => []
  | t :: r => lv t ++ lvL r
end
mutual
theorem Is.lvs {H : Hp} : ∀ {v : V} {t : PV}, Is H v t → ∀ z ∈ lv t, sok z = true
  | _, _, .str z k, z', h => by simp only [lv, List.mem_singleton] at h; rw [h]; exact k
  | _, _, .tup e .nil, z, h => by simp [lv] at h
  | _, _, .tup e (.cons a r), z, h => IsL.lvs r z (by simpa only [lv] using h)
theorem IsL.lvs {H : Hp} : ∀ {v : List V} {t : List PV}, IsL H v t → ∀ z ∈ lvL t, sok z = true
  | _, _, .nil, z, h => by simp [lvL] at h
  | _, _, .cons a r, z, h => by
    simp only [lvL] at h
    rcases List.mem_append.mp h with h | h
    · exact Is.lvs a z h
    · exact IsL.lvs r z h
end
section
variable {R : Str → Prop} {S : PV → Prop} (hS : ∀ w ts, S (.tup (.str w :: ts)) → ∀ t ∈ ts, S t)
mutual
theorem fit_all (hS : ∀ w ts, S (.tup (.str w :: ts)) → ∀ t ∈ ts, S t) : ∀ (p t : PV) (f : AL), (∀ z ∈ lv p, R z) → S t → (∀ kv ∈ f, R kv.1 ∧ S kv.2) → ∀ kv ∈ (fit f p t).2, R kv.1 ∧ S kv.2
  | .str z, t, f, hp, ht, hf => by
    unfold fit
    cases h : Kx.get f z with
    | some u => exact hf
    | none =>
      intro kv hk
      rcases List.mem_append.mp hk with hk | hk
      · exact hf kv hk
      · rw [List.mem_singleton.mp hk]; exact ⟨hp z (by simp [lv]), ht⟩
  | .tup (.str w :: ps), .tup (.str w' :: ts), f, hp, ht, hf => by
    rw [fit_tups]
    split
    · exact fitL_all hS ps ts f (by simpa only [lv] using hp) (hS w' ts ht) hf
    · exact hf
  | .tup (.str w :: ps), .str _, f, _, _, hf => by simp only [fit]; exact hf
  | .tup (.str w :: ps), .oth, f, _, _, hf => by simp only [fit]; exact hf
  | .tup (.str w :: ps), .tup [], f, _, _, hf => by simp only [fit]; exact hf
  | .tup (.str w :: ps), .tup (.oth :: _), f, _, _, hf => by simp only [fit]; exact hf
  | .tup (.str w :: ps), .tup (.tup _ :: _), f, _, _, hf => by simp only [fit]; exact hf
  | .tup [], t, f, _, _, hf => by cases t <;> (simp only [fit]; exact hf)
  | .tup (.oth :: _), t, f, _, _, hf => by cases t <;> (simp only [fit]; exact hf)
  | .tup (.tup _ :: _), t, f, _, _, hf => by cases t <;> (simp only [fit]; exact hf)
  | .oth, t, f, _, _, hf => by cases t <;> (simp only [fit]; exact hf)
theorem fitL_all (hS : ∀ w ts, S (.tup (.str w :: ts)) → ∀ t ∈ ts, S t) : ∀ (ps ts : List PV) (f : AL), (∀ z ∈ lvL ps, R z) → (∀ t ∈ ts, S t) → (∀ kv ∈ f, R kv.1 ∧ S kv.2) → ∀ kv ∈ (fitL f ps ts).2, R kv.1 ∧ S kv.2
  | p :: ps, t :: ts, f, hp, ht, hf => by
    have a := fit_all hS p t f (fun z hz => hp z (by simp only [lvL]; exact List.mem_append_left _ hz)) (ht t (List.mem_cons_self ..)) hf
    rw [fitL_cons]
    split
    · exact fitL_all hS ps ts _ (fun z hz => hp z (by simp only [lvL]; exact List.mem_append_right _ hz)) (fun x hx => ht x (List.mem_cons_of_mem _ hx)) a
    · exact a
  | [], t, f, _, _, hf => by rw [fitL_nil]; exact hf
  | _ :: _, [], f, _, _, hf => by simp only [fitL]; exact hf
end
end
theorem get_none {f : AL} {z : Str} (h : Kx.get f z = none) : z ∉ f.map (·.1) := by
  intro hm
  obtain ⟨kv, hk, e⟩ := List.mem_map.mp hm
  unfold Kx.get at h
  have h' : f.find? (fun kv => kv.1 == z) = none := by
    cases q : f.find? (fun kv => kv.1 == z) with
    | none => rfl
    | some _ => rw [q] at h; cases h
  exact (List.find?_eq_none.mp h') kv hk (by simp [e])
mutual
theorem fit_nd : ∀ (p t : PV) (f : AL), (f.map (·.1)).Nodup → ((fit f p t).2.map (·.1)).Nodup
  | .str z, t, f, hf => by
    unfold fit
    cases h : Kx.get f z with
    | some u => exact hf
    | none =>
      have := get_none h
      show ((f ++ [(z, t)]).map (·.1)).Nodup
      rw [List.map_append]
      exact nd_snoc hf this
  | .tup (.str w :: ps), .tup (.str w' :: ts), f, hf => by
    rw [fit_tups]
    split
    · exact fitL_nd ps ts f hf
    · exact hf
  | .tup (.str w :: ps), .str _, f, hf => by simp only [fit]; exact hf
  | .tup (.str w :: ps), .oth, f, hf => by simp only [fit]; exact hf
  | .tup (.str w :: ps), .tup [], f, hf => by simp only [fit]; exact hf
  | .tup (.str w :: ps), .tup (.oth :: _), f, hf => by simp only [fit]; exact hf
  | .tup (.str w :: ps), .tup (.tup _ :: _), f, hf => by simp only [fit]; exact hf
  | .tup [], t, f, hf => by cases t <;> (simp only [fit]; exact hf)
  | .tup (.oth :: _), t, f, hf => by cases t <;> (simp only [fit]; exact hf)
  | .tup (.tup _ :: _), t, f, hf => by cases t <;> (simp only [fit]; exact hf)
  | .oth, t, f, hf => by cases t <;> (simp only [fit]; exact hf)
theorem fitL_nd : ∀ (ps ts : List PV) (f : AL), (f.map (·.1)).Nodup → ((fitL f ps ts).2.map (·.1)).Nodup
  | p :: ps, t :: ts, f, hf => by
    have a := fit_nd p t f hf
    rw [fitL_cons]
    split
    · exact fitL_nd ps ts _ a
    · exact a
  | [], t, f, hf => by rw [fitL_nil]; exact hf
  | _ :: _, [], f, hf => by simp only [fitL]; exact hf
end
theorem lcL_le {c : Nat} : ∀ {l : List PV}, (∀ t ∈ l, lc t ≤ c) → lcL l ≤ l.length * c
  | [], _ => by simp [lcL]
  | t :: r, h => by
    have a := h t (List.mem_cons_self ..)
    have b := lcL_le fun x hx => h x (List.mem_cons_of_mem _ hx)
    simp only [lcL, List.length_cons, Nat.succ_mul]
    omega
theorem lc_le {mk : List (Str × Int)} : ∀ (n : Nat) (t : PV), Wf mk t → dep t ≤ n + 1 → lc t ≤ 2 ^ n
  | n, .str z, _, _ => by simp only [lc]; exact Nat.one_le_two_pow
  | n, .tup (.str w :: r), hW, hd => by
    rw [dep_cons] at hd
    cases n with
    | zero => omega
    | succ n =>
      have h : ∀ t ∈ r, lc t ≤ 2 ^ n := fun t ht => lc_le n t (mem_WfL hW.2.2 t ht) (by have := depL_mem ht; omega)
      have a := lcL_le h
      have b : r.length * 2 ^ n ≤ 2 * 2 ^ n := Nat.mul_le_mul_right _ hW.2.1
      simp only [lc, Nat.pow_succ]
      omega
theorem WfL.append {mk : List (Str × Int)} {a b : List PV} (h : WfL mk a) (k : WfL mk b) : WfL mk (a ++ b) := WfL_mem fun t ht => by
  rcases List.mem_append.mp ht with ht | ht
  · exact mem_WfL h t ht
  · exact mem_WfL k t ht
theorem wf_sub {mk : List (Str × Int)} {c : Nat} : ∀ w ts, (Wf mk (.tup (.str w :: ts)) ∧ dep (.tup (.str w :: ts)) ≤ c) → ∀ t ∈ ts, Wf mk t ∧ dep t ≤ c := fun w ts ⟨h, d⟩ t ht => by
  rw [dep_cons] at d
  have := depL_mem ht
  exact ⟨mem_WfL h.2.2 t ht, by omega⟩
/-- what is found for patterns and terms as the law draws them -/
theorem found_ok {mk : List (Str × Int)} {H : Hp} {xs : List V} {ps ts : List PV} (hL : IsL H xs ps) (hp : WfL mk ps) (dp : ∀ t ∈ ps, dep t ≤ 5) (lp : ps.length ≤ 3) (ht : WfL mk ts) (dt : ∀ t ∈ ts, dep t ≤ 12) :
    ((fitL [] ps ts).2.map (·.1)).Nodup ∧ (∀ kv ∈ (fitL [] ps ts).2, Wf mk kv.2 ∧ dep kv.2 + 1 ≤ 20 ∧ sok kv.1 = true) ∧ (fitL [] ps ts).2.length ≤ 50 ∧ lcL ps ≤ 100000 := by
  have a := lcL_le (l := ps) (c := 16) fun t h => lc_le 4 t (mem_WfL hp t h) (dp t h)
  have b : ps.length * 16 ≤ 3 * 16 := Nat.mul_le_mul_right _ lp
  have l := fitL_len ps ts []
  refine ⟨fitL_nd ps ts [] List.nodup_nil, fun kv hk => ?_, ?_, by omega⟩
  · have z := fitL_all (R := fun z => sok z = true) (S := fun t => Wf mk t ∧ dep t ≤ 12) wf_sub ps ts [] hL.lvs (fun t h => ⟨mem_WfL ht t h, dt t h⟩) (fun kv h => by simp at h) kv hk
    exact ⟨z.2.1, by have := z.2.2; omega, z.1⟩
  · rw [List.length_nil] at l; omega
theorem no_left {f : Addr} {fd : FuncData} {ps : List Str} {k : Nat} {sp : Sp} (no : ∀ vs H Q E, ¬ sp vs H Q E) : FnOk P w K mg base CX0 k f fd ps sp :=
  ⟨fun vs H Q E h => absurd h (no vs H Q E), fun A outer s H args us vs Q E _ _ _ _ h => absurd h (no vs H Q E)⟩
theorem all_put (T : Txt K mg) : ∀ n, FnOk P w K mg base CX0 (n + 1) T.a_put T.d_put ["term", "assignment"] (spPut n)
  | 0 => no_left fun vs H Q E ⟨_, _, _, t, _, _, _, _, _, h, _⟩ => by have := dep_pos t; omega
  | n + 1 => ok_put T (all_put T n)
theorem all_lput (T : Txt K mg) : ∀ n, FnOk P w K mg base CX0 (n + 1) T.a_law_put T.d_law_put ["term", "assignment"] (spPut n)
  | 0 => no_left fun vs H Q E ⟨_, _, _, t, _, _, _, _, _, h, _⟩ => by have := dep_pos t; omega
  | n + 1 => ok_law_put T (all_lput T n)
theorem all_fits (T : Txt K mg) : ∀ n, FnOk P w K mg base CX0 (n + 1) T.a_fits T.d_fits ["pattern", "term", "found"] (spFit n)
  | 0 => no_left fun vs H Q E ⟨_, _, _, _, p, _, _, _, _, _, _, _, _, h, _⟩ => by have := dep_pos p; omega
  | n + 1 => ok_fits T (all_fits T n)
theorem all_lfit (T : Txt K mg) : ∀ n, FnOk P w K mg base CX0 (n + 1) T.a_law_fit T.d_law_fit ["pattern", "term", "found"] (spFit n)
  | 0 => no_left fun vs H Q E ⟨_, _, _, _, p, _, _, _, _, _, _, _, _, h, _⟩ => by have := dep_pos p; omega
  | n + 1 => ok_law_fit T (all_lfit T n)
theorem all_same (T : Txt K mg) : ∀ n, FnOk P w K mg base CX0 (n + 1) T.a_law_same T.d_law_same ["told", "due"] (spSame n)
  | 0 => no_left fun vs H Q E ⟨_, _, _, h, _⟩ => by omega
  | n + 1 => ok_law_same T (all_same T n)
theorem all_term (T : Txt K mg) : ∀ n, FnOk P w K mg base CX0 (n + 3) T.a_law_term T.d_law_term ["draws", "makers", "names", "deep"] (spTerm n)
  | 0 => no_left fun vs H Q E ⟨_, _, _, _, _, _, k, _, _, _, _, _, _, _, _, h, _⟩ => by omega
  | n + 1 => ok_law_term T (ok_law_draw T) (ok_law_pick T (ok_law_draw T)) (all_term T n)
theorem all_changed (T : Txt K mg) : ∀ n, FnOk P w K mg base CX0 (n + 5) T.a_law_changed T.d_law_changed ["draws", "makers", "term"] (spChanged n)
  | 0 => no_left fun vs H Q E ⟨_, _, _, _, _, t, _, _, _, _, _, h, _⟩ => by have := dep_pos t; omega
  | n + 1 => ok_law_changed T (ok_law_draw T) (all_term T 2) (all_changed T n)
end
end Kx
namespace Kx
open PySem PySem.Spec PyProof.Rows L2
section
variable {P : Program} {w : World} {K : PySem.W.Frag} {mg : Str → Option Value} {base : Heap}
abbrev mk0 : List (Str × Int) := [("zero", 0)]
theorem z_ok : sok "zero" = true := by decide +kernel
theorem p_ok : sok "p" = true := by decide +kernel
theorem a_ok : sok "a" = true := by decide +kernel
theorem wf_zero : Wf mk0 (.tup [.str "zero"]) := ⟨by decide +kernel, Nat.zero_le _, trivial⟩
abbrev sp_ : Str := "p"
abbrev sa_ : Str := "a"
theorem fit_pa : fitL [] [PV.str sp_] [PV.str sa_] = (true, [(sp_, PV.str sa_)]) := by simp [fitL, fit, Kx.get]
theorem newT {H : Hp} {p : Addr} {xs : List V} {ts : List PV} (n : H p = none) (h : IsL H xs ts) : Is (upd H p (.tup xs)) (.ref p) (.tup ts) := .tup upd_same (h.same (same_upd n _))
theorem merge_one (k : Key) (v : V) : mergeK [] [(k, v)] = [(k, v)] := rfl
abbrev wds4 : List Str := ["p", "q", "r", "s"]
theorem nd4 : wds4.Nodup := by decide +kernel
theorem get_some_mem {al : AL} {z : Str} {t : PV} (h : Kx.get al z = some t) : z ∈ al.map (·.1) := by
  unfold Kx.get at h
  cases q : al.find? (fun kv => kv.1 == z) with
  | none => rw [q] at h; cases h
  | some kv =>
    have a := List.mem_of_find?_eq_some q
    have b := List.find?_some q
    have e : kv.1 = z := by simpa using b
    rw [← e]
    exact List.mem_map_of_mem a
theorem val_none {H : Hp} {kvs : List (Key × V)} {al : AL} (b : Paired (fun kv zt => kv.1 = Sum.inr zt.1 ∧ Is H kv.2 zt.2) kvs al) {z : Str} (n : z ∉ al.map (·.1)) : valV kvs (Sum.inr z) = none := by
  rcases pair_val z b with ⟨a, _⟩ | ⟨v, t, _, g, _⟩
  · exact a
  · exact absurd (get_some_mem g) n
theorem val_mem : ∀ {kvs : List (Key × V)}, (kvs.map (·.1)).Nodup → ∀ p ∈ kvs, valV kvs p.1 = some p.2
  | [], _, p, h => by simp at h
  | a :: r, nd, p, h => by
    rw [List.map_cons] at nd
    obtain ⟨n1, n2⟩ := List.nodup_cons.mp nd
    rcases List.mem_cons.mp h with rfl | h
    · exact valV_pos rfl
    · rw [valV_neg (fun e => n1 (by rw [e]; exact List.mem_map_of_mem h))]
      exact val_mem n2 p h
theorem keys_inr {H : Hp} : ∀ {kvs : List (Key × V)} {al : AL}, Paired (fun kv zt => kv.1 = Sum.inr zt.1 ∧ Is H kv.2 zt.2) kvs al → kvs.map (·.1) = (al.map (·.1)).map Sum.inr
  | _, _, .nil => rfl
  | _, _, .cons ⟨e, _⟩ t => by rw [List.map_cons, List.map_cons, List.map_cons, keys_inr t, e]
theorem one_is {H : Hp} {v : V} {t : PV} (h : Is H v t) : oneV v := by
  cases h with
  | str z _ => exact .inl rfl
  | tup e _ => exact .inr ⟨_, rfl⟩
theorem all_one {H : Hp} : ∀ {kvs : List (Key × V)} {al : AL}, Paired (fun kv zt => kv.1 = Sum.inr zt.1 ∧ Is H kv.2 zt.2) kvs al → ∀ p ∈ kvs, oneV p.2
  | _, _, .nil, p, h => by simp at h
  | _, _, .cons ⟨_, i⟩ t, p, h => by
    rcases List.mem_cons.mp h with rfl | h
    · exact one_is i
    · exact all_one t p h
theorem IsL.set {H : Hp} : ∀ {vs : List V} {ts : List PV} (j : Nat) {v : V} {t : PV}, IsL H vs ts → Is H v t → IsL H (vs.set j v) (ts.set j t)
  | _, _, j, _, _, .nil, _ => .nil
  | _, _, 0, _, _, .cons a r, h => .cons h r
  | _, _, j + 1, _, _, .cons a r, h => .cons a (r.set j h)
/-- what the two fitters give -/
def DueOk (H : Hp) (ps ts : List PV) (v : V) : Prop := ((fitL [] ps ts).1 = true ∧ ∃ f, v = .ref f ∧ AsD H f (fitL [] ps ts).2) ∨ ((fitL [] ps ts).1 = false ∧ v = .non)
theorem DueOk.same {H H' : Hp} {ps ts : List PV} {v : V} (h : DueOk H ps ts v) (s : Same H H') : DueOk H' ps ts v := by
  rcases h with ⟨a, f, e, k⟩ | h
  · exact .inl ⟨a, f, e, k.same s⟩
  · exact .inr h
/-- what stands between the law's statements -/
structure St8 (H : Hp) (mk : List (Str × Int)) (d sa m pl tl : Addr) (vsP vsT : List V) (ps ts : List PV) (many : Nat) : Prop where
  dr : Dr H d sa
  mk_ : Mk H m mk
  ep : H pl = some (.lst vsP)
  et : H tl = some (.lst vsT)
  lp : IsL H vsP ps
  lt : IsL H vsT ts
  wp : WfL mk ps
  wt : WfL mk ts
  dp : ∀ t ∈ ps, dep t ≤ 5
  dt : ∀ t ∈ ts, dep t ≤ 12
  np : ps.length = many
  nt : ts.length = many
  npd : pl ≠ d
  ntd : tl ≠ d
theorem St8.same {H H' : Hp} {mk : List (Str × Int)} {d sa m pl tl : Addr} {vsP vsT : List V} {ps ts : List PV} {many : Nat} (h : St8 H mk d sa m pl tl vsP vsT ps ts many) (s : Same H H') : St8 H' mk d sa m pl tl vsP vsT ps ts many :=
  ⟨h.dr.same s, h.mk_.same s, s _ _ h.ep, s _ _ h.et, h.lp.same s, h.lt.same s, h.wp, h.wt, h.dp, h.dt, h.np, h.nt, h.npd, h.ntd⟩
theorem St8.ex {H H' : Hp} {mk : List (Str × Int)} {d sa m pl tl : Addr} {vsP vsT : List V} {ps ts : List PV} {many : Nat} (h : St8 H mk d sa m pl tl vsP vsT ps ts many) (x : Ex d H H') (D : Dr H' d sa) : St8 H' mk d sa m pl tl vsP vsT ps ts many :=
  ⟨D, h.mk_.ex x h.dr.lst, x.but _ _ h.npd h.ep, x.but _ _ h.ntd h.et, h.lp.ex x h.dr.lst, h.lt.ex x h.dr.lst, h.wp, h.wt, h.dp, h.dt, h.np, h.nt, h.npd, h.ntd⟩
theorem psubL_len (al : AL) (l : List PV) : (psubL al l).length = l.length := by rw [psubL_map, List.length_map]
theorem toDL_shape {H : Hp} {xs ys : List V} {ps ts : List PV} (h : IsL H xs ps) (k : IsL H ys ts) (dp : ∀ t ∈ ps, dep t ≤ 5) (dt : ∀ t ∈ ts, dep t ≤ 12) : SeqAt.shaped (.tuple [.list (toDL ps), .list (toDL ts)]) = true := by
  have a := toDL_depth ps
  have b := toDL_depth ts
  have a2 := depL_le dp
  have b2 := depL_le dt
  unfold SeqAt.shaped
  simp only [PyData.canLay0, PyData.canLayAll0, h.lay, k.lay, Bool.and_self, Bool.true_and, PyData.depth, PyData.depthAll]
  exact decide_eq_true (by omega)
theorem ixn {n j : Nat} (h : j < n) : ixN n ((j : Nat) : Int) = some j := by
  unfold ixN
  rw [if_pos (by omega), if_pos (by omega), Int.toNat_natCast]
theorem ok_law (T : Txt K mg) (G_law_draws : FnOk P w K mg base CX0 1 T.a_law_draws T.d_law_draws ["script"] (spDraws K)) (G_law_makers : FnOk P w K mg base CX0 2 T.a_law_makers T.d_law_makers ["draws"] spMakers) (G_law_draw : FnOk P w K mg base CX0 1 T.a_law_draw T.d_law_draw ["draws", "limit"] spDraw) (G_law_term : FnOk P w K mg base CX0 7 T.a_law_term T.d_law_term ["draws", "makers", "names", "deep"] (spTerm 4)) (G_law_changed : FnOk P w K mg base CX0 25 T.a_law_changed T.d_law_changed ["draws", "makers", "term"] (spChanged 20)) (G_law_same : FnOk P w K mg base CX0 21 T.a_law_same T.d_law_same ["told", "due"] (spSame 20)) (G_put : FnOk P w K mg base CX0 21 T.a_put T.d_put ["term", "assignment"] (spPut 20)) (G_law_put : FnOk P w K mg base CX0 21 T.a_law_put T.d_law_put ["term", "assignment"] (spPut 20)) (G_fitted : FnOk P w K mg base CX0 22 T.a_fitted T.d_fitted ["patterns", "terms"] (spFitted K 20)) (G_law_fitted : FnOk P w K mg base CX0 22 T.a_law_fitted T.d_law_fitted ["patterns", "terms"] (spFittedL 20)) : FnOk P w K mg base CX0 26 T.a_law T.d_law ["script"] (spLaw K) := by
  refine T.F_law.ok sc_law (fun vs H Q E h => ?_) (fun cdv A outer s H vs Q E hr h => ?_)
  · obtain ⟨a, ns, rfl, _⟩ := h; rfl
  · obtain ⟨a, ns, rfl, hS, h63, q⟩ := h
    have hu := hu_of hr
    have hr_law_draws := hr.mono (show 1 ≤ 25 by decide)
    have hr_law_makers := hr.mono (show 2 ≤ 25 by decide)
    have hr_law_draw := hr.mono (show 1 ≤ 25 by decide)
    have hr_law_term := hr.mono (show 7 ≤ 25 by decide)
    have hr_law_changed := hr
    have hr_law_same := hr.mono (show 21 ≤ 25 by decide)
    have hr_put := hr.mono (show 21 ≤ 25 by decide)
    have hr_law_put := hr.mono (show 21 ≤ 25 by decide)
    have hr_fitted := hr.mono (show 22 ≤ 25 by decide)
    have hr_law_fitted := hr.mono (show 22 ≤ 25 by decide)
    refine ⟨_, (pss_cons (ps_set (i := 1) sc_law.nd rfl (Or.inr rfl) (pe_call G_law_draws hr_law_draws rfl T.m_law_draws T.F_law_draws.kp T.b_law_draws .nil pass0 (pa_cons (pv 0) pa_nil)))
    (pss_cons (ps_set (i := 2) sc_law.nd rfl (Or.inr rfl) (pe_call G_law_makers hr_law_makers rfl T.m_law_makers T.F_law_makers.kp T.b_law_makers .nil pass0 (pa_cons (pv 1) pa_nil)))
    (pss_cutK (ps_if (PW.pt (pw_or (pt_not (pt_val (pe_call G_law_same hr_law_same rfl T.m_law_same T.F_law_same.kp T.b_law_same .nil pass0 (pa_cons (pe_call G_put hr_put rfl T.m_put T.F_put.kp T.b_put .nil pass0 (pa_cons (pe_tup (pa_cons pe_str pa_nil)) (pa_cons (pe_disp (pps_cons pe_str (pe_tup (pa_cons pe_str pa_nil)) pps_nil) (by rfl) (by rfl) (fun z => by cases z) (by decide)) pa_nil))) (pa_cons (pe_tup (pa_cons pe_str pa_nil)) pa_nil))))) (pw_or1 (pt_not (pt_val (pe_call G_law_same hr_law_same rfl T.m_law_same T.F_law_same.kp T.b_law_same .nil pass0 (pa_cons (pe_call G_fitted hr_fitted rfl T.m_fitted T.F_fitted.kp T.b_fitted .nil pass0 (pa_cons (pe_lst (pa_cons pe_str pa_nil)) (pa_cons (pe_lst (pa_cons pe_str pa_nil)) pa_nil))) (pa_cons (pe_disp (pps_cons pe_str pe_str pps_nil) (by rfl) (by rfl) (fun z => by cases z) (by decide)) pa_nil)))))))) (pss_one (ps_ret pe_bl)) pss_nil)
    (pss_cons (ps_for PassesOwn.never rfl (pi_range1 (by rfl) T.z_range (pa_cons pe_int pa_nil)) (pg_name (i := 3) sc_law.nd rfl (Or.inl rfl))
    (pss_cons (ps_set (i := 4) sc_law.nd rfl (Or.inl rfl) (pe_call G_law_draw hr_law_draw rfl T.m_law_draw T.F_law_draw.kp T.b_law_draw .nil pass0 (pa_cons (pv 1) (pa_cons pe_int pa_nil))))
    (pss_cons (ps_setLc (i := 5) (own := [("k", 13)]) (g := (gName 13)) (tt := tYes) rfl sc_law.nd rfl rfl (sw_true rfl rfl rfl (by decide +kernel)) (pi_range1 (by rfl) T.z_range (pa_cons (pv 4) pa_nil)) (blkOk_by (own := [("k", 13)]) (N := ["script", "draws", "makers", "turn", "many", "patterns", "assignment", "name", "terms", "kept", "at", "due", "handed", "k", "pattern"]) (sc := defScope s_law) (by decide +kernel)) (fun _ _ _ _ _ => (pg_name (i := 13) sc_law.nd rfl (Or.inl rfl))) (fun _ _ _ _ _ => pts_nil) (fun _ _ _ _ _ => (pe_call G_law_term hr_law_term rfl T.m_law_term T.F_law_term.kp T.b_law_term .nil pass0 (pa_cons (pv 1) (pa_cons (pv 2) (pa_cons (pe_lst (pa_cons pe_str (pa_cons pe_str (pa_cons pe_str pa_nil)))) (pa_cons (pe_call G_law_draw hr_law_draw rfl T.m_law_draw T.F_law_draw.kp T.b_law_draw .nil pass0 (pa_cons (pv 1) (pa_cons pe_int pa_nil))) pa_nil)))))))
    (pss_cons (ps_set (i := 6) sc_law.nd rfl (Or.inr rfl) pe_dnewK)
    (pss_cons (ps_for PassesOwn.never rfl (pi_list (pe_lst (pa_cons pe_str (pa_cons pe_str (pa_cons pe_str (pa_cons pe_str pa_nil)))))) (pg_name (i := 7) sc_law.nd rfl (Or.inl rfl))
    (pss_one (ps_if (pt_cmpR op_gt (pe_call G_law_draw hr_law_draw rfl T.m_law_draw T.F_law_draw.kp T.b_law_draw .nil pass0 (pa_cons (pv 1) (pa_cons pe_int pa_nil))) pe_int (nomark _)) (pss_one (ps_dput hu (pv 6) (pv 7) (pe_call G_law_term hr_law_term rfl T.m_law_term T.F_law_term.kp T.b_law_term .nil pass0 (pa_cons (pv 1) (pa_cons (pv 2) (pa_cons (pe_lst (pa_cons pe_str (pa_cons pe_str (pa_cons pe_str (pa_cons pe_str (pa_cons pe_str pa_nil)))))) (pa_cons (pe_call G_law_draw hr_law_draw rfl T.m_law_draw T.F_law_draw.kp T.b_law_draw .nil pass0 (pa_cons (pv 1) (pa_cons pe_int pa_nil))) pa_nil))))) rfl)) pss_nil)))
    (pss_cons (ps_setLc (i := 8) (own := [("pattern", 14)]) (g := (gName 14)) (tt := tYes) rfl sc_law.nd rfl rfl (sw_true rfl rfl rfl (by decide +kernel)) (pi_list (pv 5)) (blkOk_by (own := [("pattern", 14)]) (N := ["script", "draws", "makers", "turn", "many", "patterns", "assignment", "name", "terms", "kept", "at", "due", "handed", "k", "pattern"]) (sc := defScope s_law) (by decide +kernel)) (fun _ _ _ _ _ => (pg_name (i := 14) sc_law.nd rfl (Or.inl rfl))) (fun _ _ _ _ _ => pts_nil) (fun _ _ _ _ _ => (pe_call G_law_put hr_law_put rfl T.m_law_put T.F_law_put.kp T.b_law_put .nil pass0 (pa_cons (pv 14) (pa_cons (pv 6) pa_nil)))))
    (pss_cons (ps_set (i := 9) sc_law.nd rfl (Or.inl rfl) (pe_callTy call_dictD (by rfl) T.z_dict (by decide +kernel) (pa_cons (pv 6) pa_nil)))
    (pss_cons (ps_if (PW.pt (pw_or (pt_not (pt_val (pe_call G_law_same hr_law_same rfl T.m_law_same T.F_law_same.kp T.b_law_same .nil pass0 (pa_cons (pe_lc (own := [("pattern", 14)]) (g := (gName 14)) (tt := tYes) rfl sc_law.nd (pi_list (pv 5)) (blkOk_by (own := [("pattern", 14)]) (N := ["script", "draws", "makers", "turn", "many", "patterns", "assignment", "name", "terms", "kept", "at", "due", "handed", "k", "pattern"]) (sc := defScope s_law) (by decide +kernel)) (fun _ _ _ _ _ => (pg_name (i := 14) sc_law.nd rfl (Or.inl rfl))) (fun _ _ _ _ _ => pts_nil) (fun _ _ _ _ _ => (pe_call G_put hr_put rfl T.m_put T.F_put.kp T.b_put .nil pass0 (pa_cons (pv 14) (pa_cons (pv 6) pa_nil))))) (pa_cons (pv 8) pa_nil))))) (pw_or1 (pt_cmpR (op_neDict hr.units0) (pv 6) (pv 9) (nomark _))))) (pss_one (ps_ret pe_bl)) pss_nil)
    (pss_cutK (ps_if (PW.pt (pw_and (pt_cmpR op_eq (pe_call G_law_draw hr_law_draw rfl T.m_law_draw T.F_law_draw.kp T.b_law_draw .nil pass0 (pa_cons (pv 1) (pa_cons pe_int pa_nil))) pe_int (nomark _)) (pw_and1 (pt_cmpR op_gt (pv 4) pe_int (nomark _))))) (pss_cons (ps_set (i := 10) sc_law.nd rfl (Or.inl rfl) (pe_call G_law_draw hr_law_draw rfl T.m_law_draw T.F_law_draw.kp T.b_law_draw .nil pass0 (pa_cons (pv 1) (pa_cons (pv 4) pa_nil))))
    (pss_one (ps_asg (pe_call G_law_changed hr_law_changed rfl T.m_law_changed T.F_law_changed.kp T.b_law_changed .nil pass0 (pa_cons (pv 1) (pa_cons (pv 2) (pa_cons (pe_ix ix_list (pv 8) (pv 10) (fun _ _ => rfl)) pa_nil)))) (pg_sub (pv 8) (pv 10) set_list)))) pss_nil)
    (pss_cutK (ps_if (pt_cmpR op_eq (pe_call G_law_draw hr_law_draw rfl T.m_law_draw T.F_law_draw.kp T.b_law_draw .nil pass0 (pa_cons (pv 1) (pa_cons pe_int pa_nil))) pe_int (nomark _)) (pss_one (ps_setLc (i := 8) (own := [("k", 13)]) (g := (gName 13)) (tt := tYes) rfl sc_law.nd rfl rfl (sw_true rfl rfl rfl (by decide +kernel)) (pi_range1 (by rfl) T.z_range (pa_cons (pv 4) pa_nil)) (blkOk_by (own := [("k", 13)]) (N := ["script", "draws", "makers", "turn", "many", "patterns", "assignment", "name", "terms", "kept", "at", "due", "handed", "k", "pattern"]) (sc := defScope s_law) (by decide +kernel)) (fun _ _ _ _ _ => (pg_name (i := 13) sc_law.nd rfl (Or.inl rfl))) (fun _ _ _ _ _ => pts_nil) (fun _ _ _ _ _ => (pe_call G_law_term hr_law_term rfl T.m_law_term T.F_law_term.kp T.b_law_term .nil pass0 (pa_cons (pv 1) (pa_cons (pv 2) (pa_cons (pe_lst (pa_cons pe_str (pa_cons pe_str (pa_cons pe_str pa_nil)))) (pa_cons (pe_call G_law_draw hr_law_draw rfl T.m_law_draw T.F_law_draw.kp T.b_law_draw .nil pass0 (pa_cons (pv 1) (pa_cons pe_int pa_nil))) pa_nil)))))))) pss_nil)
    (pss_cutK (ps_set (i := 11) sc_law.nd rfl (Or.inr rfl) (pe_call G_law_fitted hr_law_fitted rfl T.m_law_fitted T.F_law_fitted.kp T.b_law_fitted .nil pass0 (pa_cons (pv 5) (pa_cons (pv 8) pa_nil))))
    (pss_cons (ps_set (i := 12) sc_law.nd rfl (Or.inl rfl) (pe_tup (pa_cons (pe_callTy call_list_of (by rfl) T.z_list (by decide +kernel) (pa_cons (pv 5) pa_nil)) (pa_cons (pe_callTy call_list_of (by rfl) T.z_list (by decide +kernel) (pa_cons (pv 8) pa_nil)) pa_nil))))
    (pss_cons (ps_if (PW.pt (pw_or (pt_not (pt_val (pe_call G_law_same hr_law_same rfl T.m_law_same T.F_law_same.kp T.b_law_same .nil pass0 (pa_cons (pe_cut (pe_call G_fitted hr_fitted rfl T.m_fitted T.F_fitted.kp T.b_fitted .nil pass0 (pa_cons (pe_ix ix_tup (pv 12) pe_int (fun _ _ => rfl)) (pa_cons (pe_ix ix_tup (pv 12) pe_int (fun _ _ => rfl)) pa_nil)))) (pa_cons (pv 11) pa_nil))))) (pw_or1 (pt_cmpR (op_neD hr.units) (pv 12) (pe_tup (pa_cons (pv 5) (pa_cons (pv 8) pa_nil))) (nomark _))))) (pss_one (ps_ret pe_bl)) pss_nil)
    (pss_cons (ps_if (pt_not (pt_val (pe_call G_law_same hr_law_same rfl T.m_law_same T.F_law_same.kp T.b_law_same .nil pass0 (pa_cons (pe_cut (pe_call G_fitted hr_fitted rfl T.m_fitted T.F_fitted.kp T.b_fitted .nil pass0 (pa_cons (pe_callTy call_tuple_of (by rfl) T.z_tuple (by decide +kernel) (pa_cons (pv 5) pa_nil)) (pa_cons (pe_callTy call_tuple_of (by rfl) T.z_tuple (by decide +kernel) (pa_cons (pv 8) pa_nil)) pa_nil)))) (pa_cons (pv 11) pa_nil))))) (pss_one (ps_ret pe_bl)) pss_nil)
    (pss_one (ps_if (PW.pt (pw_and (pt_cmpR op_notN (pv 11) pe_non (nomark _)) (pw_and1 (pt_not (pt_val (pe_call G_law_same hr_law_same rfl T.m_law_same T.F_law_same.kp T.b_law_same .nil pass0 (pa_cons (pe_lc (own := [("pattern", 14)]) (g := (gName 14)) (tt := tYes) rfl sc_law.nd (pi_list (pv 5)) (blkOk_by (own := [("pattern", 14)]) (N := ["script", "draws", "makers", "turn", "many", "patterns", "assignment", "name", "terms", "kept", "at", "due", "handed", "k", "pattern"]) (sc := defScope s_law) (by decide +kernel)) (fun _ _ _ _ _ => (pg_name (i := 14) sc_law.nd rfl (Or.inl rfl))) (fun _ _ _ _ _ => pts_nil) (fun _ _ _ _ _ => (pe_call G_put hr_put rfl T.m_put T.F_put.kp T.b_put .nil pass0 (pa_cons (pv 14) (pa_cons (pv 11) pa_nil))))) (pa_cons (pv 8) pa_nil)))))))) (pss_one (ps_ret pe_bl)) pss_nil))))))))))))))))
    (pss_one (ps_ret pe_bl)))))), ?_⟩
    refine ⟨_, rfl, a, ns, rfl, hS, h63, fun d sa H1 s1 D1 => ?_⟩
    refine ⟨_, rfl, d, sa, rfl, D1, fun m H2 mk M2 x2 D2 => ?_⟩
    refine ⟨fun σ H3 => σ = [some (.ref a), some (.ref d), some (.ref m), none, none, none, none, none, none, none, none, none, none, none, none] ∧ Dr H3 d sa ∧ Mk H3 m mk, ?_, fun σ H3 ⟨es, D3, M3⟩ => ?_⟩
    · refine ⟨(by show 1 ≤ sizeLine; decide), fun p1 h1 dp hdp => ⟨(by show 1 ≤ sizeLine; decide), fun p2 h2 => ?_⟩⟩
      have s1 := same_upd h1 (.tup [.str "zero"])
      have s2 := same_upd hdp (.dK [])
      have s3 := same_upd h2 (.tup [.str "zero"])
      have ndp : dp ≠ p2 := ne_of_none upd_same h2
      have z1 := newT h1 (IsL.cons (.str "zero" z_ok) .nil)
      have z2 := newT h2 (IsL.cons (.str "zero" z_ok) .nil)
      refine ⟨by rw [upd_ne ndp, upd_same], [((Sum.inr "a" : Key), .ref p2)], rfl, (by show 1 ≤ 15; decide), ?_⟩
      rw [merge_one]
      have x4 := Ex.set (d := dp) (H := (upd (upd (upd H2 p1 (.tup [.str "zero"])) dp (.dK [])) p2 (.tup [.str "zero"]))) []
      have xd : ExD dp (upd (upd (upd H2 p1 (.tup [.str "zero"])) dp (.dK [])) p2 (.tup [.str "zero"])) (upd (upd (upd (upd H2 p1 (.tup [.str "zero"])) dp (.dK [])) p2 (.tup [.str "zero"])) dp (.dK [((Sum.inr "a" : Key), .ref p2)])) := .set _
      have hdD : isD (upd (upd (upd H2 p1 (.tup [.str "zero"])) dp (.dK [])) p2 (.tup [.str "zero"])) dp := ⟨[], by rw [upd_ne ndp, upd_same]⟩
      have s04 : Same H2 (upd (upd (upd (upd H2 p1 (.tup [.str "zero"])) dp (.dK [])) p2 (.tup [.str "zero"])) dp (.dK [((Sum.inr "a" : Key), .ref p2)])) := Kx.Same.own ((s1.trans s2).trans s3) (s1.free hdp) _
      refine ⟨dp, mk0, _, .tup [.str "zero"], [("a", .tup [.str "zero"])], rfl, ⟨_, upd_same, .cons ⟨rfl, z2.exD xd hdD⟩ .nil⟩, ((z1.same s2).same s3).exD xd hdD, wf_zero, by decide, fun v5 H5 s5 z5 => ?_⟩
      refine ⟨(by show 1 ≤ sizeLine; decide), fun p6 h6 => ?_⟩
      have s6 := same_upd h6 (.tup [.str "zero"])
      have z6 := newT h6 (IsL.cons (.str "zero" z_ok) .nil)
      refine ⟨_, _, rfl, by decide, .inl ⟨mk0, .tup [.str "zero"], z5.same s6, z6, wf_zero, by decide⟩, fun H7 s7 => ⟨_, rfl, ite2 (fun c => absurd c (by decide)) (fun _ => ?_)⟩⟩
      have s07 := ((s04.trans s5).trans s6).trans s7
      refine ⟨(by show 1 ≤ sizeLine; decide), fun l1 hl1 => ⟨(by show 1 ≤ sizeLine; decide), fun l2 hl2 => ?_⟩⟩
      have s8 := same_upd hl1 (.lst [.str "p"])
      have s9 := same_upd hl2 (.lst [.str "a"])
      refine ⟨l1, l2, mk0, [.str "p"], [.str "a"], [.str sp_], [.str sa_], rfl, .inl ⟨s9 _ _ upd_same, upd_same⟩, .cons (.str _ p_ok) .nil, .cons (.str _ a_ok) .nil, ⟨trivial, trivial⟩, ⟨trivial, trivial⟩, rfl, fun t ht => by rw [List.mem_singleton.mp ht]; decide, fun t ht => by rw [List.mem_singleton.mp ht]; decide, by decide, by decide, fun _ f H10 s10 hf hA => ?_, fun e => by rw [fit_pa] at e; cases e⟩
      rw [fit_pa] at hA
      refine fun dq hdq => ?_
      have s11 := same_upd hdq (.dK [])
      have s12 : Same H10 (upd (upd H10 dq (.dK [])) dq (.dK [((Sum.inr "p" : Key), .str "a")])) := Kx.Same.own s11 hdq _
      have nfq : f ≠ dq := by
        obtain ⟨kvs, e, _⟩ := hA
        exact ne_of_none e hdq
      refine ⟨upd_same, [((Sum.inr "p" : Key), .str "a")], rfl, (by decide), ?_⟩
      rw [merge_one]
      refine ⟨_, _, rfl, by decide, .inr (.inr (.inr ⟨f, dq, mk0, [(sp_, .str sa_)], rfl, rfl, nfq, hA.same s12, ⟨_, upd_same, .cons ⟨rfl, .str _ a_ok⟩ .nil⟩, by simp, fun kv hk => by rw [List.mem_singleton.mp hk]; exact ⟨trivial, by decide, p_ok⟩, by decide⟩)), fun H13 s13 => ⟨_, rfl, ite2 (fun c => absurd c (by decide)) (fun _ => ?_)⟩⟩
      have s013 := (((s07.trans s8).trans s9).trans s10).trans (s12.trans s13)
      exact ⟨rfl, D2.same s013, M2.same s013⟩
    · subst es
      refine ⟨6, rfl, by decide, by decide, ?_⟩
      refine for_range (lo := 0) (n := 6) (fun i σ H4 => ∃ y3 y4 y5 y6 y7 y8 y9 y10 y11 y12, σ = [some (.ref a), some (.ref d), some (.ref m), y3, y4, y5, y6, y7, y8, y9, y10, y11, y12, none, none] ∧ Dr H4 d sa ∧ Mk H4 m mk) ?_ ?_ ?_
      · exact ⟨none, none, none, none, none, none, none, none, none, none, rfl, D3, M3⟩
      · intro i σ H4 hi ⟨y3, y4, y5, y6, y7, y8, y9, y10, y11, y12, es, D4, M4⟩
        subst es
        refine ⟨_, rfl, d, sa, _, rfl, D4, by omega, by omega, fun r H5 r0 r1 x5 D5 => ?_⟩
        obtain ⟨many, rfl⟩ : ∃ k : Nat, r = (k : Int) := ⟨r.toNat, by omega⟩
        have M5 := M4.ex x5 D4.lst
        -- patterns
        refine ⟨_, rfl, _, rfl, by omega, by omega, fun pl hpl => ?_⟩
        obtain ⟨npd, nps⟩ := D5.free (H1 := H5) hpl
        refine lc_range (lo := 0) (n := ((many : Nat) : Int).toNat) (fun i H6 => Ex d H5 H6 ∧ Dr H6 d sa ∧ ∃ vs ps, H6 pl = some (.lst vs) ∧ IsL H6 vs ps ∧ WfL mk ps ∧ (∀ t ∈ ps, dep t ≤ 5) ∧ ps.length = i) ?_ ?_ ?_
        · exact ⟨.new hpl _, D5.own npd nps, [], [], upd_same, .nil, trivial, fun t h => by simp at h, rfl⟩
        · intro i2 H6 hi2 ⟨x6, D6, vs, ps, ep, hL, hW, hd, hl⟩
          refine ⟨rfl, yes_if ?_⟩
          refine ⟨_, rfl, _, rfl, (by show 3 ≤ sizeLine; decide), fun nl hnl => ?_⟩
          obtain ⟨nld, nls⟩ := D6.free (H1 := H6) hnl
          have s7 := same_upd hnl (.lst [.str "p", .str "q", .str "r"])
          refine ⟨_, rfl, d, sa, _, rfl, D6.same s7, by omega, by omega, fun r H8 a0 a1 x8 D8 => ?_⟩
          obtain ⟨k, rfl⟩ : ∃ k : Nat, r = (k : Int) := ⟨r.toNat, by omega⟩
          have x68 := (x6.trans (.of s7)).trans x8
          refine ⟨d, sa, m, nl, mk, ["p", "q", "r"], k, rfl, D8, M5.ex x68 D5.lst, x8.but _ _ nld upd_same, nld, by decide, by decide, by decide +kernel, by omega, fun v t H9 hv ht hdt x9 D9 => ?_⟩
          have x79 := (Ex.of (d := d) s7).trans (x8.trans x9)
          have ep9 := x79.but _ _ npd ep
          have D7 := D6.same s7
          have xx : Ex pl H9 (upd H9 pl (.lst (vs ++ [v]))) := .set _
          refine ⟨vs, ep9, ?_, (x68.trans x9).own hpl _, D9.own npd nps, vs ++ [v], ps ++ [t], upd_same, ((hL.ex x79 D6.lst).append (.cons hv .nil)).ex xx ⟨_, ep9⟩, hW.append ⟨ht, trivial⟩, fun t' h => ?_, by rw [List.length_append, hl]; rfl⟩
          · rw [hL.len, hl]; exact small1000 (by omega)
          · rcases List.mem_append.mp h with h | h
            · exact hd t' h
            · rw [List.mem_singleton.mp h]; omega
        · intro H6 ⟨x6, D6, vsP, ps, ep, hLP, hWP, hdP, hlP⟩
          have lp : ps.length = many := by omega
          have m3 : many ≤ 3 := by omega
          refine fun as hasn => ?_
          obtain ⟨nad, nas⟩ := D6.free (H1 := H6) hasn
          have s7 := same_upd hasn (.dK [])
          refine ⟨(by show 4 ≤ sizeLine; decide), fun wl hwl => ⟨wl, rfl, ⟨_, SqL.of upd_same⟩, ?_⟩⟩
          have s8 := same_upd hwl (.lst (wds4.map V.str))
          have nwa : as ≠ wl := ne_of_none upd_same hwl
          obtain ⟨nwd, nws⟩ := (D6.same s7).free (H1 := H6) hwl
          refine for_list (xs := wds4.map V.str) (fun j σ H7 => ∃ y7 al, σ = [some (.ref a), some (.ref d), some (.ref m), some (.int (0 + (i : Int))), some (.int (many : Int)), some (.ref pl), some (.ref as), y7, y8, y9, y10, y11, y12, none, none] ∧ Ex d H6 H7 ∧ Dr H7 d sa ∧ H7 wl = some (.lst (wds4.map V.str)) ∧ AsD H7 as al ∧ (al.map (·.1)).Sublist (wds4.take j) ∧ (∀ kv ∈ al, Wf mk kv.2 ∧ dep kv.2 ≤ 4)) ?_ ?_ ?_ ?_
          · exact ⟨y7, [], rfl, .of (s7.trans s8), (D6.same s7).same s8, upd_same, ⟨[], by rw [upd_ne nwa, upd_same], .nil⟩, .slnil, fun kv h => by simp at h⟩
          · intro j σ H7 _ ⟨_, _, _, _, _, e, _⟩
            exact SqL.of e
          · intro j x σ H7 hx ⟨y7, al, es, x7, D7, ew, hA, hsub, hal⟩
            subst es
            have hj : j < wds4.length := by
              have := (List.getElem?_eq_some_iff.mp hx).1
              rwa [List.length_map] at this
            have xw : x = .str wds4[j] := by
              rw [List.getElem?_map, List.getElem?_eq_getElem hj] at hx
              exact (Option.some.inj hx).symm
            subst xw
            have tk : wds4.take (j + 1) = wds4.take j ++ [wds4[j]] := List.take_succ_eq_append_getElem hj
            have ndj : wds4[j] ∉ wds4.take j := by
              intro hm
              have n4 := nd4
              rw [← List.take_append_drop j wds4, List.drop_eq_getElem_cons hj] at n4
              exact (List.nodup_append.mp n4).2.2 _ hm _ (List.mem_cons_self ..) rfl
            refine ⟨_, rfl, d, sa, _, rfl, D7, by omega, by omega, fun r H8 r0 r1 x8 D8 => ⟨_, _, rfl, rfl, _, rfl, ?_⟩⟩
            refine ite2 (fun _ => ?_) (fun _ => ?_)
            · refine ⟨_, rfl, _, rfl, (by show 5 ≤ sizeLine; decide), fun nl hnl => ?_⟩
              obtain ⟨nld, nls⟩ := D8.free (H1 := H8) hnl
              have s9 := same_upd hnl (.lst [.str "a", .str "b", .str "p", .str "q", .str "s"])
              refine ⟨_, rfl, d, sa, _, rfl, D8.same s9, by omega, by omega, fun r H10 a0 a1 x10 D10 => ?_⟩
              obtain ⟨k, rfl⟩ : ∃ k : Nat, r = (k : Int) := ⟨r.toNat, by omega⟩
              have x5_7 := x6.trans x7
              have M10 := ((M5.ex x5_7 D5.lst).ex x8 D7.lst |>.same s9).ex x10 (D8.same s9).lst
              refine ⟨d, sa, m, nl, mk, ["a", "b", "p", "q", "s"], k, rfl, D10, M10, x10.but _ _ nld upd_same, nld, by decide, by decide, by decide +kernel, by omega, fun v t H11 hv ht hdt x11 D11 => ?_⟩
              have x7_11 := ((x8.trans (.of s9)).trans x10).trans x11
              have hA11 := hA.ex x7_11 D7.lst
              obtain ⟨kvs, ek, pk⟩ := hA11
              have nz : wds4[j] ∉ al.map (·.1) := fun h => ndj (hsub.subset h)
              have vn := val_none pk nz
              have hl4 : kvs.length ≤ 4 := by
                have e1 := Paired.length pk
                have e2 := hsub.length_le
                rw [List.length_map, List.length_take] at e2
                have e3 : wds4.length = 4 := rfl
                omega
              refine ⟨_, rfl, _, rfl, as, _, rfl, DPut.k (k := Sum.inr wds4[j]) ek (small1000 (by omega)), ?_⟩
              refine ⟨_, al ++ [(wds4[j], t)], rfl, (x7.trans x7_11).own hasn _, D11.own nad nas, ?_, AsD.put ek pk vn hv, ?_, fun kv hk => ?_⟩
              · rw [upd_ne nwa.symm]
                exact x7_11.but _ _ nwd ew
              · rw [tk, List.map_append]
                exact hsub.append (List.Sublist.refl _)
              · rcases List.mem_append.mp hk with hk | hk
                · exact hal kv hk
                · rw [List.mem_singleton.mp hk]
                  exact ⟨ht, by show dep t ≤ 4; omega⟩
            · refine ⟨_, al, rfl, x7.trans x8, D8, x8.but _ _ nwd ew, hA.ex x8 D7.lst, ?_, hal⟩
              rw [tk]
              exact hsub.trans (List.sublist_append_left _ _)
          · intro σ H7 ⟨y7, al, es, x7, D7, ew, hA, hsub, hal⟩
            subst es
            have ndk : (al.map (·.1)).Nodup := (hsub.trans (List.take_sublist _ _)).nodup nd4
            have ep7 := x7.but _ _ npd ep
            have hL7 := hLP.ex x7 D6.lst
            have M7 := (M5.ex x6 D5.lst).ex x7 D6.lst
            -- terms
            refine ⟨_, rfl, pl, rfl, ⟨_, SqL.of ep7⟩, fun tl htl => ?_⟩
            obtain ⟨ntd, nts⟩ := D7.free (H1 := H7) htl
            refine lc_list (K := K) (a := pl) (xs := vsP) (fun j H8 => Same H7 H8 ∧ ∃ vs, H8 tl = some (.lst vs) ∧ IsL H8 vs (psubL al (ps.take j)) ∧ vs.length = j) ?_ ?_ ?_ ?_
            · exact ⟨same_upd htl _, [], upd_same, .nil, rfl⟩
            · exact fun j H8 _ ⟨s8, _⟩ => SqL.of (s8 _ _ ep7)
            · intro j x H8 hx ⟨s8, vs, et, hV, hl⟩
              obtain ⟨y, ey, hy⟩ := hL7.get hx
              have hm := List.mem_of_getElem? ey
              have dy := hdP y hm
              have hj := (List.getElem?_eq_some_iff.mp hx).1
              have hl7 := hL7.len
              refine ⟨rfl, yes_if ?_⟩
              refine ⟨_, rfl, _, rfl, as, mk, x, y, al, rfl, hA.same s8, hy.same s8, mem_WfL hWP y hm, by omega, fun v' H9 s9 hv' => ?_⟩
              have xx : Ex tl H9 (upd H9 tl (.lst (vs ++ [v']))) := .set _
              refine ⟨vs, s9 _ _ et, small1000 (by omega), Kx.Same.own (s8.trans s9) htl _, vs ++ [v'], upd_same, ?_, by rw [List.length_append, hl]; rfl⟩
              rw [psubL_take ey]
              exact ((hV.same s9).append (.cons hv' .nil)).ex xx ⟨_, s9 _ _ et⟩
            · intro H8 ⟨s8, vsT, et, hV, hlT⟩
              have hl7 := hL7.len
              rw [hl7, List.take_length] at hV
              have hA8 := hA.same s8
              obtain ⟨kvs, ek, pk⟩ := id hA8
              refine ⟨_, rfl, as, kvs, rfl, .of ek, fun kp hkp => ?_⟩
              have s9 := same_upd hkp (.dK kvs)
              have s79 := s8.trans s9
              -- the same by put
              refine ⟨_, rfl, pl, rfl, ⟨_, SqL.of (s79 _ _ ep7)⟩, fun ul hul => ?_⟩
              refine lc_list (K := K) (a := pl) (xs := vsP) (fun j H10 => Same (upd H8 kp (.dK kvs)) H10 ∧ ∃ vs, H10 ul = some (.lst vs) ∧ IsL H10 vs (psubL al (ps.take j)) ∧ vs.length = j) ?_ ?_ ?_ ?_
              · exact ⟨same_upd hul _, [], upd_same, .nil, rfl⟩
              · exact fun j H10 _ ⟨s10, _⟩ => SqL.of (s10 _ _ (s79 _ _ ep7))
              · intro j x H10 hx ⟨s10, vs, eu, hU, hl⟩
                obtain ⟨y, ey, hy⟩ := hL7.get hx
                have hm := List.mem_of_getElem? ey
                have dy := hdP y hm
                have hj := (List.getElem?_eq_some_iff.mp hx).1
                have s7_10 := s79.trans s10
                refine ⟨rfl, yes_if ?_⟩
                refine ⟨_, rfl, _, rfl, as, mk, x, y, al, rfl, hA.same s7_10, hy.same s7_10, mem_WfL hWP y hm, by omega, fun v' H11 s11 hv' => ?_⟩
                have xx : Ex ul H11 (upd H11 ul (.lst (vs ++ [v']))) := .set _
                refine ⟨vs, s11 _ _ eu, small1000 (by omega), Kx.Same.own (s10.trans s11) hul _, vs ++ [v'], upd_same, ?_, by rw [List.length_append, hl]; rfl⟩
                rw [psubL_take ey]
                exact ((hU.same s11).append (.cons hv' .nil)).ex xx ⟨_, s11 _ _ eu⟩
              · intro H10 ⟨s10, vsU, eu, hU, hlU⟩
                rw [hl7, List.take_length] at hU
                have s8_10 := s9.trans s10
                have wT : WfL mk (psubL al ps) := psubL_wf (fun kv h => (hal kv h).1) hWP
                have dT : ∀ t ∈ psubL al ps, dep t ≤ 9 := fun t ht => by
                  rw [psubL_map] at ht
                  obtain ⟨y, hy, rfl⟩ := List.mem_map.mp ht
                  have a1 := psub_dep (c := 4) (fun kv h => (hal kv h).2) y
                  have a2 := hdP y hy
                  omega
                have lT := psubL_len al ps
                refine ⟨_, rfl, _, _, rfl, by decide, .inr (.inl ⟨ul, tl, mk, _, _, _, rfl, rfl, eu, s8_10 _ _ et, hU, hV.same s8_10, wT, fun t ht => by have := dT t ht; omega, by omega⟩), fun H11 s11 => ⟨_, rfl, ite2 (fun c => absurd c (by decide)) (fun _ => ?_)⟩⟩
                have s8_11 := s8_10.trans s11
                have keysN : (kvs.map (·.1)).Nodup := by
                  rw [keys_inr pk]
                  exact List.Pairwise.map _ (fun a b (q : a ≠ b) (z : (Sum.inr a : Key) = Sum.inr b) => q (Sum.inr.inj z)) ndk
                refine ⟨_, rfl, _, rfl, as, kp, kvs, kvs, rfl, rfl, s8_11 _ _ ek, (s10.trans s11) _ _ upd_same, rfl, fun p hp => ⟨val_mem keysN p hp, all_one pk p hp⟩, _, rfl, ite2 (fun c => absurd c (by decide)) (fun _ => ?_)⟩
                have s7_11 := s8.trans s8_11
                have S11 : St8 H11 mk d sa m pl tl vsP vsT ps (psubL al ps) many :=
                  ⟨D7.same s7_11, M7.same s7_11, s7_11 _ _ ep7, s8_11 _ _ et, hL7.same s7_11, hV.same s8_11, hWP, wT, hdP, fun t ht => by have := dT t ht; omega, by omega, by omega, npd, ntd⟩
                refine ⟨fun σ H12 => ∃ y7 y10 vsT ts, σ = [some (.ref a), some (.ref d), some (.ref m), some (.int (0 + (i : Int))), some (.int (many : Int)), some (.ref pl), some (.ref as), y7, some (.ref tl), some (.ref kp), y10, y11, y12, none, none] ∧ St8 H12 mk d sa m pl tl vsP vsT ps ts many, ?_, fun σ H12 hm => ?_⟩
                · refine ⟨_, rfl, d, sa, _, rfl, S11.dr, by omega, by omega, fun r H12 r0 r1 x12 D12 => ⟨rfl, _, rfl, ?_⟩⟩
                  have S12 := S11.ex x12 D12
                  refine ite2 (fun _ => ?_) (fun _ => iteF ⟨_, _, _, _, rfl, S12⟩)
                  refine ⟨_, rfl, _, _, rfl, rfl, _, rfl, ite2 (fun c => ?_) (fun _ => ⟨_, _, _, _, rfl, S12⟩)⟩
                  have mpos : 0 < many := by
                    have := of_decide_eq_true c
                    omega
                  refine ⟨_, rfl, _, rfl, d, sa, _, rfl, S12.dr, by omega, by omega, fun z H13 z0 z1 x13 D13 => ?_⟩
                  obtain ⟨j, rfl⟩ : ∃ k : Nat, z = (k : Int) := ⟨z.toNat, by omega⟩
                  have S13 := S12.ex x13 D13
                  have lT := S13.lt.len
                  have jT : j < vsT.length := by have := S13.nt; omega
                  obtain ⟨y, ey, hy⟩ := S13.lt.get (List.getElem?_eq_getElem jT)
                  have hm := List.mem_of_getElem? ey
                  have dy := S13.dt y hm
                  have dq : dep y ≤ 9 := by
                    have := dT y hm
                    exact this
                  have hat : atI vsT ((j : Nat) : Int) = some vsT[j] := atI_nat (List.getElem?_eq_getElem jT)
                  refine ⟨_, rfl, _, rfl, _, rfl, _, rfl, tl, _, _, _, rfl, rfl, SqL.of S13.et, hat, d, sa, m, mk, _, y, rfl, S13.dr, S13.mk_, hy, mem_WfL S13.wt y hm, by omega, fun v' t' H14 hv' hw' hd' x14 D14 => ?_⟩
                  have S14 := S13.ex x14 D14
                  refine ⟨_, rfl, _, rfl, tl, _, _, j, rfl, rfl, S14.et, ixn jT, ?_⟩
                  have xx : Ex tl H14 (upd H14 tl (.lst (vsT.set j v'))) := .set _
                  have sub : ∀ x ∈ (psubL al ps).set j t', Wf mk x ∧ dep x ≤ 12 := fun x hx => by
                    rcases List.mem_or_eq_of_mem_set hx with hx | rfl
                    · exact ⟨mem_WfL S14.wt x hx, by have := dT x hx; omega⟩
                    · exact ⟨hw', by omega⟩
                  have ntl : tl ≠ pl := by
                    intro e
                    have e1 := s8 _ _ ep7
                    rw [← e] at ep7
                    rw [ep7] at htl
                    cases htl
                  have ntsa : tl ≠ sa := nts
                  exact ⟨_, _, vsT.set j v', (psubL al ps).set j t', rfl, D14.own ntd ntsa, S14.mk_.ex xx ⟨_, S14.et⟩, by rw [upd_ne ntl.symm]; exact S14.ep, upd_same, S14.lp.ex xx ⟨_, S14.et⟩, (S14.lt.set j hv').ex xx ⟨_, S14.et⟩, S14.wp, WfL_mem fun x hx => (sub x hx).1, S14.dp, fun x hx => (sub x hx).2, S14.np, by rw [List.length_set]; exact S14.nt, npd, ntd⟩
                obtain ⟨y7, y10, vsT, ts, es, S12⟩ := hm
                subst es
                refine ⟨fun σ H13 => ∃ y7 y10 tl vsT ts, σ = [some (.ref a), some (.ref d), some (.ref m), some (.int (0 + (i : Int))), some (.int (many : Int)), some (.ref pl), some (.ref as), y7, some (.ref tl), some (.ref kp), y10, y11, y12, none, none] ∧ St8 H13 mk d sa m pl tl vsP vsT ps ts many, ?_, fun σ H13 hm => ?_⟩
                · refine ⟨_, rfl, d, sa, _, rfl, S12.dr, by omega, by omega, fun r H13 r0 r1 x13 D13 => ⟨rfl, _, rfl, ?_⟩⟩
                  have S13 := S12.ex x13 D13
                  refine ite2 (fun _ => ?_) (fun _ => ⟨_, _, _, _, _, rfl, S13⟩)
                  refine ⟨_, rfl, _, rfl, by omega, by omega, fun tl2 htl2 => ?_⟩
                  obtain ⟨ntd2, nts2⟩ := D13.free (H1 := H13) htl2
                  refine lc_range (lo := 0) (n := ((many : Nat) : Int).toNat) (fun i2 H14 => Ex d H13 H14 ∧ Dr H14 d sa ∧ ∃ vs ts, H14 tl2 = some (.lst vs) ∧ IsL H14 vs ts ∧ WfL mk ts ∧ (∀ t ∈ ts, dep t ≤ 12) ∧ ts.length = i2) ?_ ?_ ?_
                  · exact ⟨.new htl2 _, D13.own ntd2 nts2, [], [], upd_same, .nil, trivial, fun t h => by simp at h, rfl⟩
                  · intro i2 H14 hi2 ⟨x14, D14, vs, ts2, et2, hL2, hW2, hd2, hl2⟩
                    refine ⟨rfl, yes_if ?_⟩
                    refine ⟨_, rfl, _, rfl, (by show 3 ≤ sizeLine; decide), fun nl hnl => ?_⟩
                    obtain ⟨nld, nls⟩ := D14.free (H1 := H14) hnl
                    have s15 := same_upd hnl (.lst [.str "a", .str "b", .str "p"])
                    refine ⟨_, rfl, d, sa, _, rfl, D14.same s15, by omega, by omega, fun r H16 a0 a1 x16 D16 => ?_⟩
                    obtain ⟨k, rfl⟩ : ∃ k : Nat, r = (k : Int) := ⟨r.toNat, by omega⟩
                    have x13_16 := (x14.trans (.of s15)).trans x16
                    refine ⟨d, sa, m, nl, mk, ["a", "b", "p"], k, rfl, D16, S13.mk_.ex x13_16 S13.dr.lst, x16.but _ _ nld upd_same, nld, by decide, by decide, by decide +kernel, by omega, fun v t H17 hv ht hdt x17 D17 => ?_⟩
                    have x15_17 := (Ex.of (d := d) s15).trans (x16.trans x17)
                    have et17 := x15_17.but _ _ ntd2 et2
                    have xx : Ex tl2 H17 (upd H17 tl2 (.lst (vs ++ [v]))) := .set _
                    refine ⟨vs, et17, ?_, (x13_16.trans x17).own htl2 _, D17.own ntd2 nts2, vs ++ [v], ts2 ++ [t], upd_same, ((hL2.ex x15_17 D14.lst).append (.cons hv .nil)).ex xx ⟨_, et17⟩, hW2.append ⟨ht, trivial⟩, fun t' h => ?_, by rw [List.length_append, hl2]; rfl⟩
                    · rw [hL2.len, hl2]; exact small1000 (by omega)
                    · rcases List.mem_append.mp h with h | h
                      · exact hd2 t' h
                      · rw [List.mem_singleton.mp h]; omega
                  · intro H14 ⟨x14, D14, vs, ts2, et2, hL2, hW2, hd2, hl2⟩
                    have S14 := S13.ex x14 D14
                    exact ⟨_, _, tl2, vs, ts2, rfl, S14.dr, S14.mk_, S14.ep, et2, S14.lp, hL2, S14.wp, hW2, S14.dp, hd2, S14.np, by omega, npd, ntd2⟩
                obtain ⟨y7, y10, tl, vsT, ts, es, S13⟩ := hm
                subst es
                obtain ⟨fnd, fok, flen, flc⟩ := found_ok S13.lp S13.wp S13.dp (by have := S13.np; omega) S13.wt S13.dt
                have lnP := S13.lp.len
                have lnT := S13.lt.len
                have np := S13.np
                have nt := S13.nt
                have pt : ps.length = ts.length := by omega
                -- due
                refine ⟨fun σ H14 => ∃ dv, σ = [some (.ref a), some (.ref d), some (.ref m), some (.int (0 + (i : Int))), some (.int (many : Int)), some (.ref pl), some (.ref as), y7, some (.ref tl), some (.ref kp), y10, some dv, y12, none, none] ∧ St8 H14 mk d sa m pl tl vsP vsT ps ts many ∧ DueOk H14 ps ts dv, ?_, fun σ H14 hm => ?_⟩
                · refine ⟨_, rfl, _, rfl, pl, tl, mk, vsP, vsT, ps, ts, rfl, S13.ep, S13.et, S13.lp, S13.lt, S13.wp, S13.wt, pt, fun t ht => by have := S13.dp t ht; omega, fun t ht => by have := S13.dt t ht; omega, flc, by omega, fun hb f H14 s14 _ hA => ?_, fun hb H14 s14 => ?_⟩
                  · exact ⟨_, rfl, S13.same s14, .inl ⟨hb, f, rfl, hA⟩⟩
                  · exact ⟨_, rfl, S13.same s14, .inr ⟨hb, rfl⟩⟩
                obtain ⟨dv, es, S14, Du⟩ := hm
                subst es
                -- handed
                refine ⟨_, rfl, pl, _, rfl, .inl (SqL.of S14.ep), fun c1 h1 => ?_⟩
                have t1 := same_upd h1 (.lst vsP)
                refine ⟨_, rfl, tl, _, rfl, .inl (SqL.of (t1 _ _ S14.et)), fun c2 h2 => ?_⟩
                have t2 := same_upd h2 (.lst vsT)
                refine ⟨(by show 2 ≤ sizeLine; decide), fun hd hhd => ?_⟩
                have t3 := same_upd hhd (.tup [.ref c1, .ref c2])
                have t123 := (t1.trans t2).trans t3
                have S15 := S14.same t123
                have Du15 := Du.same t123
                have ec1 := t3 _ _ (t2 _ _ (upd_same (H := H14) (a := c1) (o := .lst vsP)))
                have ec2 := t3 _ _ (upd_same (H := upd H14 c1 (.lst vsP)) (a := c2) (o := .lst vsT))
                have ehd := upd_same (H := upd (upd H14 c1 (.lst vsP)) c2 (.lst vsT)) (a := hd) (o := .tup [.ref c1, .ref c2])
                generalize upd (upd (upd H14 c1 (.lst vsP)) c2 (.lst vsT)) hd (.tup [.ref c1, .ref c2]) = H15 at S15 Du15 ec1 ec2 ehd
                have shp := toDL_shape S15.lp S15.lt S15.dp S15.dt
                have sameDue : ∀ {H16 H17 : Hp} {v : V}, Same H15 H16 → Same H16 H17 → ((fitL [] ps ts).1 = true → ∃ f, v = .ref f ∧ H15 f = none ∧ AsD H16 f (fitL [] ps ts).2) → ((fitL [] ps ts).1 = false → v = .non) → sameV H17 20 v dv := by
                  intro H16 H17 v u1 u2 k1 k2
                  rcases Du15 with ⟨hb, f, rfl, hA⟩ | ⟨hb, rfl⟩
                  · obtain ⟨g, rfl, hg, hG⟩ := k1 hb
                    have nfg : g ≠ f := by
                      obtain ⟨kvs, e, _⟩ := hA
                      exact (ne_of_none e hg).symm
                    exact .inr (.inr (.inr ⟨g, f, mk, _, rfl, rfl, nfg, hG.same u2, (hA.same u1).same u2, fnd, fok, flen⟩))
                  · exact .inr (.inr (.inl ⟨k2 hb, rfl⟩))
                refine ⟨fun v H16 => Same H15 H16 ∧ ((fitL [] ps ts).1 = true → ∃ f, v = .ref f ∧ H15 f = none ∧ AsD H16 f (fitL [] ps ts).2) ∧ ((fitL [] ps ts).1 = false → v = .non), ?_, fun v H16 ⟨u16, k1, k2⟩ => ?_⟩
                · refine ⟨_, rfl, hd, _, _, _, rfl, rfl, .inl (.inl ehd), atI_nat (j := 0) rfl, _, rfl, hd, _, _, _, rfl, rfl, .inl (.inl ehd), atI_nat (j := 1) rfl, c1, c2, mk, vsP, vsT, ps, ts, rfl, .inl ⟨ec1, ec2⟩, S15.lp, S15.lt, S15.wp, S15.wt, pt, fun t ht => by have := S15.dp t ht; omega, fun t ht => by have := S15.dt t ht; omega, flc, by omega, fun hb f H16 u16 hf hA => ⟨u16, fun _ => ⟨f, rfl, hf, hA⟩, fun e => ?_⟩, fun hb H16 u16 => ⟨u16, fun e => ?_, fun _ => rfl⟩⟩
                  · rw [hb] at e; cases e
                  · rw [hb] at e; cases e
                refine ⟨_, rfl, _, _, rfl, by decide, sameDue u16 (.refl _) k1 k2, fun H17 u17 => ⟨_, rfl, ite2 (fun c => absurd c (by decide)) (fun _ => ?_)⟩⟩
                have u15_17 := u16.trans u17
                have S17 := S15.same u15_17
                refine ⟨_, rfl, _, rfl, _, rfl, (by show 2 ≤ sizeLine; decide), fun tt htt => ?_⟩
                have t4 := same_upd htt (.tup [.ref pl, .ref tl])
                have S18 := S17.same t4
                have u15_18 := u15_17.trans t4
                refine ⟨_, _, .tup (.inl (.inl (u15_18 _ _ ehd))) (.cons (.lst (SqL.of (u15_18 _ _ ec1)) S18.lp.dp) (.cons (.lst (SqL.of (u15_18 _ _ ec2)) S18.lt.dp) .nil)), .tup (.inl (.inl upd_same)) (.cons (.lst (SqL.of S18.ep) S18.lp.dp) (.cons (.lst (SqL.of S18.et) S18.lt.dp) .nil)), shp, shp, _, rfl, ?_⟩
                refine ite2 (fun c => absurd c ?_) (fun _ => ?_)
                · rw [SeqAt.eqv_refl _ (SeqAt.canLay_of_shaped shp)]
                  simp
                -- fitted of tuples
                refine ⟨fun v H19 => ∃ H16, Same H15 H16 ∧ Same H16 H19 ∧ ((fitL [] ps ts).1 = true → ∃ f, v = .ref f ∧ H15 f = none ∧ AsD H16 f (fitL [] ps ts).2) ∧ ((fitL [] ps ts).1 = false → v = .non), ?_, fun v H19 ⟨H16', v16, v19, k1, k2⟩ => ?_⟩
                · refine ⟨_, rfl, pl, _, rfl, .inl ⟨SqL.of S18.ep, fun l1 hl1 => ?_⟩⟩
                  have t5 := same_upd hl1 (.tup vsP)
                  refine ⟨_, rfl, tl, _, rfl, .inl ⟨SqL.of (t5 _ _ S18.et), fun l2 hl2 => ?_⟩⟩
                  have t6 := same_upd hl2 (.tup vsT)
                  have S20 := (S18.same t5).same t6
                  have u15_20 := (u15_18.trans t5).trans t6
                  refine ⟨l1, l2, mk, vsP, vsT, ps, ts, rfl, .inr ⟨.inl (.inl (t6 _ _ upd_same)), .inl (.inl upd_same)⟩, S20.lp, S20.lt, S20.wp, S20.wt, pt, fun t ht => by have := S20.dp t ht; omega, fun t ht => by have := S20.dt t ht; omega, flc, by omega, fun hb f H16 u16 hf hA => ⟨H16, u15_20.trans u16, .refl _, fun _ => ⟨f, rfl, Same.free u15_20 hf, hA⟩, fun e => ?_⟩, fun hb H16 u16 => ⟨H16, u15_20.trans u16, .refl _, fun e => ?_, fun _ => rfl⟩⟩
                  · rw [hb] at e; cases e
                  · rw [hb] at e; cases e
                refine ⟨_, rfl, _, _, rfl, by decide, sameDue v16 v19 k1 k2, fun H20 u20 => ⟨_, rfl, ite2 (fun c => absurd c (by decide)) (fun _ => ?_)⟩⟩
                have u15_20 := (v16.trans v19).trans u20
                have S20 := S15.same u15_20
                have Du20 := Du15.same u15_20
                refine ⟨_, rfl, rfl, _, rfl, ?_⟩
                rcases Du20 with ⟨hb, f, rfl, hA⟩ | ⟨hb, rfl⟩
                · refine ite2 (fun _ => ?_) (fun c => absurd (by rfl) c)
                  have pe : psubL (fitL [] ps ts).2 ps = ts := fitL_put _ ps ts [] pt S20.wp S20.wt (fun kv h => by simp at h) hb (.refl _)
                  refine ⟨_, rfl, pl, rfl, ⟨_, SqL.of S20.ep⟩, fun ul hul => ?_⟩
                  refine lc_list (K := K) (a := pl) (xs := vsP) (fun j H21 => Same H20 H21 ∧ ∃ vs, H21 ul = some (.lst vs) ∧ IsL H21 vs (psubL (fitL [] ps ts).2 (ps.take j)) ∧ vs.length = j) ?_ ?_ ?_ ?_
                  · exact ⟨same_upd hul _, [], upd_same, .nil, rfl⟩
                  · exact fun j H21 _ ⟨s21, _⟩ => SqL.of (s21 _ _ S20.ep)
                  · intro j x H21 hx ⟨s21, vs, eu, hU, hl⟩
                    obtain ⟨y, ey, hy⟩ := S20.lp.get hx
                    have hm := List.mem_of_getElem? ey
                    have dy := S20.dp y hm
                    have hj := (List.getElem?_eq_some_iff.mp hx).1
                    refine ⟨rfl, yes_if ?_⟩
                    refine ⟨_, rfl, _, rfl, f, mk, x, y, _, rfl, hA.same s21, hy.same s21, mem_WfL S20.wp y hm, by omega, fun v' H22 s22 hv' => ?_⟩
                    have xx : Ex ul H22 (upd H22 ul (.lst (vs ++ [v']))) := .set _
                    refine ⟨vs, s22 _ _ eu, small1000 (by omega), Kx.Same.own (s21.trans s22) hul _, vs ++ [v'], upd_same, ?_, by rw [List.length_append, hl]; rfl⟩
                    rw [psubL_take ey]
                    exact ((hU.same s22).append (.cons hv' .nil)).ex xx ⟨_, s22 _ _ eu⟩
                  · intro H21 ⟨s21, vsU, eu, hU, hlU⟩
                    rw [lnP, List.take_length, pe] at hU
                    refine ⟨_, rfl, _, _, rfl, by decide, .inr (.inl ⟨ul, tl, mk, _, _, _, rfl, rfl, eu, s21 _ _ S20.et, hU, S20.lt.same s21, S20.wt, fun t ht => by have := S20.dt t ht; omega, by omega⟩), fun H22 s22 => ⟨_, rfl, ite2 (fun c => absurd c (by decide)) (fun _ => ?_)⟩⟩
                    have S22 := (S20.same s21).same s22
                    exact ⟨_, _, _, _, _, _, _, _, _, _, rfl, S22.dr, S22.mk_⟩
                · refine ite2 (fun c => absurd c (by simp)) (fun _ => ?_)
                  exact iteF ⟨_, _, _, _, _, _, _, _, _, _, rfl, S20.dr, S20.mk_⟩
      · intro σ H4 ⟨_, _, _, _, _, _, _, _, _, _, es, _, _⟩
        subst es
        exact q H4
end
end Kx
/-! The end: the program's top leaves the defs where the text says. -/
namespace Kx
open PySem L2
theorem all_mk {l : PySem.W.OpenLaw} {w : World} {K : PySem.W.Frag} {h : Heap} {mg : Str → Option Value} {fa f0 f1 f2 f3 f4 f5 f6 f7 f8 f9 f10 f11 f12 f13 : Addr} (X : K.In h) (G : h.Ns mainGlobals mg) (hfa : mg "law" = some (.ref fa))
    {od0 an0 od1 an1 od2 an2 od3 an3 od4 an4 od5 an5 od6 an6 od7 an7 od8 an8 od9 an9 od10 an10 od11 an11 od12 an12 od13 an13 : Option Addr} {sl0 sl1 sl2 sl3 sl4 sl5 sl6 sl7 sl8 sl9 sl10 sl11 sl12 sl13 : Array (Option Value)} {oc0 kV0 dc0 pm0 cd0 ct0 oc1 kV1 dc1 pm1 cd1 ct1 oc2 kV2 dc2 pm2 cd2 ct2 oc3 kV3 dc3 pm3 cd3 ct3 oc4 kV4 dc4 pm4 cd4 ct4 oc5 kV5 dc5 pm5 cd5 ct5 oc6 kV6 dc6 pm6 cd6 ct6 oc7 kV7 dc7 pm7 cd7 ct7 oc8 kV8 dc8 pm8 cd8 ct8 oc9 kV9 dc9 pm9 cd9 ct9 oc10 kV10 dc10 pm10 cd10 ct10 oc11 kV11 dc11 pm11 cd11 ct11 oc12 kV12 dc12 pm12 cd12 ct12 oc13 kV13 dc13 pm13 cd13 ct13 : Value}
    (a0 : PySem.W.nsIn K mainGlobals "put" = some (some (.ref f0))) (l0 : K.lookup f0 = some ⟨oc0, od0, .func (PySem.W.fnOf "put" "put" (defArgs s_put) (defBody s_put) (defScope s_put) .none kV0 dc0 pm0 an0 cd0 ct0), sl0⟩) (c0 : PySem.W.codeIn K cd0 "put" = true) (k0 : PySem.W.keepIn K (.ref f0) = true)
    (a1 : PySem.W.nsIn K mainGlobals "fitted" = some (some (.ref f1))) (l1 : K.lookup f1 = some ⟨oc1, od1, .func (PySem.W.fnOf "fitted" "fitted" (defArgs s_fitted) (defBody s_fitted) (defScope s_fitted) .none kV1 dc1 pm1 an1 cd1 ct1), sl1⟩) (c1 : PySem.W.codeIn K cd1 "fitted" = true) (k1 : PySem.W.keepIn K (.ref f1) = true)
    (a2 : PySem.W.nsIn K mainGlobals "_fits" = some (some (.ref f2))) (l2 : K.lookup f2 = some ⟨oc2, od2, .func (PySem.W.fnOf "_fits" "_fits" (defArgs s_fits) (defBody s_fits) (defScope s_fits) .none kV2 dc2 pm2 an2 cd2 ct2), sl2⟩) (c2 : PySem.W.codeIn K cd2 "_fits" = true) (k2 : PySem.W.keepIn K (.ref f2) = true)
    (a3 : PySem.W.nsIn K mainGlobals "_law_draws" = some (some (.ref f3))) (l3 : K.lookup f3 = some ⟨oc3, od3, .func (PySem.W.fnOf "_law_draws" "_law_draws" (defArgs s_law_draws) (defBody s_law_draws) (defScope s_law_draws) .none kV3 dc3 pm3 an3 cd3 ct3), sl3⟩) (c3 : PySem.W.codeIn K cd3 "_law_draws" = true) (k3 : PySem.W.keepIn K (.ref f3) = true)
    (a4 : PySem.W.nsIn K mainGlobals "_law_draw" = some (some (.ref f4))) (l4 : K.lookup f4 = some ⟨oc4, od4, .func (PySem.W.fnOf "_law_draw" "_law_draw" (defArgs s_law_draw) (defBody s_law_draw) (defScope s_law_draw) .none kV4 dc4 pm4 an4 cd4 ct4), sl4⟩) (c4 : PySem.W.codeIn K cd4 "_law_draw" = true) (k4 : PySem.W.keepIn K (.ref f4) = true)
    (a5 : PySem.W.nsIn K mainGlobals "_law_pick" = some (some (.ref f5))) (l5 : K.lookup f5 = some ⟨oc5, od5, .func (PySem.W.fnOf "_law_pick" "_law_pick" (defArgs s_law_pick) (defBody s_law_pick) (defScope s_law_pick) .none kV5 dc5 pm5 an5 cd5 ct5), sl5⟩) (c5 : PySem.W.codeIn K cd5 "_law_pick" = true) (k5 : PySem.W.keepIn K (.ref f5) = true)
    (a6 : PySem.W.nsIn K mainGlobals "_law_makers" = some (some (.ref f6))) (l6 : K.lookup f6 = some ⟨oc6, od6, .func (PySem.W.fnOf "_law_makers" "_law_makers" (defArgs s_law_makers) (defBody s_law_makers) (defScope s_law_makers) .none kV6 dc6 pm6 an6 cd6 ct6), sl6⟩) (c6 : PySem.W.codeIn K cd6 "_law_makers" = true) (k6 : PySem.W.keepIn K (.ref f6) = true)
    (a7 : PySem.W.nsIn K mainGlobals "_law_term" = some (some (.ref f7))) (l7 : K.lookup f7 = some ⟨oc7, od7, .func (PySem.W.fnOf "_law_term" "_law_term" (defArgs s_law_term) (defBody s_law_term) (defScope s_law_term) .none kV7 dc7 pm7 an7 cd7 ct7), sl7⟩) (c7 : PySem.W.codeIn K cd7 "_law_term" = true) (k7 : PySem.W.keepIn K (.ref f7) = true)
    (a8 : PySem.W.nsIn K mainGlobals "_law_put" = some (some (.ref f8))) (l8 : K.lookup f8 = some ⟨oc8, od8, .func (PySem.W.fnOf "_law_put" "_law_put" (defArgs s_law_put) (defBody s_law_put) (defScope s_law_put) .none kV8 dc8 pm8 an8 cd8 ct8), sl8⟩) (c8 : PySem.W.codeIn K cd8 "_law_put" = true) (k8 : PySem.W.keepIn K (.ref f8) = true)
    (a9 : PySem.W.nsIn K mainGlobals "_law_fit" = some (some (.ref f9))) (l9 : K.lookup f9 = some ⟨oc9, od9, .func (PySem.W.fnOf "_law_fit" "_law_fit" (defArgs s_law_fit) (defBody s_law_fit) (defScope s_law_fit) .none kV9 dc9 pm9 an9 cd9 ct9), sl9⟩) (c9 : PySem.W.codeIn K cd9 "_law_fit" = true) (k9 : PySem.W.keepIn K (.ref f9) = true)
    (a10 : PySem.W.nsIn K mainGlobals "_law_fitted" = some (some (.ref f10))) (l10 : K.lookup f10 = some ⟨oc10, od10, .func (PySem.W.fnOf "_law_fitted" "_law_fitted" (defArgs s_law_fitted) (defBody s_law_fitted) (defScope s_law_fitted) .none kV10 dc10 pm10 an10 cd10 ct10), sl10⟩) (c10 : PySem.W.codeIn K cd10 "_law_fitted" = true) (k10 : PySem.W.keepIn K (.ref f10) = true)
    (a11 : PySem.W.nsIn K mainGlobals "_law_same" = some (some (.ref f11))) (l11 : K.lookup f11 = some ⟨oc11, od11, .func (PySem.W.fnOf "_law_same" "_law_same" (defArgs s_law_same) (defBody s_law_same) (defScope s_law_same) .none kV11 dc11 pm11 an11 cd11 ct11), sl11⟩) (c11 : PySem.W.codeIn K cd11 "_law_same" = true) (k11 : PySem.W.keepIn K (.ref f11) = true)
    (a12 : PySem.W.nsIn K mainGlobals "_law_changed" = some (some (.ref f12))) (l12 : K.lookup f12 = some ⟨oc12, od12, .func (PySem.W.fnOf "_law_changed" "_law_changed" (defArgs s_law_changed) (defBody s_law_changed) (defScope s_law_changed) .none kV12 dc12 pm12 an12 cd12 ct12), sl12⟩) (c12 : PySem.W.codeIn K cd12 "_law_changed" = true) (k12 : PySem.W.keepIn K (.ref f12) = true)
    (a13 : PySem.W.nsIn K mainGlobals "law" = some (some (.ref f13))) (l13 : K.lookup f13 = some ⟨oc13, od13, .func (PySem.W.fnOf "law" "law" (defArgs s_law) (defBody s_law) (defScope s_law) .none kV13 dc13 pm13 an13 cd13 ct13), sl13⟩) (c13 : PySem.W.codeIn K cd13 "law" = true) (k13 : PySem.W.keepIn K (.ref f13) = true)
    (z0 : PySem.W.nsIn K mainGlobals "isinstance" = some none)
    (z1 : PySem.W.nsIn K mainGlobals "str" = some none)
    (z2 : PySem.W.nsIn K mainGlobals "tuple" = some none)
    (z3 : PySem.W.nsIn K mainGlobals "zip" = some none)
    (z4 : PySem.W.nsIn K mainGlobals "list" = some none)
    (z5 : PySem.W.nsIn K mainGlobals "len" = some none)
    (z6 : PySem.W.nsIn K mainGlobals "abs" = some none)
    (z7 : PySem.W.nsIn K mainGlobals "int" = some none)
    (z8 : PySem.W.nsIn K mainGlobals "range" = some none)
    (z9 : PySem.W.nsIn K mainGlobals "dict" = some none)
    (z10 : PySem.W.nsIn K mainGlobals "sorted" = some none)
    (z11 : PySem.W.nsIn K mainGlobals "all" = some none)
    (z12 : PySem.W.nsIn K mainGlobals "bool" = some none)
    : ∃ fd : FuncData, (∀ (s : Shared) (v : Value), BindsTo s fd ⟨[v], []⟩ [("script", v)]) ∧ ∀ base : Heap, K.In base → base.Ns mainGlobals mg → FnOk l.prog w K mg base CX0 26 fa fd ["script"] (spLaw K) := by
  have e := hfa.symm.trans (PySem.W.mg_of X G a13)
  cases e
  let T : Txt K mg := {
    a_put := f0, d_put := _, F_put := fun_mk (st := s_put) l0 c0 k0, b_put := (fun_mk (st := s_put) l0 c0 k0).binds (ps := ["term", "assignment"]) (fun _ _ _ _ _ _ us hl => match us, hl with | [_, _], _ => rfl), m_put := PySem.W.mg_of X G a0,
    a_fitted := f1, d_fitted := _, F_fitted := fun_mk (st := s_fitted) l1 c1 k1, b_fitted := (fun_mk (st := s_fitted) l1 c1 k1).binds (ps := ["patterns", "terms"]) (fun _ _ _ _ _ _ us hl => match us, hl with | [_, _], _ => rfl), m_fitted := PySem.W.mg_of X G a1,
    a_fits := f2, d_fits := _, F_fits := fun_mk (st := s_fits) l2 c2 k2, b_fits := (fun_mk (st := s_fits) l2 c2 k2).binds (ps := ["pattern", "term", "found"]) (fun _ _ _ _ _ _ us hl => match us, hl with | [_, _, _], _ => rfl), m_fits := PySem.W.mg_of X G a2,
    a_law_draws := f3, d_law_draws := _, F_law_draws := fun_mk (st := s_law_draws) l3 c3 k3, b_law_draws := (fun_mk (st := s_law_draws) l3 c3 k3).binds (ps := ["script"]) (fun _ _ _ _ _ _ us hl => match us, hl with | [_], _ => rfl), m_law_draws := PySem.W.mg_of X G a3,
    a_law_draw := f4, d_law_draw := _, F_law_draw := fun_mk (st := s_law_draw) l4 c4 k4, b_law_draw := (fun_mk (st := s_law_draw) l4 c4 k4).binds (ps := ["draws", "limit"]) (fun _ _ _ _ _ _ us hl => match us, hl with | [_, _], _ => rfl), m_law_draw := PySem.W.mg_of X G a4,
    a_law_pick := f5, d_law_pick := _, F_law_pick := fun_mk (st := s_law_pick) l5 c5 k5, b_law_pick := (fun_mk (st := s_law_pick) l5 c5 k5).binds (ps := ["draws", "row"]) (fun _ _ _ _ _ _ us hl => match us, hl with | [_, _], _ => rfl), m_law_pick := PySem.W.mg_of X G a5,
    a_law_makers := f6, d_law_makers := _, F_law_makers := fun_mk (st := s_law_makers) l6 c6 k6, b_law_makers := (fun_mk (st := s_law_makers) l6 c6 k6).binds (ps := ["draws"]) (fun _ _ _ _ _ _ us hl => match us, hl with | [_], _ => rfl), m_law_makers := PySem.W.mg_of X G a6,
    a_law_term := f7, d_law_term := _, F_law_term := fun_mk (st := s_law_term) l7 c7 k7, b_law_term := (fun_mk (st := s_law_term) l7 c7 k7).binds (ps := ["draws", "makers", "names", "deep"]) (fun _ _ _ _ _ _ us hl => match us, hl with | [_, _, _, _], _ => rfl), m_law_term := PySem.W.mg_of X G a7,
    a_law_put := f8, d_law_put := _, F_law_put := fun_mk (st := s_law_put) l8 c8 k8, b_law_put := (fun_mk (st := s_law_put) l8 c8 k8).binds (ps := ["term", "assignment"]) (fun _ _ _ _ _ _ us hl => match us, hl with | [_, _], _ => rfl), m_law_put := PySem.W.mg_of X G a8,
    a_law_fit := f9, d_law_fit := _, F_law_fit := fun_mk (st := s_law_fit) l9 c9 k9, b_law_fit := (fun_mk (st := s_law_fit) l9 c9 k9).binds (ps := ["pattern", "term", "found"]) (fun _ _ _ _ _ _ us hl => match us, hl with | [_, _, _], _ => rfl), m_law_fit := PySem.W.mg_of X G a9,
    a_law_fitted := f10, d_law_fitted := _, F_law_fitted := fun_mk (st := s_law_fitted) l10 c10 k10, b_law_fitted := (fun_mk (st := s_law_fitted) l10 c10 k10).binds (ps := ["patterns", "terms"]) (fun _ _ _ _ _ _ us hl => match us, hl with | [_, _], _ => rfl), m_law_fitted := PySem.W.mg_of X G a10,
    a_law_same := f11, d_law_same := _, F_law_same := fun_mk (st := s_law_same) l11 c11 k11, b_law_same := (fun_mk (st := s_law_same) l11 c11 k11).binds (ps := ["told", "due"]) (fun _ _ _ _ _ _ us hl => match us, hl with | [_, _], _ => rfl), m_law_same := PySem.W.mg_of X G a11,
    a_law_changed := f12, d_law_changed := _, F_law_changed := fun_mk (st := s_law_changed) l12 c12 k12, b_law_changed := (fun_mk (st := s_law_changed) l12 c12 k12).binds (ps := ["draws", "makers", "term"]) (fun _ _ _ _ _ _ us hl => match us, hl with | [_, _, _], _ => rfl), m_law_changed := PySem.W.mg_of X G a12,
    a_law := fa, d_law := _, F_law := fun_mk (st := s_law) l13 c13 k13, b_law := (fun_mk (st := s_law) l13 c13 k13).binds (ps := ["script"]) (fun _ _ _ _ _ _ us hl => match us, hl with | [_], _ => rfl), m_law := PySem.W.mg_of X G a13,
    z_isinstance := PySem.W.mg_none_of X G z0,
    z_str := PySem.W.mg_none_of X G z1,
    z_tuple := PySem.W.mg_none_of X G z2,
    z_zip := PySem.W.mg_none_of X G z3,
    z_list := PySem.W.mg_none_of X G z4,
    z_len := PySem.W.mg_none_of X G z5,
    z_abs := PySem.W.mg_none_of X G z6,
    z_int := PySem.W.mg_none_of X G z7,
    z_range := PySem.W.mg_none_of X G z8,
    z_dict := PySem.W.mg_none_of X G z9,
    z_sorted := PySem.W.mg_none_of X G z10,
    z_all := PySem.W.mg_none_of X G z11,
    z_bool := PySem.W.mg_none_of X G z12 }
  refine ⟨PySem.W.fnOf "law" "law" (defArgs s_law) (defBody s_law) (defScope s_law) .none kV13 dc13 pm13 an13 cd13 ct13, fun _ _ => .of_eq rfl, fun base _ _ => ?_⟩
  have d1 := ok_law_draw (P := l.prog) (w := w) (base := base) T
  exact ok_law T (ok_law_draws T) (ok_law_makers T d1) d1 (all_term T 4) (all_changed T 20) (all_same T 20) (all_put T 20) (all_lput T 20) (ok_fitted T (all_fits T 20)) (ok_law_fitted T (all_lfit T 20))
theorem law_walk {l : PySem.W.OpenLaw} {q : Program} {loose : List Str} {XP : (Str → Option Value) → Heap → Prop} {YP : World → Heap → Prop} {r : DefRec} {K : Params → PySem.W.Frag}
    (h63 : l.most = some 63) (hno : r.params.defaults = []) (hK : ∀ (w : World) (h : Heap), YP w h → (K w.params).In h)
    (ok : ∀ (w : World) (mg : Str → Option Value) (fa : Addr) (h : Heap), (K w.params).In h → h.Ns mainGlobals mg → mg r.name = some (.ref fa) →
      ∃ fd : FuncData, (∀ (s : Shared) (u : Value), BindsTo s fd ⟨[u], []⟩ [("script", u)]) ∧
        ∀ base : Heap, (K w.params).In base → base.Ns mainGlobals mg → FnOk l.prog w (K w.params) mg base CX0 26 fa fd ["script"] (spLaw (K w.params))) :
    PySem.W.WalkO q loose XP YP l.row.toRowW r [] (fun f vs => PySem.call f vs) :=
  L2.walk_of (n := 63) (k := 26) (x := "script") (CX := fun _ => CX0) (sp := fun w => spLaw (K w.params)) h63 (by decide) hno ⟨rfl, by decide, by decide⟩ hK ok
    (fun _ _ a ns few _ seq => ⟨a, ns, rfl, seq, few, fun _ => rfl⟩) fun _ _ _ _ _ z => z
end Kx
open PySem PySem.W PyProof.Rows
set_option maxRecDepth 100000 in
set_option maxHeartbeats 0 in
theorem PySem.Challenge.cw_exactkinds_k03_terms_that_fit_holds : PySem.Challenge.rw_exactkinds_k03_terms_that_fit.Holds := by
  w_on; o_law; k_head; (case hw => w_witness2)
  k_fill
  refine Kx.law_walk (l := PySem.Challenge.rw_exactkinds_k03_terms_that_fit) rfl rfl (fun _ _ Y => PySem.W.kIn_of Y) ?walked
  case walked =>
    intro w mg fa h inK names hmg
    refine' Kx.all_mk inK names hmg ?a0 ?l0 ?c0 ?k0 ?a1 ?l1 ?c1 ?k1 ?a2 ?l2 ?c2 ?k2 ?a3 ?l3 ?c3 ?k3 ?a4 ?l4 ?c4 ?k4 ?a5 ?l5 ?c5 ?k5 ?a6 ?l6 ?c6 ?k6 ?a7 ?l7 ?c7 ?k7 ?a8 ?l8 ?c8 ?k8 ?a9 ?l9 ?c9 ?k9 ?a10 ?l10 ?c10 ?k10 ?a11 ?l11 ?c11 ?k11 ?a12 ?l12 ?c12 ?k12 ?a13 ?l13 ?c13 ?k13 ?z0 ?z1 ?z2 ?z3 ?z4 ?z5 ?z6 ?z7 ?z8 ?z9 ?z10 ?z11 ?z12
    (case a0 => k_is); (case l0 => k_is); (case c0 => k_is); (case k0 => k_is)
    (case a1 => k_is); (case l1 => k_is); (case c1 => k_is); (case k1 => k_is)
    (case a2 => k_is); (case l2 => k_is); (case c2 => k_is); (case k2 => k_is)
    (case a3 => k_is); (case l3 => k_is); (case c3 => k_is); (case k3 => k_is)
    (case a4 => k_is); (case l4 => k_is); (case c4 => k_is); (case k4 => k_is)
    (case a5 => k_is); (case l5 => k_is); (case c5 => k_is); (case k5 => k_is)
    (case a6 => k_is); (case l6 => k_is); (case c6 => k_is); (case k6 => k_is)
    (case a7 => k_is); (case l7 => k_is); (case c7 => k_is); (case k7 => k_is)
    (case a8 => k_is); (case l8 => k_is); (case c8 => k_is); (case k8 => k_is)
    (case a9 => k_is); (case l9 => k_is); (case c9 => k_is); (case k9 => k_is)
    (case a10 => k_is); (case l10 => k_is); (case c10 => k_is); (case k10 => k_is)
    (case a11 => k_is); (case l11 => k_is); (case c11 => k_is); (case k11 => k_is)
    (case a12 => k_is); (case l12 => k_is); (case c12 => k_is); (case k12 => k_is)
    (case a13 => k_is); (case l13 => k_is); (case c13 => k_is); (case k13 => k_is)
    (case z0 => k_is)
    (case z1 => k_is)
    (case z2 => k_is)
    (case z3 => k_is)
    (case z4 => k_is)
    (case z5 => k_is)
    (case z6 => k_is)
    (case z7 => k_is)
    (case z8 => k_is)
    (case z9 => k_is)
    (case z10 => k_is)
    (case z11 => k_is)
    (case z12 => k_is)

