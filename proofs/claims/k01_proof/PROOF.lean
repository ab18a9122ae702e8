import PyProof.Rows.All
import Wide.All
import OpenK.AllK
import Wide.FinOn
import HandS.ForMost
import HandS.IsInst
import HandS.Conv
import HandS.TupAny
import HandS.Evl
import HandS.SetKeys
import HandS.Rev
import HandS.ForDict
import HandS.New
import HandS.Dict
import PyProof.EqAt
import PyProof.EqKinds
import HandS.Style
import KE.KDictPairs
import PySem.Challenge.RW_exactkinds_k01_terms_and_trees
set_option Elab.async false
set_option linter.all false
set_option maxRecDepth 100000
namespace Kx
open PySem PySem.Spec PyProof.Rows L2
def top (i : Nat) : Stmt := PySem.Challenge.pw_exactkinds_k01_terms_and_trees.main.body.getD i (.Pass ⟨0, 0, 0, 0⟩)
abbrev s_Kept_init : Stmt := inClass (top 2) 0
abbrev s_Kept_pair_of : Stmt := inClass (top 2) 1
abbrev s_Kept_keep : Stmt := inClass (top 2) 2
abbrev s_is_term : Stmt := top 4
abbrev s_is_tree : Stmt := top 5
abbrev s_has_form : Stmt := top 6
abbrev s_size : Stmt := top 7
abbrev s_depth : Stmt := top 8
abbrev s_names_of : Stmt := top 9
abbrev s_law_draws : Stmt := top 11
abbrev s_law_draw : Stmt := top 12
abbrev s_law_pick : Stmt := top 13
abbrev s_law_makers : Stmt := top 14
abbrev s_law_term : Stmt := top 15
abbrev s_law_odd : Stmt := top 16
abbrev s_law_bent : Stmt := top 17
abbrev s_law_is_term : Stmt := top 18
abbrev s_law_names : Stmt := top 19
abbrev s_law_size : Stmt := top 20
abbrev s_law_depth : Stmt := top 21
abbrev s_law_told : Stmt := top 22
abbrev s_law : Stmt := top 23
theorem sc_Kept_init : FnScope ["self"] ["self"] (defScope s_Kept_init) := ⟨rfl, rfl, rfl, by decide +kernel, rfl, by decide +kernel, by decide +kernel⟩
theorem sc_Kept_pair_of : FnScope ["self", "tree", "pair"] ["self", "tree"] (defScope s_Kept_pair_of) := ⟨rfl, rfl, rfl, by decide +kernel, rfl, by decide +kernel, by decide +kernel⟩
theorem sc_Kept_keep : FnScope ["self", "tree", "result", "row"] ["self", "tree", "result"] (defScope s_Kept_keep) := ⟨rfl, rfl, rfl, by decide +kernel, rfl, by decide +kernel, by decide +kernel⟩
theorem sc_is_term : FnScope ["makers", "value"] ["makers", "value"] (defScope s_is_term) := ⟨rfl, rfl, rfl, by decide +kernel, rfl, by decide +kernel, by decide +kernel⟩
theorem sc_is_tree : FnScope ["makers", "value"] ["makers", "value"] (defScope s_is_tree) := ⟨rfl, rfl, rfl, by decide +kernel, rfl, by decide +kernel, by decide +kernel⟩
theorem sc_has_form : FnScope ["parts_by_word", "value", "may_have_names", "kept", "part"] ["parts_by_word", "value", "may_have_names", "kept"] (defScope s_has_form) := ⟨rfl, rfl, rfl, by decide +kernel, rfl, by decide +kernel, by decide +kernel⟩
theorem sc_size : FnScope ["term", "many", "part"] ["term"] (defScope s_size) := ⟨rfl, rfl, rfl, by decide +kernel, rfl, by decide +kernel, by decide +kernel⟩
theorem sc_depth : FnScope ["term", "deepest", "part"] ["term"] (defScope s_depth) := ⟨rfl, rfl, rfl, by decide +kernel, rfl, by decide +kernel, by decide +kernel⟩
theorem sc_names_of : FnScope ["term", "found", "todo", "here"] ["term"] (defScope s_names_of) := ⟨rfl, rfl, rfl, by decide +kernel, rfl, by decide +kernel, by decide +kernel⟩
theorem sc_law_draws : FnScope ["script"] ["script"] (defScope s_law_draws) := ⟨rfl, rfl, rfl, by decide +kernel, rfl, by decide +kernel, by decide +kernel⟩
theorem sc_law_draw : FnScope ["draws", "limit", "cell", "value"] ["draws", "limit"] (defScope s_law_draw) := ⟨rfl, rfl, rfl, by decide +kernel, rfl, by decide +kernel, by decide +kernel⟩
theorem sc_law_pick : FnScope ["draws", "row"] ["draws", "row"] (defScope s_law_pick) := ⟨rfl, rfl, rfl, by decide +kernel, rfl, by decide +kernel, by decide +kernel⟩
theorem sc_law_makers : FnScope ["draws", "rows", "word", "turn"] ["draws"] (defScope s_law_makers) := ⟨rfl, rfl, rfl, by decide +kernel, rfl, by decide +kernel, by decide +kernel⟩
theorem sc_law_term : FnScope ["draws", "makers", "names", "deep", "word", "parts", "k"] ["draws", "makers", "names", "deep"] (defScope s_law_term) := ⟨rfl, rfl, rfl, by decide +kernel, rfl, by decide +kernel, by decide +kernel⟩
theorem sc_law_odd : FnScope ["draws", "makers", "odd"] ["draws", "makers"] (defScope s_law_odd) := ⟨rfl, rfl, rfl, by decide +kernel, rfl, by decide +kernel, by decide +kernel⟩
theorem sc_law_bent : FnScope ["draws", "makers", "value", "way", "at"] ["draws", "makers", "value"] (defScope s_law_bent) := ⟨rfl, rfl, rfl, by decide +kernel, rfl, by decide +kernel, by decide +kernel⟩
theorem sc_law_is_term : FnScope ["makers", "value", "counts", "word", "parts", "part"] ["makers", "value"] (defScope s_law_is_term) := ⟨rfl, rfl, rfl, by decide +kernel, rfl, by decide +kernel, by decide +kernel⟩
theorem sc_law_names : FnScope ["term", "found", "part", "name"] ["term"] (defScope s_law_names) := ⟨rfl, rfl, rfl, by decide +kernel, rfl, by decide +kernel, by decide +kernel⟩
theorem sc_law_size : FnScope ["term", "part"] ["term"] (defScope s_law_size) := ⟨rfl, rfl, rfl, by decide +kernel, rfl, by decide +kernel, by decide +kernel⟩
theorem sc_law_depth : FnScope ["term", "part"] ["term"] (defScope s_law_depth) := ⟨rfl, rfl, rfl, by decide +kernel, rfl, by decide +kernel, by decide +kernel⟩
theorem sc_law_told : FnScope ["actual", "due"] ["actual", "due"] (defScope s_law_told) := ⟨rfl, rfl, rfl, by decide +kernel, rfl, by decide +kernel, by decide +kernel⟩
theorem sc_law : FnScope ["script", "draws", "makers", "turn", "value", "due"] ["script"] (defScope s_law) := ⟨rfl, rfl, rfl, by decide +kernel, rfl, by decide +kernel, by decide +kernel⟩
structure Txt (K : PySem.W.Frag) (mg : Str → Option Value) where
  c_Kept : Addr
  cl_Kept : Cls K c_Kept
  mg_Kept : mg "Kept" = some (.ref c_Kept)
  no_Kept_rows : NoAttr K c_Kept "rows"
  t_MOST_KEPT : Tok
  g_MOST_KEPT : mg "MOST_KEPT" = some (.int 32 t_MOST_KEPT)
  a_Kept_init : Addr
  d_Kept_init : FuncData
  F_Kept_init : Fun K "__init__" "Kept.__init__" s_Kept_init a_Kept_init d_Kept_init
  b_Kept_init : Binds K d_Kept_init ["self"] []
  me_Kept_init : Meth K c_Kept "__init__" a_Kept_init
  a_Kept_pair_of : Addr
  d_Kept_pair_of : FuncData
  F_Kept_pair_of : Fun K "pair_of" "Kept.pair_of" s_Kept_pair_of a_Kept_pair_of d_Kept_pair_of
  b_Kept_pair_of : Binds K d_Kept_pair_of ["self", "tree"] []
  me_Kept_pair_of : Meth K c_Kept "pair_of" a_Kept_pair_of
  a_Kept_keep : Addr
  d_Kept_keep : FuncData
  F_Kept_keep : Fun K "keep" "Kept.keep" s_Kept_keep a_Kept_keep d_Kept_keep
  b_Kept_keep : Binds K d_Kept_keep ["self", "tree", "result"] []
  me_Kept_keep : Meth K c_Kept "keep" a_Kept_keep
  a_is_term : Addr
  d_is_term : FuncData
  F_is_term : Fun K "is_term" "is_term" s_is_term a_is_term d_is_term
  b_is_term : Binds K d_is_term ["makers", "value"] []
  m_is_term : mg "is_term" = some (.ref a_is_term)
  a_is_tree : Addr
  d_is_tree : FuncData
  F_is_tree : Fun K "is_tree" "is_tree" s_is_tree a_is_tree d_is_tree
  b_is_tree : Binds K d_is_tree ["makers", "value"] []
  m_is_tree : mg "is_tree" = some (.ref a_is_tree)
  a_has_form : Addr
  d_has_form : FuncData
  F_has_form : Fun K "_has_form" "_has_form" s_has_form a_has_form d_has_form
  b_has_form : Binds K d_has_form ["parts_by_word", "value", "may_have_names", "kept"] []
  m_has_form : mg "_has_form" = some (.ref a_has_form)
  a_size : Addr
  d_size : FuncData
  F_size : Fun K "size" "size" s_size a_size d_size
  b_size : Binds K d_size ["term"] []
  m_size : mg "size" = some (.ref a_size)
  a_depth : Addr
  d_depth : FuncData
  F_depth : Fun K "depth" "depth" s_depth a_depth d_depth
  b_depth : Binds K d_depth ["term"] []
  m_depth : mg "depth" = some (.ref a_depth)
  a_names_of : Addr
  d_names_of : FuncData
  F_names_of : Fun K "names_of" "names_of" s_names_of a_names_of d_names_of
  b_names_of : Binds K d_names_of ["term"] []
  m_names_of : mg "names_of" = some (.ref a_names_of)
  a_law_draws : Addr
  d_law_draws : FuncData
  F_law_draws : Fun K "_law_draws" "_law_draws" s_law_draws a_law_draws d_law_draws
  b_law_draws : Binds K d_law_draws ["script"] []
  m_law_draws : mg "_law_draws" = some (.ref a_law_draws)
  a_law_draw : Addr
  d_law_draw : FuncData
  F_law_draw : Fun K "_law_draw" "_law_draw" s_law_draw a_law_draw d_law_draw
  b_law_draw : Binds K d_law_draw ["draws", "limit"] []
  m_law_draw : mg "_law_draw" = some (.ref a_law_draw)
  a_law_pick : Addr
  d_law_pick : FuncData
  F_law_pick : Fun K "_law_pick" "_law_pick" s_law_pick a_law_pick d_law_pick
  b_law_pick : Binds K d_law_pick ["draws", "row"] []
  m_law_pick : mg "_law_pick" = some (.ref a_law_pick)
  a_law_makers : Addr
  d_law_makers : FuncData
  F_law_makers : Fun K "_law_makers" "_law_makers" s_law_makers a_law_makers d_law_makers
  b_law_makers : Binds K d_law_makers ["draws"] []
  m_law_makers : mg "_law_makers" = some (.ref a_law_makers)
  a_law_term : Addr
  d_law_term : FuncData
  F_law_term : Fun K "_law_term" "_law_term" s_law_term a_law_term d_law_term
  b_law_term : Binds K d_law_term ["draws", "makers", "names", "deep"] []
  m_law_term : mg "_law_term" = some (.ref a_law_term)
  a_law_odd : Addr
  d_law_odd : FuncData
  F_law_odd : Fun K "_law_odd" "_law_odd" s_law_odd a_law_odd d_law_odd
  b_law_odd : Binds K d_law_odd ["draws", "makers"] []
  m_law_odd : mg "_law_odd" = some (.ref a_law_odd)
  a_law_bent : Addr
  d_law_bent : FuncData
  F_law_bent : Fun K "_law_bent" "_law_bent" s_law_bent a_law_bent d_law_bent
  b_law_bent : Binds K d_law_bent ["draws", "makers", "value"] []
  m_law_bent : mg "_law_bent" = some (.ref a_law_bent)
  a_law_is_term : Addr
  d_law_is_term : FuncData
  F_law_is_term : Fun K "_law_is_term" "_law_is_term" s_law_is_term a_law_is_term d_law_is_term
  b_law_is_term : Binds K d_law_is_term ["makers", "value"] []
  m_law_is_term : mg "_law_is_term" = some (.ref a_law_is_term)
  a_law_names : Addr
  d_law_names : FuncData
  F_law_names : Fun K "_law_names" "_law_names" s_law_names a_law_names d_law_names
  b_law_names : Binds K d_law_names ["term"] []
  m_law_names : mg "_law_names" = some (.ref a_law_names)
  a_law_size : Addr
  d_law_size : FuncData
  F_law_size : Fun K "_law_size" "_law_size" s_law_size a_law_size d_law_size
  b_law_size : Binds K d_law_size ["term"] []
  m_law_size : mg "_law_size" = some (.ref a_law_size)
  a_law_depth : Addr
  d_law_depth : FuncData
  F_law_depth : Fun K "_law_depth" "_law_depth" s_law_depth a_law_depth d_law_depth
  b_law_depth : Binds K d_law_depth ["term"] []
  m_law_depth : mg "_law_depth" = some (.ref a_law_depth)
  a_law_told : Addr
  d_law_told : FuncData
  F_law_told : Fun K "_law_told" "_law_told" s_law_told a_law_told d_law_told
  b_law_told : Binds K d_law_told ["actual", "due"] []
  m_law_told : mg "_law_told" = some (.ref a_law_told)
  a_law : Addr
  d_law : FuncData
  F_law : Fun K "law" "law" s_law a_law d_law
  b_law : Binds K d_law ["script"] []
  m_law : mg "law" = some (.ref a_law)
  mk_Kept : Mk K c_Kept a_Kept_init
  z_reversed : mg "reversed" = none
  z_dict : mg "dict" = none
  z_isinstance : mg "isinstance" = none
  z_str : mg "str" = none
  z_tuple : mg "tuple" = none
  z_len : mg "len" = none
  z_max : mg "max" = none
  z_list : mg "list" = none
  z_abs : mg "abs" = none
  z_int : mg "int" = none
  z_range : mg "range" = none
  z_all : mg "all" = none
  z_sum : mg "sum" = none
  z_bool : mg "bool" = none
end Kx
set_option maxHeartbeats 2000000
/-! Rules of our own over the layer: see the remarks. -/
namespace Kx
open PySem PySem.Spec PyProof.Rows L2
/-! ### rules with the written part named (for the blocks of comprehensions) -/
section
variable {X : Cx} {K : PySem.W.Frag}
theorem inSeqK (h : X.K = K := by rfl) : OpR X (compareOp .In) (rIn K false) := by subst h; exact op_in_seq
theorem notInSeqK (h : X.K = K := by rfl) : OpR X (compareOp .NotIn) (rIn K true) := by subst h; exact op_notIn_seq
theorem ixLK (h : X.K = K := by rfl) : IxR X (rIxL K) := by subst h; exact ix_list
theorem ixTK (h : X.K = K := by rfl) : IxR X (rIxT K) := by subst h; exact ix_tup
end
/-! ### l.extend(t), t a tuple -/
def rExtT (K : PySem.W.Frag) : V → List V → Hp → VK → Prop := fun x vs H Q => ∃ l b xs zs, x = .ref l ∧ vs = [.ref b] ∧ H l = some (.lst xs) ∧ (∃ o : Obj, H b = some (.frz o (.tup zs)) ∧ o.dict = none ∧ o.slots = #[]) ∧ xs.length + zs.length ≤ sizeLine ∧ Q .non (upd H l (.lst (xs ++ zs)))
section
variable {X : Cx}
theorem mt_extT : MtR X "list.extend" (rExtT X.K) := by
  intro pins s σ H x vs v us Q I rx rv hyp
  obtain ⟨l, b, xs, zs, rfl, rfl, hH, ⟨o, hB, hd, hsl⟩, hz, fin⟩ := hyp
  cases rx
  obtain ⟨u, rfl, ru⟩ := rv.one
  cases ru
  obtain ⟨z, its, n, r, hl, e⟩ := I.lstM hH
  obtain ⟨e2, z2, its2, r2, hT⟩ := (show ObjOk X.prog X.w H s.heap b (.frz o (.tup zs)) from I.hok b _ hB)
  obtain ⟨o2, e3, hc2, n2, hd2⟩ := hT
  rw [e2] at e3
  cases e3
  obtain ⟨oc, od, dt, sl⟩ := o
  simp only at hc2 hd2 hd hsl
  subst hc2 hd2 hd hsl
  have w1 : its.length = xs.length := r.length.symm
  have w2 : its2.length = zs.length := r2.length.symm
  have size2 : its.toArray.size + its2.toArray.size ≤ sizeLine := by
    simp only [List.size_toArray, w1, w2]; exact hz
  have few : ¬ (!its.toArray.isEmpty && Builtin.List.listTooLong (its.toArray.size + its2.toArray.size)) = true := by
    rw [notLongL size2, Bool.and_false]; simp
  refine call_meets F.slot_list_extend ⟨_, e, rfl⟩ F.entry_list_extend (F.args_list_extend_2 _ _)
    (AutoSeq1.list_extend_list_tuple_0 l its.toArray n b its2.toArray n2 few (Nat.le_trans (Nat.le_add_right _ _) size2) (Nat.le_succ_of_le size2)) ⟨e, e2, ?_⟩
  refine ⟨.non, _, I.lset (its' := its ++ its2) hH e (by simp) (r.append r2) ?_, rfl, fin⟩
  simp only [List.length_append]; exact hz
end
/-! ### t[:0:-1]: a tuple backwards without its first item -/
section
variable {prog : Program} {w : World} {A : Around} {E : Value → Shared → Prop} {s : Shared}
theorem back_pick {α : Type} : ∀ l : List α, (List.range l.length).filterMap (fun m => l[l.length - 1 - m]?) = l.reverse := by
  intro l
  have h : ∀ k, k ≤ l.length → (List.range k).filterMap (fun m => l[l.length - 1 - m]?) = (l.drop (l.length - k)).reverse := by
    intro k
    induction k with
    | zero => intro _; simp
    | succ k ih =>
      intro hk
      rw [List.range_succ, List.filterMap_append, ih (by omega)]
      have e : l.drop (l.length - (k + 1)) = l[l.length - (k + 1)]'(by omega) :: l.drop (l.length - k) := by
        rw [List.drop_eq_getElem_cons (by omega)]
        congr 2
        omega
      rw [e, List.reverse_cons]
      congr 1
      have e2 : l[l.length - 1 - k]? = some (l[l.length - (k + 1)]'(by omega)) := by
        rw [← List.getElem?_eq_getElem]
        congr 1
        omega
      simp [e2]
  have := h l.length (Nat.le_refl _)
  simpa using this
theorem back_pick1 (xs : List Value) (h1 : 1 ≤ xs.length) : (List.range (xs.length - 1)).filterMap (fun (m : Nat) => xs[(((xs.length - 1 : Nat) : Int) + (m : Int) * (-1)).toNat]?) = (xs.drop 1).reverse := by
  have h := back_pick (xs.drop 1)
  rw [List.length_drop] at h
  rw [← h]
  have key : ∀ k, k ≤ xs.length - 1 → (List.range k).filterMap (fun (m : Nat) => xs[(((xs.length - 1 : Nat) : Int) + (m : Int) * (-1)).toNat]?) = (List.range k).filterMap (fun m => (xs.drop 1)[xs.length - 1 - 1 - m]?) := by
    intro k
    induction k with
    | zero => intro _; rfl
    | succ k ih =>
      intro hk
      rw [List.range_succ, List.filterMap_append, List.filterMap_append, ih (by omega)]
      congr 1
      have e : (((xs.length - 1 : Nat) : Int) + (k : Int) * (-1)).toNat = 1 + (xs.length - 1 - 1 - k) := by omega
      simp only [List.filterMap_cons, List.filterMap_nil, e, List.getElem?_drop]
  exact key _ (Nat.le_refl _)
theorem back_adjust (n : Nat) (h : 1 ≤ n) : Builtin.Slice.sliceAdjust none (some 0) (-1) (n : Int) = (((n - 1 : Nat) : Int), 0) := by
  unfold Builtin.Slice.sliceAdjust
  simp only [show ((-1 : Int) < 0) from by omega, if_true]
  refine Prod.ext ?_ ?_
  · show (n : Int) - 1 = _; omega
  · show (if (0 : Int) < 0 then max ((0 : Int) + (n : Int)) (-1) else min (0 : Int) ((n : Int) - 1)) = 0
    rw [if_neg (by omega)]; omega
theorem back_places (n : Nat) : Builtin.Slice.slicePlaces ((n : Nat) : Int) 0 (-1) = n := by
  unfold Builtin.Slice.slicePlaces
  simp only [show ¬ ((-1 : Int) > 0) from by omega, if_false, Int.neg_neg, Int.ediv_one]
  split <;> omega
theorem back_applied {sl : Addr} {vl vu vs : Value} {n : Nat} {Q : Int × Int × Nat → Shared → Prop} (h1 : 1 ≤ n) (hs : s.heap.IsSliceOf sl vl vu vs) (pl : IsPart vl none) (pu : IsPart vu (some 0)) (ps : IsPart vs (some (-1)))
    (h : Q (((n - 1 : Nat) : Int), -1, n - 1) s) : wpAny (model prog w) A (Builtin.Slice.sliceApplied (.ref sl) (pure (n : Int))) Q E s := by
  obtain ⟨os, ho, hc, hd⟩ := id hs
  unfold Builtin.Slice.sliceApplied Builtin.Slice.sliceFields
  refine wpAny_bind (wpAny_bind (wpAny_field ho hd (x := vl) rfl (wpAny_bind (wpAny_field ho hd (x := vu) rfl (wpAny_bind (wpAny_field ho hd (x := vs) rfl (wpAny_pure ?_)))))))
  refine wpAny_bind (HT.slicePart_ ps ?_)
  show wpAny _ _ (if ((-1 : Int) == 0) = true then _ else _) _ _ s
  rw [if_neg (by decide)]
  refine wpAny_bind (HT.slicePart_ pl (wpAny_bind (HT.slicePart_ pu (wpAny_bind (wpAny_pure ?_)))))
  show wpAny _ _ (match Builtin.Slice.sliceAdjust none (some 0) (-1) (n : Int) with | (lo, hi) => pure (lo, (-1 : Int), Builtin.Slice.slicePlaces lo hi (-1))) _ _ s
  rw [back_adjust n h1]
  show wpAny _ _ (pure (((n - 1 : Nat) : Int), (-1 : Int), Builtin.Slice.slicePlaces ((n - 1 : Nat) : Int) 0 (-1))) _ _ s
  rw [back_places]
  exact wpAny_pure h
theorem getItem_back {t sl : Addr} {items : Array Value} {vl vu vs : Value} {Q : Value → Shared → Prop} (h1 : 1 ≤ items.size) (ht : IsTup s.heap t items) (hs : s.heap.IsSliceOf sl vl vu vs) (pl : IsPart vl none) (pu : IsPart vu (some 0)) (ps : IsPart vs (some (-1)))
    (h : Q (.ref s.heap.objs.size) { s with heap := s.heap.push { cls := .type "tuple", data := .seq ((items.toList.drop 1).reverse).toArray } })
    (hsz : items.size ≤ sizeLine) : wpAny (model prog w) A (getItem (.ref t) (.ref sl)) Q E s := by
  have fits : sizeOk (.seq ((items.toList.drop 1).reverse).toArray) := by
    show ((items.toList.drop 1).reverse).toArray.size ≤ sizeLine
    simp only [List.size_toArray, List.length_reverse, List.length_drop, Array.length_toList]
    omega
  obtain ⟨os, ho, hc, hd⟩ := id hs
  have ty : s.TypeIs (.ref sl) "slice" := ⟨os, ho, hc⟩
  unfold getItem
  try with_reducible refine wpAny_holding ?_
  first | refine wpAny_bind (wpAny_pure ?_) | skip
  refine wpAny_bind (wpAny_sequenceKey ht.typeIs (by decide) ?_)
  refine wpAny_bind (wpAny_callSpecial?_slot (name := Str.ofString "__getitem__") ht.typeIs PyProof.Rows.slot_tuple_getitem
    (wpAny_call_entry PyProof.Rows.slot_tuple_getitem ht.typeIs F.entry_tuple_getitem ?_ (F.args_tuple_getitem_2 _ _)))
  show wpAny _ _ (Builtin.Tuple.tupleItemsOf (.ref t) >>= _) _ _ s
  refine wpAny_bind (tupleItemsOf_ ht ?_)
  refine wpAny_bind (wpAny_typeOf ty ?_)
  rw [if_pos (by decide)]
  refine wpAny_bind (back_applied (n := items.size) h1 hs pl pu ps ?_)
  have no : ¬ ((((items.size - 1 : Nat) : Int) == 0 && (-1 : Int) == 1 && (items.size - 1) == items.size) = true) := by simp
  show wpAny _ _ (if (((items.size - 1 : Nat) : Int) == 0 && (-1 : Int) == 1 && (items.size - 1) == items.size) = true then _ else _) _ _ s
  have e := back_pick1 items.toList (by simpa using h1)
  simp only [Array.length_toList, Array.getElem?_toList] at e
  rw [if_neg no, e]
  first
    | exact wpAny_bind (m := Builtin.Tuple.tupleExact _) (wpAny_newObj_type (wpAny_pure ⟨_, rfl, wpAny_pure h⟩) fits)
    | exact wpAny_bind (m := Builtin.Tuple.tupleExact _) (wpAny_newObj_type (wpAny_bind (wpAny_pure (wpAny_pure ⟨_, rfl, wpAny_pure h⟩))) fits)
    | exact wpAny_bind (wpAny_bind (m := Builtin.Tuple.tupleExact _) (wpAny_newObj_type (wpAny_pure (wpAny_pure ⟨_, rfl, wpAny_pure h⟩)) fits))
    | exact wpAny_bind (wpAny_bind (m := Builtin.Tuple.tupleExact _) (wpAny_newObj_type (wpAny_pure ⟨_, rfl, wpAny_pure h⟩) fits))
end
/-- what t[:0:-1] asks: t is not empty; the new tuple is told as an object that stands as it is -/
def tBackT (K : PySem.W.Frag) (te : TE) : TE := fun σ H Q => te σ H fun x H1 => ∃ a xs, x = .ref a ∧ SqT K H1 a xs ∧ xs ≠ [] ∧ ∀ p (o : Obj), H1 p = none → o.dict = none → o.slots = #[] → Q (.ref p) (upd H1 p (.frz o (.tup (xs.drop 1).reverse)))
section
variable {X : Cx}
theorem pe_cutback {e : Expr} {te : TE} {j k : Nat} {p0 p1 p2 p3 pos : Pos} (he : PE X e te) : PE X (.Subscript e (.Slice none (some (.Constant (.int 0) j p0)) (some (.UnaryOp .USub (.Constant (.int 1) k p1) p2)) p3) pos) (tBackT X.K te) := by
  refine ⟨fun pins s σ H Q I h => ?_⟩
  refine Subscript_ (thn (he.run pins s σ H _ I h) fun v s1 ⟨x, H1, I1, r1, q1⟩ => ?_)
  obtain ⟨a, xs, ex, hx, hne, fin⟩ := q1
  subst ex
  cases r1
  have hst : PO X (some (.UnaryOp .USub (.Constant (.int 1) k p1) p2)) (tPart (tUn (rU fun i => .int (-i)) (tC (.int 1)))) := po_some (pe_un un_neg pe_int)
  have hup : PO X (some (.Constant (.int 0) j p0)) (tPart (tC (.int 0))) := po_some pe_int
  refine wpAny_Slice (thn (po_none.run pins s1 σ H1 (fun o H2 => o = none ∧ H2 = H1) I1 ⟨rfl, rfl⟩) fun vl s2 ⟨l, H2, I2, pl, el, e2⟩ => ?_)
  subst el e2
  refine thn (hup.run pins s2 σ H2 (fun o H3 => o = some 0 ∧ H3 = H2) I2 ⟨0, rfl, rfl, rfl⟩) fun vu s3 ⟨u, H3, I3, pu, eu, e3⟩ => ?_
  subst eu e3
  refine thn (hst.run pins s3 σ H3 (fun o H4 => o = some (-1) ∧ H4 = H3) I3 ⟨1, rfl, -1, rfl, rfl, rfl⟩) fun vs s4 ⟨o, H4, I4, ps, eo, e4⟩ => ?_
  subst eo e4
  have I5 : Inv X pins σ H4 { s4 with heap := s4.heap.push { cls := .type "slice", data := .fields #[vl, vu, vs] } } := I4.kept (t' := s4.toks) fun b ob q => Heap.get?_push_of_some _ q
  obtain ⟨its, r, ht, hz⟩ := I5.tuple hx
  have hlen : its.length = xs.length := r.length.symm
  have h1 : 1 ≤ xs.length := by cases xs with | nil => exact absurd rfl hne | cons _ _ => simp
  show wpAny (model X.prog X.w) X.A (subscriptTail e (.Slice none (some (.Constant (.int 0) j p0)) (some (.UnaryOp .USub (.Constant (.int 1) k p1) p2)) p3) (.ref a) (.ref s4.heap.objs.size)) (EP X pins σ Q) X.xe { s4 with heap := s4.heap.push { cls := .type "slice", data := .fields #[vl, vu, vs] } }
  refine tail_any (ops := [.ref a, .ref s4.heap.objs.size]) ht.typeIs (PyProof.Rows.slot_tuple_getitem.lookup) ?_ (by with_unfolding_all rfl)
  refine getItem_back (by rw [List.size_toArray, hlen]; exact h1) ht (Heap.IsSliceOf.new _ vl vu vs) pl pu ps ?_ (by rw [List.size_toArray, hlen]; exact hz)
  refine ⟨.ref _, _, I5.laid (t' := s4.toks) (o := .frz { cls := .type "tuple", data := .seq ((its.drop 1).reverse).toArray } (.tup (xs.drop 1).reverse)) (fun b ob q => Heap.get?_push_of_some _ q) (Nat.le_refl _) ?_, rfl, fin _ _ (I5.hok.fresh (Nat.le_refl _)) rfl rfl⟩
  refine ⟨Heap.get?_push_size _ rfl, ?_, _, (r.drop 1).reverse, IsTup.new _ _⟩
  rw [List.length_reverse, List.length_drop]
  exact Nat.le_trans (Nat.sub_le _ _) hz
/-! ### tuple(l) of a list, told as an object that stands as it is -/
theorem call_tupleF : CallR X (.type "tuple") (fun xs H Q => ∃ p ys, xs = [.ref p] ∧ SqL X.K H p ys ∧ ∀ l (o : Obj), H l = none → o.dict = none → o.slots = #[] → Q (.ref l) (upd H l (.frz o (.tup ys)))) := by
  intro pins s σ H xs us Q I r hyp
  obtain ⟨p, ys, rfl, hq, fin⟩ := hyp
  obtain ⟨u, rfl, rx⟩ := vals1 r
  cases rx
  obtain ⟨its, r', pl, hz⟩ := I.list hq
  have w1 : its.length = ys.length := r'.length.symm
  refine call_tuple_list pl.isList (fun h' kp => ?_) (by rw [List.size_toArray, w1]; exact hz)
  have J : Inv X pins σ H { s with heap := h' } := I.kept (t' := s.toks) kp
  have J2 : Inv X pins σ (upd H h'.objs.size (.frz { cls := .type "tuple", data := .seq its.toArray } (.tup ys))) { s with heap := h'.push { cls := .type "tuple", data := .seq its.toArray } } :=
    J.laid (t' := s.toks) (fun b o e => Heap.get?_push_of_some _ e) (Nat.le_refl _) ⟨Heap.get?_push_size _ rfl, hz, its, r', IsTup.new _ _⟩
  exact ⟨.ref h'.objs.size, _, J2, rfl, fin _ _ (J.hok.fresh (Nat.le_refl _)) rfl rfl⟩
/-! ### dict(t) of a tuple of pairs -/
theorem pairs_list {pins : List (Addr × Obj)} {σ : L2.St} {H : Hp} {s : Shared} (I : Inv X pins σ H s) : ∀ {ps : List Addr} {kvs : List (Key × V)}, Paired (fun p kv => SqT X.K H p [kV kv.1, kv.2]) ps kvs →
    ∃ (prs : List (Key × Value)) (psv : List (Value × Value)), KV kvs prs ∧ prs.length = ps.length ∧ psv.length = ps.length ∧ ∀ (j : Nat) (u v : Value), psv[j]? = some (u, v) → ∃ b k, ps[j]? = some b ∧ prs[j]? = some (k, v) ∧ IsTup s.heap b #[u, v] ∧ keyIs k u = true
  | _, _, .nil => ⟨[], [], .nil, rfl, rfl, fun j u v e => by simp at e⟩
  | _, _, .cons (a := p) (b := kv) h t => by
    obtain ⟨prs, psv, r, l1, l2, hp⟩ := pairs_list I t
    obtain ⟨its, rv, ht, _⟩ := I.tuple h
    obtain ⟨u, y, ei, ru, ry⟩ := vals2 rv
    subst ei
    refine ⟨(kv.1, y) :: prs, (u, y) :: psv, .cons ⟨rfl, ry⟩ r, by simp [l1], by simp [l2], fun j u' v' e => ?_⟩
    cases j with
    | zero =>
      cases (Option.some.inj e)
      exact ⟨p, kv.1, rfl, rfl, ht, kV_is (P := X.prog) (w := X.w) ru⟩
    | succ j => exact hp j u' v' (by simpa using e)
theorem call_dictT (hcalm : X.calm = true) : CallR X (.type "dict") (fun xs H Q => ∃ (a : Addr) (o : Obj) (ps : List Addr) (kvs : List (Key × V)), xs = [.ref a] ∧ H a = some (.frz o (.tup (ps.map V.ref))) ∧ o.dict = none ∧ Paired (fun p kv => SqT X.K H p [kV kv.1, kv.2]) ps kvs ∧
    ∀ p, H p = none → Q (.ref p) (upd H p (.dK (mergeK [] kvs)))) := by
  intro pins s σ H xs us Q I r hyp
  obtain ⟨a, o, ps, kvs, ex, hq, hd, hp, fin⟩ := hyp
  subst ex
  obtain ⟨u, eu, rx⟩ := vals1 r
  subst eu
  cases rx
  obtain ⟨e2, hz, its, rv, hT⟩ := (show ObjOk X.prog X.w H s.heap a (.frz o (.tup (ps.map V.ref))) from I.hok a _ hq)
  obtain ⟨o2, e3, hc2, n2, hd2⟩ := hT
  rw [e2] at e3
  cases e3
  have ei := refs_at rv
  subst ei
  rw [List.length_map] at hz
  obtain ⟨prs, psv, rel, l1, l2, hpr⟩ := pairs_list I hp
  have items : PairItems s.heap (ps.map Value.ref).toArray (fun j => ps.getD j 0) psv := by
    refine ⟨by simp [l2], fun j k v e => ?_⟩
    obtain ⟨b, k', e1, _, e4, _⟩ := hpr j k v e
    refine ⟨by simp [e1], ?_⟩
    have eb : ps.getD j 0 = b := by simp [List.getD, e1]
    show PairAt s.heap (ps.getD j 0) k v
    rw [eb]
    exact .inl e4
  refine PySem.call_dict_pairs (knd := mixKind X.prog X.w) (kvs := prs) (PairArg.tuple a (ps.map Value.ref).toArray (fun j => ps.getD j 0) psv) (I.ok.hd hcalm) ⟨⟨o, n2, e2, hc2, hd, hd2⟩, items⟩ ⟨by rw [l1, l2], fun i key v e => ?_⟩ (by rw [l2]; exact hz) fun h' tk hd' k => ?_
  · obtain ⟨b, k', _, e5, _, e6⟩ := hpr i key v e
    exact ⟨k', e5, e6⟩
  · have hm : (s.heap.objs.size == sysModules) = false := beq_eq_false_iff_ne.mpr (Nat.ne_of_gt I.big)
    have few : (mergeK [] kvs).length ≤ sizeLine := by
      have z := length_mergeK kvs []
      rw [List.length_nil, Nat.zero_add, rel.length, l1] at z
      exact Nat.le_trans z hz
    exact ⟨.ref s.heap.objs.size, _, I.laid (t' := tk) (fun b o q => k b o (by simp) q) (Nat.le_refl _) (show ObjOk X.prog X.w _ _ _ (.dK (mergeK [] kvs)) from ⟨few, hm, merged [] prs, KV.merge rel .nil, hd'⟩), rfl, fin _ (I.hok.fresh (Nat.le_refl _))⟩
end
end Kx
namespace Kx
open PySem PySem.Spec PyProof.Rows L2
/-- a block cut behind its first statement: what holds there is named -/
theorem pss_cutK {X : Cx} {st : Stmt} {rest : List Stmt} {t u : TS} (h1 : PS X st t) (h2 : PSs X rest u) :
    PSs X (st :: rest) (fun D σ H => ∃ Mid : L2.St → Hp → Prop, t { D with nx := Mid } σ H ∧ ∀ σ' H', Mid σ' H' → u D σ' H') := Evl.pss_cut h1 h2
end Kx
namespace Kx
open PySem PySem.Spec PyProof.Rows L2
section
variable {X : Cx}
/-- a test, an expression, with a word behind it: what follows is shown once -/
theorem pt_cut {e : Expr} {t : TT} (h : PT X e t) : PT X e (fun σ H Q => ∃ M : Bool → Hp → Prop, t σ H M ∧ ∀ b H1, M b H1 → Q b H1) :=
  ⟨fun pins s σ H Q I ⟨M, hm, k⟩ => thn (h.run pins s σ H M I hm) fun b s1 ⟨H1, I1, q⟩ => ⟨H1, I1, k b H1 q⟩⟩
theorem pe_cut {e : Expr} {t : TE} (h : PE X e t) : PE X e (fun σ H Q => ∃ M : VK, t σ H M ∧ ∀ v H1, M v H1 → Q v H1) :=
  ⟨fun pins s σ H Q I ⟨M, hm, k⟩ => thn (h.run pins s σ H M I hm) fun b s1 ⟨v, H1, I1, r, q⟩ => ⟨v, H1, I1, r, k v H1 q⟩⟩
end
end Kx
namespace Kx
open PySem PySem.Spec PyProof.Rows L2
/-- a comprehension without a test: its element is asked -/
theorem yes_if {σ : L2.St} {H : Hp} {A B : Hp → Prop} (h : A H) : tYes σ H (fun b H3 => if b = true then A H3 else B H3) := by
  have e : (if true = true then A H else B H) := iteT h
  exact e
end Kx
/-! The mathematics: values as trees, what the two sides compute. -/
namespace Kx
open PySem PySem.Spec PyProof.Rows L2
inductive PV where
  | str (z : Str)
  | oth
  | tup (xs : List PV)
mutual
def cnt : PV → Nat
  | .str _ => 1
  | .oth => 1
  | .tup ts => 1 + cntL ts
def cntL : List PV → Nat
  | [] => 0
  | t :: r => cnt t + cntL r
end
theorem cnt_pos : ∀ t : PV, 1 ≤ cnt t
  | .str _ => by simp [cnt]
  | .oth => by simp [cnt]
  | .tup ts => by simp [cnt]
theorem cntL_mem : ∀ {l : List PV} {t : PV}, t ∈ l → cnt t ≤ cntL l
  | a :: r, t, h => by
    rcases List.mem_cons.mp h with rfl | h
    · simp [cntL]
    · have := cntL_mem h
      simp only [cntL]; omega
theorem cntL_len : ∀ l : List PV, l.length ≤ cntL l
  | [] => by simp [cntL]
  | a :: r => by
    have := cntL_len r
    have := cnt_pos a
    simp only [cntL, List.length_cons]; omega
theorem cntL_append : ∀ a b : List PV, cntL (a ++ b) = cntL a + cntL b
  | [], b => by simp [cntL]
  | x :: r, b => by
    have := cntL_append r b
    simp only [List.cons_append, cntL, this]; omega
theorem cntL_reverse : ∀ a : List PV, cntL a.reverse = cntL a
  | [] => rfl
  | x :: r => by
    have := cntL_reverse r
    simp only [List.reverse_cons, cntL_append, cntL, this]; omega
/-- the number of parts of the maker with a word -/
def look (mk : List (Str × Int)) (w : Str) : Option Int := (mk.find? fun kv => kv.1 == w).map (·.2)
mutual
/-- is it a term (nm) or a tree? -/
def form (mk : List (Str × Int)) (nm : Bool) : PV → Bool
  | .str z => nm && (look mk z).isNone
  | .oth => false
  | .tup [] => false
  | .tup (.oth :: _) => false
  | .tup (.tup _ :: _) => false
  | .tup (.str w :: r) => (look mk w == some (r.length : Int)) && formL mk nm r
def formL (mk : List (Str × Int)) (nm : Bool) : List PV → Bool
  | [] => true
  | t :: r => form mk nm t && formL mk nm r
end
theorem formL_all (mk : List (Str × Int)) (nm : Bool) : ∀ l : List PV, formL mk nm l = l.all (form mk nm)
  | [] => rfl
  | t :: r => by simp only [formL, List.all_cons, formL_all mk nm r]
mutual
def siz : PV → Nat
  | .str _ => 1
  | .oth => 1
  | .tup [] => 1
  | .tup (_ :: r) => 1 + sizL r
def sizL : List PV → Nat
  | [] => 0
  | t :: r => siz t + sizL r
end
mutual
def dpt : PV → Nat
  | .str _ => 1
  | .oth => 1
  | .tup [] => 1
  | .tup (_ :: r) => 1 + dptL r
def dptL : List PV → Nat
  | [] => 0
  | t :: r => max (dpt t) (dptL r)
end
theorem dpt_pos : ∀ t : PV, 1 ≤ dpt t
  | .str _ => by simp [dpt]
  | .oth => by simp [dpt]
  | .tup [] => by simp [dpt]
  | .tup (_ :: r) => by simp [dpt]
/-! ### names -/
def add1 (f : List Str) (x : Str) : List Str := if x ∈ f then f else f ++ [x]
def dd (f ys : List Str) : List Str := ys.foldl add1 f
def addN (f ys : List Str) : List Str := f ++ ys.filter fun y => decide (y ∉ f)
theorem dd_snoc (f ys : List Str) (x : Str) : dd f (ys ++ [x]) = add1 (dd f ys) x := by simp [dd]
theorem dd_append (f a b : List Str) : dd f (a ++ b) = dd (dd f a) b := by simp [dd]
theorem snoc_induct {α : Type} {P : List α → Prop} (h0 : P []) (h1 : ∀ l x, P l → P (l ++ [x])) (l : List α) : P l := by
  have : ∀ r : List α, P r.reverse := by
    intro r
    induction r with
    | nil => exact h0
    | cons x r ih => rw [List.reverse_cons]; exact h1 _ _ ih
  have := this l.reverse
  rwa [List.reverse_reverse] at this
theorem dd_eq (f ys : List Str) : dd f ys = addN f (dd [] ys) := by
  refine snoc_induct (P := fun ys => dd f ys = addN f (dd [] ys)) ?_ ?_ ys
  · simp [dd, addN]
  · intro l x ih
    rw [dd_snoc, dd_snoc, ih]
    by_cases hx : x ∈ dd [] l
    · have h1 : x ∈ addN f (dd [] l) := by
        by_cases hf : x ∈ f
        · exact List.mem_append_left _ hf
        · exact List.mem_append_right _ (List.mem_filter.mpr ⟨hx, by simp [hf]⟩)
      simp only [add1, if_pos hx, if_pos h1]
    · by_cases hf : x ∈ f
      · have h1 : x ∈ addN f (dd [] l) := List.mem_append_left _ hf
        rw [add1, if_pos h1, add1, if_neg hx]
        simp [addN, List.filter_append, hf]
      · have h1 : x ∉ addN f (dd [] l) := by
          intro h
          rcases List.mem_append.mp h with h | h
          · exact hf h
          · exact hx (List.mem_filter.mp h).1
        rw [add1, if_neg h1, add1, if_neg hx]
        simp [addN, List.filter_append, hf, List.append_assoc]
mutual
/-- the names as they stand, from the left -/
def lv : PV → List Str
  | .str z => [z]
  | .oth => []
  | .tup [] => []
  | .tup (_ :: r) => lvL r
def lvL : List PV → List Str
  | [] => []
  | t :: r => lv t ++ lvL r
end
theorem lvL_append : ∀ a b : List PV, lvL (a ++ b) = lvL a ++ lvL b
  | [], b => by simp [lvL]
  | x :: r, b => by simp only [List.cons_append, lvL, lvL_append r b, List.append_assoc]
/-- each name once -/
def nms (t : PV) : List Str := dd [] (lv t)
def nmsL (f : List Str) (l : List PV) : List Str := l.foldl (fun f t => addN f (nms t)) f
theorem nmsL_eq : ∀ (l : List PV) (f : List Str), nmsL f l = dd f (lvL l)
  | [], f => rfl
  | t :: r, f => by
    show nmsL (addN f (nms t)) r = _
    rw [nmsL_eq r, nms, ← dd_eq]
    simp only [lvL, dd_append]
theorem nms_tup (x : PV) (r : List PV) : nms (.tup (x :: r)) = nmsL [] r := by
  rw [nmsL_eq]; rfl
theorem add1_len (f : List Str) (x : Str) : (add1 f x).length ≤ f.length + 1 := by
  unfold add1; split <;> simp
theorem dd_len : ∀ (ys f : List Str), (dd f ys).length ≤ f.length + ys.length
  | [], f => Nat.le_refl _
  | y :: r, f => by
    have h1 := dd_len r (add1 f y)
    have h2 := add1_len f y
    show (dd (add1 f y) r).length ≤ _
    rw [List.length_cons]; omega
mutual
theorem lv_len : ∀ t : PV, (lv t).length ≤ cnt t
  | .str _ => by simp [lv, cnt]
  | .oth => by simp [lv]
  | .tup [] => by simp [lv]
  | .tup (x :: r) => by
    have := lvL_len r
    simp only [lv, cnt, cntL]; omega
theorem lvL_len : ∀ l : List PV, (lvL l).length ≤ cntL l
  | [] => by simp [lvL]
  | t :: r => by
    have := lv_len t
    have := lvL_len r
    simp only [lvL, cntL, List.length_append]; omega
end
theorem nms_len (t : PV) : (nms t).length ≤ cnt t := by
  have := dd_len (lv t) []
  have := lv_len t
  simp only [nms]; simp at *; omega
theorem addN_len (f ys : List Str) : (addN f ys).length ≤ f.length + ys.length := by
  have := List.length_filter_le (fun y => decide (y ∉ f)) ys
  simp only [addN, List.length_append]; omega
mutual
theorem form_tree (mk : List (Str × Int)) : ∀ t : PV, form mk false t = (form mk true t && (lv t == []))
  | .str z => by simp [form, lv]
  | .oth => by simp [form]
  | .tup [] => by simp [form]
  | .tup (.oth :: _) => by simp [form]
  | .tup (.tup _ :: _) => by simp [form]
  | .tup (.str w :: r) => by simp only [form, lv, formL_tree mk r, Bool.and_assoc]
theorem formL_tree (mk : List (Str × Int)) : ∀ l : List PV, formL mk false l = (formL mk true l && (lvL l == []))
  | [] => by simp [formL, lvL]
  | t :: r => by
    have e : (lv t ++ lvL r == []) = ((lv t == []) && (lvL r == [])) := by
      cases lv t <;> cases lvL r <;> rfl
    simp only [formL, lvL, form_tree mk t, formL_tree mk r, e]
    cases form mk true t <;> cases formL mk true r <;> cases (lv t == []) <;> cases (lvL r == []) <;> rfl
end
theorem nms_nil (t : PV) : (nms t == []) = (lv t == []) := by
  unfold nms
  cases h : lv t with
  | nil => rfl
  | cons x r =>
    have : (dd [] (x :: r)).length ≠ 0 := by
      have g : ∀ (ys f : List Str), f.length ≤ (dd f ys).length := by
        intro ys
        induction ys with
        | nil => intro f; exact Nat.le_refl _
        | cons y ys ih =>
          intro f
          refine Nat.le_trans ?_ (ih (add1 f y))
          unfold add1; split <;> simp
      have := g r (add1 [] x)
      have e : (add1 [] x).length = 1 := by simp [add1]
      show (dd (add1 [] x) r).length ≠ 0
      omega
    cases h2 : dd [] (x :: r) with
    | nil => rw [h2] at this; exact absurd rfl this
    | cons _ _ => rfl
theorem tree_eq (mk : List (Str × Int)) (t : PV) : form mk false t = (form mk true t && (nms t == [])) := by rw [form_tree, nms_nil]
mutual
/-- the shape of a term: a text, or a tuple of a text and terms -/
def Tm : PV → Prop
  | .str _ => True
  | .oth => False
  | .tup [] => False
  | .tup (.oth :: _) => False
  | .tup (.tup _ :: _) => False
  | .tup (.str _ :: r) => TmL r
def TmL : List PV → Prop
  | [] => True
  | t :: r => Tm t ∧ TmL r
end
theorem TmL_mem : ∀ {l : List PV}, (∀ t ∈ l, Tm t) → TmL l
  | [], _ => trivial
  | t :: r, h => ⟨h t (List.mem_cons_self ..), TmL_mem fun x hx => h x (List.mem_cons_of_mem _ hx)⟩
theorem mem_TmL : ∀ {l : List PV}, TmL l → ∀ t ∈ l, Tm t
  | a :: r, h, t, ht => by
    rcases List.mem_cons.mp ht with rfl | ht
    · exact h.1
    · exact mem_TmL h.2 t ht
mutual
theorem form_tm (mk : List (Str × Int)) : ∀ t : PV, form mk true t = true → Tm t
  | .str z, _ => trivial
  | .tup (.str w :: r), h => by
    simp only [form, Bool.and_eq_true] at h
    exact formL_tm mk r h.2
  | .oth, h => by simp [form] at h
  | .tup [], h => by simp [form] at h
  | .tup (.oth :: _), h => by simp [form] at h
  | .tup (.tup _ :: _), h => by simp [form] at h
theorem formL_tm (mk : List (Str × Int)) : ∀ l : List PV, formL mk true l = true → TmL l
  | [], _ => trivial
  | t :: r, h => by
    simp only [formL, Bool.and_eq_true] at h
    exact ⟨form_tm mk t h.1, formL_tm mk r h.2⟩
end
end Kx
/-! The heap: what stands for a tree; the promises of the defs. -/
namespace Kx
open PySem PySem.Spec PyProof.Rows L2
/-- all its signs are signs -/
abbrev sok (z : Str) : Bool := PyData.strOk z
mutual
/-- the value v stands for the tree -/
inductive Is (H : Hp) : V → PV → Prop
  | str (z : Str) (ok : sok z = true) : Is H (.str z) (.str z)
  | non : Is H .non .oth
  | bl (b : Bool) : Is H (.bl b) .oth
  | int (i : Int) : Is H (.int i) .oth
  | lst {a : Addr} (e : ∃ xs, H a = some (.lst xs)) : Is H (.ref a) .oth
  | dict {a : Addr} {kvs : List (Key × V)} (e : H a = some (.dK kvs)) : Is H (.ref a) .oth
  | tup {a : Addr} {vs : List V} {ts : List PV} (e : H a = some (.tup vs)) (h : IsL H vs ts) : Is H (.ref a) (.tup ts)
inductive IsL (H : Hp) : List V → List PV → Prop
  | nil : IsL H [] []
  | cons {v : V} {vs : List V} {t : PV} {ts : List PV} (h : Is H v t) (r : IsL H vs ts) : IsL H (v :: vs) (t :: ts)
end
/-- all but the list at d stands; that one is a list still -/
structure Ex (d : Addr) (H H' : Hp) : Prop where
  but : ∀ b o, b ≠ d → H b = some o → H' b = some o
  lst : (∃ xs, H d = some (.lst xs)) → ∃ xs, H' d = some (.lst xs)
theorem Ex.refl (d : Addr) (H : Hp) : Ex d H H := ⟨fun _ _ _ h => h, fun h => h⟩
theorem Ex.trans {d : Addr} {H H1 H2 : Hp} (a : Ex d H H1) (b : Ex d H1 H2) : Ex d H H2 := ⟨fun c o n h => b.but c o n (a.but c o n h), fun h => b.lst (a.lst h)⟩
theorem Ex.of {d : Addr} {H H' : Hp} (s : Same H H') : Ex d H H' := ⟨fun b o _ h => s b o h, fun ⟨xs, h⟩ => ⟨xs, s _ _ h⟩⟩
theorem Ex.new {d p : Addr} {H : Hp} (h : H p = none) (o : HO) : Ex d H (upd H p o) := .of fun b u e => by rw [upd_ne (ne_of_none e h)]; exact e
theorem Ex.set {d : Addr} {H : Hp} (xs : List V) : Ex d H (upd H d (.lst xs)) := ⟨fun b o n h => by rw [upd_ne n]; exact h, fun _ => ⟨xs, upd_same⟩⟩
theorem Ex.keep {d b : Addr} {H H' : Hp} {o : HO} (x : Ex d H H') (e : H b = some o) (hd : ∃ xs, H d = some (.lst xs)) (ho : ∀ xs, o ≠ .lst xs) : H' b = some o := by
  refine x.but b o (fun q => ?_) e
  subst q
  obtain ⟨xs, h⟩ := hd
  rw [e] at h
  cases h
  exact ho xs rfl
mutual
theorem Is.ex {d : Addr} {H H' : Hp} (x : Ex d H H') (hd : ∃ xs, H d = some (.lst xs)) : ∀ {v : V} {t : PV}, Is H v t → Is H' v t
  | _, _, .str z k => .str z k
  | _, _, .non => .non
  | _, _, .bl b => .bl b
  | _, _, .int i => .int i
  | _, _, .lst (a := a) e => by
    by_cases h : a = d
    · subst h; exact .lst (x.lst e)
    · obtain ⟨xs, e⟩ := e; exact .lst ⟨xs, x.but _ _ h e⟩
  | _, _, .dict e => .dict (x.keep e hd fun xs q => by cases q)
  | _, _, .tup e h => .tup (x.keep e hd fun xs q => by cases q) (IsL.ex x hd h)
theorem IsL.ex {d : Addr} {H H' : Hp} (x : Ex d H H') (hd : ∃ xs, H d = some (.lst xs)) : ∀ {v : List V} {t : List PV}, IsL H v t → IsL H' v t
  | _, _, .nil => .nil
  | _, _, .cons h r => .cons (Is.ex x hd h) (IsL.ex x hd r)
end
mutual
theorem Is.same {H H' : Hp} (x : Same H H') : ∀ {v : V} {t : PV}, Is H v t → Is H' v t
  | _, _, .str z k => .str z k
  | _, _, .non => .non
  | _, _, .bl b => .bl b
  | _, _, .int i => .int i
  | _, _, .lst e => .lst (e.elim fun xs e => ⟨xs, x _ _ e⟩)
  | _, _, .dict e => .dict (x _ _ e)
  | _, _, .tup e h => .tup (x _ _ e) (IsL.same x h)
theorem IsL.same {H H' : Hp} (x : Same H H') : ∀ {v : List V} {t : List PV}, IsL H v t → IsL H' v t
  | _, _, .nil => .nil
  | _, _, .cons h r => .cons (Is.same x h) (IsL.same x r)
end
theorem same_upd {H : Hp} {p : Addr} (h : H p = none) (o : HO) : Same H (upd H p o) := fun b u e => by rw [upd_ne (ne_of_none e h)]; exact e
theorem IsL.len {H : Hp} : ∀ {v : List V} {t : List PV}, IsL H v t → v.length = t.length
  | _, _, .nil => rfl
  | _, _, .cons _ r => by simp [IsL.len r]
theorem IsL.get {H : Hp} : ∀ {v : List V} {t : List PV}, IsL H v t → ∀ {i : Nat} {x : V}, v[i]? = some x → ∃ y, t[i]? = some y ∧ Is H x y
  | _, _, .nil, i, x, h => by simp at h
  | _, _, .cons h r, 0, x, e => by cases (Option.some.inj e); exact ⟨_, rfl, h⟩
  | _, _, .cons h r, i + 1, x, e => IsL.get r (by simpa using e)
theorem IsL.append {H : Hp} : ∀ {v : List V} {t : List PV} {v' : List V} {t' : List PV}, IsL H v t → IsL H v' t' → IsL H (v ++ v') (t ++ t')
  | _, _, _, _, .nil, h => h
  | _, _, _, _, .cons a r, h => .cons a (r.append h)
theorem IsL.take {H : Hp} : ∀ (n : Nat) {v : List V} {t : List PV}, IsL H v t → IsL H (v.take n) (t.take n)
  | 0, _, _, _ => .nil
  | n + 1, _, _, .nil => .nil
  | n + 1, _, _, .cons a r => .cons a (r.take n)
theorem IsL.drop {H : Hp} : ∀ (n : Nat) {v : List V} {t : List PV}, IsL H v t → IsL H (v.drop n) (t.drop n)
  | 0, _, _, h => h
  | n + 1, _, _, .nil => .nil
  | n + 1, _, _, .cons a r => r.drop n
theorem IsL.reverse {H : Hp} : ∀ {v : List V} {t : List PV}, IsL H v t → IsL H v.reverse t.reverse
  | _, _, .nil => .nil
  | _, _, .cons a r => by simp only [List.reverse_cons]; exact r.reverse.append (.cons a .nil)
theorem IsL.snoc_inv {H : Hp} {v : List V} {t : List PV} {x : V} (h : IsL H v t) (e : v[v.length - 1]? = some x) (hn : v ≠ []) : ∃ ts y, t = ts ++ [y] ∧ Is H x y ∧ IsL H v.dropLast ts := by
  have hl := h.len
  have hv : 0 < v.length := by cases v with | nil => exact absurd rfl hn | cons _ _ => simp
  obtain ⟨y, e2, hy⟩ := h.get e
  refine ⟨t.take (t.length - 1), y, ?_, hy, ?_⟩
  · have : t.length - 1 < t.length := by omega
    have e3 : t[t.length - 1]'this = y := by
      rw [hl, List.getElem?_eq_getElem this] at e2
      exact Option.some.inj e2
    have h2 := List.take_append_drop (t.length - 1) t
    have h3 : t.drop (t.length - 1) = [y] := by
      rw [List.drop_eq_getElem_cons this, e3, List.drop_eq_nil_of_le (by omega)]
    rw [h3] at h2
    exact h2.symm
  · rw [List.dropLast_eq_take, hl]
    exact h.take _
mutual
theorem Is.oks {H : Hp} : ∀ {v : V} {t : PV}, Is H v t → ∀ z ∈ lv t, sok z = true
  | _, _, .str z k, z', h => by simp only [lv, List.mem_singleton] at h; rw [h]; exact k
  | _, _, .non, z, h => by simp [lv] at h
  | _, _, .bl b, z, h => by simp [lv] at h
  | _, _, .int i, z, h => by simp [lv] at h
  | _, _, .lst e, z, h => by simp [lv] at h
  | _, _, .dict e, z, h => by simp [lv] at h
  | _, _, .tup e .nil, z, h => by simp [lv] at h
  | _, _, .tup e (.cons a r), z, h => IsL.oks r z (by simpa only [lv] using h)
theorem IsL.oks {H : Hp} : ∀ {v : List V} {t : List PV}, IsL H v t → ∀ z ∈ lvL t, sok z = true
  | _, _, .nil, z, h => by simp [lvL] at h
  | _, _, .cons a r, z, h => by
    simp only [lvL] at h
    rcases List.mem_append.mp h with h | h
    · exact Is.oks a z h
    · exact IsL.oks r z h
end
theorem Is.str_inv {H : Hp} {v : V} {z : Str} (h : Is H v (.str z)) : v = .str z := by cases h; rfl
theorem Is.tup_inv {H : Hp} {v : V} {ts : List PV} (h : Is H v (.tup ts)) : ∃ a vs, v = .ref a ∧ H a = some (.tup vs) ∧ IsL H vs ts := by
  cases h with
  | tup e h => exact ⟨_, _, rfl, e, h⟩
/-! ### isinstance -/
def tyOf : PV → Value → Prop := fun t u => match t with
  | .str _ => u = .type "str"
  | .tup _ => u = .type "tuple"
  | .oth => u = .type "NoneType" ∨ u = .type "bool" ∨ u = .type "int" ∨ u = .type "list" ∨ u = .type "dict"
theorem Is.ty {K : PySem.W.Frag} {H : Hp} {v : V} {t : PV} (h : Is H v t) : ∃ u, TyX K H v u ∧ tyOf t u := by
  cases h with
  | str z _ => exact ⟨_, .base (.str z), rfl⟩
  | non => exact ⟨_, .base .non, .inl rfl⟩
  | bl b => exact ⟨_, .base (.bl b), .inr (.inl rfl)⟩
  | int i => exact ⟨_, .base (.int i), .inr (.inr (.inl rfl))⟩
  | lst e => obtain ⟨xs, e⟩ := e; exact ⟨_, .base (.lst e), .inr (.inr (.inr (.inl rfl)))⟩
  | dict e => exact ⟨_, .base (.dK e), .inr (.inr (.inr (.inr rfl)))⟩
  | tup e h => exact ⟨_, .base (.tup e), rfl⟩
def isStr : PV → Bool
  | .str _ => true
  | _ => false
def isTup : PV → Bool
  | .tup _ => true
  | _ => false
theorem kit_str {K : PySem.W.Frag} {t : PV} {u : Value} (h : tyOf t u) : PySem.W.kitOne K u (.type "str") = some (isStr t) := by
  cases t with
  | str z => cases h; exact kit_ty (show kitB "str" "str" = some true by decide +kernel)
  | tup ts => cases h; exact kit_ty (show kitB "tuple" "str" = some false by decide +kernel)
  | oth => rcases h with rfl | rfl | rfl | rfl | rfl <;> exact kit_ty (by decide +kernel)
theorem kit_tup {K : PySem.W.Frag} {t : PV} {u : Value} (h : tyOf t u) : PySem.W.kitOne K u (.type "tuple") = some (isTup t) := by
  cases t with
  | str z => cases h; exact kit_ty (show kitB "str" "tuple" = some false by decide +kernel)
  | tup ts => cases h; exact kit_ty (show kitB "tuple" "tuple" = some true by decide +kernel)
  | oth => rcases h with rfl | rfl | rfl | rfl | rfl <;> exact kit_ty (by decide +kernel)
/-- what isinstance asks of such a value -/
theorem isi_str {K : PySem.W.Frag} {H : Hp} {v : V} {t : PV} {Q : VK} (h : Is H v t) (q : Q (.bl (isStr t)) H) : rIsi K [v, .ty "str"] H Q := by
  obtain ⟨u, a, b⟩ := h.ty (K := K)
  exact ⟨_, _, u, _, _, rfl, .ty _, a, kit_str b, q⟩
theorem isi_tup {K : PySem.W.Frag} {H : Hp} {v : V} {t : PV} {Q : VK} (h : Is H v t) (q : Q (.bl (isTup t)) H) : rIsi K [v, .ty "tuple"] H Q := by
  obtain ⟨u, a, b⟩ := h.ty (K := K)
  exact ⟨_, _, u, _, _, rfl, .ty _, a, kit_tup b, q⟩
/-! ### makers -/
def mkV (kv : Str × Int) : List V := [.str kv.1, .int kv.2]
structure MkOk (mk : List (Str × Int)) : Prop where
  nd : (mk.map (·.1)).Nodup
  zero : ∃ kv ∈ mk, kv.2 = 0
  low : ∀ kv ∈ mk, 0 ≤ kv.2 ∧ kv.2 ≤ 2
  len : mk.length ≤ 5
  good : ∀ kv ∈ mk, sok kv.1 = true
structure Mk (H : Hp) (a : Addr) (mk : List (Str × Int)) : Prop where
  at_ : ∃ (o : Obj) (ps : List Addr), H a = some (.frz o (.tup (ps.map V.ref))) ∧ o.dict = none ∧ Paired (fun p kv => H p = some (.tup (mkV kv))) ps mk
  ok : MkOk mk
theorem Paired.imp {α β : Type} {F G : α → β → Prop} : ∀ {l : List α} {m : List β}, Paired F l m → (∀ a b, F a b → G a b) → Paired G l m
  | _, _, .nil, _ => .nil
  | _, _, .cons h t, f => .cons (f _ _ h) (Paired.imp t f)
theorem Mk.same {H H' : Hp} {a : Addr} {mk : List (Str × Int)} (x : Same H H') (h : Mk H a mk) : Mk H' a mk := by
  obtain ⟨⟨o, ps, e, d, p⟩, k⟩ := h
  exact ⟨⟨o, ps, x _ _ e, d, Paired.imp p fun _ _ q => x _ _ q⟩, k⟩
theorem Mk.ex {d : Addr} {H H' : Hp} {a : Addr} {mk : List (Str × Int)} (x : Ex d H H') (hd : ∃ xs, H d = some (.lst xs)) (h : Mk H a mk) : Mk H' a mk := by
  obtain ⟨⟨o, ps, e, dn, p⟩, k⟩ := h
  exact ⟨⟨o, ps, x.keep e hd (fun _ q => by cases q), dn, Paired.imp p fun _ _ q => x.keep q hd (fun _ q => by cases q)⟩, k⟩
/-! ### draws -/
def Dr (H : Hp) (d sa : Addr) : Prop := ∃ (ns : List Int) (i c m : Int), H d = some (.lst [.ref sa, .int i, .int c, .int m]) ∧ H sa = some (.lst (ns.map V.int)) ∧ sa ≠ d ∧ 0 ≤ i ∧ 0 ≤ c ∧ 0 ≤ m ∧ m < 2147483648 ∧ ns.length ≤ 63
theorem Dr.lst {H : Hp} {d sa : Addr} (h : Dr H d sa) : ∃ xs, H d = some (.lst xs) := by
  obtain ⟨ns, i, c, m, e, _⟩ := h
  exact ⟨_, e⟩
theorem Dr.same {H H' : Hp} {d sa : Addr} (x : Same H H') (h : Dr H d sa) : Dr H' d sa := by
  obtain ⟨ns, i, c, m, e, e2, r⟩ := h
  exact ⟨ns, i, c, m, x _ _ e, x _ _ e2, r⟩
theorem Dr.own {H : Hp} {d sa l : Addr} {o : HO} (h : Dr H d sa) (n1 : l ≠ d) (n2 : l ≠ sa) : Dr (upd H l o) d sa := by
  obtain ⟨ns, i, c, m, e, e2, r⟩ := h
  exact ⟨ns, i, c, m, by rw [upd_ne n1.symm]; exact e, by rw [upd_ne n2.symm]; exact e2, r⟩
theorem Dr.free {H H1 : Hp} {d sa l : Addr} (h : Dr H d sa) (n : H l = none) : l ≠ d ∧ l ≠ sa := by
  obtain ⟨ns, i, c, m, e, e2, r⟩ := h
  exact ⟨(ne_of_none e n).symm, (ne_of_none e2 n).symm⟩
theorem Ex.own {d l : Addr} {H H1 : Hp} (x : Ex d H H1) (hl : H l = none) (o : HO) : Ex d H (upd H1 l o) :=
  ⟨fun b u n h => by rw [upd_ne (ne_of_none h hl)]; exact x.but b u n h, fun h => by
    obtain ⟨xs, e⟩ := h
    rw [upd_ne (ne_of_none e hl)]
    exact x.lst ⟨xs, e⟩⟩
theorem Same.own {l : Addr} {H H1 : Hp} (x : Same H H1) (hl : H l = none) (o : HO) : Same H (upd H1 l o) := fun b u h => by rw [upd_ne (ne_of_none h hl)]; exact x b u h
def spDraws (K : PySem.W.Frag) : Sp := fun vs H Q _ => ∃ (a : Addr) (ns : List Int), vs = [.ref a] ∧ SqL K H a (ns.map V.int) ∧ ns.length ≤ 63 ∧ ∀ d sa H', Same H H' → Dr H' d sa → Q (.ref d) H'
def spDraw : Sp := fun vs H Q _ => ∃ (d sa : Addr) (n : Int), vs = [.ref d, .int n] ∧ Dr H d sa ∧ 1 ≤ n ∧ n ≤ 1000 ∧ ∀ (r : Int) H', 0 ≤ r → r < n → Ex d H H' → Dr H' d sa → Q (.int r) H'
def spPick (K : PySem.W.Frag) : Sp := fun vs H Q _ => ∃ (d sa p : Addr) (xs : List V), vs = [.ref d, .ref p] ∧ Dr H d sa ∧ (H p = some (.lst xs) ∨ SqT K H p xs) ∧ p ≠ d ∧ 1 ≤ xs.length ∧ xs.length ≤ 1000 ∧ ∀ (x : V) H', x ∈ xs → Ex d H H' → Dr H' d sa → Q x H'
def spMakers : Sp := fun vs H Q _ => ∃ (d sa : Addr), vs = [.ref d] ∧ Dr H d sa ∧ ∀ a H' mk, Mk H' a mk → Ex d H H' → Dr H' d sa → Q (.ref a) H'
def spTerm (n : Nat) : Sp := fun vs H Q _ => ∃ (d sa m nl : Addr) (mk : List (Str × Int)) (zs : List Str) (k : Nat), vs = [.ref d, .ref m, .ref nl, .int k] ∧ Dr H d sa ∧ Mk H m mk ∧ H nl = some (.lst (zs.map V.str)) ∧ nl ≠ d ∧ 1 ≤ zs.length ∧ zs.length ≤ 10 ∧ (∀ z ∈ zs, sok z = true) ∧ k < n ∧
  ∀ v t H', Is H' v t → Tm t → cnt t ≤ 2 ^ (k + 2) - 2 → Ex d H H' → Dr H' d sa → Q v H'
def spOdd : Sp := fun vs H Q _ => ∃ (d sa m : Addr) (mk : List (Str × Int)), vs = [.ref d, .ref m] ∧ Dr H d sa ∧ Mk H m mk ∧ ∀ v t H', Is H' v t → cnt t ≤ 3 → Ex d H H' → Dr H' d sa → Q v H'
def spBent (n : Nat) : Sp := fun vs H Q _ => ∃ (d sa m : Addr) (mk : List (Str × Int)) (v : V) (t : PV), vs = [.ref d, .ref m, v] ∧ Dr H d sa ∧ Mk H m mk ∧ Is H v t ∧ Tm t ∧ cnt t ≤ n ∧ cnt t ≤ 70 ∧ ∀ v' t' H', Is H' v' t' → cnt t' ≤ cnt t + 3 → Ex d H H' → Dr H' d sa → Q v' H'
/-- is_term and the law's own: by the makers -/
def spIs (nm : Bool) (n : Nat) : Sp := fun vs H Q _ => ∃ (m : Addr) (mk : List (Str × Int)) (v : V) (t : PV), vs = [.ref m, v] ∧ Mk H m mk ∧ Is H v t ∧ cnt t ≤ n ∧ cnt t ≤ 100 ∧ ∀ H', Same H H' → Q (.bl (form mk nm t)) H'
def spNat (g : PV → Nat) (n : Nat) : Sp := fun vs H Q _ => ∃ (v : V) (t : PV), vs = [v] ∧ Is H v t ∧ Tm t ∧ cnt t ≤ n ∧ cnt t ≤ 100 ∧ ∀ H', Same H H' → Q (.int (g t : Int)) H'
def spNames (n : Nat) : Sp := fun vs H Q _ => ∃ (v : V) (t : PV), vs = [v] ∧ Is H v t ∧ Tm t ∧ cnt t ≤ n ∧ cnt t ≤ 100 ∧ ∀ p H', Same H H' → H' p = some (.lst ((nms t).map V.str)) → Q (.ref p) H'
def spTold : Sp := fun vs H Q _ => ∃ (a b : Bool), vs = [.bl a, .bl b] ∧ Q (.bl (a == b)) H
def spLaw (K : PySem.W.Frag) : Sp := fun vs H Q _ => ∃ (a : Addr) (ns : List Int), vs = [.ref a] ∧ SqL K H a (ns.map V.int) ∧ ns.length ≤ 63 ∧ ∀ H', Q (.bl true) H'
end Kx
set_option maxHeartbeats 2000000
/-! == of a term and any value; del of the first items of a list. -/
namespace Kx
open PySem PySem.Spec PyProof.Rows L2
open MeetsSeq
open AutoSeq1 (wpAny_loadPart')
theorem str_declines_dict (b : Str) (u : Tok) (l : Addr) (c : Value) (es : Array DictEntry) (n : Nat) (dd : Option Addr) (sl : Array (Option Value)) :
    Meets (Builtin.«str.__eq__» ⟨[.str b u, .ref l], []⟩) (fun _ R s => s.heap.get? l = some { cls := c, dict := dd, data := .dict es n, slots := sl } ∧ R (.ok (.ret .notImplemented)) s) :=
  .of_wp fun prog w A R s h => by obtain ⟨hp, g, d, tk, os⟩ := s; obtain ⟨hl, h⟩ := h; wp_walk using wpAny_loadPart' hl, wpAny_load hl; exact ⟨_, rfl, h⟩
theorem tuple_declines_dict (l b : Addr) (items : Array Value) (n n2 : Nat) (dd dd2 : Option Addr) (sl sl2 : Array (Option Value)) (es : Array DictEntry) :
    Meets (Builtin.«tuple.__eq__» ⟨[.ref l, .ref b], []⟩) (fun _ R s => s.heap.get? l = some { cls := .type "tuple", dict := dd, data := .seq items n, slots := sl } ∧ s.heap.get? b = some { cls := .type "dict", dict := dd2, data := .dict es n2, slots := sl2 } ∧ R (.ok (.ret .notImplemented)) s) :=
  .of_wp fun prog w A R s h => by obtain ⟨hp, g, d, tk, os⟩ := s; obtain ⟨hl, hb, h⟩ := h; have f1 := F.sub_dict_tuple; wp_walk using wpAny_loadPart' hl, wpAny_loadPart' hb; exact ⟨_, rfl, h⟩
section
variable {prog : Program} {w : World} {A : Around} {E : Value → Shared → Prop} {s : Shared}
theorem dict_declines {b : Addr} {v : Value} {T : String} {Q : Value → Shared → Prop} (hb : s.TypeIs (.ref b) "dict") (hv : s.TypeIs v T) (hs : isSubtype (.type T) (.type "dict") = pure false) (h : Q .notImplemented s) :
    wpAny (model prog w) A (call (.builtin "dict.__eq__") [.ref b, v]) Q E s := by
  refine wpAny_call_entry PySem.F.slot_dict_eq hb PySem.F.entry_dict_eq ?_ (PySem.F.args_dict_eq_2 _ _)
  show wpAny _ _ (Builtin.Dict.dictSlotArgs "__eq__" ⟨[.ref b, v], []⟩ >>= _) _ _ s
  refine wpAny_bind ?_
  unfold Builtin.Dict.dictSlotArgs
  refine wpAny_bind (wpAny_notOrdered_dict hb ?_)
  show wpAny _ _ (pure (Value.ref b, v)) _ _ s
  refine wpAny_pure ?_
  refine wpAny_bind (wpAny_isInstance (T := T) hv hs ?_)
  simp only [Bool.not_false, if_true]
  refine wpAny_bind (wpAny_rule (wpAny_bind (wpAny_pure (wpAny_pure ⟨_, rfl, h⟩))))
end
section
variable {A : Around} {s : Shared}
/-- an exact dict stands at an address -/
def DictAt (s : Shared) (a : Addr) : Prop := ∃ es n dd sl, s.heap.get? a = some { cls := .type "dict", dict := dd, data := .dict es n, slots := sl }
theorem DictAt.typeIs {a : Addr} (h : DictAt s a) : s.TypeIs (.ref a) "dict" := by
  obtain ⟨es, n, dd, sl, h⟩ := h
  exact ⟨_, h, rfl⟩
theorem dictAt {X : Cx} {pins : List (Addr × Obj)} {σ : L2.St} {H : Hp} (I : Inv X pins σ H s) {a : Addr} {kvs : List (Key × V)} (e : H a = some (.dK kvs)) : DictAt s a := by
  obtain ⟨_, ya, va, ra, da⟩ := (show ObjOk X.prog X.w H s.heap a (.dK kvs) from I.hok a _ e)
  obtain ⟨⟨cls, dd, data, sl⟩, es, ep, h1, h2, h3, _⟩ := da
  simp only at h3
  subst h3
  have hc : cls = .type "dict" := h2.1
  subst hc
  exact ⟨es, ep, dd, sl, h1⟩
theorem eq_str_dict {a : Addr} (e : DictAt s a) (b : Str) (u : Tok) (hu : A.units < cLine) : SeqAt.EqAt A s (.str b u) (.ref a) false := fun prog w E Q h => by
  unfold eqBool
  refine wpAny_holding ?_
  refine wpAny_ite_split (fun hab => absurd (eq_of_beq hab) nofun) (fun _ => ?_)
  obtain ⟨es, n, dd, sl, ha⟩ := id e
  refine wpAny_bind (SeqAt.rc_eq_decline_or (k := false) (typeIs_str s b u) e.typeIs (by decide) PySem.F.sub_dict_str PySem.F.slot_str_eq PySem.F.slot_dict_eq_refl
    (fun _ hq => call_meets PySem.F.slot_str_eq (typeIs_str s b u) PySem.F.entry_str_eq (PySem.F.args_str_eq_2 _ _) (str_declines_dict b u a (.type "dict") es n dd sl) ⟨ha, hq⟩)
    (fun _ hq => dict_declines e.typeIs (typeIs_str s b u) PySem.F.sub_str_dict hq)
    (fun _ hq => wpAny_of_eq (rfl : isSame (.str b u) (.ref a) = pure false) hq) (.inr hu) (wpAny_truthy_bool h))
theorem eq_tuple_dict {l a : Addr} {items : Array Value} (hl : s.heap.IsTuple l items) (e : DictAt s a) (hu : A.units < cLine) : SeqAt.EqAt A s (.ref l) (.ref a) false := by
  obtain ⟨⟨cls, dd, data, sl⟩, ho, hc, n, hd⟩ := id hl
  obtain ⟨es, n2, dd2, sl2, ha⟩ := id e
  simp only at hc hd
  subst hc hd
  have hne : l ≠ a := fun q => by
    subst q
    rw [ho] at ha
    have := congrArg Obj.cls (Option.some.inj ha)
    simp at this
  refine .of_refs hne fun prog w E Q h => ?_
  exact SeqAt.rc_eq_decline_or (k := false) ⟨_, ho, rfl⟩ e.typeIs (by decide) PySem.F.sub_dict_tuple PySem.F.slot_tuple_eq PySem.F.slot_dict_eq_refl
    (fun _ hq => call_meets PySem.F.slot_tuple_eq ⟨_, ho, rfl⟩ PySem.F.entry_tuple_eq (PySem.F.args_tuple_eq_2 _ _) (tuple_declines_dict l a items n n2 dd dd2 sl sl2 es) ⟨ho, ha, hq⟩)
    (fun _ hq => dict_declines e.typeIs ⟨_, ho, rfl⟩ PySem.F.sub_tuple_dict hq)
    (fun _ hq => SeqAt.wpAny_isSame_ref_other' hne ho ha (by simp) hq) (.inr hu) h
end
/-! ### a term and any value -/
theorem isL_det_of {H : Hp} : True := trivial
mutual
theorem Is.det {H : Hp} : ∀ {v : V} {t t' : PV}, Is H v t → Is H v t' → t = t'
  | _, _, _, .str z _, .str _ _ => rfl
  | _, _, _, .non, .non => rfl
  | _, _, _, .bl b, .bl _ => rfl
  | _, _, _, .int i, .int _ => rfl
  | _, _, _, .lst e, h => by
    cases h with
    | lst _ => rfl
    | dict _ => rfl
    | tup e2 _ => obtain ⟨xs, e⟩ := e; rw [e] at e2; cases e2
  | _, _, _, .dict e, h => by
    cases h with
    | lst _ => rfl
    | dict _ => rfl
    | tup e2 _ => rw [e] at e2; cases e2
  | _, _, _, .tup e a, h => by
    cases h with
    | lst e2 => obtain ⟨xs, e2⟩ := e2; rw [e] at e2; cases e2
    | dict e2 => rw [e] at e2; cases e2
    | tup e2 b =>
      rw [e] at e2
      cases e2
      rw [IsL.det a b]
theorem IsL.det {H : Hp} : ∀ {v : List V} {t t' : List PV}, IsL H v t → IsL H v t' → t = t'
  | _, _, _, .nil, .nil => rfl
  | _, _, _, .cons a r, .cons b q => by rw [Is.det a b, IsL.det r q]
end
open Classical in
/-- are they one tree -/
noncomputable def one (a b : PV) : Bool := decide (a = b)
theorem one_self (a : PV) : one a a = true := by simp [one]
theorem one_ne {a b : PV} (h : a ≠ b) : one a b = false := by simp [one, h]
theorem one_iff {a b : PV} : one a b = true ↔ a = b := by simp [one]
theorem eq_term {X : Cx} {pins : List (Addr × Obj)} {σ : L2.St} {H : Hp} {s : Shared} (I : Inv X pins σ H s) : ∀ (n : Nat) (A : Around), A.units + n < cLine → ∀ (x y : V) (v u : Value) (a b : PV), cnt a ≤ n → Is H x a → Tm a → Is H y b → RelV x v → RelV y u → SeqAt.EqAt A s v u (one a b)
  | 0, _, _, _, _, _, _, a, _, h, _, _, _, _, _ => absurd (cnt_pos a) (by omega)
  | n + 1, A, hu, x, y, v, u, a, b, hc, ha, ta, hb, rx, ry => by
    have hu0 : A.units < cLine := by omega
    cases ha with
    | non => exact absurd ta id
    | bl _ => exact absurd ta id
    | int _ => exact absurd ta id
    | lst _ => exact absurd ta id
    | dict _ => exact absurd ta id
    | str z ok =>
      obtain ⟨t, rfl⟩ := (show ∃ t, v = Value.str z t from rx)
      cases hb with
      | str z2 ok2 =>
        obtain ⟨t2, rfl⟩ := (show ∃ t, u = Value.str z2 t from ry)
        have e : one (.str z) (.str z2) = (z == z2) := by
          by_cases q : z = z2
          · subst q; simp [one]
          · rw [one_ne (fun e => q (PV.str.inj e))]; simp [q]
        rw [e]
        exact .str_str z t z2 t2
      | non =>
        cases (show u = Value.none from ry)
        rw [one_ne (by simp)]
        exact .str_none _ _
      | bl b =>
        cases (show u = Value.bool b from ry)
        rw [one_ne (by simp)]
        exact .str_bool _ _ _
      | int i =>
        obtain ⟨t2, rfl⟩ := (show ∃ t, u = Value.int i t from ry)
        rw [one_ne (by simp)]
        exact .str_int _ _ _ _
      | lst e =>
        obtain ⟨xs, e⟩ := e
        cases (show u = Value.ref _ from ry)
        obtain ⟨us, r1, p1, _⟩ := I.list (SqL.of e)
        rw [one_ne (by simp)]
        exact .str_list _ _ p1.isList hu0
      | dict e =>
        cases (show u = Value.ref _ from ry)
        rw [one_ne (by simp)]
        exact eq_str_dict (dictAt I e) _ _ hu0
      | tup e h =>
        cases (show u = Value.ref _ from ry)
        obtain ⟨its, r, ht, _⟩ := I.tuple (.inl (.inl e))
        rw [one_ne (by simp)]
        exact .str_tuple _ _ ht hu0
    | @tup p vs ts e hL =>
      cases (show v = Value.ref _ from rx)
      obtain ⟨its, r, ht, _⟩ := I.tuple (.inl (.inl e))
      cases hb with
      | str z2 ok2 =>
        obtain ⟨t2, rfl⟩ := (show ∃ t, u = Value.str z2 t from ry)
        rw [one_ne (by simp)]
        exact .tuple_str _ _ ht hu0
      | non =>
        cases (show u = Value.none from ry)
        rw [one_ne (by simp)]
        exact .tuple_none ht hu0
      | bl b =>
        cases (show u = Value.bool b from ry)
        rw [one_ne (by simp)]
        exact .tuple_bool _ ht hu0
      | int i =>
        obtain ⟨t2, rfl⟩ := (show ∃ t, u = Value.int i t from ry)
        rw [one_ne (by simp)]
        exact .tuple_int _ _ ht hu0
      | lst e2 =>
        obtain ⟨xs, e2⟩ := e2
        cases (show u = Value.ref _ from ry)
        obtain ⟨us, r1, p1, _⟩ := I.list (SqL.of e2)
        rw [one_ne (by simp)]
        exact .tuple_list ht p1.isList hu0
      | dict e2 =>
        cases (show u = Value.ref _ from ry)
        rw [one_ne (by simp)]
        exact eq_tuple_dict ht (dictAt I e2) hu0
      | @tup p2 vs2 ts2 e2 hL2 =>
        cases (show u = Value.ref _ from ry)
        obtain ⟨its2, r2, ht2, _⟩ := I.tuple (.inl (.inl e2))
        by_cases hp : p = p2
        · subst hp
          rw [e] at e2
          cases e2
          rw [IsL.det hL hL2, one_self]
          exact .same _
        have l1 := r.length
        have l2 := r2.length
        have m1 := hL.len
        have m2 := hL2.len
        have key : one (.tup ts) (.tup ts2) = ((List.range (min its.toArray.size its2.toArray.size)).all (fun j => one (ts.getD j .oth) (ts2.getD j .oth)) && its.toArray.size == its2.toArray.size) := by
          rw [Bool.eq_iff_iff, one_iff, Bool.and_eq_true, List.all_eq_true, beq_iff_eq]
          simp only [List.size_toArray]
          constructor
          · intro q
            cases q
            exact ⟨fun j _ => one_self _, by omega⟩
          · rintro ⟨h1, h2⟩
            refine congrArg PV.tup (List.ext_getElem (by omega) fun j g1 g2 => ?_)
            have := one_iff.mp (h1 j (List.mem_range.mpr (by omega)))
            simpa [List.getD, g1, g2] using this
        rw [key]
        refine .of_refs hp (.tuples ht ht2 hu0 fun j h1 h2 => ?_)
        have j1 : j < vs.length := by rw [l1]; simpa using h1
        have j2 : j < vs2.length := by rw [l2]; simpa using h2
        obtain ⟨a1, ea, ia⟩ := hL.get (List.getElem?_eq_getElem j1)
        obtain ⟨b1, eb, ib⟩ := hL2.get (List.getElem?_eq_getElem j2)
        have ga : ts.getD j .oth = a1 := by simp [List.getD, ea]
        have gb : ts2.getD j .oth = b1 := by simp [List.getD, eb]
        rw [ga, gb]
        have mA := List.mem_of_getElem? ea
        have tA : Tm a1 := by
          cases ts with
          | nil => simp at ea
          | cons t0 tr =>
            cases t0 with
            | oth => exact absurd ta id
            | tup _ => exact absurd ta id
            | str z =>
              rcases List.mem_cons.mp mA with rfl | q
              · trivial
              · exact mem_TmL ta _ q
        have cA := cntL_mem mA
        have cT : cnt (.tup ts) = 1 + cntL ts := rfl
        refine eq_term I n A.in1 (by show A.units + 1 + n < cLine; omega) vs[j] vs2[j] _ _ a1 b1 (by omega) ia tA ib ?_ ?_
        · obtain ⟨q, e1, e2⟩ := Vals.get r (List.getElem?_eq_getElem j1)
          have : its.toArray[j] = q := by
            have h1' : j < its.length := by simpa using h1
            rw [List.getElem?_eq_getElem h1'] at e1
            simpa using Option.some.inj e1
          rw [this]; exact e2
        · obtain ⟨q, e1, e2⟩ := Vals.get r2 (List.getElem?_eq_getElem j2)
          have : its2.toArray[j] = q := by
            have h2' : j < its2.length := by simpa using h2
            rw [List.getElem?_eq_getElem h2'] at e1
            simpa using Option.some.inj e1
          rw [this]; exact e2
/-- x == y, a tuple that is a term and a tuple -/
def rTm : R2 := fun x y H Q => ∃ ts us, Is H x (.tup ts) ∧ Tm (.tup ts) ∧ cnt (.tup ts) ≤ 100 ∧ Is H y (.tup us) ∧ ∀ k : Bool, (k = true → ts = us) → Q (.bl k) H
theorem rc_term {X : Cx} {pins : List (Addr × Obj)} {σ : L2.St} {H : Hp} {s : Shared} (I : Inv X pins σ H s) {A : Around} {p p2 : Addr} {ts ts2 : List PV} (hu : A.units + 101 < cLine) (hc : cnt (.tup ts) ≤ 100) (ha : Is H (.ref p) (.tup ts)) (ta : Tm (.tup ts)) (hb : Is H (.ref p2) (.tup ts2)) :
    SeqAt.RcAt A s (.ref p) (.ref p2) (one (.tup ts) (.tup ts2)) := by
  cases ha with
  | @tup _ vs _ e hL =>
  cases hb with
  | @tup _ vs2 _ e2 hL2 =>
  obtain ⟨its, r, ht, _⟩ := I.tuple (.inl (.inl e))
  obtain ⟨its2, r2, ht2, _⟩ := I.tuple (.inl (.inl e2))
  have l1 := r.length
  have l2 := r2.length
  have m1 := hL.len
  have m2 := hL2.len
  have key : one (.tup ts) (.tup ts2) = ((List.range (min its.toArray.size its2.toArray.size)).all (fun j => one (ts.getD j .oth) (ts2.getD j .oth)) && its.toArray.size == its2.toArray.size) := by
    rw [Bool.eq_iff_iff, one_iff, Bool.and_eq_true, List.all_eq_true, beq_iff_eq]
    simp only [List.size_toArray]
    constructor
    · intro q
      cases q
      exact ⟨fun j _ => one_self _, by omega⟩
    · rintro ⟨h1, h2⟩
      refine congrArg PV.tup (List.ext_getElem (by omega) fun j g1 g2 => ?_)
      have := one_iff.mp (h1 j (List.mem_range.mpr (by omega)))
      simpa [List.getD, g1, g2] using this
  rw [key]
  refine .tuples ht ht2 (by omega) fun j h1 h2 => ?_
  have j1 : j < vs.length := by rw [l1]; simpa using h1
  have j2 : j < vs2.length := by rw [l2]; simpa using h2
  obtain ⟨a1, ea, ia⟩ := hL.get (List.getElem?_eq_getElem j1)
  obtain ⟨b1, eb, ib⟩ := hL2.get (List.getElem?_eq_getElem j2)
  have ga : ts.getD j .oth = a1 := by simp [List.getD, ea]
  have gb : ts2.getD j .oth = b1 := by simp [List.getD, eb]
  rw [ga, gb]
  have mA := List.mem_of_getElem? ea
  have tA : Tm a1 := by
    cases ts with
    | nil => simp at ea
    | cons t0 tr =>
      cases t0 with
      | oth => exact absurd ta id
      | tup _ => exact absurd ta id
      | str z =>
        rcases List.mem_cons.mp mA with rfl | q
        · trivial
        · exact mem_TmL ta _ q
  have cA := cntL_mem mA
  have cT : cnt (.tup ts) = 1 + cntL ts := rfl
  refine eq_term I 100 A.in1 (by show A.units + 1 + 100 < cLine; omega) vs[j] vs2[j] _ _ a1 b1 (by omega) ia tA ib ?_ ?_
  · obtain ⟨q, e1, e2⟩ := Vals.get r (List.getElem?_eq_getElem j1)
    have : its.toArray[j] = q := by
      have h1' : j < its.length := by simpa using h1
      rw [List.getElem?_eq_getElem h1'] at e1
      simpa using Option.some.inj e1
    rw [this]; exact e2
  · obtain ⟨q, e1, e2⟩ := Vals.get r2 (List.getElem?_eq_getElem j2)
    have : its2.toArray[j] = q := by
      have h2' : j < its2.length := by simpa using h2
      rw [List.getElem?_eq_getElem h2'] at e1
      simpa using Option.some.inj e1
    rw [this]; exact e2
section
variable {X : Cx}
theorem u101 {A : Around} {k : Nat} (r : Room k A) : A.units + 101 < cLine := by have := r.un; omega
theorem op_tm (hu : X.A.units + 101 < cLine) : OpR X (compareOp .Eq) rTm := by
  intro pins s σ H x y v u Q I rx ry h
  obtain ⟨ts, us, ha, ta, hc, hb, q⟩ := h
  obtain ⟨p, _, rfl, _⟩ := ha.tup_inv
  obtain ⟨p2, _, rfl, _⟩ := hb.tup_inv
  cases (show v = Value.ref p from rx)
  cases (show u = Value.ref p2 from ry)
  exact rc_term I hu hc ha ta hb _ _ _ _ ⟨.bl _, H, I, rfl, q _ fun k => PV.tup.inj (one_iff.mp k)⟩
end
/-! ### del xs[:-n] -/
def sel (m : Int) (i : Nat) : Bool := if (1 : Int) > 0 then decide ((0 : Int) ≤ (i : Int)) && decide ((i : Int) < m) && ((i : Int) - 0) % 1 == 0 else decide (m < (i : Int)) && decide ((i : Int) ≤ 0) && ((0 : Int) - i) % (-1) == 0
def keepTo (m : Int) : Array Value → Array Value := fun xs => (xs.toList.zipIdx.filterMap fun (x, k) => if sel m k then none else some x).toArray
theorem sel_eq (m : Nat) (i : Nat) : sel (m : Int) i = decide (i < m) := by
  unfold sel
  rw [if_pos (by decide)]
  have h0 : ((i : Int) - 0) % 1 = 0 := by omega
  rw [h0]
  have h1 : decide ((0 : Int) ≤ (i : Int)) = true := decide_eq_true (by omega)
  have h2 : decide ((i : Int) < (m : Int)) = decide (i < m) := decide_eq_decide.mpr (by omega)
  rw [h1, h2]
  simp
theorem keep_drop {α : Type} (m : Nat) : ∀ (l : List α) (k : Nat), (l.zipIdx k).filterMap (fun (x, i) => if decide (i < m) = true then none else some x) = l.drop (m - k)
  | [], k => by simp
  | x :: r, k => by
    rw [List.zipIdx_cons, List.filterMap_cons]
    have ih := keep_drop m r (k + 1)
    by_cases h : k < m
    · simp only [decide_eq_true h, if_true]
      rw [ih, show m - k = (m - (k + 1)) + 1 from by omega, List.drop_succ_cons]
    · have h' : decide (k < m) = false := decide_eq_false h
      simp only [h', Bool.false_eq_true, if_false]
      rw [ih, show m - k = 0 from by omega, show m - (k + 1) = 0 from by omega]
      rfl
theorem keepTo_eq (m : Nat) (its : List Value) : keepTo (m : Int) its.toArray = (its.drop m).toArray := by
  unfold keepTo
  congr 1
  have := keep_drop m its 0
  simp only [Nat.sub_zero] at this
  rw [← this]
  simp only [sel_eq]
theorem bounds_to {n len : Nat} : sliceBounds none (some (-(n + 1 : Nat) : Int)) none len = ((0 : Int), ((len - (n + 1) : Nat) : Int), 1) := by
  simp only [sliceBounds, Option.getD_none]
  simp only [show (1 : Int) > 0 by decide, if_true]
  have h1 : (-((n + 1 : Nat) : Int)) < 0 := by omega
  simp only [h1, if_true]
  congr 2
  omega
section
variable {prog : Program} {w : World} {A : Around} {E : Value → Shared → Prop} {s : Shared}
theorem delItem_to {l sl : Addr} {items : Array Value} {n k : Nat} {vu : Value} {Q : Unit → Shared → Prop}
    (e : s.heap.get? l = some { cls := .type "list", data := .seq items n }) (hs : s.heap.IsSliceOf sl .none vu .none) (pu : IsPart vu (some (-(k + 1 : Nat) : Int)))
    (hsz : items.size ≤ sizeLine) (h : Q () { s with heap := s.heap.update l (Obj.mapSeq (keepTo ((items.size - (k + 1) : Nat) : Int))) }) :
    wpAny (model prog w) A (delItem (.ref l) (.ref sl)) Q E s := by
  have hl : s.heap.IsList l items := PySem.IsL.isList e
  obtain ⟨os, hos, hcs, hds⟩ := id hs
  have hTs : s.TypeIs (.ref sl) "slice" := ⟨os, hos, hcs⟩
  have hstep : ¬ ((rawPart none == rawInt 0) = true) := Bool.false_ne_true
  have hz' : (keepTo ((items.size - (k + 1) : Nat) : Int) items).size ≤ sizeLine + 1 := by
    have := keepTo_eq (items.size - (k + 1)) items.toList
    rw [Array.toArray_toList] at this
    rw [this, List.size_toArray, List.length_drop, Array.length_toList]
    omega
  refine wpAny_delItem_slot hl.typeIs (by decide) PySem.F.slot_list_delitem (wpAny_call_entry PySem.F.slot_list_delitem hl.typeIs PySem.F.entry_list_delitem ?_ (PySem.F.args_list_delitem_2 _ _))
  show wpAny _ _ (Builtin.List.listSubscript? (.ref sl) >>= _) _ _ s
  refine wpAny_bind ?_
  unfold Builtin.List.listSubscript?
  refine wpAny_bind (wpAny_specialOf hTs slice_no_index ?_)
  simp only [Option.isNone_none, if_true]
  refine wpAny_pure ?_
  show wpAny _ _ (typeOf (.ref sl) >>= _) _ _ s
  refine wpAny_bind (wpAny_typeOf hTs ?_)
  first
    | rw [if_neg (by decide)]
    | refine PySem.W.KFB.if_not (by decide) ?_
  rw [listSliceParts_eq]
  refine wpAny_bind (wpAny_bind (wpAny_field hos hds (x := .none) rfl (wpAny_bind (wpAny_listPart .none ?_))))
  rw [if_neg hstep]
  refine wpAny_bind (wpAny_field hos hds (x := .none) rfl (wpAny_bind (wpAny_listPart .none ?_)))
  refine wpAny_bind (wpAny_field hos hds (x := vu) rfl (wpAny_bind (wpAny_listPart pu (wpAny_pure ?_))))
  show wpAny _ _ (Builtin.List.listItems (.ref l) >>= _) _ _ s
  unfold Builtin.List.listItems
  refine wpAny_bind (wpAny_bind (wpAny_seqItems e rfl (wpAny_pure ?_)))
  refine wpAny_bind (wpAny_of_eq ((sliceIndices_raw none (some (-(k + 1 : Nat) : Int)) none items.size (by simp)).trans (congrArg (pure : Int × Int × Int → Sem (Int × Int × Int)) bounds_to)) ?_)
  refine wpAny_bind (wpAny_rule ?_)
  show wpAny _ _ (updateSeq l (keepTo ((items.size - (k + 1) : Nat) : Int)) >>= _) _ _ s
  refine wpAny_bind (wpAny_updateSeq (hz := hsz) (_hz' := hz') e rfl ?_)
  refine wpAny_bind (wpAny_letGo ?_)
  first
    | exact wpAny_pure ⟨.none, rfl, h⟩
    | exact wpAny_bind (wpAny_pure (wpAny_pure ⟨.none, rfl, h⟩))
    | exact wpAny_pure ⟨.none, rfl, wpAny_pure h⟩
end
section
variable {X : Cx}
theorem del_to {pins : List (Addr × Obj)} {s : Shared} {σ : L2.St} {H : Hp} {l sl : Addr} {xs : List V} {k : Nat} {vu : Value} {Q : Unit → Shared → Prop} (I : Inv X pins σ H s) (hH : H l = some (.lst xs))
    (hs : s.heap.IsSliceOf sl .none vu .none) (pu : IsPart vu (some (-(k + 1 : Nat) : Int))) (h : ∀ s', Inv X pins σ (upd H l (.lst (xs.drop (xs.length - (k + 1))))) s' → Q () s') :
    wpAny (model X.prog X.w) X.A (delItem (.ref l) (.ref sl)) Q X.xe s := by
  obtain ⟨z, its, n, r, hl, e⟩ := I.lstM hH
  refine delItem_to (k := k) e hs pu (by rw [List.size_toArray]; omega) (h _ ?_)
  refine I.lset (its' := its.drop (its.length - (k + 1))) (t' := s.toks) hH e ?_ ?_ ?_
  · rw [List.size_toArray]; exact keepTo_eq _ its
  · rw [← hl]; exact r.drop _
  · rw [List.length_drop]; omega
/-- del o[:i] of a list, i below zero -/
def tDelTo (to ti : TE) : TS := fun D σ H => to σ H fun x H1 => tPart ti σ H1 fun o H2 => ∃ (l : Addr) (xs : List V) (k : Nat), x = .ref l ∧ o = some (-(k + 1 : Nat) : Int) ∧ H2 l = some (.lst xs) ∧ D.nx σ (upd H2 l (.lst (xs.drop (xs.length - (k + 1)))))
theorem ps_delTo {o i : Expr} {to ti : TE} {p3 tpos pos : Pos} (ho : PE X o to) (hi : PE X i ti) : PS X (.Delete [.Subscript o (.Slice none (some i) none p3) tpos] pos) (tDelTo to ti) := by
  refine ⟨fun pins s σ H D I h => ?_⟩
  refine wpAny_Delete (wpAny_deleteEach_cons (wpAny_delete_Subscript (thn (ho.run pins s σ H _ I h) fun u s1 ⟨x, H1, I1, rx, q1⟩ => ?_)))
  refine wpAny_Slice (thn (po_none.run pins s1 σ H1 (fun o H2 => o = none ∧ H2 = H1) I1 ⟨rfl, rfl⟩) fun vl s2 ⟨a, H2, I2, pl, el, e2⟩ => ?_)
  subst el e2
  refine thn ((po_some hi).run pins s2 σ H2 (fun o H3 => ∃ (l : Addr) (xs : List V) (k : Nat), x = .ref l ∧ o = some (-(k + 1 : Nat) : Int) ∧ H3 l = some (.lst xs) ∧ D.nx σ (upd H3 l (.lst (xs.drop (xs.length - (k + 1)))))) I2 q1) fun vu s3 ⟨b, H3, I3, pu, l, xs, k, ex, eb, hH, q⟩ => ?_
  refine thn (po_none.run pins s3 σ H3 (fun o H4 => o = none ∧ H4 = H3) I3 ⟨rfl, rfl⟩) fun vs s4 ⟨c, H4, I4, ps, ec, e4⟩ => ?_
  subst ec e4 ex eb
  cases (show u = Value.ref l from rx)
  have I5 : Inv X pins σ H4 { s4 with heap := s4.heap.push { cls := .type "slice", data := .fields #[vl, vu, vs] } } := I4.kept (t' := s4.toks) fun b ob q => Heap.get?_push_of_some _ q
  have hs := Heap.IsSliceOf.new s4.heap vl vu vs
  cases pl
  cases ps
  exact del_to I5 hH hs pu fun s' I' => wpAny_deleteEach_nil ⟨σ, _, I', q⟩
end
end Kx
namespace Kx
open PySem PySem.Spec PyProof.Rows L2
section
variable {P : Program} {w : World} {K : PySem.W.Frag} {mg : Str → Option Value} {base : Heap}
/-! ### what is kept -/
/-- all but lists and dicts stands -/
def Tu (H H' : Hp) : Prop := ∀ b o, H b = some o → (∀ xs, o ≠ .lst xs) → (∀ kvs, o ≠ .dK kvs) → H' b = some o
theorem Tu.refl (H : Hp) : Tu H H := fun _ _ h _ _ => h
theorem Tu.trans {H H1 H2 : Hp} (a : Tu H H1) (b : Tu H1 H2) : Tu H H2 := fun c o e h1 h2 => b c o (a c o e h1 h2) h1 h2
theorem Tu.of {H H1 : Hp} (s : Same H H1) : Tu H H1 := fun c o e _ _ => s c o e
theorem Tu.lst {H : Hp} {l : Addr} {xs : List V} (h : H l = some (.lst xs)) (ys : List V) : Tu H (upd H l (.lst ys)) := fun b o e h1 _ => by
  by_cases q : b = l
  · subst q; rw [h] at e; exact absurd (Option.some.inj e).symm (h1 xs)
  · rw [upd_ne q]; exact e
theorem Tu.dict {H : Hp} {l : Addr} {xs : List (Key × V)} (h : H l = some (.dK xs)) (ys : List (Key × V)) : Tu H (upd H l (.dK ys)) := fun b o e _ h1 => by
  by_cases q : b = l
  · subst q; rw [h] at e; exact absurd (Option.some.inj e).symm (h1 xs)
  · rw [upd_ne q]; exact e
/-- a pair of a tree that has the form -/
def PairOk (mk : List (Str × Int)) (nm : Bool) (H0 H : Hp) (x : V) : Prop := ∃ p v ts, x = .ref p ∧ H p = some (.tup [v, .bl true]) ∧ Is H0 v (.tup ts) ∧ form mk nm (.tup ts) = true ∧ cnt (.tup ts) ≤ 100
structure RowOk (mk : List (Str × Int)) (nm : Bool) (H0 H : Hp) (kv : Key × V) : Prop where
  key : ∃ w, kv.1 = Sum.inr w ∧ w ∈ mk.map (·.1)
  row : ∃ r xs, kv.2 = .ref r ∧ H0 r = none ∧ H r = some (.lst xs) ∧ xs.length ≤ 32 ∧ ∀ x ∈ xs, PairOk mk nm H0 H x
structure KeptAt (C : Addr) (mk : List (Str × Int)) (nm : Bool) (H0 H : Hp) (ko : Addr) : Prop where
  at_ : ∃ dx d kvs, H ko = some (.ins C dx [("rows", .ref d)]) ∧ H d = some (.dK kvs) ∧ H0 d = none ∧ (kvs.map (·.1)).Nodup ∧ ∀ kv ∈ kvs, RowOk mk nm H0 H kv
theorem PairOk.tu {mk : List (Str × Int)} {nm : Bool} {H0 H H' : Hp} {x : V} (t : Tu H H') (h : PairOk mk nm H0 H x) : PairOk mk nm H0 H' x := by
  obtain ⟨p, v, ts, e, hp, r⟩ := h
  exact ⟨p, v, ts, e, t _ _ hp (fun _ q => by cases q) (fun _ q => by cases q), r⟩
theorem RowOk.step {mk : List (Str × Int)} {nm : Bool} {H0 H H' : Hp} {kv : Key × V} (t : Tu H H') (h : RowOk mk nm H0 H kv) (hl : ∀ r xs, H0 r = none → H r = some (.lst xs) → xs.length ≤ 32 → (∀ x ∈ xs, PairOk mk nm H0 H x) → ∃ ys, H' r = some (.lst ys) ∧ ys.length ≤ 32 ∧ ∀ x ∈ ys, PairOk mk nm H0 H' x) : RowOk mk nm H0 H' kv := by
  obtain ⟨k, r, xs, e, h0, h1, h2, h3⟩ := h
  obtain ⟨ys, g1, g2, g3⟩ := hl r xs h0 h1 h2 h3
  exact ⟨k, r, ys, e, h0, g1, g2, g3⟩
theorem RowOk.same {mk : List (Str × Int)} {nm : Bool} {H0 H H' : Hp} {kv : Key × V} (s : Same H H') (h : RowOk mk nm H0 H kv) : RowOk mk nm H0 H' kv :=
  h.step (.of s) fun r xs _ h1 h2 h3 => ⟨xs, s _ _ h1, h2, fun x hx => (h3 x hx).tu (.of s)⟩
theorem KeptAt.same {C : Addr} {mk : List (Str × Int)} {nm : Bool} {H0 H H' : Hp} {ko : Addr} (s : Same H H') (h : KeptAt C mk nm H0 H ko) : KeptAt C mk nm H0 H' ko := by
  obtain ⟨dx, d, kvs, h1, h2, h3, h4, h5⟩ := h
  exact ⟨dx, d, kvs, s _ _ h1, s _ _ h2, h3, h4, fun kv m => (h5 kv m).same s⟩
theorem valV_mem {kvs : List (Key × V)} {k : Key} {v : V} (h : valV kvs k = some v) : (k, v) ∈ kvs := by
  unfold valV at h
  cases e : kvs.find? (fun kv => decide (kv.1 = k)) with
  | none => rw [e] at h; cases h
  | some kv =>
    rw [e] at h
    have h1 := List.find?_some e
    have h2 := List.mem_of_find?_eq_some e
    have h3 : kv.1 = k := of_decide_eq_true h1
    have h4 : kv.2 = v := Option.some.inj h
    rw [← h3, ← h4]; exact h2
theorem form_word {mk : List (Str × Int)} {nm : Bool} {w : Str} {ts : List PV} (h : form mk nm (.tup (.str w :: ts)) = true) : w ∈ mk.map (·.1) := by
  simp only [form, Bool.and_eq_true] at h
  have h1 := h.1
  unfold look at h1
  cases e : mk.find? (fun kv => kv.1 == w) with
  | none => rw [e] at h1; simp at h1
  | some kv =>
    have h2 := List.find?_some e
    have h3 := List.mem_of_find?_eq_some e
    exact List.mem_map.mpr ⟨kv, h3, by simpa using h2⟩
theorem form_tm2 {mk : List (Str × Int)} {nm : Bool} {t : PV} (h : form mk nm t = true) : Tm t := by
  cases nm with
  | true => exact form_tm mk t h
  | false =>
    rw [form_tree] at h
    exact form_tm mk t (by simp only [Bool.and_eq_true] at h; exact h.1)
theorem few_rows {C : Addr} {mk : List (Str × Int)} {nm : Bool} {H0 H : Hp} {kvs : List (Key × V)} (nd : (kvs.map (·.1)).Nodup) (h : ∀ kv ∈ kvs, RowOk mk nm H0 H kv) : kvs.length ≤ mk.length := by
  have s : kvs.map (·.1) ⊆ mk.map fun kv => (Sum.inr kv.1 : Key) := by
    intro k hk
    obtain ⟨kv, m, rfl⟩ := List.mem_map.mp hk
    obtain ⟨w, e, hw⟩ := (h kv m).key
    obtain ⟨kv2, m2, rfl⟩ := List.mem_map.mp hw
    rw [e]
    exact List.mem_map.mpr ⟨kv2, m2, rfl⟩
  have := nd.length_le_of_subset s
  simpa using this
/-! ### the methods -/
def spKInit (C : Addr) : Sp := fun vs H Q _ => ∃ (x dx : Addr), vs = [.ref x] ∧ H x = some (.ins C dx []) ∧ ∀ d, H d = none → Q .non (upd (upd H d (.dK [])) x (.ins C dx [("rows", .ref d)]))
def spKPair (C : Addr) : Sp := fun vs H Q _ => ∃ (ko a : Addr) (w : Str) (us : List V) (ts : List PV) (mk : List (Str × Int)) (nm : Bool) (H0 : Hp), vs = [.ref ko, .ref a] ∧ Same H0 H ∧ KeptAt C mk nm H0 H ko ∧ H0 a = some (.tup (.str w :: us)) ∧ Is H0 (.ref a) (.tup (.str w :: ts)) ∧
  ∀ e, H e = none → Q .non (upd H e (.lst [])) ∧ (form mk nm (.tup (.str w :: ts)) = true → ∀ p, Q (.ref p) (upd H e (.lst [])))
def spKKeep (C : Addr) : Sp := fun vs H Q _ => ∃ (ko a : Addr) (w : Str) (us : List V) (ts : List PV) (mk : List (Str × Int)) (nm : Bool) (H0 : Hp), vs = [.ref ko, .ref a, .bl true] ∧ Same H0 H ∧ KeptAt C mk nm H0 H ko ∧ mk.length ≤ 5 ∧ H0 a = some (.tup (.str w :: us)) ∧ Is H0 (.ref a) (.tup (.str w :: ts)) ∧ form mk nm (.tup (.str w :: ts)) = true ∧ cnt (.tup (.str w :: ts)) ≤ 100 ∧
  ∀ H', Same H0 H' → Tu H H' → KeptAt C mk nm H0 H' ko → Q .non H'
theorem ok_Kept_init (T : Txt K mg)  : FnOk P w K mg base CX0 1 T.a_Kept_init T.d_Kept_init ["self"] (spKInit T.c_Kept) := by
  refine T.F_Kept_init.ok sc_Kept_init (fun vs H Q E h => ?_) (fun cdv A outer s H vs Q E hr h => ?_)
  · obtain ⟨x, dx, rfl, _⟩ := h; rfl
  · obtain ⟨x, dx, rfl, ex, q⟩ := h
    refine ⟨_, (pss_one (ps_fld (pv 0) pe_dnewK rfl)), ?_⟩
    intro d hd
    exact ⟨_, rfl, x, _, dx, [], rfl, (by rw [upd_ne (ne_of_none ex hd)]; exact ex), T.cl_Kept, T.no_Kept_rows, (by decide), q d hd⟩
theorem ok_Kept_pair_of (T : Txt K mg)  : FnOk P w K mg base CX0 1 T.a_Kept_pair_of T.d_Kept_pair_of ["self", "tree"] (spKPair T.c_Kept) := by
  refine T.F_Kept_pair_of.ok sc_Kept_pair_of (fun vs H Q E h => ?_) (fun cdv A outer s H vs Q E hr h => ?_)
  · obtain ⟨ko, a, w, us, ts, mk, nm, H0, rfl, _⟩ := h; rfl
  · obtain ⟨ko, a, w, us, ts, mk, nm, H0, rfl, s0, hK, ea, hI, q⟩ := h
    have hu := hu_of hr
    refine ⟨_, (pss_cons (ps_for PassesOwn.never rfl (RT.pi_revA (by rfl) T.z_reversed (pe_dget2 hu (pe_fld (pv 0) rfl) (pe_ix ix_tup (pv 1) pe_int (fun _ _ => rfl)) (pe_lst pa_nil) ⟨rfl, rfl, rfl, rfl⟩)) (pg_name (i := 2) sc_Kept_pair_of.nd rfl (Or.inl rfl))
    (pss_one (ps_if (pt_cmpR (op_tm (u101 hr)) (pe_ix ix_tup (pv 2) pe_int (fun _ _ => rfl)) (pv 1) (nomark _)) (pss_one (ps_ret (pv 2))) pss_nil)))
    (pss_one (ps_ret pe_non))), ?_⟩
    obtain ⟨dx, d, kvs, h1, h2, h3, h4, h5⟩ := id hK
    refine ⟨_, rfl, ko, _, dx, _, _, rfl, h1, T.cl_Kept, T.no_Kept_rows, rfl, d, rfl, .inl ⟨_, .of h2⟩, _, rfl, a, _, _, _, rfl, rfl, .inl (.inl (s0 _ _ ea)), atI_nat (j := 0) rfl, ?_⟩
    refine ⟨by decide, fun e he => ?_⟩
    obtain ⟨q1, q2⟩ := q e he
    have se := same_upd he (.lst [])
    refine ⟨valV kvs (Sum.inr w), DGet.k (k := Sum.inr w) (se _ _ h2), ?_⟩
    have key : ∃ r xs, (valV kvs (Sum.inr w)).getD (.ref e) = .ref r ∧ upd H e (.lst []) r = some (.lst xs) ∧ ∀ x ∈ xs, PairOk mk nm H0 (upd H e (.lst [])) x := by
      cases hv : valV kvs (Sum.inr w) with
      | none => exact ⟨e, [], rfl, upd_same, fun x hx => absurd hx (by simp)⟩
      | some v =>
        obtain ⟨_, r, xs, e1, _, e2, _, e3⟩ := (h5 _ (valV_mem hv)).same se
        exact ⟨r, xs, e1, e2, e3⟩
    obtain ⟨r, xs, er, exs, hxs⟩ := key
    refine ⟨r, xs, er, .inl ⟨SqL.of exs, ?_⟩⟩
    refine RT.for_Itv (K := K) (a := r) (xs := xs) (fun i σ H2 => ∃ y, σ = [some (.ref ko), some (.ref a), y] ∧ H2 = upd H e (.lst [])) ⟨_, rfl, rfl⟩ (fun i σ H2 ⟨_, _, h⟩ => by rw [h]; exact SqL.of exs) ?_ ?_
    · rintro i x σ H2 hi hx ⟨y, rfl, rfl⟩
      obtain ⟨p, v, us', ex, hp, hv, hf, hc⟩ := hxs x (List.mem_of_getElem? hx)
      subst ex
      refine ⟨_, rfl, p, _, _, _, rfl, rfl, .inl (.inl hp), atI_nat (j := 0) rfl, _, rfl, us', _, hv.same (s0.trans se), form_tm2 hf, hc, hI.same (s0.trans se), fun k hk => ⟨_, rfl, ?_⟩⟩
      cases k with
      | true =>
        refine iteT ?_
        have e1 := hk rfl
        rw [e1] at hf
        exact ⟨_, rfl, q2 hf p⟩
      | false => exact iteF ⟨_, rfl, rfl⟩
    · rintro σ H2 ⟨y, rfl, rfl⟩
      exact q1
theorem ok_Kept_keep (T : Txt K mg)  : FnOk P w K mg base CX0 1 T.a_Kept_keep T.d_Kept_keep ["self", "tree", "result"] (spKKeep T.c_Kept) := by
  refine T.F_Kept_keep.ok sc_Kept_keep (fun vs H Q E h => ?_) (fun cdv A outer s H vs Q E hr h => ?_)
  · obtain ⟨ko, a, w, us, ts, mk, nm, H0, rfl, _⟩ := h; rfl
  · obtain ⟨ko, a, w, us, ts, mk, nm, H0, rfl, s0, hK, m5, ea, hI, hf, hc, q⟩ := h
    have hu := hu_of hr
    refine ⟨_, (pss_cons (ps_set (i := 3) sc_Kept_keep.nd rfl (Or.inl rfl) (pe_dsetd (pe_fld (pv 0) rfl) (pe_ix ix_tup (pv 1) pe_int (fun _ _ => rfl)) (pe_lst pa_nil) ⟨rfl, rfl, rfl, rfl⟩))
    (pss_cons (ps_expr (pe_bm PySem.F.plainAttrs_list PySem.F.slot_list_append PySem.F.type_list_append mt_append (pv 3) (pa_cons (pe_tup (pa_cons (pv 1) (pa_cons (pv 2) pa_nil))) pa_nil)))
    (pss_one (ps_delTo (pv 3) (pe_un un_neg (pe_glob (by rfl) T.g_MOST_KEPT (show RelV (V.int 32) (.int 32 T.t_MOST_KEPT) from ⟨_, rfl⟩))))))), ?_⟩
    obtain ⟨dx, d, kvs, h1, h2, h3, h4, h5⟩ := id hK
    have few := few_rows (C := 0) h4 h5
    refine ⟨_, rfl, ko, _, dx, _, _, rfl, h1, T.cl_Kept, T.no_Kept_rows, rfl, d, rfl, .inl ⟨_, .of h2⟩, _, rfl, a, _, _, _, rfl, rfl, .inl (.inl (s0 _ _ ea)), atI_nat (j := 0) rfl, ?_⟩
    refine ⟨by decide, fun e he => ?_⟩
    have se := same_upd he (.lst [])
    have h0e : H0 e = none := s0.free he
    have s1 : Same H0 (upd H e (.lst [])) := s0.trans se
    -- what comes behind: the row r with the pairs xs, in a heap with all that is kept
    have rest : ∀ (r : Addr) (xs : List V) (H1 : Hp), Same H0 H1 → Tu H H1 → KeptAt T.c_Kept mk nm H0 H1 ko → H0 r = none → H1 r = some (.lst xs) → xs.length ≤ 32 → (∀ x ∈ xs, PairOk mk nm H0 H1 x) →
        ∀ p, H1 p = none → ∃ ys, ys = xs ++ [V.ref p] ∧ Q .non (upd (upd (upd H1 p (.tup [V.ref a, .bl true])) r (.lst ys)) r (.lst (ys.drop (ys.length - 32)))) := by
      intro r xs H1 sH tH kH h0r er hl hx p hp
      refine ⟨_, rfl, ?_⟩
      have npr : p ≠ r := (ne_of_none er hp).symm
      have sp := same_upd hp (.tup [V.ref a, .bl true])
      have er1 : upd H1 p (.tup [V.ref a, .bl true]) r = some (.lst xs) := sp _ _ er
      have t1 : Tu H1 (upd (upd (upd H1 p (.tup [V.ref a, .bl true])) r (.lst (xs ++ [V.ref p]))) r (.lst ((xs ++ [V.ref p]).drop ((xs ++ [V.ref p]).length - 32)))) := (Tu.of sp).trans ((Tu.lst er1 _).trans (Tu.lst upd_same _))
      have pNew : PairOk mk nm H0 (upd (upd (upd H1 p (.tup [V.ref a, .bl true])) r (.lst (xs ++ [V.ref p]))) r (.lst ((xs ++ [V.ref p]).drop ((xs ++ [V.ref p]).length - 32)))) (.ref p) :=
        ⟨p, _, _, rfl, by rw [upd_ne npr, upd_ne npr, upd_same], hI, hf, hc⟩
      have s2 : Same H0 (upd (upd (upd H1 p (.tup [V.ref a, .bl true])) r (.lst (xs ++ [V.ref p]))) r (.lst ((xs ++ [V.ref p]).drop ((xs ++ [V.ref p]).length - 32)))) := Kx.Same.own (Kx.Same.own (sH.trans sp) h0r _) h0r _
      refine q _ s2 (tH.trans t1) ?_
      obtain ⟨dx', d', kvs', g1, g2, g3, g4, g5⟩ := kH
      have nd : d' ≠ r := fun z => by subst z; rw [er] at g2; cases g2
      refine ⟨dx', d', kvs', t1 _ _ g1 (fun _ z => by cases z) (fun _ z => by cases z), ?_, g3, g4, fun kv m => (g5 kv m).step t1 fun r' xs' z0 z1 z2 z3 => ?_⟩
      · rw [upd_ne nd, upd_ne nd]; exact sp _ _ g2
      · by_cases c : r' = r
        · subst c
          refine ⟨_, upd_same, ?_, fun x hx' => ?_⟩
          · rw [List.length_drop]; omega
          · rcases List.mem_append.mp (List.mem_of_mem_drop hx') with z | z
            · exact (hx x z).tu t1
            · rw [List.mem_singleton.mp z]; exact pNew
        · exact ⟨xs', by rw [upd_ne c, upd_ne c]; exact sp _ _ z1, z2, fun x hx' => (z3 x hx').tu t1⟩
    refine ⟨kvs, Sum.inr w, se _ _ h2, rfl, small1000 (by omega), fun v hv => ?_, fun hn => ?_⟩
    · have kH := hK.same se
      obtain ⟨_, r, xs, e1, e0, e2, e3, e4⟩ := (h5 _ (valV_mem hv)).same se
      subst e1
      refine ⟨_, rfl, .inl ⟨rfl, _, SqL.of e2⟩, _, rfl, _, rfl, (by show 2 ≤ sizeLine; decide), fun p hp => ?_⟩
      obtain ⟨ys, rfl, qq⟩ := rest r xs _ s1 (.of se) kH e0 e2 e3 e4 p hp
      exact ⟨r, xs, _, rfl, rfl, same_upd hp _ _ _ e2, small1000 (by omega), _, rfl, _, rfl, _, rfl, r, _, 31, rfl, rfl, upd_same, qq⟩
    · have hd : H0 d = none := h3
      have h2e : upd H e (.lst []) d = some (.dK kvs) := se _ _ h2
      have nde : d ≠ e := fun z => by subst z; rw [h2] at he; cases he
      have t1 : Tu H (upd (upd H e (.lst [])) d (.dK (putK kvs (Sum.inr w) (.ref e)))) := (Tu.of se).trans (Tu.dict h2e _)
      have hn2 : upd (upd H e (.lst [])) d (.dK (putK kvs (Sum.inr w) (.ref e))) e = some (.lst []) := by rw [upd_ne nde.symm, upd_same]
      have kH : KeptAt T.c_Kept mk nm H0 (upd (upd H e (.lst [])) d (.dK (putK kvs (Sum.inr w) (.ref e)))) ko := by
        refine ⟨dx, d, putK kvs (Sum.inr w) (.ref e), t1 _ _ h1 (fun _ z => by cases z) (fun _ z => by cases z), upd_same, h3, nd_putK _ h4 hn, fun kv m => ?_⟩
        rw [putK_new _ hn] at m
        rcases List.mem_append.mp m with m | m
        · refine (h5 kv m).step t1 fun r xs z0 z1 z2 z3 => ⟨xs, ?_, z2, fun x hx => (z3 x hx).tu t1⟩
          have nr : r ≠ d := fun z => by subst z; rw [h2] at z1; cases z1
          rw [upd_ne nr]; exact se _ _ z1
        · rw [List.mem_singleton.mp m]
          exact ⟨⟨w, rfl, form_word hf⟩, e, [], rfl, h0e, hn2, by simp, fun x hx => absurd hx (by simp)⟩
      refine ⟨_, rfl, .inl ⟨rfl, _, SqL.of hn2⟩, _, rfl, _, rfl, (by show 2 ≤ sizeLine; decide), fun p hp => ?_⟩
      obtain ⟨ys, rfl, qq⟩ := rest e [] _ (Kx.Same.own s1 hd _) t1 kH h0e hn2 (by simp) (fun x hx => absurd hx (by simp)) p hp
      exact ⟨e, [], _, rfl, rfl, same_upd hp _ _ _ hn2, by decide, _, rfl, _, rfl, _, rfl, e, _, 31, rfl, rfl, upd_same, qq⟩
end
end Kx
namespace Kx
open PySem PySem.Spec PyProof.Rows L2
section
variable {P : Program} {w : World} {K : PySem.W.Frag} {mg : Str → Option Value} {base : Heap}
theorem fmb (a : Int) {b : Int} (hb : 0 < b) : 0 ≤ a.fmod b ∧ a.fmod b < b := ⟨Int.fmod_nonneg_of_pos a hb, Int.fmod_lt_of_pos a hb⟩
theorem at_int {ns : List Int} {i : Int} (h0 : 0 ≤ i) (h : i < ns.length) : ∃ x : Int, atI (ns.map V.int) i = some (.int x) := by
  have hk : i.toNat < ns.length := by omega
  have q : atI (ns.map V.int) ((i.toNat : Nat) : Int) = some (.int ns[i.toNat]) := atI_nat (by rw [List.getElem?_map, List.getElem?_eq_getElem hk] <;> rfl)
  rw [show ((i.toNat : Nat) : Int) = i by omega] at q
  exact ⟨_, q⟩
theorem ok_law_draws (T : Txt K mg)  : FnOk P w K mg base CX0 1 T.a_law_draws T.d_law_draws ["script"] (spDraws K) := by
  refine T.F_law_draws.ok sc_law_draws (fun vs H Q E h => ?_) (fun cdv A outer s H vs Q E hr h => ?_)
  · obtain ⟨a, ns, rfl, _⟩ := h; rfl
  · obtain ⟨a, ns, rfl, hS, hl, q⟩ := h
    refine ⟨_, (pss_one (ps_ret (pe_lst (pa_cons (pe_callTy call_list_of (by rfl) T.z_list (by decide +kernel) (pa_cons (pv 0) pa_nil)) (pa_cons pe_int (pa_cons pe_int (pa_cons pe_int pa_nil))))))), ?_⟩
    refine ⟨_, rfl, a, _, rfl, .inl hS, fun l hl1 => ?_⟩
    refine ⟨(by show 4 ≤ sizeLine; decide), fun d hd => ?_⟩
    have n1 : l ≠ d := ne_of_none upd_same hd
    refine q d l _ (Same.trans (same_upd hl1 _) (same_upd hd _)) ⟨ns, 0, 0, 1, upd_same, ?_, n1, by omega, by omega, by omega, by omega, hl⟩
    rw [upd_ne n1, upd_same]
theorem ok_law_draw (T : Txt K mg)  : FnOk P w K mg base CX0 1 T.a_law_draw T.d_law_draw ["draws", "limit"] spDraw := by
  refine T.F_law_draw.ok sc_law_draw (fun vs H Q E h => ?_) (fun cdv A outer s H vs Q E hr h => ?_)
  · obtain ⟨d, sa, n, rfl, _⟩ := h; rfl
  · obtain ⟨d, sa, n, rfl, hD, h1, h2, q⟩ := h
    refine ⟨_, (pss_cutK (ps_if (PW.pt (pw_and (pt_cmpR op_eq (pe_ix ix_list (pv 0) pe_int (fun _ _ => rfl)) pe_int (nomark _)) (pw_and1 (pt_cmpR op_lt (pe_ix ix_list (pv 0) pe_int (fun _ _ => rfl)) (pe_callB call_len_seq (by rfl) T.z_len (by decide +kernel) (pa_cons (pe_ix ix_list (pv 0) pe_int (fun _ _ => rfl)) pa_nil)) (nomark _))))) (pss_cons (ps_set (i := 2) sc_law_draw.nd rfl (Or.inl rfl) (pe_callB call_abs (by rfl) T.z_abs (by decide +kernel) (pa_cons (pe_ix ix_list (pe_ix ix_list (pv 0) pe_int (fun _ _ => rfl)) (pe_ix ix_list (pv 0) pe_int (fun _ _ => rfl)) (fun _ _ => rfl)) pa_nil)))
    (pss_cons (ps_asg (pe_op op_add (pe_ix ix_list (pv 0) pe_int (fun _ _ => rfl)) pe_int) (pg_sub (pv 0) pe_int set_list))
    (pss_cons (ps_if (pt_cmpR op_ge (pv 2) (pe_op op_pow pe_int pe_int) (nomark _)) (pss_one (ps_asg (pv 2) (pg_sub (pv 0) pe_int set_list))) pss_nil)
    (pss_one (ps_asg (pe_op op_modN (pe_callTy call_int1 (by rfl) T.z_int (by decide +kernel) (pa_cons (pe_op op_add (pe_op op_add (pe_op op_mul (pe_ix ix_list (pv 0) pe_int (fun _ _ => rfl)) pe_int) (pv 2)) pe_int) pa_nil)) pe_int) (pg_sub (pv 0) pe_int set_list)))))) pss_nil)
    (pss_cons (ps_if (pt_cmpR op_gt (pe_ix ix_list (pv 0) pe_int (fun _ _ => rfl)) pe_int (nomark _)) (pss_cons (ps_set (i := 3) sc_law_draw.nd rfl (Or.inl rfl) (pe_op op_modN (pe_callTy call_int1 (by rfl) T.z_int (by decide +kernel) (pa_cons (pe_ix ix_list (pv 0) pe_int (fun _ _ => rfl)) pa_nil)) (pv 1)))
    (pss_cons (ps_asg (pe_op op_fdivN (pe_ix ix_list (pv 0) pe_int (fun _ _ => rfl)) (pv 1)) (pg_sub (pv 0) pe_int set_list))
    (pss_one (ps_ret (pv 3))))) pss_nil)
    (pss_cons (ps_asg (pe_op op_modN (pe_callTy call_int1 (by rfl) T.z_int (by decide +kernel) (pa_cons (pe_op op_add (pe_op op_mul (pe_ix ix_list (pv 0) pe_int (fun _ _ => rfl)) pe_int) pe_int) pa_nil)) pe_int) (pg_sub (pv 0) pe_int set_list))
    (pss_one (ps_ret (pe_op op_modN (pe_callTy call_int1 (by rfl) T.z_int (by decide +kernel) (pa_cons (pe_op op_fdivN (pe_ix ix_list (pv 0) pe_int (fun _ _ => rfl)) pe_int) pa_nil)) (pv 1))))))), ?_⟩
    refine ⟨fun σ H1 => ∃ y, σ = [some (.ref d), some (.int n), y, none] ∧ Dr H1 d sa ∧ Ex d H H1, ?_, fun σ' H' hm => ?_⟩
    · have hD0 := hD
      obtain ⟨ns, i, c, m, e, e2, hn, i0, c0, m0, m1, hl⟩ := hD
      refine ⟨_, rfl, d, _, _, _, rfl, rfl, SqL.of e, rfl, rfl, _, rfl, ?_⟩
      refine ite2 (fun cz => ?_) (fun cz => iteF ⟨none, rfl, hD0, .refl _ _⟩)
      refine ⟨_, rfl, d, _, _, _, rfl, rfl, SqL.of e, rfl, _, rfl, d, _, _, _, rfl, rfl, SqL.of e, rfl, sa, _, rfl, .inl (SqL.of e2), _, _, rfl, rfl, _, rfl, ?_⟩
      refine ite2 (fun ci => ?_) (fun ci => ⟨none, rfl, hD0, .refl _ _⟩)
      have ci' : i < (((ns.map V.int).length : Nat) : Int) := of_decide_eq_true ci
      rw [List.length_map] at ci'
      obtain ⟨x, hx⟩ := at_int i0 ci'
      refine ⟨_, rfl, d, _, _, _, rfl, rfl, SqL.of e, rfl, _, rfl, d, _, _, _, rfl, rfl, SqL.of e, rfl, sa, _, _, _, rfl, rfl, SqL.of e2, hx, _, rfl, ?_⟩
      refine ⟨_, rfl, d, _, _, _, rfl, rfl, SqL.of e, rfl, _, _, rfl, rfl, _, rfl, d, _, _, 1, rfl, rfl, e, rfl, ?_⟩
      refine ⟨_, rfl, _, _, rfl, rfl, ⟨by decide, by decide, by decide⟩, _, _, rfl, rfl, _, rfl, ?_⟩
      have ax : 0 ≤ (if x < 0 then -x else x) := by split <;> omega
      generalize (if x < 0 then -x else x) = cell at ax
      refine ite2 (fun cc => ?_) (fun cc => ?_)
      · refine ⟨_, rfl, _, rfl, d, _, _, 2, rfl, rfl, upd_same, rfl, ?_⟩
        refine ⟨_, rfl, d, _, _, _, rfl, rfl, SqL.of upd_same, rfl, _, _, rfl, rfl, .inl ⟨by omega, by omega⟩, _, rfl, _, _, rfl, rfl, _, _, rfl, rfl, .inl ⟨_, rfl, _, _, rfl, rfl, (by show (2147483647 : Int) ≠ 0; decide), _, rfl, d, _, _, 3, rfl, rfl, upd_same, rfl, ?_⟩⟩
        obtain ⟨b0, b1⟩ := fmb (m * 48271 + cell + 13) (b := 2147483647) (by decide)
        refine ⟨_, rfl, ⟨ns, i + 1, cell, _, upd_same, ?_, hn, by omega, ax, b0, by omega, hl⟩, ((Ex.set _).trans (.set _)).trans (.set _)⟩
        rw [upd_ne hn, upd_ne hn, upd_ne hn, e2]
      · refine ⟨_, rfl, d, _, _, _, rfl, rfl, SqL.of upd_same, rfl, _, _, rfl, rfl, .inl ⟨by omega, by omega⟩, _, rfl, _, _, rfl, rfl, _, _, rfl, rfl, .inl ⟨_, rfl, _, _, rfl, rfl, (by show (2147483647 : Int) ≠ 0; decide), _, rfl, d, _, _, 3, rfl, rfl, upd_same, rfl, ?_⟩⟩
        obtain ⟨b0, b1⟩ := fmb (m * 48271 + cell + 13) (b := 2147483647) (by decide)
        refine ⟨_, rfl, ⟨ns, i + 1, c, _, upd_same, ?_, hn, by omega, c0, b0, by omega, hl⟩, (Ex.set _).trans (.set _)⟩
        rw [upd_ne hn, upd_ne hn, e2]
    · obtain ⟨y, rfl, hD, hx⟩ := hm
      obtain ⟨ns, i, c, m, e, e2, hn, i0, c0, m0, m1, hl⟩ := hD
      have nz : n ≠ 0 := by omega
      refine ⟨_, rfl, d, _, _, _, rfl, rfl, SqL.of e, rfl, _, _, rfl, rfl, _, rfl, ?_⟩
      refine ite2 (fun cc => ?_) (fun cc => ?_)
      · refine ⟨_, rfl, d, _, _, _, rfl, rfl, SqL.of e, rfl, .inl ⟨_, rfl, _, rfl, _, _, rfl, rfl, nz, ?_⟩⟩
        refine ⟨_, rfl, d, _, _, _, rfl, rfl, SqL.of e, rfl, _, rfl, _, _, rfl, rfl, ⟨nz, by omega⟩, _, rfl, d, _, _, 2, rfl, rfl, e, rfl, _, rfl, ?_⟩
        obtain ⟨b0, b1⟩ := fmb c (b := n) (by omega)
        refine q _ _ b0 b1 (hx.trans (.set _)) ⟨ns, i, _, m, upd_same, ?_, hn, i0, Int.fdiv_nonneg c0 (by omega), m0, m1, hl⟩
        rw [upd_ne hn, e2]
      · refine ⟨_, rfl, d, _, _, _, rfl, rfl, SqL.of e, rfl, _, _, rfl, rfl, .inl ⟨by omega, by omega⟩, _, _, rfl, rfl, .inl ⟨_, rfl, _, _, rfl, rfl, (by show (2147483629 : Int) ≠ 0; decide), _, rfl, d, _, _, 3, rfl, rfl, e, rfl, ?_⟩⟩
        obtain ⟨b0, b1⟩ := fmb (m * 69621 + 7) (b := 2147483629) (by decide)
        refine ⟨_, rfl, d, _, _, _, rfl, rfl, SqL.of upd_same, rfl, _, _, rfl, rfl, ⟨by decide, by decide⟩, .inl ⟨_, rfl, _, rfl, _, _, rfl, rfl, nz, ?_⟩⟩
        obtain ⟨c0', c1⟩ := fmb (((m * 69621 + 7).fmod 2147483629).fdiv 11) (b := n) (by omega)
        refine q _ _ c0' c1 (hx.trans (.set _)) ⟨ns, i, c, _, upd_same, ?_, hn, i0, c0, b0, by omega, hl⟩
        rw [upd_ne hn, e2]
theorem ok_law_pick (T : Txt K mg) (G_law_draw : FnOk P w K mg base CX0 1 T.a_law_draw T.d_law_draw ["draws", "limit"] spDraw) : FnOk P w K mg base CX0 2 T.a_law_pick T.d_law_pick ["draws", "row"] (spPick K) := by
  refine T.F_law_pick.ok sc_law_pick (fun vs H Q E h => ?_) (fun cdv A outer s H vs Q E hr h => ?_)
  · obtain ⟨d, sa, p, xs, rfl, _⟩ := h; rfl
  · obtain ⟨d, sa, p, xs, rfl, hD, hP, hn, h1, h2, q⟩ := h
    have hr_law_draw := hr
    refine ⟨_, (pss_one (ps_ret (pe_ix ix_seq (pv 1) (pe_call G_law_draw hr_law_draw rfl T.m_law_draw T.F_law_draw.kp T.b_law_draw .nil pass0 (pa_cons (pv 0) (pa_cons (pe_callB call_len_seq (by rfl) T.z_len (by decide +kernel) (pa_cons (pv 1) pa_nil)) pa_nil))) (fun _ _ => rfl)))), ?_⟩
    have hD0 := hD.lst
    have seqs : ∀ H', Ex d H H' → H' p = some (.lst xs) ∨ SqT K H' p xs := fun H' x => by
      rcases hP with e | (e | ⟨o, e⟩) | e
      · exact .inl (x.but _ _ hn e)
      · exact .inr (.inl (.inl (x.but _ _ hn e)))
      · exact .inr (.inl (.inr ⟨o, x.but _ _ hn e⟩))
      · exact .inr (.inr e)
    refine ⟨_, rfl, _, rfl, _, rfl, p, xs, rfl, hP.imp SqL.of id, d, sa, _, rfl, hD, by omega, by omega, fun r H' r0 r1 hx hD' => ?_⟩
    have hk : r.toNat < xs.length := by omega
    have hat : atI xs r = some (xs[r.toNat]) := by
      have z : atI xs ((r.toNat : Nat) : Int) = some (xs[r.toNat]) := atI_nat (List.getElem?_eq_getElem hk)
      rwa [show ((r.toNat : Nat) : Int) = r by omega] at z
    have fin := q (xs[r.toNat]) H' (List.getElem_mem hk) hx hD'
    rcases seqs H' hx with e | e
    · exact .inl ⟨p, _, _, _, rfl, rfl, SqL.of e, hat, fin⟩
    · exact .inr (.inl ⟨p, _, _, _, rfl, rfl, e, hat, fin⟩)
end
end Kx
namespace Kx
open PySem PySem.Spec PyProof.Rows L2
section
variable {P : Program} {w : World} {K : PySem.W.Frag} {mg : Str → Option Value} {base : Heap}
theorem cut_from (xs : List V) {k : Nat} (h : k ≤ xs.length) : cutV xs (some (k : Int)) none = xs.drop k := by
  unfold cutV
  rw [HT.sIx_nat, HT.sIx_none, Nat.min_eq_left h, List.take_of_length_le (by rw [List.length_drop]; exact Nat.le_refl _)]
theorem cut_to (xs : List V) {k : Nat} (h : k ≤ xs.length) : cutV xs none (some (k : Int)) = xs.take k := by
  unfold cutV
  rw [HT.sIx_nat, HT.sIx_none, Nat.min_eq_left h]
  rfl
theorem pair_drop {α β : Type} {F : α → β → Prop} : ∀ (n : Nat) {l : List α} {m : List β}, Paired F l m → Paired F (l.drop n) (m.drop n)
  | 0, _, _, h => h
  | n + 1, _, _, .nil => .nil
  | n + 1, _, _, .cons _ t => pair_drop n t
theorem pair_take {α β : Type} {F : α → β → Prop} : ∀ (n : Nat) {l : List α} {m : List β}, Paired F l m → Paired F (l.take n) (m.take n)
  | 0, _, _, _ => .nil
  | n + 1, _, _, .nil => .nil
  | n + 1, _, _, .cons h t => .cons h (pair_take n t)
theorem pair_append {α β : Type} {F : α → β → Prop} : ∀ {l l' : List α} {m m' : List β}, Paired F l m → Paired F l' m' → Paired F (l ++ l') (m ++ m')
  | _, _, _, _, .nil, h => h
  | _, _, _, _, .cons h t, h' => .cons h (pair_append t h')
theorem pair_len {α β : Type} {F : α → β → Prop} : ∀ {l : List α} {m : List β}, Paired F l m → l.length = m.length
  | _, _, .nil => rfl
  | _, _, .cons _ t => by simp [pair_len t]
theorem mk_turn {mk : List (Str × Int)} (k : Nat) (h : MkOk mk) : MkOk (mk.drop k ++ mk.take k) := by
  have p : (mk.drop k ++ mk.take k).Perm mk := by
    have := List.perm_append_comm (l₁ := mk.drop k) (l₂ := mk.take k)
    rwa [List.take_append_drop] at this
  exact ⟨((p.map (·.1)).nodup_iff).mpr h.nd, h.zero.elim fun kv z => ⟨kv, p.mem_iff.mpr z.1, z.2⟩, fun kv z => h.low kv (p.mem_iff.mp z), by rw [p.length_eq]; exact h.len, fun kv z => h.good kv (p.mem_iff.mp z)⟩
abbrev wds : List Str := ["next", "pair", "top", "x"]
theorem all_nd : ((Str.ofString "zero") :: wds).Nodup := by decide +kernel
theorem all_ok : ∀ z ∈ (Str.ofString "zero") :: wds, sok z = true := by decide +kernel
/-- what the loop has made so far -/
structure Rows (H : Hp) (l : Addr) (mk : List (Str × Int)) (i : Nat) : Prop where
  at_ : ∃ ps : List Addr, H l = some (.lst (ps.map V.ref)) ∧ Paired (fun p kv => H p = some (.tup (mkV kv))) ps mk
  sub : (mk.map (·.1)).Sublist ((Str.ofString "zero") :: wds.take i)
  zero : ∃ kv ∈ mk, kv.2 = 0
  low : ∀ kv ∈ mk, 0 ≤ kv.2 ∧ kv.2 ≤ 2
theorem Rows.len {H : Hp} {l : Addr} {mk : List (Str × Int)} {i : Nat} (h : Rows H l mk i) : mk.length ≤ 5 := by
  have a := h.sub.length_le
  rw [List.length_map, List.length_cons] at a
  have b : (wds.take i).length ≤ 4 := by rw [List.length_take]; exact Nat.min_le_right _ _
  omega
theorem Rows.okM {H : Hp} {l : Addr} {mk : List (Str × Int)} {i : Nat} (h : Rows H l mk i) : MkOk mk :=
  ⟨(h.sub.trans ((List.take_sublist i wds).cons_cons _)).nodup all_nd, h.zero, h.low, h.len, fun kv hk => all_ok _ ((h.sub.trans ((List.take_sublist i wds).cons_cons _)).subset (List.mem_map_of_mem hk))⟩
theorem Rows.ex {d : Addr} {H H' : Hp} {l : Addr} {mk : List (Str × Int)} {i : Nat} (x : Ex d H H') (hd : ∃ xs, H d = some (.lst xs)) (hl : l ≠ d) (h : Rows H l mk i) : Rows H' l mk i := by
  obtain ⟨⟨ps, e, p⟩, a, b, c⟩ := h
  exact ⟨⟨ps, x.but _ _ hl e, Paired.imp p fun _ _ q => x.keep q hd (fun _ q => by cases q)⟩, a, b, c⟩
theorem ok_law_makers (T : Txt K mg) (G_law_draw : FnOk P w K mg base CX0 1 T.a_law_draw T.d_law_draw ["draws", "limit"] spDraw) : FnOk P w K mg base CX0 2 T.a_law_makers T.d_law_makers ["draws"] spMakers := by
  refine T.F_law_makers.ok sc_law_makers (fun vs H Q E h => ?_) (fun cdv A outer s H vs Q E hr h => ?_)
  · obtain ⟨d, sa, rfl, _⟩ := h; rfl
  · obtain ⟨d, sa, rfl, hD, q⟩ := h
    have hr_law_draw := hr
    refine ⟨_, (pss_cons (ps_set (i := 1) sc_law_makers.nd rfl (Or.inl rfl) (pe_lst (pa_cons (pe_tup (pa_cons pe_str (pa_cons pe_int pa_nil))) pa_nil)))
    (pss_cons (ps_for PassesOwn.never rfl (pi_list (pe_lst (pa_cons pe_str (pa_cons pe_str (pa_cons pe_str (pa_cons pe_str pa_nil)))))) (pg_name (i := 2) sc_law_makers.nd rfl (Or.inl rfl))
    (pss_one (ps_if (pt_cmpR op_gt (pe_call G_law_draw hr_law_draw rfl T.m_law_draw T.F_law_draw.kp T.b_law_draw .nil pass0 (pa_cons (pv 0) (pa_cons pe_int pa_nil))) pe_int (nomark _)) (pss_one (ps_expr (pe_bm PySem.F.plainAttrs_list PySem.F.slot_list_append PySem.F.type_list_append mt_append (pv 1) (pa_cons (pe_tup (pa_cons (pv 2) (pa_cons (pe_call G_law_draw hr_law_draw rfl T.m_law_draw T.F_law_draw.kp T.b_law_draw .nil pass0 (pa_cons (pv 0) (pa_cons pe_int pa_nil))) pa_nil))) pa_nil)))) pss_nil)))
    (pss_cons (ps_set (i := 3) sc_law_makers.nd rfl (Or.inl rfl) (pe_call G_law_draw hr_law_draw rfl T.m_law_draw T.F_law_draw.kp T.b_law_draw .nil pass0 (pa_cons (pv 0) (pa_cons (pe_callB call_len_seq (by rfl) T.z_len (by decide +kernel) (pa_cons (pv 1) pa_nil)) pa_nil))))
    (pss_one (ps_ret (pe_callTy call_tupleF (by rfl) T.z_tuple (by decide +kernel) (pa_cons (pe_op op_cat (pe_slice sl_list (pv 1) (po_some (pv 3)) po_none) (pe_slice sl_list (pv 1) po_none (po_some (pv 3)))) pa_nil))))))), ?_⟩
    refine ⟨(by show 2 ≤ sizeLine; decide), fun p1 hp1 => ⟨(by show 1 ≤ sizeLine; decide), fun l hl => ?_⟩⟩
    refine ⟨(by show 4 ≤ sizeLine; decide), fun wl hwl => ⟨wl, rfl, ⟨_, SqL.of upd_same⟩, ?_⟩⟩
    have nl1 : l ≠ p1 := fun e => by rw [e, upd_same] at hl; cases hl
    have nw1 : wl ≠ l := fun e => by rw [e, upd_same] at hwl; cases hwl
    have nw2 : wl ≠ p1 := fun e => by rw [e, upd_ne nl1.symm, upd_same] at hwl; cases hwl
    have s1 := same_upd hp1 (.tup [.str "zero", .int 0])
    have s2 := same_upd hl (.lst [.ref p1])
    have s3 := same_upd hwl (.lst (wds.map V.str))
    have s123 := (s1.trans s2).trans s3
    have fl : H l = none := s1.free hl
    have fw : H wl = none := (s1.trans s2).free hwl
    obtain ⟨nd1, ns1⟩ := hD.free (H1 := H) fl
    obtain ⟨ndw, nsw⟩ := hD.free (H1 := H) fw
    refine for_list (xs := wds.map V.str) (fun i σ H1 => ∃ y2 mk, σ = [some (.ref d), some (.ref l), y2, none] ∧ Dr H1 d sa ∧ Ex d H H1 ∧ H1 wl = some (.lst (wds.map V.str)) ∧ Rows H1 l mk i) ?_ ?_ ?_ ?_
    · refine ⟨none, [("zero", 0)], rfl, hD.same s123, .of s123, upd_same, ⟨[p1], ?_, ?_⟩, ?_, ⟨_, List.mem_singleton_self _, rfl⟩, ?_⟩
      · rw [upd_ne nw1.symm, upd_same]; rfl
      · refine .cons ?_ .nil
        rw [upd_ne nw2.symm, upd_ne nl1.symm, upd_same]; rfl
      · exact List.Sublist.refl _
      · intro kv hk
        rw [List.mem_singleton.mp hk]
        exact ⟨Int.le_refl _, by decide⟩
    · intro i σ H1 _ ⟨_, _, _, _, _, e, _⟩
      exact SqL.of e
    · intro i x σ H1 hx ⟨y2, mk, es, hD1, hx1, ew, hR⟩
      subst es
      refine ⟨_, rfl, d, sa, _, rfl, hD1, by omega, by omega, fun r H2 r0 r1 hx2 hD2 => ⟨_, _, rfl, rfl, _, rfl, ?_⟩⟩
      have hR2 := hR.ex hx2 hD1.lst nd1
      have ew2 := hx2.but _ _ ndw ew
      have hi : i < wds.length := by
        have := (List.getElem?_eq_some_iff.mp hx).1
        rwa [List.length_map] at this
      have xw : x = .str wds[i] := by
        rw [List.getElem?_map, List.getElem?_eq_getElem hi] at hx
        exact (Option.some.inj hx).symm
      subst xw
      have st : wds.take (i + 1) = wds.take i ++ [wds[i]] := List.take_succ_eq_append_getElem hi
      refine ite2 (fun _ => ?_) (fun _ => ?_)
      · obtain ⟨⟨ps, el, pp⟩, sb, zr, lw⟩ := hR2
        have le5 : mk.length ≤ 5 := hR.len
        refine ⟨_, rfl, .inl ⟨rfl, _, SqL.of el⟩, _, rfl, _, rfl, d, sa, _, rfl, hD2, by omega, by omega, fun r2 H3 a0 a1 hx3 hD3 => ⟨(by show 2 ≤ sizeLine; decide), fun t ht => ?_⟩⟩
        have el3 := hx3.but _ _ nd1 el
        have nlt : l ≠ t := ne_of_none el3 ht
        have s4 := same_upd ht (.tup [.str wds[i], .int r2])
        refine ⟨l, _, _, rfl, rfl, s4 _ _ el3, ?_, ?_⟩
        · rw [List.length_map, pair_len pp]
          exact small1000 (by omega)
        · refine ⟨_, mk ++ [(wds[i], r2)], rfl, (hD3.same s4).own nd1 ns1, ((hx1.trans hx2).trans (hx3.trans (.of s4))).own fl _, ?_, ⟨ps ++ [t], ?_, ?_⟩, ?_, ?_, ?_⟩
          · rw [upd_ne nw1]
            exact s4 _ _ (hx3.but _ _ ndw ew2)
          · rw [upd_same, List.map_append]; rfl
          · refine pair_append (Paired.imp pp fun a b e => ?_) (.cons ?_ .nil)
            · have e3 := hx3.keep e hD2.lst (fun _ q => by cases q)
              rw [upd_ne (ne_of e3 el3 (by intro z; cases z))]
              exact s4 _ _ e3
            · rw [upd_ne nlt.symm, upd_same]; rfl
          · rw [st, List.map_append, ← List.cons_append]
            exact sb.append (List.Sublist.refl _)
          · obtain ⟨kv, hk, z⟩ := zr
            exact ⟨kv, List.mem_append_left _ hk, z⟩
          · intro kv hk
            rcases List.mem_append.mp hk with hk | hk
            · exact lw kv hk
            · rw [List.mem_singleton.mp hk]
              exact ⟨a0, by show r2 ≤ 2; omega⟩
      · refine ⟨_, mk, rfl, hD2, hx1.trans hx2, ew2, ?_⟩
        obtain ⟨a, sb, zr, lw⟩ := hR2
        refine ⟨a, ?_, zr, lw⟩
        rw [st]
        exact sb.trans (((List.sublist_append_left _ _)).cons_cons _)
    · intro σ H1 ⟨y2, mk, es, hD1, hx1, ew, hR⟩
      subst es
      have hM := hR.okM
      obtain ⟨⟨ps, el, pp⟩, _⟩ := hR
      have hlen := pair_len pp
      have h5 := hM.len
      have h1 : 1 ≤ mk.length := by
        obtain ⟨kv, hk, _⟩ := hM.zero
        exact List.length_pos_of_mem hk
      refine ⟨_, rfl, _, rfl, l, _, rfl, .inl (SqL.of el), d, sa, _, rfl, hD1, ?_, ?_, fun r H2 r0 r1 hx2 hD2 => ?_⟩
      · rw [List.length_map]; omega
      · rw [List.length_map]; omega
      rw [List.length_map] at r1
      obtain ⟨k, rfl⟩ : ∃ k : Nat, r = (k : Int) := ⟨r.toNat, by omega⟩
      have hk : k ≤ (ps.map V.ref).length := by rw [List.length_map]; omega
      have el2 := hx2.but _ _ nd1 el
      refine ⟨_, rfl, _, rfl, _, rfl, l, _, rfl, SqL.of el2, fun c hc => ?_⟩
      have s5 := same_upd hc (.lst (cutV (ps.map V.ref) (some (k : Int)) none))
      refine ⟨_, rfl, _, rfl, _, rfl, l, _, rfl, SqL.of (s5 _ _ el2), fun c2 hc2 => ?_⟩
      have s6 := same_upd hc2 (.lst (cutV (ps.map V.ref) none (some (k : Int))))
      refine ⟨c, c2, _, _, rfl, rfl, s6 _ _ upd_same, upd_same, ?_, fun p hp => ?_⟩
      · have a := cutV_length (ps.map V.ref) (some (k : Int)) none
        have b := cutV_length (ps.map V.ref) none (some (k : Int))
        rw [List.length_map] at a b
        exact Nat.le_of_lt (small1000 (by omega))
      have s7 := same_upd hp (.lst (cutV (ps.map V.ref) (some (k : Int)) none ++ cutV (ps.map V.ref) none (some (k : Int))))
      refine ⟨p, _, rfl, SqL.of upd_same, fun a o ha od _ => ?_⟩
      have s8 := same_upd ha (.frz o (.tup (cutV (ps.map V.ref) (some (k : Int)) none ++ cutV (ps.map V.ref) none (some (k : Int)))))
      have s58 := ((s5.trans s6).trans s7).trans s8
      refine q a _ (mk.drop k ++ mk.take k) ⟨⟨o, ps.drop k ++ ps.take k, ?_, od, ?_⟩, mk_turn k hM⟩ ((hx1.trans hx2).trans (.of s58)) (hD2.same s58)
      · rw [upd_same, cut_from _ hk, cut_to _ hk, List.map_append, List.map_drop, List.map_take]
      · have pp2 := pair_append (pair_drop k pp) (pair_take k pp)
        exact Paired.imp pp2 fun x y e => s58 _ _ (hx2.keep e hD1.lst (fun _ q => by cases q))
end
end Kx
namespace Kx
open PySem PySem.Spec PyProof.Rows L2
section
variable {P : Program} {w : World} {K : PySem.W.Frag} {mg : Str → Option Value} {base : Heap}
theorem atT (x y : V) : atI [x, y] (1 : Int) = some y := rfl
theorem tm_tup {w : Str} {r : List PV} (h : ∀ t ∈ r, Tm t) : Tm (.tup (.str w :: r)) := TmL_mem h
theorem cntL_le {r : List PV} {c : Nat} (h : ∀ t ∈ r, cnt t ≤ c) : cntL r ≤ r.length * c := by
  induction r with
  | nil => simp [cntL]
  | cons t r ih =>
    have a := h t (List.mem_cons_self ..)
    have b := ih fun x hx => h x (List.mem_cons_of_mem _ hx)
    simp only [cntL, List.length_cons, Nat.succ_mul]
    omega
/-- a list of values for terms that grow -/
theorem IsL.all {H : Hp} : ∀ {vs : List V} {ts : List PV}, IsL H vs ts → ∀ v ∈ vs, ∃ t ∈ ts, Is H v t
  | _, _, .nil, v, h => by simp at h
  | _, _, .cons a r, v, h => by
    rcases List.mem_cons.mp h with rfl | h
    · exact ⟨_, List.mem_cons_self .., a⟩
    · obtain ⟨t, ht, e⟩ := r.all v h
      exact ⟨t, List.mem_cons_of_mem _ ht, e⟩
theorem mk_at {H : Hp} {ps : List Addr} {mk : List (Str × Int)} (h : Paired (fun p kv => H p = some (.tup (mkV kv))) ps mk) {x : V} (hx : x ∈ ps.map V.ref) : ∃ p kv, x = .ref p ∧ kv ∈ mk ∧ H p = some (.tup (mkV kv)) := by
  induction h with
  | nil => simp at hx
  | cons a t ih =>
    rw [List.map_cons] at hx
    rcases List.mem_cons.mp hx with rfl | hx
    · exact ⟨_, _, rfl, List.mem_cons_self .., a⟩
    · obtain ⟨p, kv, e, m, z⟩ := ih hx
      exact ⟨p, kv, e, List.mem_cons_of_mem _ m, z⟩
theorem mk_get {H : Hp} {ps : List Addr} {mk : List (Str × Int)} (h : Paired (fun p kv => H p = some (.tup (mkV kv))) ps mk) : ∀ {i : Nat} {x : V}, (ps.map V.ref)[i]? = some x → ∃ p kv, x = .ref p ∧ mk[i]? = some kv ∧ H p = some (.tup (mkV kv)) := by
  induction h with
  | nil => intro i x hx; simp at hx
  | cons a t ih =>
    intro i x hx
    cases i with
    | zero => cases (Option.some.inj hx); exact ⟨_, _, rfl, rfl, a⟩
    | succ i => exact ih (by simpa using hx)
theorem ok_law_term {n : Nat} (T : Txt K mg) (G_law_draw : FnOk P w K mg base CX0 1 T.a_law_draw T.d_law_draw ["draws", "limit"] spDraw) (G_law_pick : FnOk P w K mg base CX0 2 T.a_law_pick T.d_law_pick ["draws", "row"] (spPick K)) (G_law_term : FnOk P w K mg base CX0 (n+3) T.a_law_term T.d_law_term ["draws", "makers", "names", "deep"] (spTerm n)) : FnOk P w K mg base CX0 (n+4) T.a_law_term T.d_law_term ["draws", "makers", "names", "deep"] (spTerm (n+1)) := by
  refine T.F_law_term.ok sc_law_term (fun vs H Q E h => ?_) (fun cdv A outer s H vs Q E hr h => ?_)
  · obtain ⟨d, sa, m, nl, mk, zs, k, rfl, _⟩ := h; rfl
  · obtain ⟨d, sa, m, nl, mk, zs, k, rfl, hD, hM, eN, nN, z1, z2, zok, hk, q⟩ := h
    have hr_law_draw := hr.mono (show 1 ≤ n + 3 by omega)
    have hr_law_pick := hr.mono (show 2 ≤ n + 3 by omega)
    have hr_law_term := hr
    refine ⟨_, (pss_cons (ps_if (pt_cut (PW.pt (pw_or (pt_cmpR op_eq (pv 3) pe_int (nomark _)) (pw_or1 (pt_cmpR op_eq (pe_call G_law_draw hr_law_draw rfl T.m_law_draw T.F_law_draw.kp T.b_law_draw .nil pass0 (pa_cons (pv 0) (pa_cons pe_int pa_nil))) pe_int (nomark _)))))) (pss_cons (ps_if (pt_cmpR op_eq (pe_call G_law_draw hr_law_draw rfl T.m_law_draw T.F_law_draw.kp T.b_law_draw .nil pass0 (pa_cons (pv 0) (pa_cons pe_int pa_nil))) pe_int (nomark _)) (pss_one (ps_ret (pe_call G_law_pick hr_law_pick rfl T.m_law_pick T.F_law_pick.kp T.b_law_pick .nil pass0 (pa_cons (pv 0) (pa_cons (pe_lc (own := [("word", 4), ("parts", 5)]) (g := (gTup K 2 (gCons (gName 4) (gCons (gName 5) gNil)))) rfl sc_law_term.nd (pi_tup (pv 1)) (blkOk_by (own := [("word", 4), ("parts", 5)]) (N := ["draws", "makers", "names", "deep", "word", "parts", "k"]) (sc := defScope s_law_term) (by decide +kernel)) (fun _ _ _ _ _ => (pg_tup rfl (pgs_cons (pg_name (i := 4) sc_law_term.nd rfl (Or.inl rfl)) (pgs_cons (pg_name (i := 5) sc_law_term.nd rfl (Or.inl rfl)) pgs_nil)))) (fun _ _ _ _ _ => pts_one (pt_cmpR op_eq (pv 5) pe_int (nomark _))) (fun _ _ _ _ _ => (pe_tup (pa_cons (pv 4) pa_nil)))) pa_nil))))) pss_nil)
    (pss_one (ps_ret (pe_call G_law_pick hr_law_pick rfl T.m_law_pick T.F_law_pick.kp T.b_law_pick .nil pass0 (pa_cons (pv 0) (pa_cons (pv 2) pa_nil)))))) pss_nil)
    (pss_cons (ps_asg (pe_call G_law_pick hr_law_pick rfl T.m_law_pick T.F_law_pick.kp T.b_law_pick .nil pass0 (pa_cons (pv 0) (pa_cons (pv 1) pa_nil))) (pg_tup rfl (pgs_cons (pg_name (i := 4) sc_law_term.nd rfl (Or.inl rfl)) (pgs_cons (pg_name (i := 5) sc_law_term.nd rfl (Or.inl rfl)) pgs_nil))))
    (pss_one (ps_ret (pe_op op_catT (pe_tup (pa_cons (pv 4) pa_nil)) (pe_callTy call_tuple_of (by rfl) T.z_tuple (by decide +kernel) (pa_cons (pe_lc (own := [("k", 6)]) (g := (gName 6)) (tt := tYes) rfl sc_law_term.nd (pi_range1 (by rfl) T.z_range (pa_cons (pv 5) pa_nil)) (blkOk_by (own := [("k", 6)]) (N := ["draws", "makers", "names", "deep", "word", "parts", "k"]) (sc := defScope s_law_term) (by decide +kernel)) (fun _ _ _ _ _ => (pg_name (i := 6) sc_law_term.nd rfl (Or.inl rfl))) (fun _ _ _ _ _ => pts_nil) (fun _ _ _ _ _ => (pe_call G_law_term hr_law_term rfl T.m_law_term T.F_law_term.kp T.b_law_term .nil pass0 (pa_cons (pv 0) (pa_cons (pv 1) (pa_cons (pv 2) (pa_cons (pe_op op_sub (pv 3) pe_int) pa_nil))))))) pa_nil))))))), ?_⟩
    have two : 2 ≤ 2 ^ (k + 2) - 2 := by
      have : 2 ^ 2 ≤ 2 ^ (k + 2) := Nat.pow_le_pow_right (by decide) (by omega)
      omega
    refine ⟨fun b H1 => Ex d H H1 ∧ Dr H1 d sa ∧ (b = false → k ≠ 0), ?_, fun b H1 ⟨x1, D1, kb⟩ => ?_⟩
    · refine ⟨_, rfl, rfl, _, rfl, ?_⟩
      refine ite2 (fun c => ⟨.refl _ _, hD, fun z => by cases z⟩) (fun c => ?_)
      refine ⟨_, rfl, d, sa, _, rfl, hD, by omega, by omega, fun r H1 r0 r1 hx1 hD1 => ⟨rfl, _, rfl, hx1, hD1, fun _ e => ?_⟩⟩
      subst e
      exact c rfl
    · have M1 := hM.ex x1 hD.lst
      have N1 := x1.but _ _ nN eN
      refine ite2 (fun _ => ?_) (fun hb => ?_)
      · refine ⟨_, rfl, d, sa, _, rfl, D1, by omega, by omega, fun r H2 r0 r1 x2 D2 => ⟨rfl, _, rfl, ?_⟩⟩
        have M2 := M1.ex x2 D1.lst
        have N2 := x2.but _ _ nN N1
        have x12 := x1.trans x2
        refine ite2 (fun _ => ?_) (fun _ => ?_)
        · obtain ⟨⟨o, ps, em, od, pp⟩, ok⟩ := M2
          refine ⟨_, rfl, _, rfl, m, rfl, ⟨_, .inl (.inr ⟨o, em⟩)⟩, fun D hD' => ?_⟩
          have nDd : D ≠ d := (D2.free (H1 := H2) hD').1
          refine lc_tup (K := K) (a := m) (xs := ps.map V.ref) (fun i H3 => Same H2 H3 ∧ ∃ acc, H3 D = some (.lst acc) ∧ (∀ v ∈ acc, ∃ w p, v = .ref p ∧ H3 p = some (.tup [.str w]) ∧ sok w = true) ∧ acc.length ≤ i ∧ ((∃ kv ∈ mk.take i, kv.2 = 0) → acc ≠ [])) ?_ ?_ ?_ ?_
          · refine ⟨same_upd hD' _, [], upd_same, fun v hv => by simp at hv, Nat.le_refl _, fun ⟨kv, h, _⟩ => by simp at h⟩
          · exact fun i H3 _ ⟨sm, _⟩ => .inl (.inr ⟨o, sm _ _ em⟩)
          · intro i x H3 hx ⟨sm, acc, ea, hA, hl, hz⟩
            obtain ⟨p, kv, rfl, hkv, ep⟩ := mk_get pp hx
            have hi : i < mk.length := (List.getElem?_eq_some_iff.mp hkv).1
            have m5 := ok.len
            have tk : mk.take (i + 1) = mk.take i ++ [kv] := by
              rw [List.take_succ_eq_append_getElem hi]
              congr 2
              exact (List.getElem?_eq_some_iff.mp hkv).2
            refine ⟨p, _, rfl, .inl (.inl (sm _ _ ep)), rfl, _, _, rfl, _, _, rfl, rfl, rfl, _, rfl, rfl, _, rfl, ?_⟩
            refine ite2 (fun _ => ?_) (fun c => ?_)
            · refine ⟨_, rfl, (by show 1 ≤ sizeLine; decide), fun t ht => ⟨acc, ?_, small1000 (by omega), ?_⟩⟩
              · rw [upd_ne (ne_of_none ea ht)]; exact ea
              · have s2 := same_upd ht (.tup [.str kv.1])
                refine ⟨Kx.Same.own (sm.trans s2) hD' _, _, upd_same, fun v hv => ?_, by rw [List.length_append]; exact Nat.succ_le_succ hl, fun _ => by simp⟩
                rcases List.mem_append.mp hv with hv | hv
                · obtain ⟨w, p2, rfl, e2, kw⟩ := hA v hv
                  have e3 := s2 _ _ e2
                  refine ⟨w, p2, rfl, ?_, kw⟩
                  rw [upd_ne (ne_of e3 (s2 _ _ ea) (by intro z; cases z))]
                  exact e3
                · rw [List.mem_singleton.mp hv]
                  refine ⟨kv.1, t, rfl, ?_, ok.good kv (List.mem_of_getElem? hkv)⟩
                  rw [upd_ne (ne_of_none ea ht).symm, upd_same]
            · refine ⟨sm, acc, ea, hA, Nat.le_succ_of_le hl, fun ⟨kv', h, e⟩ => hz ?_⟩
              rw [tk] at h
              rcases List.mem_append.mp h with h | h
              · exact ⟨kv', h, e⟩
              · rw [List.mem_singleton.mp h] at e
                exact absurd (by show decide (V.int kv.2 = V.int 0) = true; rw [e]; exact decide_eq_true rfl) c
          · intro H3 ⟨sm, acc, ea, hA, hl, hz⟩
            have m5 := ok.len
            rw [List.length_map, pair_len pp] at hl hz
            rw [List.take_length] at hz
            have ne := hz ok.zero
            refine ⟨d, sa, D, acc, rfl, D2.same sm, .inl ea, nDd, List.length_pos_iff.mpr ne, by omega, fun x H4 hx x4 D4 => ?_⟩
            obtain ⟨w, p, rfl, e, kw⟩ := hA x hx
            refine q _ (.tup [.str w]) H4 (.tup (x4.keep e (D2.same sm).lst fun _ z => by cases z) (.cons (.str w kw) .nil)) trivial ?_ ((x12.trans (.of sm)).trans x4) D4
            simp only [cnt, cntL]; omega
        · refine ⟨_, rfl, _, rfl, d, sa, nl, _, rfl, D2, .inl N2, nN, ?_, ?_, fun x H3 hx x3 D3 => ?_⟩
          · rw [List.length_map]; exact z1
          · rw [List.length_map]; omega
          · obtain ⟨z, hz, rfl⟩ := List.mem_map.mp hx
            exact q _ (.str z) H3 (.str z (zok z hz)) trivial (by simp only [cnt]; omega) (x12.trans x3) D3
      · have kn : k ≠ 0 := kb (by cases b with | true => exact absurd rfl hb | false => rfl)
        have k1 : (k : Int) - 1 = ((k - 1 : Nat) : Int) := by omega
        obtain ⟨⟨o, ps, em, od, pp⟩, ok⟩ := id M1
        obtain ⟨xs1, ed1⟩ := D1.lst
        have nm : m ≠ d := ne_of em ed1 (by intro z; cases z)
        have l1 : 1 ≤ mk.length := ok.zero.elim fun kv z => List.length_pos_of_mem z.1
        have l5 := ok.len
        refine ⟨_, rfl, _, rfl, d, sa, m, _, rfl, D1, .inr (.inl (.inr ⟨o, em⟩)), nm, ?_, ?_, fun x H2 hx x2 D2 => ?_⟩
        · rw [List.length_map, pair_len pp]; exact l1
        · rw [List.length_map, pair_len pp]; omega
        obtain ⟨p, kv, rfl, hkv, ep⟩ := mk_at pp hx
        have ep2 := x2.keep ep D1.lst (fun _ z => by cases z)
        obtain ⟨lo, hi⟩ := ok.low kv hkv
        refine ⟨p, _, rfl, .inl (.inl ep2), rfl, _, _, rfl, _, _, rfl, rfl, ?_⟩
        refine ⟨_, rfl, (by show 1 ≤ sizeLine; decide), fun t1 ht1 => ?_⟩
        have s3 := same_upd ht1 (.tup [.str kv.1])
        have M3 := (M1.ex x2 D1.lst).same s3
        have N3 := s3 _ _ (x2.but _ _ nN N1)
        have D3 := D2.same s3
        refine ⟨_, rfl, _, rfl, by omega, by omega, fun D hDn => ?_⟩
        obtain ⟨nDd, nDs⟩ := D3.free (H1 := H) hDn
        have pw : 2 ≤ 2 ^ (k + 1) := by
          have : 2 ^ 1 ≤ 2 ^ (k + 1) := Nat.pow_le_pow_right (by decide) (by omega)
          omega
        have pw2 : 2 ^ (k + 2) = 2 * 2 ^ (k + 1) := by rw [Nat.pow_succ]; omega
        refine lc_range (lo := 0) (n := kv.2.toNat) (fun i H4 => ∃ vs ts, Ex d (upd H2 t1 (.tup [.str kv.1])) H4 ∧ Dr H4 d sa ∧ H4 D = some (.lst vs) ∧ IsL H4 vs ts ∧ (∀ t ∈ ts, Tm t ∧ cnt t ≤ 2 ^ (k + 1) - 2) ∧ ts.length = i) ?_ ?_ ?_
        · exact ⟨[], [], .new hDn _, D3.own nDd nDs, upd_same, .nil, fun t ht => by simp at ht, rfl⟩
        · intro i H4 hi2 ⟨vs, ts, x4, D4, eD, hI, hT, hl⟩
          refine ⟨rfl, yes_if ?_⟩
          refine ⟨_, rfl, _, rfl, _, rfl, _, rfl, _, _, rfl, rfl, d, sa, m, nl, mk, zs, k - 1, ?_, D4, M3.ex x4 D3.lst, x4.but _ _ nN N3, nN, z1, z2, zok, by omega, fun v t H5 hv ht hc x5 D5 => ?_⟩
          · rw [← k1]; rfl
          · have eD5 := x5.but _ _ nDd eD
            have x45 := x4.trans x5
            refine ⟨vs, eD5, ?_, ?_⟩
            · rw [hI.len, hl]; exact small1000 (by omega)
            have I5 : IsL H5 vs ts := hI.ex x5 D4.lst
            have xx : Ex D H5 (upd H5 D (.lst (vs ++ [v]))) := .set _
            refine ⟨vs ++ [v], ts ++ [t], x45.own hDn _, D5.own nDd nDs, upd_same, (I5.append (.cons hv .nil)).ex xx ⟨_, eD5⟩, fun t' ht' => ?_, by rw [List.length_append, hl]; rfl⟩
            rcases List.mem_append.mp ht' with h | h
            · exact hT t' h
            · rw [List.mem_singleton.mp h]
              refine ⟨ht, ?_⟩
              rw [show k - 1 + 2 = k + 1 by omega] at hc
              exact hc
        · intro H4 ⟨vs, ts, x4, D4, eD, hI, hT, hl⟩
          have e1 := x4.keep upd_same D3.lst (fun _ z => by cases z)
          have hlen := hI.len
          have cb := cntL_le (r := ts) (c := 2 ^ (k + 1) - 2) fun t ht => (hT t ht).2
          have cb2 : ts.length * (2 ^ (k + 1) - 2) ≤ 2 * (2 ^ (k + 1) - 2) := Nat.mul_le_mul_right _ (by omega)
          refine ⟨D, vs, rfl, .inl ⟨SqL.of eD, fun l hl2 => ?_⟩⟩
          have s5 := same_upd hl2 (.tup vs)
          refine ⟨t1, l, _, _, rfl, rfl, .inl (.inl (s5 _ _ e1)), .inl (.inl upd_same), by simp, ?_, fun _ => ?_, fun _ p hp => ?_⟩
          · rw [List.length_singleton, hlen]; exact Nat.le_of_lt (small1000 (by omega))
          · refine q _ (.tup [.str kv.1]) _ (.tup (s5 _ _ e1) (.cons (.str _ (ok.good kv hkv)) .nil)) trivial ?_ (((x1.trans x2).trans (.of s3)).trans (x4.trans (.of s5))) (D4.same s5)
            simp only [cnt, cntL]; omega
          · have s6 := same_upd hp (.tup ([V.str kv.1] ++ vs))
            refine q _ (.tup (.str kv.1 :: ts)) _ (.tup upd_same (.cons (.str _ (ok.good kv hkv)) (hI.same (s5.trans s6)))) (tm_tup fun t ht => (hT t ht).1) ?_ (((x1.trans x2).trans (.of s3)).trans (x4.trans (.of (s5.trans s6)))) (D4.same (s5.trans s6))
            simp only [cnt, cntL]; omega
end
end Kx
namespace Kx
open PySem PySem.Spec PyProof.Rows L2
section
variable {P : Program} {w : World} {K : PySem.W.Frag} {mg : Str → Option Value} {base : Heap}
def Good (H : Hp) (v : V) : Prop := ∃ t, Is H v t ∧ cnt t ≤ 3
theorem Good.same {H H' : Hp} {v : V} (x : Same H H') (h : Good H v) : Good H' v := let ⟨t, a, b⟩ := h; ⟨t, a.same x, b⟩
theorem Good.flat {H : Hp} {v : V} (h : v = .non ∨ (∃ b, v = .bl b) ∨ (∃ i, v = .int i) ∨ ∃ z, v = .str z ∧ sok z = true) : Good H v := by
  rcases h with rfl | ⟨b, rfl⟩ | ⟨i, rfl⟩ | ⟨z, rfl, k⟩
  · exact ⟨_, .non, by simp [cnt]⟩
  · exact ⟨_, .bl b, by simp [cnt]⟩
  · exact ⟨_, .int i, by simp [cnt]⟩
  · exact ⟨_, .str z k, by simp [cnt]⟩
theorem gN {H : Hp} : Good H .non := .flat (.inl rfl)
theorem gB {H : Hp} {b : Bool} : Good H (.bl b) := .flat (.inr (.inl ⟨b, rfl⟩))
theorem gI {H : Hp} {i : Int} : Good H (.int i) := .flat (.inr (.inr (.inl ⟨i, rfl⟩)))
theorem gS {H : Hp} {z : Str} (k : sok z = true := by decide +kernel) : Good H (.str z) := .flat (.inr (.inr (.inr ⟨z, rfl, k⟩)))
theorem gL {H : Hp} {p : Addr} {xs : List V} : Good (upd H p (.lst xs)) (.ref p) := ⟨_, .lst ⟨_, upd_same⟩, by simp [cnt]⟩
theorem gD {H : Hp} {p : Addr} {kvs : List (Key × V)} : Good (upd H p (.dK kvs)) (.ref p) := ⟨_, .dict upd_same, by simp [cnt]⟩
theorem gT {H : Hp} {p : Addr} {xs : List V} {ts : List PV} (n : H p = none) (h : IsL H xs ts) (c : cntL ts ≤ 2) : Good (upd H p (.tup xs)) (.ref p) :=
  ⟨.tup ts, .tup upd_same (h.same (same_upd n _)), by simp only [cnt]; omega⟩
theorem all_nil {α : Type} {F : α → Prop} : ∀ x ∈ ([] : List α), F x := fun x h => by simp at h
theorem all_cons {α : Type} {F : α → Prop} {x : α} {l : List α} (h : F x) (r : ∀ y ∈ l, F y) : ∀ y ∈ x :: l, F y := fun y hy => by
  rcases List.mem_cons.mp hy with rfl | hy
  · exact h
  · exact r y hy
theorem all_app {α : Type} {F : α → Prop} {l m : List α} (h : ∀ y ∈ l, F y) (r : ∀ y ∈ m, F y) : ∀ y ∈ l ++ m, F y := fun y hy => by
  rcases List.mem_append.mp hy with hy | hy
  · exact h y hy
  · exact r y hy
theorem ok_law_odd (T : Txt K mg) (G_law_pick : FnOk P w K mg base CX0 2 T.a_law_pick T.d_law_pick ["draws", "row"] (spPick K)) : FnOk P w K mg base CX0 3 T.a_law_odd T.d_law_odd ["draws", "makers"] spOdd := by
  refine T.F_law_odd.ok sc_law_odd (fun vs H Q E h => ?_) (fun cdv A outer s H vs Q E hr h => ?_)
  · obtain ⟨d, sa, m, mk, rfl, _⟩ := h; rfl
  · obtain ⟨d, sa, m, mk, rfl, hD, hM, q⟩ := h
    have hr_law_pick := hr
    refine ⟨_, (pss_cons (ps_set (i := 2) sc_law_odd.nd rfl (Or.inl rfl) (pe_lst (pa_cons pe_non (pa_cons pe_int (pa_cons pe_bl (pa_cons (pe_tup pa_nil) (pa_cons (pe_lst pa_nil) (pa_cons (pe_lst (pa_cons pe_str pa_nil)) (pa_cons pe_dnewK (pa_cons pe_str (pa_cons pe_str (pa_cons (pe_tup (pa_cons pe_str (pa_cons pe_str pa_nil))) (pa_cons (pe_tup (pa_cons pe_str pa_nil)) (pa_cons (pe_tup (pa_cons pe_int pa_nil)) (pa_cons (pe_tup (pa_cons pe_non (pa_cons pe_str pa_nil))) (pa_cons pe_str (pa_cons (pe_tup (pa_cons (pe_tup (pa_cons pe_str pa_nil)) pa_nil)) (pa_cons (pe_tup (pa_cons pe_str pa_nil)) pa_nil))))))))))))))))))
    (pss_one (ps_ret (pe_call G_law_pick hr_law_pick rfl T.m_law_pick T.F_law_pick.kp T.b_law_pick .nil pass0 (pa_cons (pv 0) (pa_cons (pe_op op_cat (pv 2) (pe_lst (pa_cons (pe_ix ix_tup (pe_ix ix_tup (pv 1) pe_int (fun _ _ => rfl)) pe_int (fun _ _ => rfl)) (pa_cons (pe_tup (pa_cons (pe_ix ix_tup (pe_ix ix_tup (pv 1) pe_int (fun _ _ => rfl)) pe_int (fun _ _ => rfl)) pa_nil)) (pa_cons (pe_lst (pa_cons (pe_ix ix_tup (pe_ix ix_tup (pv 1) pe_int (fun _ _ => rfl)) pe_int (fun _ _ => rfl)) pa_nil)) pa_nil))))) pa_nil)))))), ?_⟩
    refine ⟨(by show 0 ≤ sizeLine; decide), fun p1 h1 => ?_⟩
    have s1 := same_upd h1 (.tup [])
    have g1 : Good _ (.ref p1) := gT h1 .nil (by simp [cntL])
    refine ⟨(by show 0 ≤ sizeLine; decide), fun p2 h2 => ?_⟩
    have s2 := same_upd h2 (.lst [])
    refine ⟨(by show 1 ≤ sizeLine; decide), fun p3 h3 => ?_⟩
    have s3 := same_upd h3 (.lst [.str "zero"])
    refine fun p4 h4 => ?_
    have s4 := same_upd h4 (.dK [])
    refine ⟨(by show 2 ≤ sizeLine; decide), fun p5 h5 => ?_⟩
    have s5 := same_upd h5 (.tup [.str "zero", .str "a"])
    have g5 := gT h5 (.cons (.str "zero" (by decide +kernel)) (.cons (.str "a" (by decide +kernel)) .nil)) (by simp [cntL, cnt])
    refine ⟨(by show 1 ≤ sizeLine; decide), fun p6 h6 => ?_⟩
    have s6 := same_upd h6 (.tup [.str "nope"])
    have g6 := gT h6 (.cons (.str "nope" (by decide +kernel)) .nil) (by simp [cntL, cnt])
    refine ⟨(by show 1 ≤ sizeLine; decide), fun p7 h7 => ?_⟩
    have s7 := same_upd h7 (.tup [.int 5])
    have g7 := gT h7 (.cons (.int 5) .nil) (by simp [cntL, cnt])
    refine ⟨(by show 2 ≤ sizeLine; decide), fun p8 h8 => ?_⟩
    have s8 := same_upd h8 (.tup [.non, .str "a"])
    have g8 := gT h8 (.cons .non (.cons (.str "a" (by decide +kernel)) .nil)) (by simp [cntL, cnt])
    refine ⟨(by show 1 ≤ sizeLine; decide), fun p9 h9 => ?_⟩
    have s9 := same_upd h9 (.tup [.str "zero"])
    refine ⟨(by show 1 ≤ sizeLine; decide), fun p10 h10 => ?_⟩
    have s10 := same_upd h10 (.tup [.ref p9])
    have g10 := gT h10 (.cons (.tup upd_same (.cons (.str "zero" (by decide +kernel)) .nil)) .nil) (by simp [cntL, cnt])
    refine ⟨(by show 1 ≤ sizeLine; decide), fun p11 h11 => ?_⟩
    have s11 := same_upd h11 (.tup [.str "next"])
    have g11 := gT h11 (.cons (.str "next" (by decide +kernel)) .nil) (by simp [cntL, cnt])
    refine ⟨(by show 16 ≤ sizeLine; decide), fun l hl => ?_⟩
    have sl := same_upd hl (.lst [.non, .int 5, .bl true, .ref p1, .ref p2, .ref p3, .ref p4, .str "", .str "zero", .ref p5, .ref p6, .ref p7, .ref p8, .str "a.1", .ref p10, .ref p11])
    have u0 := ((((((((((s1.trans s2).trans s3).trans s4).trans s5).trans s6).trans s7).trans s8).trans s9).trans s10).trans s11).trans sl
    obtain ⟨⟨o, ps, em, od, pp⟩, ok⟩ := hM.same u0
    cases pp with
    | nil => exact absurd ok.zero (fun ⟨kv, h, _⟩ => by simp at h)
    | @cons p0 kv0 ps mk e0 t0 =>
    have k0 := ok.good kv0 (List.mem_cons_self ..)
    refine ⟨_, rfl, _, rfl, _, rfl, m, _, _, _, rfl, rfl, .inl (.inr ⟨o, em⟩), atI_nat (j := 0) rfl, p0, _, _, _, rfl, rfl, .inl (.inl e0), rfl, ?_⟩
    refine ⟨_, rfl, m, _, _, _, rfl, rfl, .inl (.inr ⟨o, em⟩), atI_nat (j := 0) rfl, p0, _, _, _, rfl, rfl, .inl (.inl e0), rfl, (by show 1 ≤ sizeLine; decide), fun p12 h12 => ?_⟩
    have s12 := same_upd h12 (.tup [.str kv0.1])
    have g12 := gT h12 (.cons (.str kv0.1 k0) .nil) (by simp [cntL, cnt])
    refine ⟨_, rfl, m, _, _, _, rfl, rfl, .inl (.inr ⟨o, s12 _ _ em⟩), atI_nat (j := 0) rfl, p0, _, _, _, rfl, rfl, .inl (.inl (s12 _ _ e0)), rfl, (by show 1 ≤ sizeLine; decide), fun p13 h13 => ?_⟩
    have s13 := same_upd h13 (.lst [.str kv0.1])
    refine ⟨(by show 3 ≤ sizeLine; decide), fun l2 hl2 => ?_⟩
    have sl2 := same_upd hl2 (.lst [.str kv0.1, .ref p12, .ref p13])
    refine ⟨l, l2, _, _, rfl, rfl, sl2 _ _ (s13 _ _ (s12 _ _ upd_same)), upd_same, (by show 16 + 3 ≤ sizeLine; decide), fun p14 h14 => ?_⟩
    have s14 := same_upd h14 (.lst ([.non, .int 5, .bl true, .ref p1, .ref p2, .ref p3, .ref p4, .str "", .str "zero", .ref p5, .ref p6, .ref p7, .ref p8, .str "a.1", .ref p10, .ref p11] ++ [.str kv0.1, .ref p12, .ref p13]))
    have u13 := sl2.trans s14
    have u12 := s13.trans u13
    have ul := s12.trans u12
    have u11 := sl.trans ul
    have u10 := s11.trans u11
    have u9 := s10.trans u10
    have u8 := s9.trans u9
    have u7 := s8.trans u8
    have u6 := s7.trans u7
    have u5 := s6.trans u6
    have u4 := s5.trans u5
    have u3 := s4.trans u4
    have u2 := s3.trans u3
    have u1 := s2.trans u2
    have uu := s1.trans u1
    have D2 := hD.same uu
    have nd : p14 ≠ d := (hD.same (((u0.trans s12).trans s13).trans sl2)).free (H1 := H) h14 |>.1
    refine ⟨d, sa, p14, _, rfl, D2, .inl upd_same, nd, (by show 1 ≤ 19; decide), (by show 19 ≤ 1000; decide), fun x H' hx x' D' => ?_⟩
    have G : ∀ y ∈ (([.non, .int 5, .bl true, .ref p1, .ref p2, .ref p3, .ref p4, .str "", .str "zero", .ref p5, .ref p6, .ref p7, .ref p8, .str "a.1", .ref p10, .ref p11] : List V) ++ [.str kv0.1, .ref p12, .ref p13]), Good _ y := all_app (F := Good _) (all_cons gN (all_cons gI (all_cons gB (all_cons (Good.same u1 g1) (all_cons (Good.same u2 gL) (all_cons (Good.same u3 gL) (all_cons (Good.same u4 gD) (all_cons gS (all_cons gS (all_cons (Good.same u5 g5) (all_cons (Good.same u6 g6) (all_cons (Good.same u7 g7) (all_cons (Good.same u8 g8) (all_cons gS (all_cons (Good.same u10 g10) (all_cons (Good.same u11 g11) all_nil))))))))))))))))
      (all_cons (gS k0) (all_cons (Good.same u12 g12) (all_cons (Good.same u13 gL) all_nil)))
    obtain ⟨t, ht, hc⟩ := G x hx
    exact q x t H' (ht.ex x' D2.lst) hc ((Ex.of uu).trans x') D'
theorem tm_inv : ∀ {ts : List PV}, Tm (.tup ts) → ∃ w r, ts = .str w :: r ∧ TmL r
  | .str w :: r, h => ⟨w, r, rfl, h⟩
theorem cut_last (xs : List V) : cutV xs none (some (-1)) = xs.take (xs.length - 1) := by
  unfold cutV
  rw [HT.sIx_none]
  have e : HT.sIx xs.length xs.length (some (-1)) = xs.length - 1 := by
    show (if (-1 : Int) < 0 then ((-1 : Int) + (xs.length : Int)).toNat else min (-1 : Int).toNat xs.length) = _
    rw [if_pos (by decide)]
    omega
  rw [e]
  rfl
theorem cntL_take (l : List PV) (n : Nat) : cntL (l.take n) ≤ cntL l := by
  have := cntL_append (l.take n) (l.drop n)
  rw [List.take_append_drop] at this
  omega
theorem cntL_cut {l : List PV} {j : Nat} {x : PV} (h : l[j]? = some x) : cntL l = cntL (l.take j) + cnt x + cntL (l.drop (j + 1)) := by
  obtain ⟨hj, e⟩ := List.getElem?_eq_some_iff.mp h
  have := cntL_append (l.take j) (l.drop j)
  rw [List.take_append_drop, List.drop_eq_getElem_cons hj, e] at this
  rw [this]
  simp only [cntL]; omega
theorem ok_law_bent {n : Nat} (T : Txt K mg) (G_law_draw : FnOk P w K mg base CX0 1 T.a_law_draw T.d_law_draw ["draws", "limit"] spDraw) (G_law_odd : FnOk P w K mg base CX0 3 T.a_law_odd T.d_law_odd ["draws", "makers"] spOdd) (G_law_bent : FnOk P w K mg base CX0 (n+3) T.a_law_bent T.d_law_bent ["draws", "makers", "value"] (spBent n)) : FnOk P w K mg base CX0 (n+4) T.a_law_bent T.d_law_bent ["draws", "makers", "value"] (spBent (n+1)) := by
  refine T.F_law_bent.ok sc_law_bent (fun vs H Q E h => ?_) (fun cdv A outer s H vs Q E hr h => ?_)
  · obtain ⟨d, sa, m, mk, v, t, rfl, _⟩ := h; rfl
  · obtain ⟨d, sa, m, mk, v, t, rfl, hD, hM, hI, hT, hn, h70, q⟩ := h
    have hr_law_draw := hr.mono (show 1 ≤ n + 3 by omega)
    have hr_law_odd := hr.mono (show 3 ≤ n + 3 by omega)
    have hr_law_bent := hr
    have cp := cnt_pos t
    refine ⟨_, (pss_cons (ps_if (pt_cut (PW.pt (pw_or (pt_val (pe_callB call_isi (by rfl) T.z_isinstance (by decide +kernel) (pa_cons (pv 2) (pa_cons (pe_bltn rfl T.z_str (by decide +kernel) (show RelV (V.ty "str") (Value.type "str") from rfl)) pa_nil)))) (pw_or1 (pt_cmpR op_eq (pe_call G_law_draw hr_law_draw rfl T.m_law_draw T.F_law_draw.kp T.b_law_draw .nil pass0 (pa_cons (pv 0) (pa_cons pe_int pa_nil))) pe_int (nomark _)))))) (pss_one (ps_ret (pe_call G_law_odd hr_law_odd rfl T.m_law_odd T.F_law_odd.kp T.b_law_odd .nil pass0 (pa_cons (pv 0) (pa_cons (pv 1) pa_nil))))) pss_nil)
    (pss_cons (ps_set (i := 3) sc_law_bent.nd rfl (Or.inl rfl) (pe_call G_law_draw hr_law_draw rfl T.m_law_draw T.F_law_draw.kp T.b_law_draw .nil pass0 (pa_cons (pv 0) (pa_cons pe_int pa_nil))))
    (pss_cons (ps_if (pt_cmpR op_eq (pv 3) pe_int (nomark _)) (pss_one (ps_ret (pe_slice sl_tup (pv 2) po_none (po_some (pe_un un_neg pe_int))))) pss_nil)
    (pss_cons (ps_if (pt_cmpR op_eq (pv 3) pe_int (nomark _)) (pss_one (ps_ret (pe_op op_catT (pv 2) (pe_tup (pa_cons (pe_call G_law_odd hr_law_odd rfl T.m_law_odd T.F_law_odd.kp T.b_law_odd .nil pass0 (pa_cons (pv 0) (pa_cons (pv 1) pa_nil))) pa_nil))))) pss_nil)
    (pss_cons (ps_if (pt_cmpR op_eq (pv 3) pe_int (nomark _)) (pss_one (ps_ret (pe_callTy call_list_of (by rfl) T.z_list (by decide +kernel) (pa_cons (pv 2) pa_nil)))) pss_nil)
    (pss_cons (ps_if (pt_cmpR op_eq (pe_callB call_len_seq (by rfl) T.z_len (by decide +kernel) (pa_cons (pv 2) pa_nil)) pe_int (nomark _)) (pss_one (ps_ret (pe_tup (pa_cons (pe_call G_law_odd hr_law_odd rfl T.m_law_odd T.F_law_odd.kp T.b_law_odd .nil pass0 (pa_cons (pv 0) (pa_cons (pv 1) pa_nil))) pa_nil)))) pss_nil)
    (pss_cons (ps_set (i := 4) sc_law_bent.nd rfl (Or.inl rfl) (pe_op op_add pe_int (pe_call G_law_draw hr_law_draw rfl T.m_law_draw T.F_law_draw.kp T.b_law_draw .nil pass0 (pa_cons (pv 0) (pa_cons (pe_op op_sub (pe_callB call_len_seq (by rfl) T.z_len (by decide +kernel) (pa_cons (pv 2) pa_nil)) pe_int) pa_nil)))))
    (pss_one (ps_ret (pe_op op_catT (pe_op op_catT (pe_slice sl_tup (pv 2) po_none (po_some (pv 4))) (pe_tup (pa_cons (pe_call G_law_bent hr_law_bent rfl T.m_law_bent T.F_law_bent.kp T.b_law_bent .nil pass0 (pa_cons (pv 0) (pa_cons (pv 1) (pa_cons (pe_ix ix_tup (pv 2) (pv 4) (fun _ _ => rfl)) pa_nil)))) pa_nil))) (pe_slice sl_tup (pv 2) (po_some (pe_op op_add (pv 4) pe_int)) po_none))))))))))), ?_⟩
    refine ⟨fun b H1 => Ex d H H1 ∧ Dr H1 d sa ∧ (b = false → isStr t = false), ?_, fun b H1 ⟨x1, D1, kb⟩ => ?_⟩
    · refine ⟨_, rfl, ?_⟩
      obtain ⟨u, ty, kt⟩ := hI.ty (K := K)
      refine ⟨_, _, u, _, _, rfl, .ty _, ty, kit_str kt, _, rfl, ?_⟩
      refine ite2 (fun c => ⟨.refl _ _, hD, fun z => by cases z⟩) (fun c => ?_)
      refine ⟨_, rfl, d, sa, _, rfl, hD, by omega, by omega, fun r H1 r0 r1 hx1 hD1 => ⟨rfl, _, rfl, hx1, hD1, fun _ => Bool.eq_false_iff.mpr c⟩⟩
    · have M1 := hM.ex x1 hD.lst
      have I1 := hI.ex x1 hD.lst
      refine ite2 (fun _ => ?_) (fun hb => ?_)
      · refine ⟨_, rfl, _, rfl, d, sa, m, mk, rfl, D1, M1, fun v' t' H2 hv hc x2 D2 => q v' t' H2 hv (by omega) (x1.trans x2) D2⟩
      · have ns := kb (by cases b with | true => exact absurd rfl hb | false => rfl)
        cases t with
        | str z => cases ns
        | oth => exact absurd hT (by simp [Tm])
        | tup ts =>
        obtain ⟨a, vs, rfl, ea, hL⟩ := I1.tup_inv
        obtain ⟨w0, r0', ets, hTr⟩ := tm_inv hT
        have hlen := hL.len
        have c70 : 1 + cntL ts ≤ 70 := h70
        have cN : 1 + cntL ts ≤ n + 1 := hn
        have ct := cntL_len ts
        have cnt_eq : ∀ l, cnt (.tup l) = 1 + cntL l := fun _ => rfl
        have l1 : 1 ≤ vs.length := by rw [hlen, ets]; simp
        have ne : vs ≠ [] := by intro e; rw [e] at l1; simp at l1
        refine ⟨_, rfl, d, sa, _, rfl, D1, by omega, by omega, fun r H2 r0 r1 x2 D2 => ?_⟩
        have ea2 := x2.keep ea D1.lst (fun _ z => by cases z)
        have hT2 : SqT K H2 a vs := .inl (.inl ea2)
        have L2 := hL.ex x2 D1.lst
        have M2 := M1.ex x2 D1.lst
        have x12 := x1.trans x2
        refine ⟨_, rfl, rfl, _, rfl, ite2 (fun _ => ?_) (fun _ => ?_)⟩
        · -- value[:-1]
          refine ⟨_, rfl, _, rfl, _, rfl, a, _, rfl, hT2, ?_, fun p hp => ?_⟩
          · intro e
            have e2 := e.2
            have : HT.sIx vs.length vs.length (some (-1)) = vs.length - 1 := by
              show (if (-1 : Int) < 0 then ((-1 : Int) + (vs.length : Int)).toNat else min (-1 : Int).toNat vs.length) = _
              rw [if_pos (by decide)]
              omega
            rw [this] at e2
            omega
          · have s := same_upd hp (.tup (cutV vs none (some (-1))))
            refine q _ (.tup (ts.take (vs.length - 1))) _ (.tup upd_same ?_) ?_ (x12.trans (.of s)) (D2.same s)
            · have e := (L2.take (vs.length - 1)).same s
              rw [← cut_last vs] at e
              exact e
            · have := cntL_take ts (vs.length - 1)
              rw [cnt_eq, cnt_eq]; omega
        refine ⟨_, rfl, rfl, _, rfl, ite2 (fun _ => ?_) (fun _ => ?_)⟩
        · -- value + (odd,)
          refine ⟨_, rfl, _, rfl, _, rfl, d, sa, m, mk, rfl, D2, M2, fun v1 t1 H3 is1 c1 x3 D3 => ⟨(by show 1 ≤ sizeLine; decide), fun p hp => ?_⟩⟩
          have ea3 := x3.keep ea2 D2.lst (fun _ z => by cases z)
          have s := same_upd hp (.tup [v1])
          refine ⟨a, p, _, _, rfl, rfl, .inl (.inl (s _ _ ea3)), .inl (.inl upd_same), ne, ?_, fun e => by simp at e, fun _ p2 hp2 => ?_⟩
          · rw [hlen, List.length_singleton]; exact Nat.le_of_lt (small1000 (by omega))
          · have s2 := same_upd hp2 (.tup (vs ++ [v1]))
            refine q _ (.tup (ts ++ [t1])) _ (.tup upd_same (((L2.ex x3 D2.lst).append (.cons is1 .nil)).same (s.trans s2))) ?_ ((x12.trans x3).trans (.of (s.trans s2))) (D3.same (s.trans s2))
            rw [cnt_eq, cnt_eq, cntL_append]
            simp only [cntL]; omega
        refine ⟨_, rfl, rfl, _, rfl, ite2 (fun _ => ?_) (fun _ => ?_)⟩
        · -- list(value)
          refine ⟨_, rfl, a, _, rfl, .inr hT2, fun l hl => ?_⟩
          have s := same_upd hl (.lst vs)
          refine q _ .oth _ (.lst ⟨_, upd_same⟩) ?_ (x12.trans (.of s)) (D2.same s)
          simp only [cnt]; omega
        refine ⟨_, rfl, a, _, rfl, .inr hT2, rfl, _, rfl, ite2 (fun _ => ?_) (fun c1 => ?_)⟩
        · -- (odd,)
          refine ⟨_, rfl, _, rfl, d, sa, m, mk, rfl, D2, M2, fun v1 t1 H3 is1 c1 x3 D3 => ⟨(by show 1 ≤ sizeLine; decide), fun p hp => ?_⟩⟩
          have s := same_upd hp (.tup [v1])
          refine q _ (.tup [t1]) _ (.tup upd_same (.cons (is1.same s) .nil)) ?_ ((x12.trans x3).trans (.of s)) (D3.same s)
          rw [cnt_eq, cnt_eq]
          simp only [cntL]; omega
        have l2 : 2 ≤ vs.length := by
          rcases Nat.lt_or_ge 1 vs.length with h | h
          · exact h
          · exfalso
            have e : vs.length = 1 := by omega
            exact c1 (by rw [e]; rfl)
        refine ⟨_, rfl, _, rfl, a, _, rfl, .inr hT2, _, _, rfl, rfl, d, sa, _, rfl, D2, by omega, by omega, fun z H3 z0 z1 x3 D3 => ?_⟩
        obtain ⟨k, rfl⟩ : ∃ k : Nat, z = (k : Int) := ⟨z.toNat, by omega⟩
        have hk : k + 1 < vs.length := by omega
        have ek : (1 : Int) + (k : Int) = ((k + 1 : Nat) : Int) := by omega
        have ek2 : (1 : Int) + (k : Int) + 1 = ((k + 2 : Nat) : Int) := by omega
        have ea3 := x3.keep ea2 D2.lst (fun _ z => by cases z)
        have hT3 : SqT K H3 a vs := .inl (.inl ea3)
        have L3 := L2.ex x3 D2.lst
        have M3 := M2.ex x3 D2.lst
        refine ⟨_, _, rfl, rfl, ?_⟩
        refine ⟨_, rfl, _, rfl, _, rfl, a, _, rfl, hT3, ?_, fun p1 h1 => ?_⟩
        · rw [ek, HT.sIx_nat]
          intro e
          have := e.2
          omega
        rw [ek]
        have s1 := same_upd h1 (.tup (cutV vs none (some ((k + 1 : Nat) : Int))))
        obtain ⟨y, ey, hy⟩ := L3.get (List.getElem?_eq_getElem hk)
        have yt : Tm y := by
          rw [ets] at ey
          exact mem_TmL hTr y (List.mem_of_getElem? (by simpa using ey))
        have cc : cntL ts = cntL (ts.take (k + 1)) + cnt y + cntL (ts.drop (k + 2)) := cntL_cut ey
        have hat : atI vs ((k + 1 : Nat) : Int) = some vs[k + 1] := atI_nat (List.getElem?_eq_getElem hk)
        refine ⟨_, rfl, _, rfl, _, rfl, _, rfl, a, _, _, _, rfl, rfl, .inl (.inl (s1 _ _ ea3)), ?_, d, sa, m, mk, _, y, rfl, D3.same s1, M3.same s1, hy.same s1, yt, by omega, by omega, fun v' t' H4 hv hc x4 D4 => ?_⟩
        · rw [ek]; exact hat
        refine ⟨(by show 1 ≤ sizeLine; decide), fun p2 h2 => ?_⟩
        have x14 := (Ex.of (d := d) s1).trans x4
        have e1 := x4.keep upd_same (D3.same s1).lst (fun _ z => by cases z)
        have ea4 := x14.keep ea3 D3.lst (fun _ z => by cases z)
        have L4 := L3.ex x14 D3.lst
        have s2 := same_upd h2 (.tup [v'])
        have cl1 := cutV_length vs none (some ((k + 1 : Nat) : Int))
        have cl2 := cutV_length vs (some ((k + 2 : Nat) : Int)) none
        have f1 : cutV vs none (some ((k + 1 : Nat) : Int)) = vs.take (k + 1) := cut_to _ (by omega)
        have f2 : cutV vs (some ((k + 2 : Nat) : Int)) none = vs.drop (k + 2) := cut_from _ (by omega)
        have v100 : vs.length ≤ 100 := by omega
        refine ⟨p1, p2, _, _, rfl, rfl, .inl (.inl (s2 _ _ e1)), .inl (.inl upd_same), ?_, ?_, fun e => by simp at e, fun _ p3 h3 => ?_⟩
        · rw [f1]; intro e
          have hh := congrArg List.length e
          rw [List.length_take, List.length_nil] at hh
          omega
        · rw [List.length_singleton]; exact Nat.le_of_lt (small1000 (by omega))
        have s3 := same_upd h3 (.tup (cutV vs none (some ((k + 1 : Nat) : Int)) ++ [v']))
        refine ⟨_, rfl, _, rfl, _, _, rfl, rfl, _, rfl, a, _, rfl, .inl (.inl (s3 _ _ (s2 _ _ ea4))), ?_, fun p4 h4 => ?_⟩
        · rw [ek2, HT.sIx_nat]
          intro e
          have := e.1
          omega
        rw [ek2]
        have s4 := same_upd h4 (.tup (cutV vs (some ((k + 2 : Nat) : Int)) none))
        have base : IsL H4 (cutV vs none (some ((k + 1 : Nat) : Int)) ++ [v']) (ts.take (k + 1) ++ [t']) := by
          rw [f1]
          exact (L4.take _).append (.cons hv .nil)
        have s234 := (s2.trans s3).trans s4
        have cb : cntL (ts.take (k + 1) ++ [t']) + cntL (ts.drop (k + 2)) ≤ cntL ts + 3 := by
          have a1 := cntL_append (ts.take (k + 1)) [t']
          have a2 : cntL [t'] = cnt t' := by simp [cntL]
          omega
        refine ⟨p3, p4, _, _, rfl, rfl, .inl (.inl (s4 _ _ upd_same)), .inl (.inl upd_same), by simp, ?_, fun e => ?_, fun _ p5 h5 => ?_⟩
        · rw [List.length_append, List.length_singleton]; exact Nat.le_of_lt (small1000 (by omega))
        · refine q _ (.tup (ts.take (k + 1) ++ [t'])) _ (.tup (s4 _ _ upd_same) (base.same s234)) ?_ ((x12.trans x3).trans (x14.trans (.of s234))) (D4.same s234)
          rw [cnt_eq, cnt_eq]; omega
        · have s5 := same_upd h5 (.tup (cutV vs none (some ((k + 1 : Nat) : Int)) ++ [v'] ++ cutV vs (some ((k + 2 : Nat) : Int)) none))
          have s25 := s234.trans s5
          refine q _ (.tup (ts.take (k + 1) ++ [t'] ++ ts.drop (k + 2))) _ (.tup upd_same ((base.append ?_).same s25)) ?_ ((x12.trans x3).trans (x14.trans (.of s25))) (D4.same s25)
          · rw [f2]; exact L4.drop _
          · rw [cnt_eq, cnt_eq, cntL_append]; omega
end
end Kx
namespace Kx
open PySem PySem.Spec PyProof.Rows L2
section
variable {P : Program} {w : World} {K : PySem.W.Frag} {mg : Str → Option Value} {base : Heap}
theorem val_look (mk : List (Str × Int)) (z : Str) : valV (mk.map fun kv => ((Sum.inr kv.1 : Key), V.int kv.2)) (Sum.inr z) = (look mk z).map V.int := by
  induction mk with
  | nil => rfl
  | cons kv r ih =>
    rw [List.map_cons]
    by_cases h : kv.1 = z
    · rw [valV_pos (by rw [h])]
      simp [look, h]
    · rw [valV_neg (by intro e; exact h (Sum.inr.inj e)), ih]
      simp [look, h]
theorem merge_mk : ∀ (mk : List (Str × Int)) (acc : List (Key × V)), (acc.map (·.1) ++ mk.map fun kv => (Sum.inr kv.1 : Key)).Nodup → mergeK acc (mk.map fun kv => ((Sum.inr kv.1 : Key), V.int kv.2)) = acc ++ mk.map fun kv => ((Sum.inr kv.1 : Key), V.int kv.2)
  | [], acc, _ => by simp [mergeK]
  | kv :: r, acc, h => by
    have hn : valV acc (Sum.inr kv.1) = none := by
      cases e : valV acc (Sum.inr kv.1) with
      | none => rfl
      | some v =>
        exfalso
        have m := valV_in e
        rw [List.map_cons] at h
        exact (List.nodup_append.mp h).2.2 _ m _ (List.mem_cons_self ..) rfl
    have ih := merge_mk r (acc ++ [((Sum.inr kv.1 : Key), V.int kv.2)]) (by
      rw [List.map_append, List.append_assoc]
      exact h)
    show mergeK (putK acc (Sum.inr kv.1) (.int kv.2)) (r.map fun kv => ((Sum.inr kv.1 : Key), V.int kv.2)) = _
    rw [putK_new _ hn, ih, List.append_assoc]
    rfl
theorem merge_nil {mk : List (Str × Int)} (h : (mk.map (·.1)).Nodup) : mergeK [] (mk.map fun kv => ((Sum.inr kv.1 : Key), V.int kv.2)) = mk.map fun kv => ((Sum.inr kv.1 : Key), V.int kv.2) := by
  have e : (mk.map fun kv => (Sum.inr kv.1 : Key)) = (mk.map (·.1)).map Sum.inr := by simp
  have n : ((([] : List (Key × V)).map (·.1)) ++ mk.map fun kv => (Sum.inr kv.1 : Key)).Nodup := by
    rw [e]
    exact List.Pairwise.map _ (fun a b (q : a ≠ b) (z : (Sum.inr a : Key) = Sum.inr b) => q (Sum.inr.inj z)) h
  exact merge_mk mk [] n
theorem ok_law_told (T : Txt K mg)  : FnOk P w K mg base CX0 1 T.a_law_told T.d_law_told ["actual", "due"] spTold := by
  refine T.F_law_told.ok sc_law_told (fun vs H Q E h => ?_) (fun cdv A outer s H vs Q E hr h => ?_)
  · obtain ⟨a, b, rfl, _⟩ := h; rfl
  · obtain ⟨a, b, rfl, q⟩ := h
    refine ⟨_, (pss_one (ps_ret (pe_and (pe_callB call_isi (by rfl) T.z_isinstance (by decide +kernel) (pa_cons (pv 0) (pa_cons (pe_bltn rfl T.z_bool (by decide +kernel) (show RelV (V.ty "bool") (Value.type "bool") from rfl)) pa_nil))) (pe_one (pe_cmpR op_eq (pv 0) (pv 1) (nomark _)))))), ?_⟩
    refine ⟨_, rfl, _, _, .type "bool", _, true, rfl, .ty _, .base (.bl a), kit_ty (by decide +kernel), _, rfl, iteT ⟨_, rfl, _, rfl, rfl, ?_⟩⟩
    have e : decide (V.bl a = V.bl b) = (a == b) := by cases a <;> cases b <;> rfl
    rw [e]
    exact q
theorem slice1 {x : V} {vs : List V} : ¬ (HT.sIx (x :: vs).length 0 (some (1 : Int)) = 0 ∧ HT.sIx (x :: vs).length (x :: vs).length none = (x :: vs).length) := by
  intro e
  have h := e.1
  rw [show (1 : Int) = ((1 : Nat) : Int) from rfl, HT.sIx_nat, List.length_cons] at h
  omega
theorem cut1 {x : V} {vs : List V} : cutV (x :: vs) (some (1 : Int)) none = vs := cut_from (k := 1) (x :: vs) (by rw [List.length_cons]; omega)
def spForm (C : Addr) (n : Nat) : Sp := fun vs H Q _ => ∃ (p : Addr) (mk : List (Str × Int)) (v : V) (t : PV) (nm : Bool) (ko : Addr) (H0 : Hp), vs = [.ref p, v, .bl nm, .ref ko] ∧ H0 p = some (.dK (mk.map fun kv => (Sum.inr kv.1, V.int kv.2))) ∧ (mk.map (·.1)).Nodup ∧ mk.length ≤ 5 ∧ Is H0 v t ∧ cnt t ≤ n ∧ cnt t ≤ 100 ∧ Same H0 H ∧ KeptAt C mk nm H0 H ko ∧
  ∀ H', Same H0 H' → Tu H H' → KeptAt C mk nm H0 H' ko → Q (.bl (form mk nm t)) H'
theorem ok_has_form {n : Nat} (T : Txt K mg) (G_has_form : FnOk P w K mg base CX0 (n+1) T.a_has_form T.d_has_form ["parts_by_word", "value", "may_have_names", "kept"] (spForm T.c_Kept n)) (G_Kept_pair_of : FnOk P w K mg base CX0 1 T.a_Kept_pair_of T.d_Kept_pair_of ["self", "tree"] (spKPair T.c_Kept)) (G_Kept_keep : FnOk P w K mg base CX0 1 T.a_Kept_keep T.d_Kept_keep ["self", "tree", "result"] (spKKeep T.c_Kept)) : FnOk P w K mg base CX0 (n+2) T.a_has_form T.d_has_form ["parts_by_word", "value", "may_have_names", "kept"] (spForm T.c_Kept (n+1)) := by
  refine T.F_has_form.ok sc_has_form (fun vs H Q E h => ?_) (fun cdv A outer s H vs Q E hr h => ?_)
  · obtain ⟨p, mk, v, t, nm, ko, H0, rfl, _⟩ := h; rfl
  · obtain ⟨p, mk, v, t, nm, ko, H0, rfl, hP0, nd, m5, hI0, hn, h100, s0, hK, q⟩ := h
    have hu := hu_of hr
    have hr_has_form := hr
    have hr_Kept_pair_of : Room 1 _ := hr.mono (by omega)
    have hr_Kept_keep : Room 1 _ := hr.mono (by omega)
    have hI := hI0.same s0
    have hP := s0 _ _ hP0
    have q0 := fun b (e : form mk nm t = b) => e ▸ q H s0 (.refl _) hK
    refine ⟨_, (pss_cons (ps_if (pt_val (pe_callB call_isi (by rfl) T.z_isinstance (by decide +kernel) (pa_cons (pv 1) (pa_cons (pe_bltn rfl T.z_str (by decide +kernel) (show RelV (V.ty "str") (Value.type "str") from rfl)) pa_nil)))) (pss_one (ps_ret (pe_and (pv 2) (pe_one (pe_cmp (pc_dnotin hu (pv 1) (pv 0)) rfl))))) pss_nil)
    (pss_cons (ps_if (PW.pt (pw_or (pt_not (pt_val (pe_callB call_isi (by rfl) T.z_isinstance (by decide +kernel) (pa_cons (pv 1) (pa_cons (pe_bltn rfl T.z_tuple (by decide +kernel) (show RelV (V.ty "tuple") (Value.type "tuple") from rfl)) pa_nil))))) (pw_or (pt_not (pt_truth (pv 1) (by intro _; rfl))) (pw_or1 (pt_not (pt_val (pe_callB call_isi (by rfl) T.z_isinstance (by decide +kernel) (pa_cons (pe_ix ix_tup (pv 1) pe_int (fun _ _ => rfl)) (pa_cons (pe_bltn rfl T.z_str (by decide +kernel) (show RelV (V.ty "str") (Value.type "str") from rfl)) pa_nil))))))))) (pss_one (ps_ret pe_bl)) pss_nil)
    (pss_cons (ps_if (pt_cmpR op_ne (pe_dget2 hu (pv 0) (pe_ix ix_tup (pv 1) pe_int (fun _ _ => rfl)) (pe_un un_neg pe_int) ⟨rfl, rfl, rfl, rfl⟩) (pe_op op_sub (pe_callB call_len_seq (by rfl) T.z_len (by decide +kernel) (pa_cons (pv 1) pa_nil)) pe_int) (nomark _)) (pss_one (ps_ret pe_bl)) pss_nil)
    (pss_cons (ps_if (pt_cmpR op_notN (pe_meth (pv 3) T.cl_Kept T.me_Kept_pair_of G_Kept_pair_of hr_Kept_pair_of T.b_Kept_pair_of .nil pass0 (pa_cons (pv 1) pa_nil)) pe_non (nomark _)) (pss_one (ps_ret pe_bl)) pss_nil)
    (pss_cons (ps_for PassesOwn.never rfl (pi_tup (pe_slice sl_tup (pv 1) (po_some pe_int) po_none)) (pg_name (i := 4) sc_has_form.nd rfl (Or.inl rfl))
    (pss_one (ps_if (pt_not (pt_val (pe_call G_has_form hr_has_form rfl T.m_has_form T.F_has_form.kp T.b_has_form .nil pass0 (pa_cons (pv 0) (pa_cons (pv 4) (pa_cons (pv 2) (pa_cons (pv 3) pa_nil))))))) (pss_one (ps_ret pe_bl)) pss_nil)))
    (pss_cons (ps_expr (pe_meth (pv 3) T.cl_Kept T.me_Kept_keep G_Kept_keep hr_Kept_keep T.b_Kept_keep .nil pass0 (pa_cons (pv 1) (pa_cons pe_bl pa_nil))))
    (pss_one (ps_ret pe_bl)))))))), ?_⟩
    obtain ⟨u, ty, kt⟩ := hI.ty (K := K)
    refine ⟨_, rfl, _, _, u, _, _, rfl, .ty _, ty, kit_str kt, _, rfl, ite2 (fun c => ?_) (fun c => ?_)⟩
    · cases t with
      | oth => cases c
      | tup ts => cases c
      | str z =>
      cases hI.str_inv
      refine ⟨_, rfl, nm, rfl, ?_⟩
      cases nm with
      | false => exact iteF (q0 _ rfl)
      | true =>
        refine iteT ⟨_, rfl, _, rfl, p, _, rfl, DGet.k (k := Sum.inr z) hP, ?_⟩
        rw [val_look]
        have e : form mk true (.str z) = (!((look mk z).map V.int).isSome) := by
          simp only [form]
          cases look mk z <;> rfl
        exact q0 _ e
    · refine ⟨_, rfl, _, _, u, _, _, rfl, .ty _, ty, kit_tup kt, _, rfl, ?_⟩
      cases t with
      | str z => exact absurd rfl c
      | oth => exact iteT (iteT (q0 _ rfl))
      | tup ts =>
      obtain ⟨a, vs, rfl, ea0, hL0⟩ := hI0.tup_inv
      have ea := s0 _ _ ea0
      refine iteF ⟨_, rfl, _, .inr (.inl ⟨_, .inl (.inl ea), rfl⟩), ?_⟩
      cases hL0 with
      | nil => exact iteT (iteT (q0 _ rfl))
      | @cons x0 vs t0 ts h0 hL =>
      refine iteF ⟨_, rfl, a, _, _, _, rfl, rfl, .inl (.inl ea), atI_nat (j := 0) rfl, ?_⟩
      obtain ⟨u0, ty0, kt0⟩ := (h0.same s0).ty (K := K)
      refine ⟨_, _, u0, _, _, rfl, .ty _, ty0, kit_str kt0, _, rfl, ?_⟩
      cases t0 with
      | oth => exact iteT (q0 _ rfl)
      | tup _ => exact iteT (q0 _ rfl)
      | str w0 =>
      cases h0.str_inv
      have hlen := hL.len
      refine iteF ?_
      have hget : DGet H p (.str w0) ((look mk w0).map V.int) := by
        rw [← val_look]
        exact DGet.k (k := Sum.inr w0) hP
      refine ⟨_, rfl, p, rfl, .inl ⟨_, .of hP⟩, _, rfl, a, _, _, _, rfl, rfl, .inl (.inl ea), atI_nat (j := 0) rfl, _, rfl, (look mk w0).map V.int, hget, ?_⟩
      refine ⟨_, rfl, a, _, rfl, .inr (.inl (.inl ea)), _, _, rfl, rfl, ?_⟩
      have scl : scal (((look mk w0).map V.int).getD (.int (-1))) (.int ((((V.str w0 :: vs).length : Nat) : Int) - 1)) = true := by
        cases look mk w0 <;> rfl
      refine ⟨scl, _, rfl, ?_⟩
      have cmp : (!decide ((((look mk w0).map V.int).getD (.int (-1))) = .int ((((V.str w0 :: vs).length : Nat) : Int) - 1))) = !(look mk w0 == some (ts.length : Int)) := by
        have e : ((((V.str w0 :: vs).length : Nat) : Int) - 1) = (ts.length : Int) := by rw [List.length_cons, hlen]; omega
        rw [e]
        congr 1
        cases hlk : look mk w0 with
        | none =>
          show decide (V.int (-1) = V.int (ts.length : Int)) = false
          rw [dec_int]
          exact beq_eq_false_iff_ne.mpr (by omega)
        | some i =>
          show decide (V.int i = V.int (ts.length : Int)) = _
          rw [dec_int]
          rfl
      rw [cmp]
      cases hk : (look mk w0 == some (ts.length : Int)) with
      | false =>
        have e : form mk nm (.tup (.str w0 :: ts)) = false := by simp only [form, hk, Bool.false_and]
        exact iteT (q0 _ e)
      | true =>
      have ef : form mk nm (.tup (.str w0 :: ts)) = ts.all (form mk nm) := by simp only [form, hk, Bool.true_and, formL_all]
      have cN : cnt (.tup (.str w0 :: ts)) = 2 + cntL ts := by simp only [cnt, cntL]; omega
      -- kept.pair_of(value) is not None
      refine iteF ?_
      obtain ⟨dx, d, kvs, h1, _⟩ := id hK
      refine ⟨_, rfl, ko, dx, _, rfl, h1, rfl, _, rfl, ko, a, w0, vs, ts, mk, nm, H0, rfl, s0, hK, ea0, hI0, fun e he => ?_⟩
      have se := same_upd he (.lst [])
      have sK := hK.same se
      have s0e := s0.trans se
      refine ⟨⟨rfl, _, rfl, ?_⟩, fun hf pp => ⟨rfl, _, rfl, iteT (hf ▸ q _ s0e (.of se) sK)⟩⟩
      have ea1 := se _ _ ea
      refine iteF ⟨_, rfl, _, rfl, a, _, rfl, .inl (.inl ea1), slice1, fun p1 hp1 => ?_⟩
      rw [cut1]
      have s1 := same_upd hp1 (.tup vs)
      have s01 := s0e.trans s1
      have t01 : Tu H _ := (Tu.of se).trans (.of s1)
      refine ⟨p1, rfl, ⟨_, .inl (.inl upd_same)⟩, ?_⟩
      refine for_tup (K := K) (a := p1) (xs := vs) (fun i σ H2 => ∃ y3, σ = [some (.ref p), some (.ref a), some (.bl nm), some (.ref ko), y3] ∧ Same H0 H2 ∧ Tu (upd (upd H e (.lst [])) p1 (.tup vs)) H2 ∧ KeptAt T.c_Kept mk nm H0 H2 ko ∧ (ts.take i).all (form mk nm) = true) ?_ ?_ ?_ ?_
      · exact ⟨_, rfl, s01, .refl _, sK.same s1, rfl⟩
      · exact fun i σ H2 _ ⟨_, _, _, tu, _⟩ => .inl (.inl (tu _ _ upd_same (fun _ z => by cases z) (fun _ z => by cases z)))
      · intro i x σ H2 hx ⟨y3, es, sm, tu, k2, hall⟩
        subst es
        obtain ⟨y, ey, hy⟩ := hL.get hx
        have hm := List.mem_of_getElem? ey
        have cy := cntL_mem hm
        refine ⟨_, rfl, _, rfl, _, rfl, _, rfl, p, mk, x, y, nm, ko, H0, rfl, hP0, nd, m5, hy, by omega, by omega, sm, k2, fun H3 s3 t3 k3 => ?_⟩
        refine ⟨_, rfl, ?_⟩
        cases hf : form mk nm y with
        | false =>
          have e : form mk nm (.tup (.str w0 :: ts)) = false := by
            rw [ef, List.all_eq_false]
            exact ⟨y, hm, by rw [hf]; exact Bool.false_ne_true⟩
          exact iteT (e ▸ q H3 s3 ((t01.trans tu).trans t3) k3)
        | true =>
          refine iteF ⟨_, rfl, s3, tu.trans t3, k3, ?_⟩
          have hi := (List.getElem?_eq_some_iff.mp ey)
          obtain ⟨hi, ey2⟩ := hi
          rw [List.take_succ_eq_append_getElem hi, List.all_append, hall, ey2]
          simp [hf]
      · intro σ H2 ⟨y3, es, sm, tu, k2, hall⟩
        subst es
        rw [hlen, List.take_length] at hall
        have e : form mk nm (.tup (.str w0 :: ts)) = true := ef.trans hall
        obtain ⟨dx2, d2, kvs2, g1, _⟩ := id k2
        refine ⟨_, rfl, ko, dx2, _, rfl, g1, rfl, _, rfl, ko, a, w0, vs, ts, mk, nm, H0, rfl, sm, k2, m5, ea0, hI0, e, by omega, fun H3 s3 t3 k3 => ?_⟩
        exact e ▸ q H3 s3 ((t01.trans tu).trans t3) k3
theorem pk_of {H : Hp} : ∀ {ps : List Addr} {mk : List (Str × Int)}, Paired (fun p kv => H p = some (.tup (mkV kv))) ps mk → Paired (fun p kv => SqT K H p [kV kv.1, kv.2]) ps (mk.map fun kv => ((Sum.inr kv.1 : Key), V.int kv.2))
  | _, _, .nil => .nil
  | _, _, .cons a t => .cons (.inl (.inl a)) (pk_of t)
theorem ok_is_term {n k : Nat} (T : Txt K mg) (G_has_form : FnOk P w K mg base CX0 (k+2) T.a_has_form T.d_has_form ["parts_by_word", "value", "may_have_names", "kept"] (spForm T.c_Kept n)) (G_Kept_init : FnOk P w K mg base CX0 1 T.a_Kept_init T.d_Kept_init ["self"] (spKInit T.c_Kept)) : FnOk P w K mg base CX0 (k+3) T.a_is_term T.d_is_term ["makers", "value"] (spIs true n) := by
  refine T.F_is_term.ok sc_is_term (fun vs H Q E h => ?_) (fun cdv A outer s H vs Q E hr h => ?_)
  · obtain ⟨m, mk, v, t, rfl, _⟩ := h; rfl
  · obtain ⟨m, mk, v, t, rfl, hM, hI, hn, h100, q⟩ := h
    have hr_has_form := hr
    have hr_Kept_init : Room 2 _ := hr.mono (by omega)
    refine ⟨_, (pss_one (ps_ret (pe_call G_has_form hr_has_form rfl T.m_has_form T.F_has_form.kp T.b_has_form .nil pass0 (pa_cons (pe_callTy (call_dictT rfl) (by rfl) T.z_dict (by decide +kernel) (pa_cons (pv 0) pa_nil)) (pa_cons (pv 1) (pa_cons pe_bl (pa_cons (pe_make0 T.mk_Kept G_Kept_init hr_Kept_init rfl T.mg_Kept T.b_Kept_init .nil pass0) pa_nil))))))), ?_⟩
    obtain ⟨⟨o, ps, em, od, pp⟩, ok⟩ := hM
    have pk : Paired (fun p kv => SqT K H p [kV kv.1, kv.2]) ps (mk.map fun kv => ((Sum.inr kv.1 : Key), V.int kv.2)) := by
      exact pk_of pp
    refine ⟨_, rfl, m, o, ps, _, rfl, em, od, pk, fun p hp => ?_⟩
    rw [merge_nil ok.nd]
    have s := same_upd hp (.dK (mk.map fun kv => ((Sum.inr kv.1 : Key), V.int kv.2)))
    generalize hH0 : upd H p (.dK (mk.map fun kv => ((Sum.inr kv.1 : Key), V.int kv.2))) = H0 at s
    have eP : H0 p = some (.dK (mk.map fun kv => ((Sum.inr kv.1 : Key), V.int kv.2))) := by rw [← hH0]; exact upd_same
    refine ⟨_, rfl, fun x dx hx hdx ndx => ?_⟩
    refine ⟨x, dx, rfl, upd_same, fun d hd => ⟨rfl, ?_⟩⟩
    have z1 : Same H0 (upd H0 dx (.own x)) := same_upd hdx _
    have z2 : Same H0 (upd (upd H0 dx (.own x)) x (.ins T.c_Kept dx [])) := Kx.Same.own z1 hx _
    have hd0 : H0 d = none := z2.free hd
    have z3 : Same H0 (upd (upd (upd H0 dx (.own x)) x (.ins T.c_Kept dx [])) d (.dK [])) := z2.trans (same_upd hd _)
    have z4 : Same H0 (upd (upd (upd (upd H0 dx (.own x)) x (.ins T.c_Kept dx [])) d (.dK [])) x (.ins T.c_Kept dx [("rows", .ref d)])) := Kx.Same.own z3 hx _
    have ndx2 : d ≠ x := fun e => by subst e; rw [upd_same] at hd; cases hd
    have kH : KeptAt T.c_Kept mk true H0 (upd (upd (upd (upd H0 dx (.own x)) x (.ins T.c_Kept dx [])) d (.dK [])) x (.ins T.c_Kept dx [("rows", .ref d)])) x :=
      ⟨dx, d, [], upd_same, by rw [upd_ne ndx2, upd_same], hd0, List.nodup_nil, fun kv m => absurd m (by simp)⟩
    exact ⟨p, mk, v, t, true, x, H0, rfl, eP, ok.nd, ok.len, hI.same s, hn, h100, z4, kH, fun H' s' _ _ => q H' (s.trans s')⟩
theorem ok_is_tree {n k : Nat} (T : Txt K mg) (G_has_form : FnOk P w K mg base CX0 (k+2) T.a_has_form T.d_has_form ["parts_by_word", "value", "may_have_names", "kept"] (spForm T.c_Kept n)) (G_Kept_init : FnOk P w K mg base CX0 1 T.a_Kept_init T.d_Kept_init ["self"] (spKInit T.c_Kept)) : FnOk P w K mg base CX0 (k+3) T.a_is_tree T.d_is_tree ["makers", "value"] (spIs false n) := by
  refine T.F_is_tree.ok sc_is_tree (fun vs H Q E h => ?_) (fun cdv A outer s H vs Q E hr h => ?_)
  · obtain ⟨m, mk, v, t, rfl, _⟩ := h; rfl
  · obtain ⟨m, mk, v, t, rfl, hM, hI, hn, h100, q⟩ := h
    have hr_has_form := hr
    have hr_Kept_init : Room 2 _ := hr.mono (by omega)
    refine ⟨_, (pss_one (ps_ret (pe_call G_has_form hr_has_form rfl T.m_has_form T.F_has_form.kp T.b_has_form .nil pass0 (pa_cons (pe_callTy (call_dictT rfl) (by rfl) T.z_dict (by decide +kernel) (pa_cons (pv 0) pa_nil)) (pa_cons (pv 1) (pa_cons pe_bl (pa_cons (pe_make0 T.mk_Kept G_Kept_init hr_Kept_init rfl T.mg_Kept T.b_Kept_init .nil pass0) pa_nil))))))), ?_⟩
    obtain ⟨⟨o, ps, em, od, pp⟩, ok⟩ := hM
    have pk : Paired (fun p kv => SqT K H p [kV kv.1, kv.2]) ps (mk.map fun kv => ((Sum.inr kv.1 : Key), V.int kv.2)) := by
      exact pk_of pp
    refine ⟨_, rfl, m, o, ps, _, rfl, em, od, pk, fun p hp => ?_⟩
    rw [merge_nil ok.nd]
    have s := same_upd hp (.dK (mk.map fun kv => ((Sum.inr kv.1 : Key), V.int kv.2)))
    generalize hH0 : upd H p (.dK (mk.map fun kv => ((Sum.inr kv.1 : Key), V.int kv.2))) = H0 at s
    have eP : H0 p = some (.dK (mk.map fun kv => ((Sum.inr kv.1 : Key), V.int kv.2))) := by rw [← hH0]; exact upd_same
    refine ⟨_, rfl, fun x dx hx hdx ndx => ?_⟩
    refine ⟨x, dx, rfl, upd_same, fun d hd => ⟨rfl, ?_⟩⟩
    have z1 : Same H0 (upd H0 dx (.own x)) := same_upd hdx _
    have z2 : Same H0 (upd (upd H0 dx (.own x)) x (.ins T.c_Kept dx [])) := Kx.Same.own z1 hx _
    have hd0 : H0 d = none := z2.free hd
    have z3 : Same H0 (upd (upd (upd H0 dx (.own x)) x (.ins T.c_Kept dx [])) d (.dK [])) := z2.trans (same_upd hd _)
    have z4 : Same H0 (upd (upd (upd (upd H0 dx (.own x)) x (.ins T.c_Kept dx [])) d (.dK [])) x (.ins T.c_Kept dx [("rows", .ref d)])) := Kx.Same.own z3 hx _
    have ndx2 : d ≠ x := fun e => by subst e; rw [upd_same] at hd; cases hd
    have kH : KeptAt T.c_Kept mk false H0 (upd (upd (upd (upd H0 dx (.own x)) x (.ins T.c_Kept dx [])) d (.dK [])) x (.ins T.c_Kept dx [("rows", .ref d)])) x :=
      ⟨dx, d, [], upd_same, by rw [upd_ne ndx2, upd_same], hd0, List.nodup_nil, fun kv m => absurd m (by simp)⟩
    exact ⟨p, mk, v, t, false, x, H0, rfl, eP, ok.nd, ok.len, hI.same s, hn, h100, z4, kH, fun H' s' _ _ => q H' (s.trans s')⟩
end
end Kx
namespace Kx
open PySem PySem.Spec PyProof.Rows L2
section
variable {P : Program} {w : World} {K : PySem.W.Frag} {mg : Str → Option Value} {base : Heap}
theorem tm_tup_inv {H : Hp} {v : V} {t : PV} (hI : Is H v t) (hT : Tm t) (c : isStr t = false) : ∃ a w vs ts, v = .ref a ∧ t = .tup (.str w :: ts) ∧ H a = some (.tup (.str w :: vs)) ∧ IsL H vs ts ∧ TmL ts := by
  cases t with
  | str z => cases c
  | oth => exact absurd hT (by simp [Tm])
  | tup l =>
    obtain ⟨a, vs, rfl, ea, hL⟩ := hI.tup_inv
    obtain ⟨w, ts, rfl, h⟩ := tm_inv hT
    cases hL with
    | cons h0 hL =>
      cases h0.str_inv
      exact ⟨a, w, _, ts, rfl, rfl, ea, hL, h⟩
theorem sizL_take {ts : List PV} {i : Nat} {y : PV} (h : ts[i]? = some y) : sizL (ts.take (i + 1)) = sizL (ts.take i) + siz y := by
  obtain ⟨hi, e⟩ := List.getElem?_eq_some_iff.mp h
  rw [List.take_succ_eq_append_getElem hi, e]
  have app : ∀ a b : List PV, sizL (a ++ b) = sizL a + sizL b := by
    intro a
    induction a with
    | nil => intro b; simp [sizL]
    | cons x r ih => intro b; simp only [List.cons_append, sizL, ih]; omega
  rw [app]
  simp [sizL]
theorem dptL_take {ts : List PV} {i : Nat} {y : PV} (h : ts[i]? = some y) : dptL (ts.take (i + 1)) = max (dptL (ts.take i)) (dpt y) := by
  obtain ⟨hi, e⟩ := List.getElem?_eq_some_iff.mp h
  rw [List.take_succ_eq_append_getElem hi, e]
  have app : ∀ a b : List PV, dptL (a ++ b) = max (dptL a) (dptL b) := by
    intro a
    induction a with
    | nil => intro b; simp [dptL]
    | cons x r ih => intro b; simp only [List.cons_append, dptL, ih]; omega
  rw [app]
  simp [dptL]
theorem cnt_cons (w : Str) (ts : List PV) : cnt (.tup (.str w :: ts)) = 2 + cntL ts := by simp only [cnt, cntL]; omega
theorem ok_size {n : Nat} (T : Txt K mg) (G_size : FnOk P w K mg base CX0 (n+1) T.a_size T.d_size ["term"] (spNat siz n)) : FnOk P w K mg base CX0 (n+2) T.a_size T.d_size ["term"] (spNat siz (n+1)) := by
  refine T.F_size.ok sc_size (fun vs H Q E h => ?_) (fun cdv A outer s H vs Q E hr h => ?_)
  · obtain ⟨v, t, rfl, _⟩ := h; rfl
  · obtain ⟨v, t, rfl, hI, hT, hn, h100, q⟩ := h
    have hr_size := hr
    refine ⟨_, (pss_cons (ps_if (pt_val (pe_callB call_isi (by rfl) T.z_isinstance (by decide +kernel) (pa_cons (pv 0) (pa_cons (pe_bltn rfl T.z_str (by decide +kernel) (show RelV (V.ty "str") (Value.type "str") from rfl)) pa_nil)))) (pss_one (ps_ret pe_int)) pss_nil)
    (pss_cons (ps_set (i := 1) sc_size.nd rfl (Or.inl rfl) pe_int)
    (pss_cons (ps_for PassesOwn.never rfl (pi_tup (pe_slice sl_tup (pv 0) (po_some pe_int) po_none)) (pg_name (i := 2) sc_size.nd rfl (Or.inl rfl))
    (pss_one (ps_aug (i := 1) sc_size.nd rfl (Or.inl rfl) (pe_call G_size hr_size rfl T.m_size T.F_size.kp T.b_size .nil pass0 (pa_cons (pv 2) pa_nil)) ip_add)))
    (pss_one (ps_ret (pv 1)))))), ?_⟩
    obtain ⟨u, ty, kt⟩ := hI.ty (K := K)
    refine ⟨_, rfl, _, _, u, _, _, rfl, .ty _, ty, kit_str kt, _, rfl, ite2 (fun c => ?_) (fun c => ?_)⟩
    · cases t with
      | oth => cases c
      | tup ts => cases c
      | str z => exact q H (.refl _)
    · obtain ⟨a, w, vs, ts, rfl, rfl, ea, hL, hTl⟩ := tm_tup_inv hI hT (Bool.eq_false_iff.mpr c)
      have hlen := hL.len
      rw [cnt_cons] at hn h100
      refine ⟨_, rfl, _, rfl, a, _, rfl, .inl (.inl ea), slice1, fun p1 h1 => ?_⟩
      rw [cut1]
      have s1 := same_upd h1 (.tup vs)
      refine ⟨p1, rfl, ⟨_, .inl (.inl upd_same)⟩, ?_⟩
      refine for_tup (K := K) (a := p1) (xs := vs) (fun i σ H2 => ∃ y3, σ = [some (.ref a), some (.int ((1 + sizL (ts.take i) : Nat) : Int)), y3] ∧ Same (upd H p1 (.tup vs)) H2) ?_ ?_ ?_ ?_
      · exact ⟨_, rfl, .refl _⟩
      · exact fun i σ H2 _ ⟨_, _, sm⟩ => .inl (.inl (sm _ _ upd_same))
      · intro i x σ H2 hx ⟨y3, es, sm⟩
        subst es
        obtain ⟨y, ey, hy⟩ := hL.get hx
        have hm := List.mem_of_getElem? ey
        have cy := cntL_mem hm
        have s12 := s1.trans sm
        refine ⟨_, rfl, _, rfl, x, y, rfl, hy.same s12, mem_TmL hTl y hm, by omega, by omega, fun H3 s3 => ?_⟩
        refine ⟨_, _, rfl, rfl, some x, ?_, sm.trans s3⟩
        rw [sizL_take ey]
        show [some (V.ref a), some (V.int (((1 + sizL (ts.take i) : Nat) : Int) + (siz y : Int))), some x] = _
        have e : (((1 + sizL (ts.take i) : Nat) : Int) + (siz y : Int)) = ((1 + (sizL (ts.take i) + siz y) : Nat) : Int) := by omega
        rw [e]
      · intro σ H2 ⟨y3, es, sm⟩
        subst es
        rw [hlen, List.take_length]
        exact ⟨_, rfl, q H2 (s1.trans sm)⟩
theorem ok_depth {n : Nat} (T : Txt K mg) (G_depth : FnOk P w K mg base CX0 (n+1) T.a_depth T.d_depth ["term"] (spNat dpt n)) : FnOk P w K mg base CX0 (n+2) T.a_depth T.d_depth ["term"] (spNat dpt (n+1)) := by
  refine T.F_depth.ok sc_depth (fun vs H Q E h => ?_) (fun cdv A outer s H vs Q E hr h => ?_)
  · obtain ⟨v, t, rfl, _⟩ := h; rfl
  · obtain ⟨v, t, rfl, hI, hT, hn, h100, q⟩ := h
    have hr_depth := hr
    refine ⟨_, (pss_cons (ps_if (pt_val (pe_callB call_isi (by rfl) T.z_isinstance (by decide +kernel) (pa_cons (pv 0) (pa_cons (pe_bltn rfl T.z_str (by decide +kernel) (show RelV (V.ty "str") (Value.type "str") from rfl)) pa_nil)))) (pss_one (ps_ret pe_int)) pss_nil)
    (pss_cons (ps_set (i := 1) sc_depth.nd rfl (Or.inl rfl) pe_int)
    (pss_cons (ps_for PassesOwn.never rfl (pi_tup (pe_slice sl_tup (pv 0) (po_some pe_int) po_none)) (pg_name (i := 2) sc_depth.nd rfl (Or.inl rfl))
    (pss_one (ps_set (i := 1) sc_depth.nd rfl (Or.inl rfl) (pe_callB (call_max2 rfl) (by rfl) T.z_max (by decide +kernel) (pa_cons (pv 1) (pa_cons (pe_call G_depth hr_depth rfl T.m_depth T.F_depth.kp T.b_depth .nil pass0 (pa_cons (pv 2) pa_nil)) pa_nil))))))
    (pss_one (ps_ret (pe_op op_add (pv 1) pe_int)))))), ?_⟩
    obtain ⟨u, ty, kt⟩ := hI.ty (K := K)
    refine ⟨_, rfl, _, _, u, _, _, rfl, .ty _, ty, kit_str kt, _, rfl, ite2 (fun c => ?_) (fun c => ?_)⟩
    · cases t with
      | oth => cases c
      | tup ts => cases c
      | str z => exact q H (.refl _)
    · obtain ⟨a, w, vs, ts, rfl, rfl, ea, hL, hTl⟩ := tm_tup_inv hI hT (Bool.eq_false_iff.mpr c)
      have hlen := hL.len
      rw [cnt_cons] at hn h100
      refine ⟨_, rfl, _, rfl, a, _, rfl, .inl (.inl ea), slice1, fun p1 h1 => ?_⟩
      rw [cut1]
      have s1 := same_upd h1 (.tup vs)
      refine ⟨p1, rfl, ⟨_, .inl (.inl upd_same)⟩, ?_⟩
      refine for_tup (K := K) (a := p1) (xs := vs) (fun i σ H2 => ∃ y3, σ = [some (.ref a), some (.int ((dptL (ts.take i) : Nat) : Int)), y3] ∧ Same (upd H p1 (.tup vs)) H2) ?_ ?_ ?_ ?_
      · exact ⟨_, rfl, .refl _⟩
      · exact fun i σ H2 _ ⟨_, _, sm⟩ => .inl (.inl (sm _ _ upd_same))
      · intro i x σ H2 hx ⟨y3, es, sm⟩
        subst es
        obtain ⟨y, ey, hy⟩ := hL.get hx
        have hm := List.mem_of_getElem? ey
        have cy := cntL_mem hm
        have s12 := s1.trans sm
        refine ⟨_, rfl, _, rfl, x, y, rfl, hy.same s12, mem_TmL hTl y hm, by omega, by omega, fun H3 s3 => ?_⟩
        refine ⟨_, _, rfl, some x, ?_, sm.trans s3⟩
        rw [dptL_take ey]
        show [some (V.ref a), some (V.int (if (dpt y : Int) > (dptL (ts.take i) : Int) then (dpt y : Int) else (dptL (ts.take i) : Int))), some x] = _
        have e : (if (dpt y : Int) > (dptL (ts.take i) : Int) then (dpt y : Int) else (dptL (ts.take i) : Int)) = ((max (dptL (ts.take i)) (dpt y) : Nat) : Int) := by
          split <;> omega
        rw [e]
      · intro σ H2 ⟨y3, es, sm⟩
        subst es
        rw [hlen, List.take_length]
        refine ⟨_, rfl, _, _, rfl, rfl, ?_⟩
        have e : ((dptL ts : Nat) : Int) + 1 = ((dpt (.tup (.str w :: ts)) : Nat) : Int) := by simp only [dpt]; omega
        show Q (.int (((dptL ts : Nat) : Int) + 1)) H2
        rw [e]
        exact q H2 (s1.trans sm)
theorem ok_law_size {n : Nat} (T : Txt K mg) (G_law_size : FnOk P w K mg base CX0 (n+1) T.a_law_size T.d_law_size ["term"] (spNat siz n)) : FnOk P w K mg base CX0 (n+2) T.a_law_size T.d_law_size ["term"] (spNat siz (n+1)) := by
  refine T.F_law_size.ok sc_law_size (fun vs H Q E h => ?_) (fun cdv A outer s H vs Q E hr h => ?_)
  · obtain ⟨v, t, rfl, _⟩ := h; rfl
  · obtain ⟨v, t, rfl, hI, hT, hn, h100, q⟩ := h
    have hr_law_size := hr
    refine ⟨_, (pss_cons (ps_if (pt_val (pe_callB call_isi (by rfl) T.z_isinstance (by decide +kernel) (pa_cons (pv 0) (pa_cons (pe_bltn rfl T.z_str (by decide +kernel) (show RelV (V.ty "str") (Value.type "str") from rfl)) pa_nil)))) (pss_one (ps_ret pe_int)) pss_nil)
    (pss_one (ps_ret (pe_op op_add pe_int (pe_callB (cr_sum rfl) (by rfl) T.z_sum (by decide +kernel) (pa_cons (pe_lc (own := [("part", 1)]) (g := (gName 1)) (tt := tYes) rfl sc_law_size.nd (pi_tup (pe_slice sl_tup (pv 0) (po_some pe_int) po_none)) (blkOk_by (own := [("part", 1)]) (N := ["term", "part"]) (sc := defScope s_law_size) (by decide +kernel)) (fun _ _ _ _ _ => (pg_name (i := 1) sc_law_size.nd rfl (Or.inl rfl))) (fun _ _ _ _ _ => pts_nil) (fun _ _ _ _ _ => (pe_call G_law_size hr_law_size rfl T.m_law_size T.F_law_size.kp T.b_law_size .nil pass0 (pa_cons (pv 1) pa_nil)))) pa_nil)))))), ?_⟩
    obtain ⟨u, ty, kt⟩ := hI.ty (K := K)
    refine ⟨_, rfl, _, _, u, _, _, rfl, .ty _, ty, kit_str kt, _, rfl, ite2 (fun c => ?_) (fun c => ?_)⟩
    · cases t with
      | oth => cases c
      | tup ts => cases c
      | str z => exact q H (.refl _)
    · obtain ⟨a, w, vs, ts, rfl, rfl, ea, hL, hTl⟩ := tm_tup_inv hI hT (Bool.eq_false_iff.mpr c)
      have hlen := hL.len
      rw [cnt_cons] at hn h100
      have cl := cntL_len ts
      refine ⟨_, rfl, _, rfl, a, _, rfl, .inl (.inl ea), slice1, fun p1 h1 => ?_⟩
      rw [cut1]
      have s1 := same_upd h1 (.tup vs)
      refine ⟨p1, rfl, ⟨_, .inl (.inl upd_same)⟩, fun D hD => ?_⟩
      refine lc_tup (K := K) (a := p1) (xs := vs) (fun i H2 => Same (upd H p1 (.tup vs)) H2 ∧ ∃ ms : List Int, H2 D = some (.lst (ms.map V.int)) ∧ ms.length = i ∧ ms.sum = (sizL (ts.take i) : Int)) ?_ ?_ ?_ ?_
      · exact ⟨same_upd hD _, [], upd_same, rfl, rfl⟩
      · exact fun i H2 _ ⟨sm, _⟩ => .inl (.inl (sm _ _ upd_same))
      · intro i x H2 hx ⟨sm, ms, eD, lm, sum⟩
        obtain ⟨y, ey, hy⟩ := hL.get hx
        have hm := List.mem_of_getElem? ey
        have hi := (List.getElem?_eq_some_iff.mp ey).1
        have cy := cntL_mem hm
        have s12 := s1.trans sm
        refine ⟨rfl, yes_if ?_⟩
        refine ⟨_, rfl, x, y, rfl, hy.same s12, mem_TmL hTl y hm, by omega, by omega, fun H3 s3 => ?_⟩
        refine ⟨_, s3 _ _ eD, by rw [List.length_map, lm]; exact small1000 (by omega), Kx.Same.own (sm.trans s3) hD _, ms ++ [(siz y : Int)], ?_, by simp [lm], ?_⟩
        · rw [upd_same, List.map_append]; rfl
        · rw [sizL_take ey, List.sum_append, sum]
          simp
      · intro H2 ⟨sm, ms, eD, lm, sum⟩
        rw [hlen, List.take_length] at sum
        refine ⟨D, ms, rfl, SqL.of eD, _, _, rfl, rfl, ?_⟩
        have e : (1 : Int) + ms.sum = ((siz (.tup (.str w :: ts)) : Nat) : Int) := by rw [sum]; simp only [siz]; omega
        show Q (.int ((1 : Int) + ms.sum)) H2
        rw [e]
        exact q H2 (s1.trans sm)
theorem dptL_max : ∀ {ts : List PV} {m : Int}, m ∈ ts.map (fun t => (dpt t : Int)) → (∀ x ∈ ts.map (fun t => (dpt t : Int)), x ≤ m) → m = (dptL ts : Int) := by
  intro ts m hm hle
  have h1 : ∀ l : List PV, (∀ x ∈ l.map (fun t => (dpt t : Int)), x ≤ m) → 0 ≤ m → (dptL l : Int) ≤ m := by
    intro l
    induction l with
    | nil => intro _ h0; simpa [dptL] using h0
    | cons t r ih =>
      intro h h0
      have a := h _ (by rw [List.map_cons]; exact List.mem_cons_self ..)
      have b := ih (fun x hx => h x (by rw [List.map_cons]; exact List.mem_cons_of_mem _ hx)) h0
      simp only [dptL]; omega
  have h2 : ∀ l : List PV, ∀ t ∈ l, dpt t ≤ dptL l := by
    intro l
    induction l with
    | nil => intro t h; simp at h
    | cons a r ih =>
      intro t h
      rcases List.mem_cons.mp h with rfl | h
      · simp only [dptL]; omega
      · have := ih t h
        simp only [dptL]; omega
  obtain ⟨t, ht, rfl⟩ := List.mem_map.mp hm
  have a := h2 ts t ht
  have b := h1 ts hle (by omega)
  omega
theorem ok_law_depth {n : Nat} (T : Txt K mg) (G_law_depth : FnOk P w K mg base CX0 (n+1) T.a_law_depth T.d_law_depth ["term"] (spNat dpt n)) : FnOk P w K mg base CX0 (n+2) T.a_law_depth T.d_law_depth ["term"] (spNat dpt (n+1)) := by
  refine T.F_law_depth.ok sc_law_depth (fun vs H Q E h => ?_) (fun cdv A outer s H vs Q E hr h => ?_)
  · obtain ⟨v, t, rfl, _⟩ := h; rfl
  · obtain ⟨v, t, rfl, hI, hT, hn, h100, q⟩ := h
    have hr_law_depth := hr
    refine ⟨_, (pss_cons (ps_if (PW.pt (pw_or (pt_val (pe_callB call_isi (by rfl) T.z_isinstance (by decide +kernel) (pa_cons (pv 0) (pa_cons (pe_bltn rfl T.z_str (by decide +kernel) (show RelV (V.ty "str") (Value.type "str") from rfl)) pa_nil)))) (pw_or1 (pt_cmpR op_eq (pe_callB call_len_seq (by rfl) T.z_len (by decide +kernel) (pa_cons (pv 0) pa_nil)) pe_int (nomark _))))) (pss_one (ps_ret pe_int)) pss_nil)
    (pss_one (ps_ret (pe_op op_add pe_int (pe_callB (cr_max rfl) (by rfl) T.z_max (by decide +kernel) (pa_cons (pe_lc (own := [("part", 1)]) (g := (gName 1)) (tt := tYes) rfl sc_law_depth.nd (pi_tup (pe_slice sl_tup (pv 0) (po_some pe_int) po_none)) (blkOk_by (own := [("part", 1)]) (N := ["term", "part"]) (sc := defScope s_law_depth) (by decide +kernel)) (fun _ _ _ _ _ => (pg_name (i := 1) sc_law_depth.nd rfl (Or.inl rfl))) (fun _ _ _ _ _ => pts_nil) (fun _ _ _ _ _ => (pe_call G_law_depth hr_law_depth rfl T.m_law_depth T.F_law_depth.kp T.b_law_depth .nil pass0 (pa_cons (pv 1) pa_nil)))) pa_nil)))))), ?_⟩
    obtain ⟨u, ty, kt⟩ := hI.ty (K := K)
    refine ⟨_, rfl, _, _, u, _, _, rfl, .ty _, ty, kit_str kt, _, rfl, ite2 (fun c => ?_) (fun c => ?_)⟩
    · cases t with
      | oth => cases c
      | tup ts => cases c
      | str z => exact iteT (q H (.refl _))
    · obtain ⟨a, w, vs, ts, rfl, rfl, ea, hL, hTl⟩ := tm_tup_inv hI hT (Bool.eq_false_iff.mpr c)
      have hlen := hL.len
      rw [cnt_cons] at hn h100
      have cl := cntL_len ts
      refine ⟨_, rfl, a, _, rfl, .inr (.inl (.inl ea)), rfl, _, rfl, ite2 (fun c1 => ?_) (fun c1 => ?_)⟩
      · have e0 : vs.length = 0 := by
          have h := of_decide_eq_true c1
          have h2 := V.int.inj h
          rw [List.length_cons] at h2
          omega
        have e1 : ts = [] := List.length_eq_zero_iff.mp (by omega)
        subst e1
        exact q H (.refl _)
      · have e1 : 0 < ts.length := by
          rcases Nat.eq_zero_or_pos ts.length with h | h
          · exfalso
            apply c1
            rw [List.length_cons, hlen, h]
            rfl
          · exact h
        refine ⟨_, rfl, _, rfl, a, _, rfl, .inl (.inl ea), slice1, fun p1 h1 => ?_⟩
        rw [cut1]
        have s1 := same_upd h1 (.tup vs)
        refine ⟨p1, rfl, ⟨_, .inl (.inl upd_same)⟩, fun D hD => ?_⟩
        refine lc_tup (K := K) (a := p1) (xs := vs) (fun i H2 => Same (upd H p1 (.tup vs)) H2 ∧ H2 D = some (.lst (((ts.take i).map fun t => (dpt t : Int)).map V.int))) ?_ ?_ ?_ ?_
        · exact ⟨same_upd hD _, upd_same⟩
        · exact fun i H2 _ ⟨sm, _⟩ => .inl (.inl (sm _ _ upd_same))
        · intro i x H2 hx ⟨sm, eD⟩
          obtain ⟨y, ey, hy⟩ := hL.get hx
          have hm := List.mem_of_getElem? ey
          obtain ⟨hi, ey2⟩ := List.getElem?_eq_some_iff.mp ey
          have cy := cntL_mem hm
          have s12 := s1.trans sm
          refine ⟨rfl, yes_if ?_⟩
          refine ⟨_, rfl, x, y, rfl, hy.same s12, mem_TmL hTl y hm, by omega, by omega, fun H3 s3 => ?_⟩
          refine ⟨_, s3 _ _ eD, ?_, Kx.Same.own (sm.trans s3) hD _, ?_⟩
          · rw [List.length_map, List.length_map, List.length_take]
            exact small1000 (by omega)
          · rw [upd_same, List.take_succ_eq_append_getElem hi, List.map_append, List.map_append, ey2]; rfl
        · intro H2 ⟨sm, eD⟩
          rw [hlen, List.take_length] at eD
          refine ⟨D, _, rfl, SqL.of eD, by rw [List.length_map]; exact e1, fun m hm hle => ?_⟩
          refine ⟨_, _, rfl, rfl, ?_⟩
          have e : (1 : Int) + m = ((dpt (.tup (.str w :: ts)) : Nat) : Int) := by rw [dptL_max hm hle]; simp only [dpt]; omega
          show Q (.int ((1 : Int) + m)) H2
          rw [e]
          exact q H2 (s1.trans sm)
end
end Kx
namespace Kx
open PySem PySem.Spec PyProof.Rows L2
section
variable {P : Program} {w : World} {K : PySem.W.Frag} {mg : Str → Option Value} {base : Heap}
theorem inV_str (z : Str) : ∀ f : List Str, inV (.str z) (f.map V.str) = decide (z ∈ f)
  | [] => rfl
  | x :: r => by
    have ih := inV_str z r
    show ((x == z) || inV (.str z) (r.map V.str)) = _
    rw [ih]
    by_cases h : x = z
    · subst h; simp
    · have h2 : ¬ z = x := fun e => h e.symm
      simp [h, h2]
theorem flat_str : ∀ f : List Str, (f.map V.str).all flatV = true
  | [] => rfl
  | _ :: r => flat_str r
theorem ok_names_of {n : Nat} (T : Txt K mg)  : FnOk P w K mg base CX0 1 T.a_names_of T.d_names_of ["term"] (spNames n) := by
  refine T.F_names_of.ok sc_names_of (fun vs H Q E h => ?_) (fun cdv A outer s H vs Q E hr h => ?_)
  · obtain ⟨v, t, rfl, _⟩ := h; rfl
  · obtain ⟨v, t, rfl, hI, hT, hn, h100, q⟩ := h
    refine ⟨_, (pss_cons (ps_set (i := 1) sc_names_of.nd rfl (Or.inl rfl) (pe_lst pa_nil))
    (pss_cons (ps_set (i := 2) sc_names_of.nd rfl (Or.inl rfl) (pe_lst (pa_cons (pv 0) pa_nil)))
    (pss_cons (ps_while PassesOwn.never (pt_truth (pv 2) (by intro _; rfl))
    (pss_cons (ps_set (i := 3) sc_names_of.nd rfl (Or.inl rfl) (pe_bm0 PySem.F.plainAttrs_list PySem.F.slot_list_pop PySem.F.type_list_pop mt_pop (pv 2)))
    (pss_one (ps_if (pt_val (pe_callB call_isi (by rfl) T.z_isinstance (by decide +kernel) (pa_cons (pv 3) (pa_cons (pe_bltn rfl T.z_tuple (by decide +kernel) (show RelV (V.ty "tuple") (Value.type "tuple") from rfl)) pa_nil)))) (pss_one (ps_expr (pe_bm PySem.F.plainAttrs_list PySem.F.slot_list_extend PySem.F.type_list_extend mt_extT (pv 2) (pa_cons (pe_cutback (pv 3)) pa_nil)))) (pss_one (ps_if (pt_cmpR op_notIn_seq (pv 3) (pv 1) (by rfl)) (pss_one (ps_expr (pe_bm PySem.F.plainAttrs_list PySem.F.slot_list_append PySem.F.type_list_append mt_append (pv 1) (pa_cons (pv 3) pa_nil)))) pss_nil))))))
    (pss_one (ps_ret (pv 1)))))), ?_⟩
    refine ⟨(by show 0 ≤ sizeLine; decide), fun fa hf => ?_⟩
    refine ⟨_, rfl, (by show 1 ≤ sizeLine; decide), fun ta ht => ?_⟩
    have s1 := same_upd hf (.lst [])
    have s2 := same_upd ht (.lst [v])
    have ft : H ta = none := s1.free ht
    have nft : fa ≠ ta := ne_of_none upd_same ht
    refine ⟨fun m σ H2 => ∃ y3 vs ts f, σ = [some v, some (.ref fa), some (.ref ta), y3] ∧ Same H H2 ∧ H2 fa = some (.lst (f.map V.str)) ∧ H2 ta = some (.lst vs) ∧ IsL H2 vs ts ∧ (∀ x ∈ ts, Tm x) ∧ cntL ts = m ∧ f.length + cntL ts ≤ 100 ∧ dd f (lvL ts.reverse) = nms t, ⟨cnt t, ?_⟩, ?_⟩
    · refine ⟨none, [v], [t], [], rfl, s1.trans s2, ?_, upd_same, .cons ((hI.same s1).same s2) .nil, fun x hx => by rw [List.mem_singleton.mp hx]; exact hT, by simp [cntL], ?_, ?_⟩
      · rw [upd_ne nft, upd_same]; rfl
      · simp [cntL]; exact h100
      · simp [lvL, nms]
    · intro m σ H2 ⟨y3, vs, ts, f, es, sm, ef, et, hL, hTs, hm, hb, hd⟩
      subst es
      refine ⟨_, rfl, _, .inl ⟨_, SqL.of et, rfl⟩, ?_⟩
      refine ite2 (fun cv => ?_) (fun cv => ?_)
      case refine_2 =>
        have hv : vs = [] := by cases vs with | nil => rfl | cons _ _ => exact absurd rfl cv
        subst hv
        cases hL
        have e : f = nms t := hd
        rw [e] at ef
        exact ⟨_, rfl, q fa H2 sm ef⟩
      have hne : vs ≠ [] := by intro e; rw [e] at cv; cases cv
      have hlast : vs[vs.length - 1]? = some (vs.getLast hne) := by
        rw [List.getLast_eq_getElem, List.getElem?_eq_getElem]
      obtain ⟨ts', y, ets, hy, hL'⟩ := hL.snoc_inv hlast hne
      have hlen := hL'.len
      have cts : cntL ts = cntL ts' + cnt y := by rw [ets, cntL_append]; simp [cntL]
      have cy := cnt_pos y
      refine ⟨fun σ' H' => ∃ m', m' < m ∧ ∃ y3 vs ts f, σ' = [some v, some (.ref fa), some (.ref ta), y3] ∧ Same H H' ∧ H' fa = some (.lst (f.map V.str)) ∧ H' ta = some (.lst vs) ∧ IsL H' vs ts ∧ (∀ x ∈ ts, Tm x) ∧ cntL ts = m' ∧ f.length + cntL ts ≤ 100 ∧ dd f (lvL ts.reverse) = nms t, fun σ' H' z => z, ?_⟩
      refine ⟨_, rfl, .inl ⟨rfl, _, SqL.of et⟩, ta, vs, _, rfl, rfl, et, hlast, ?_⟩
      have x3 : Ex ta H2 (upd H2 ta (.lst vs.dropLast)) := .set _
      have sm3 : Same H (upd H2 ta (.lst vs.dropLast)) := Kx.Same.own sm ft _
      have hy3 := hy.ex x3 ⟨_, et⟩
      have hL3 := hL'.ex x3 ⟨_, et⟩
      have ef3 : (upd H2 ta (.lst vs.dropLast)) fa = some (.lst (f.map V.str)) := by rw [upd_ne nft]; exact ef
      have yT : Tm y := hTs y (by rw [ets]; simp)
      have hTs' : ∀ x ∈ ts', Tm x := fun x hx => hTs x (by rw [ets]; exact List.mem_append_left _ hx)
      obtain ⟨u, ty, kt⟩ := hy3.ty (K := K)
      have lrev : lvL ts.reverse = lv y ++ lvL ts'.reverse := by rw [ets, List.reverse_append]; rfl
      refine ⟨_, rfl, _, _, u, _, _, rfl, .ty _, ty, kit_tup kt, _, rfl, ite2 (fun c => ?_) (fun c => ?_)⟩
      · obtain ⟨a, w, vs2, r, ev, rfl, ea, hL2, hr2⟩ := tm_tup_inv hy3 yT (by cases y with | str z => cases c | oth => rfl | tup l => rfl)
        rw [ev]
        refine ⟨_, rfl, .inl ⟨rfl, _, SqL.of upd_same⟩, _, rfl, a, _, rfl, .inl (.inl ea), by simp, fun p o hp od os => ?_⟩
        have s4 := same_upd hp (.frz o (.tup ((V.str w :: vs2).drop 1).reverse))
        rw [cnt_cons] at cts cy
        have hlen2 := hL2.len
        have cl := cntL_len r
        have cl2 := cntL_len ts'
        refine ⟨ta, p, _, _, rfl, rfl, s4 _ _ upd_same, ⟨o, upd_same, od, os⟩, ?_, ?_⟩
        · rw [List.length_reverse, List.drop_one, List.tail_cons, hlen, hlen2]
          exact Nat.le_of_lt (small1000 (by omega))
        · have x5 : Ex ta (upd H2 ta (.lst vs.dropLast)) (upd (upd (upd H2 ta (.lst vs.dropLast)) p (.frz o (.tup ((V.str w :: vs2).drop 1).reverse))) ta (.lst (vs.dropLast ++ ((V.str w :: vs2).drop 1).reverse))) := (Ex.of s4).trans (.set _)
          refine ⟨cntL (ts' ++ r.reverse), ?_, _, _, ts' ++ r.reverse, f, rfl, Kx.Same.own (sm3.trans s4) ft _, ?_, upd_same, (hL3.append hL2.reverse).ex x5 ⟨_, upd_same⟩, ?_, rfl, ?_, ?_⟩
          · rw [cntL_append, cntL_reverse]; omega
          · rw [upd_ne nft]; exact s4 _ _ ef3
          · intro x hx
            rcases List.mem_append.mp hx with h | h
            · exact hTs' x h
            · exact mem_TmL hr2 x (List.mem_reverse.mp h)
          · rw [cntL_append, cntL_reverse]; omega
          · rw [← hd, lrev, List.reverse_append, List.reverse_reverse, lvL_append]
            rfl
      · cases y with
        | oth => exact absurd yT (by simp [Tm])
        | tup l => exact absurd rfl c
        | str z =>
        rw [hy.str_inv]
        refine ⟨_, rfl, _, rfl, fa, _, rfl, .inl (SqL.of ef3), rfl, flat_str f, _, rfl, ?_⟩
        rw [inV_str]
        have e1 : dd f (lvL ts.reverse) = dd (add1 f z) (lvL ts'.reverse) := by rw [lrev]; rfl
        have c1 : cnt (.str z) = 1 := by simp [cnt]
        refine ite2 (fun c2 => ?_) (fun c2 => ?_)
        · have nz : z ∉ f := by simpa using c2
          have ea1 : add1 f z = f ++ [z] := by simp [add1, nz]
          refine ⟨_, rfl, .inl ⟨rfl, _, SqL.of ef3⟩, _, rfl, fa, _, _, rfl, rfl, ef3, ?_, ?_⟩
          · rw [List.length_map]; exact small1000 (by omega)
          · have x6 : Ex fa (upd H2 ta (.lst vs.dropLast)) (upd (upd H2 ta (.lst vs.dropLast)) fa (.lst (f.map V.str ++ [.str z]))) := .set _
            refine ⟨cntL ts', by omega, _, _, ts', f ++ [z], rfl, Kx.Same.own sm3 hf _, ?_, ?_, hL3.ex x6 ⟨_, ef3⟩, hTs', rfl, ?_, ?_⟩
            · rw [upd_same, List.map_append]; rfl
            · rw [upd_ne nft.symm, upd_same]
            · rw [List.length_append, List.length_singleton]; omega
            · rw [← hd, e1, ea1]
        · have nz : z ∈ f := by simpa using c2
          have ea1 : add1 f z = f := by simp [add1, nz]
          refine ⟨cntL ts', by omega, _, _, ts', f, rfl, sm3, ef3, upd_same, hL3, hTs', rfl, by omega, ?_⟩
          rw [← hd, e1, ea1]
end
end Kx
namespace Kx
open PySem PySem.Spec PyProof.Rows L2
section
variable {P : Program} {w : World} {K : PySem.W.Frag} {mg : Str → Option Value} {base : Heap}
theorem cntL_take' (l : List PV) (i : Nat) : cntL (l.take i) ≤ cntL l := cntL_take l i
theorem ok_law_names {n : Nat} (T : Txt K mg) (G_law_names : FnOk P w K mg base CX0 (n+1) T.a_law_names T.d_law_names ["term"] (spNames n)) : FnOk P w K mg base CX0 (n+2) T.a_law_names T.d_law_names ["term"] (spNames (n+1)) := by
  refine T.F_law_names.ok sc_law_names (fun vs H Q E h => ?_) (fun cdv A outer s H vs Q E hr h => ?_)
  · obtain ⟨v, t, rfl, _⟩ := h; rfl
  · obtain ⟨v, t, rfl, hI, hT, hn, h100, q⟩ := h
    have hr_law_names := hr
    refine ⟨_, (pss_cons (ps_if (pt_val (pe_callB call_isi (by rfl) T.z_isinstance (by decide +kernel) (pa_cons (pv 0) (pa_cons (pe_bltn rfl T.z_str (by decide +kernel) (show RelV (V.ty "str") (Value.type "str") from rfl)) pa_nil)))) (pss_one (ps_ret (pe_lst (pa_cons (pv 0) pa_nil)))) pss_nil)
    (pss_cons (ps_set (i := 1) sc_law_names.nd rfl (Or.inr rfl) (pe_lst pa_nil))
    (pss_cons (ps_for PassesOwn.never rfl (pi_tup (pe_slice sl_tup (pv 0) (po_some pe_int) po_none)) (pg_name (i := 2) sc_law_names.nd rfl (Or.inl rfl))
    (pss_one (ps_set (i := 1) sc_law_names.nd rfl (Or.inr rfl) (pe_op op_cat (pv 1) (pe_lc (own := [("name", 3)]) (g := (gName 3)) rfl sc_law_names.nd (pi_list (pe_call G_law_names hr_law_names rfl T.m_law_names T.F_law_names.kp T.b_law_names .nil pass0 (pa_cons (pv 2) pa_nil))) (blkOk_by (own := [("name", 3)]) (N := ["term", "found", "part", "name"]) (sc := defScope s_law_names) (by decide +kernel)) (fun _ _ _ _ _ => (pg_name (i := 3) sc_law_names.nd rfl (Or.inl rfl))) (fun _ _ _ _ _ => pts_one (pt_cmpR (notInSeqK (K := K)) (pv 3) (pv 1) (by rfl))) (fun _ _ _ _ _ => (pv 3)))))))
    (pss_one (ps_ret (pv 1)))))), ?_⟩
    obtain ⟨u, ty, kt⟩ := hI.ty (K := K)
    refine ⟨_, rfl, _, _, u, _, _, rfl, .ty _, ty, kit_str kt, _, rfl, ite2 (fun c => ?_) (fun c => ?_)⟩
    · cases t with
      | oth => cases c
      | tup ts => cases c
      | str z =>
      cases hI.str_inv
      refine ⟨_, rfl, (by show 1 ≤ sizeLine; decide), fun p hp => ?_⟩
      exact q p _ (same_upd hp _) upd_same
    · obtain ⟨a, w, vs, ts, rfl, rfl, ea, hL, hTl⟩ := tm_tup_inv hI hT (Bool.eq_false_iff.mpr c)
      have hlen := hL.len
      rw [cnt_cons] at hn h100
      rw [nms_tup] at q
      refine ⟨(by show 0 ≤ sizeLine; decide), fun f0 hf0 => ?_⟩
      have s0 := same_upd hf0 (.lst [])
      refine ⟨_, rfl, _, rfl, a, _, rfl, .inl (.inl (s0 _ _ ea)), slice1, fun p1 h1 => ?_⟩
      rw [cut1]
      have s1 := same_upd h1 (.tup vs)
      have s01 := s0.trans s1
      refine ⟨p1, rfl, ⟨_, .inl (.inl upd_same)⟩, ?_⟩
      refine for_tup (K := K) (a := p1) (xs := vs) (fun i σ H2 => ∃ fa y2, σ = [some (.ref a), some (.ref fa), y2, none] ∧ Same (upd (upd H f0 (.lst [])) p1 (.tup vs)) H2 ∧ H2 fa = some (.lst ((nmsL [] (ts.take i)).map V.str))) ?_ ?_ ?_ ?_
      · exact ⟨f0, none, rfl, .refl _, by rw [upd_ne (ne_of_none upd_same h1), upd_same]; rfl⟩
      · exact fun i σ H2 _ ⟨_, _, _, sm, _⟩ => .inl (.inl (sm _ _ upd_same))
      · intro i x σ H2 hx ⟨fa, y2, es, sm, ef⟩
        subst es
        obtain ⟨y, ey, hy⟩ := hL.get hx
        have hm := List.mem_of_getElem? ey
        obtain ⟨hi, ey2⟩ := List.getElem?_eq_some_iff.mp ey
        have cy := cntL_mem hm
        have s02 := s01.trans sm
        have yl := nms_len y
        have fl : (nmsL [] (ts.take i)).length ≤ cntL ts := by
          have a1 := dd_len (lvL (ts.take i)) []
          have a2 := lvL_len (ts.take i)
          have a3 := cntL_take ts i
          rw [← nmsL_eq, List.length_nil] at a1
          omega
        refine ⟨_, rfl, _, rfl, x, y, rfl, hy.same s02, mem_TmL hTl y hm, by omega, by omega, fun p H3 s3 ep => ⟨p, rfl, ⟨_, SqL.of ep⟩, fun D hD => ?_⟩⟩
        have ef3 := s3 _ _ ef
        refine lc_list (K := K) (a := p) (xs := (nms y).map V.str) (fun j H4 => Same H3 H4 ∧ H4 D = some (.lst ((((nms y).take j).filter fun z => decide (z ∉ nmsL [] (ts.take i))).map V.str))) ?_ ?_ ?_ ?_
        · exact ⟨same_upd hD _, upd_same⟩
        · exact fun j H4 _ ⟨s4, _⟩ => SqL.of (s4 _ _ ep)
        · intro j x' H4 hx' ⟨s4, eD⟩
          rw [List.getElem?_map] at hx'
          cases hz : (nms y)[j]? with
          | none => rw [hz] at hx'; cases hx'
          | some z =>
          rw [hz] at hx'
          cases (Option.some.inj hx')
          obtain ⟨hj, ez⟩ := List.getElem?_eq_some_iff.mp hz
          have tk : (nms y).take (j + 1) = (nms y).take j ++ [z] := by rw [List.take_succ_eq_append_getElem hj, ez]
          refine ⟨rfl, _, rfl, _, rfl, fa, _, rfl, .inl (SqL.of (s4 _ _ ef3)), rfl, flat_str _, _, rfl, ?_⟩
          rw [inV_str]
          refine ite2 (fun c2 => ?_) (fun c2 => ?_)
          · have nz : z ∉ nmsL [] (ts.take i) := by simpa using c2
            refine ⟨_, rfl, _, eD, ?_, Kx.Same.own s4 hD _, ?_⟩
            · have l1 := List.length_filter_le (fun z => decide (z ∉ nmsL [] (ts.take i))) ((nms y).take j)
              rw [List.length_take] at l1
              rw [List.length_map]
              exact small1000 (by omega)
            · rw [upd_same, tk, List.filter_append, List.map_append]
              simp [nz]
          · have nz : z ∈ nmsL [] (ts.take i) := by simpa using c2
            refine ⟨s4, ?_⟩
            rw [eD, tk, List.filter_append]
            simp [nz]
        · intro H4 ⟨s4, eD⟩
          rw [List.length_map, List.take_length] at eD
          refine ⟨fa, D, _, _, rfl, rfl, s4 _ _ ef3, eD, ?_, fun p2 hp2 => ?_⟩
          · have l1 := List.length_filter_le (fun z => decide (z ∉ nmsL [] (ts.take i))) (nms y)
            rw [List.length_map, List.length_map]
            exact Nat.le_of_lt (small1000 (by omega))
          · have s5 := same_upd hp2 (.lst ((nmsL [] (ts.take i)).map V.str ++ (((nms y).filter fun z => decide (z ∉ nmsL [] (ts.take i))).map V.str)))
            refine ⟨p2, some x, rfl, sm.trans (s3.trans (s4.trans s5)), ?_⟩
            rw [upd_same, List.take_succ_eq_append_getElem hi, ey2]
            have e : nmsL [] (ts.take i ++ [y]) = addN (nmsL [] (ts.take i)) (nms y) := by simp [nmsL]
            rw [e, addN, List.map_append]
      · intro σ H2 ⟨fa, y2, es, sm, ef⟩
        subst es
        rw [hlen, List.take_length] at ef
        exact ⟨_, rfl, q fa H2 (s01.trans sm) ef⟩
theorem look_head (mk : List (Str × Int)) (w : Str) : ((mk.filter fun kv => kv.1 == w).map (·.2)).head? = look mk w := by
  unfold look
  rw [List.head?_map, List.head?_filter]
theorem words_look (mk : List (Str × Int)) (z : Str) : (!decide (z ∈ mk.map (·.1))) = (look mk z).isNone := by
  induction mk with
  | nil => rfl
  | cons kv r ih =>
    by_cases h : kv.1 = z
    · simp [look, h]
    · have h2 : ¬ z = kv.1 := fun e => h e.symm
      have e : look (kv :: r) z = look r z := by simp [look, h]
      rw [e, ← ih]
      simp [h2]
theorem ok_law_is_term {n : Nat} (T : Txt K mg) (G_law_is_term : FnOk P w K mg base CX0 (n+1) T.a_law_is_term T.d_law_is_term ["makers", "value"] (spIs true n)) : FnOk P w K mg base CX0 (n+2) T.a_law_is_term T.d_law_is_term ["makers", "value"] (spIs true (n+1)) := by
  refine T.F_law_is_term.ok sc_law_is_term (fun vs H Q E h => ?_) (fun cdv A outer s H vs Q E hr h => ?_)
  · obtain ⟨m, mk, v, t, rfl, _⟩ := h; rfl
  · obtain ⟨m, mk, v, t, rfl, hM, hI, hn, h100, q⟩ := h
    have hr_law_is_term := hr
    refine ⟨_, (pss_cons (ps_if (pt_val (pe_callB call_isi (by rfl) T.z_isinstance (by decide +kernel) (pa_cons (pv 1) (pa_cons (pe_bltn rfl T.z_str (by decide +kernel) (show RelV (V.ty "str") (Value.type "str") from rfl)) pa_nil)))) (pss_one (ps_ret (pe_cmpR op_notIn_seq (pv 1) (pe_lc (own := [("word", 3), ("parts", 4)]) (g := (gTup K 2 (gCons (gName 3) (gCons (gName 4) gNil)))) (tt := tYes) rfl sc_law_is_term.nd (pi_tup (pv 0)) (blkOk_by (own := [("word", 3), ("parts", 4)]) (N := ["makers", "value", "counts", "word", "parts", "part"]) (sc := defScope s_law_is_term) (by decide +kernel)) (fun _ _ _ _ _ => (pg_tup rfl (pgs_cons (pg_name (i := 3) sc_law_is_term.nd rfl (Or.inl rfl)) (pgs_cons (pg_name (i := 4) sc_law_is_term.nd rfl (Or.inl rfl)) pgs_nil)))) (fun _ _ _ _ _ => pts_nil) (fun _ _ _ _ _ => (pv 3))) (by rfl)))) pss_nil)
    (pss_cons (ps_if (PW.pt (pw_or (pt_not (pt_val (pe_callB call_isi (by rfl) T.z_isinstance (by decide +kernel) (pa_cons (pv 1) (pa_cons (pe_bltn rfl T.z_tuple (by decide +kernel) (show RelV (V.ty "tuple") (Value.type "tuple") from rfl)) pa_nil))))) (pw_or (pt_cmpR op_eq (pe_callB call_len_seq (by rfl) T.z_len (by decide +kernel) (pa_cons (pv 1) pa_nil)) pe_int (nomark _)) (pw_or1 (pt_not (pt_val (pe_callB call_isi (by rfl) T.z_isinstance (by decide +kernel) (pa_cons (pe_ix ix_tup (pv 1) pe_int (fun _ _ => rfl)) (pa_cons (pe_bltn rfl T.z_str (by decide +kernel) (show RelV (V.ty "str") (Value.type "str") from rfl)) pa_nil))))))))) (pss_one (ps_ret pe_bl)) pss_nil)
    (pss_cons (ps_setLc (i := 2) (own := [("word", 3), ("parts", 4)]) (g := (gTup K 2 (gCons (gName 3) (gCons (gName 4) gNil)))) rfl sc_law_is_term.nd rfl rfl (sw_true rfl rfl rfl (by decide +kernel)) (pi_tup (pv 0)) (blkOk_by (own := [("word", 3), ("parts", 4)]) (N := ["makers", "value", "counts", "word", "parts", "part"]) (sc := defScope s_law_is_term) (by decide +kernel)) (fun _ _ _ _ _ => (pg_tup rfl (pgs_cons (pg_name (i := 3) sc_law_is_term.nd rfl (Or.inl rfl)) (pgs_cons (pg_name (i := 4) sc_law_is_term.nd rfl (Or.inl rfl)) pgs_nil)))) (fun _ _ _ _ _ => pts_one (pt_cmpR op_eq (pv 3) (pe_ix (ixTK (K := K)) (pv 1) pe_int (fun _ _ => rfl)) (nomark _))) (fun _ _ _ _ _ => (pv 4)))
    (pss_cons (ps_if (PW.pt (pw_or (pt_cmpR op_eq (pe_callB call_len_seq (by rfl) T.z_len (by decide +kernel) (pa_cons (pv 2) pa_nil)) pe_int (nomark _)) (pw_or1 (pt_cmpR op_ne (pe_ix ix_list (pv 2) pe_int (fun _ _ => rfl)) (pe_op op_sub (pe_callB call_len_seq (by rfl) T.z_len (by decide +kernel) (pa_cons (pv 1) pa_nil)) pe_int) (nomark _))))) (pss_one (ps_ret pe_bl)) pss_nil)
    (pss_one (ps_ret (pe_callB (cr_all rfl) (by rfl) T.z_all (by decide +kernel) (pa_cons (pe_lc (own := [("part", 5)]) (g := (gName 5)) (tt := tYes) rfl sc_law_is_term.nd (pi_tup (pe_slice sl_tup (pv 1) (po_some pe_int) po_none)) (blkOk_by (own := [("part", 5)]) (N := ["makers", "value", "counts", "word", "parts", "part"]) (sc := defScope s_law_is_term) (by decide +kernel)) (fun _ _ _ _ _ => (pg_name (i := 5) sc_law_is_term.nd rfl (Or.inl rfl))) (fun _ _ _ _ _ => pts_nil) (fun _ _ _ _ _ => (pe_call G_law_is_term hr_law_is_term rfl T.m_law_is_term T.F_law_is_term.kp T.b_law_is_term .nil pass0 (pa_cons (pv 0) (pa_cons (pv 5) pa_nil))))) pa_nil)))))))), ?_⟩
    obtain ⟨u, ty, kt⟩ := hI.ty (K := K)
    obtain ⟨⟨o, ps, em, od, pp⟩, ok⟩ := id hM
    have m5 := ok.len
    refine ⟨_, rfl, _, _, u, _, _, rfl, .ty _, ty, kit_str kt, _, rfl, ite2 (fun c => ?_) (fun c => ?_)⟩
    · cases t with
      | oth => cases c
      | tup ts => cases c
      | str z =>
      cases hI.str_inv
      refine ⟨_, rfl, _, rfl, m, rfl, ⟨_, .inl (.inr ⟨o, em⟩)⟩, fun D hD => ?_⟩
      refine lc_tup (K := K) (a := m) (xs := ps.map V.ref) (fun i H2 => Same H H2 ∧ H2 D = some (.lst (((mk.take i).map (·.1)).map V.str))) ?_ ?_ ?_ ?_
      · exact ⟨same_upd hD _, upd_same⟩
      · exact fun i H2 _ ⟨sm, _⟩ => .inl (.inr ⟨o, sm _ _ em⟩)
      · intro i x H2 hx ⟨sm, eD⟩
        obtain ⟨p, kv, rfl, hkv, ep⟩ := mk_get pp hx
        obtain ⟨hi, ek⟩ := List.getElem?_eq_some_iff.mp hkv
        refine ⟨p, _, rfl, .inl (.inl (sm _ _ ep)), rfl, _, _, rfl, _, _, rfl, rfl, rfl, yes_if ?_⟩
        refine ⟨_, rfl, _, eD, ?_, Kx.Same.own sm hD _, ?_⟩
        · rw [List.length_map, List.length_map, List.length_take]
          exact small1000 (by omega)
        · rw [upd_same, List.take_succ_eq_append_getElem hi, ek, List.map_append, List.map_append]; rfl
      · intro H2 ⟨sm, eD⟩
        rw [List.length_map, pair_len pp, List.take_length] at eD
        refine ⟨D, _, rfl, .inl (SqL.of eD), rfl, flat_str _, ?_⟩
        rw [inV_str]
        have e : (!decide (z ∈ mk.map (·.1))) = form mk true (.str z) := by rw [words_look]; simp [form]
        show Q (.bl (!decide (z ∈ mk.map (·.1)))) H2
        rw [e]
        exact q H2 sm
    · refine ⟨_, rfl, _, _, u, _, _, rfl, .ty _, ty, kit_tup kt, _, rfl, ?_⟩
      cases t with
      | str z => exact absurd rfl c
      | oth => exact iteT (iteT (q H (.refl _)))
      | tup ts =>
      obtain ⟨a, vs, rfl, ea, hL⟩ := hI.tup_inv
      refine iteF ⟨_, rfl, a, _, rfl, .inr (.inl (.inl ea)), rfl, _, rfl, ?_⟩
      cases hL with
      | nil => exact iteT (iteT (q H (.refl _)))
      | @cons x0 vs t0 ts h0 hL =>
      have hlen := hL.len
      refine ite2 (fun c0 => ?_) (fun _ => ?_)
      · exfalso
        have h2 := V.int.inj (of_decide_eq_true c0)
        rw [List.length_cons] at h2
        omega
      refine ⟨_, rfl, a, _, _, _, rfl, rfl, .inl (.inl ea), atI_nat (j := 0) rfl, ?_⟩
      obtain ⟨u0, ty0, kt0⟩ := h0.ty (K := K)
      refine ⟨_, _, u0, _, _, rfl, .ty _, ty0, kit_str kt0, _, rfl, ?_⟩
      cases t0 with
      | oth => exact iteT (q H (.refl _))
      | tup _ => exact iteT (q H (.refl _))
      | str w0 =>
      cases h0.str_inv
      refine iteF ⟨_, rfl, m, rfl, ⟨_, .inl (.inr ⟨o, em⟩)⟩, fun D hD => ?_⟩
      refine lc_tup (K := K) (a := m) (xs := ps.map V.ref) (fun i H2 => Same H H2 ∧ H2 D = some (.lst ((((mk.take i).filter fun kv => kv.1 == w0).map (·.2)).map V.int))) ?_ ?_ ?_ ?_
      · exact ⟨same_upd hD _, upd_same⟩
      · exact fun i H2 _ ⟨sm, _⟩ => .inl (.inr ⟨o, sm _ _ em⟩)
      · intro i x H2 hx ⟨sm, eD⟩
        obtain ⟨p, kv, rfl, hkv, ep⟩ := mk_get pp hx
        obtain ⟨hi, ek⟩ := List.getElem?_eq_some_iff.mp hkv
        have tk : mk.take (i + 1) = mk.take i ++ [kv] := by rw [List.take_succ_eq_append_getElem hi, ek]
        refine ⟨p, _, rfl, .inl (.inl (sm _ _ ep)), rfl, _, _, rfl, _, _, rfl, rfl, rfl, ?_⟩
        refine ⟨_, rfl, _, rfl, a, _, _, _, rfl, rfl, .inl (.inl (sm _ _ ea)), atI_nat (j := 0) rfl, rfl, _, rfl, ?_⟩
        refine ite2 (fun c2 => ?_) (fun c2 => ?_)
        · have ew : kv.1 = w0 := V.str.inj (of_decide_eq_true c2)
          refine ⟨_, rfl, _, eD, ?_, Kx.Same.own sm hD _, ?_⟩
          · have l1 := List.length_filter_le (fun kv : Str × Int => kv.1 == w0) (mk.take i)
            rw [List.length_take] at l1
            rw [List.length_map, List.length_map]
            exact small1000 (by omega)
          · rw [upd_same, tk, List.filter_append, List.map_append, List.map_append]
            simp [ew]
        · have ew : ¬ kv.1 = w0 := fun e => c2 (by rw [e]; exact decide_eq_true rfl)
          refine ⟨sm, ?_⟩
          rw [eD, tk, List.filter_append]
          simp [ew]
      · intro H2 ⟨sm, eD⟩
        rw [List.length_map, pair_len pp, List.take_length] at eD
        have hh := look_head mk w0
        generalize hcs : ((mk.filter fun kv => kv.1 == w0).map (·.2)) = cs at eD hh
        refine ⟨_, rfl, D, _, rfl, .inl (SqL.of eD), rfl, _, rfl, ?_⟩
        cases cs with
        | nil =>
          have e : form mk true (.tup (.str w0 :: ts)) = false := by
            have e2 : look mk w0 = none := hh.symm
            simp [form, e2]
          rw [e] at q
          exact iteT (iteT (q H2 sm))
        | cons c0 cs =>
        have e2 : look mk w0 = some c0 := hh.symm
        refine ite2 (fun z => ?_) (fun _ => ?_)
        · exfalso
          have h2 := V.int.inj (of_decide_eq_true z)
          rw [List.length_map, List.length_cons] at h2
          omega
        refine ⟨_, rfl, D, _, _, _, rfl, rfl, SqL.of eD, atI_nat (j := 0) rfl, _, rfl, a, _, rfl, .inr (.inl (.inl (sm _ _ ea))), _, _, rfl, rfl, rfl, _, rfl, ?_⟩
        have cmp : (!decide (V.int c0 = .int ((((V.str w0 :: vs).length : Nat) : Int) - 1))) = !(look mk w0 == some (ts.length : Int)) := by
          have e : ((((V.str w0 :: vs).length : Nat) : Int) - 1) = (ts.length : Int) := by rw [List.length_cons, hlen]; omega
          rw [e, dec_int, e2]
          rfl
        show if (!decide (V.int c0 = .int ((((V.str w0 :: vs).length : Nat) : Int) - 1))) = true then _ else _
        rw [cmp]
        cases hk : (look mk w0 == some (ts.length : Int)) with
        | false =>
          have e : form mk true (.tup (.str w0 :: ts)) = false := by simp only [form, hk, Bool.false_and]
          rw [e] at q
          exact iteT (q H2 sm)
        | true =>
        have ef : form mk true (.tup (.str w0 :: ts)) = ts.all (form mk true) := by simp only [form, hk, Bool.true_and, formL_all]
        rw [ef] at q
        have cN : cnt (.tup (.str w0 :: ts)) = 2 + cntL ts := by simp only [cnt, cntL]; omega
        have cl := cntL_len ts
        refine iteF ⟨_, rfl, _, rfl, a, _, rfl, .inl (.inl (sm _ _ ea)), slice1, fun p1 h1 => ?_⟩
        rw [cut1]
        have s1 := same_upd h1 (.tup vs)
        refine ⟨p1, rfl, ⟨_, .inl (.inl upd_same)⟩, fun B hB => ?_⟩
        refine lc_tup (K := K) (a := p1) (xs := vs) (fun i H3 => Same (upd H2 p1 (.tup vs)) H3 ∧ H3 B = some (.lst (((ts.take i).map (form mk true)).map V.bl))) ?_ ?_ ?_ ?_
        · exact ⟨same_upd hB _, upd_same⟩
        · exact fun i H3 _ ⟨s3, _⟩ => .inl (.inl (s3 _ _ upd_same))
        · intro i x H3 hx ⟨s3, eB⟩
          obtain ⟨y, ey, hy⟩ := hL.get hx
          have hm := List.mem_of_getElem? ey
          obtain ⟨hi, ey2⟩ := List.getElem?_eq_some_iff.mp ey
          have cy := cntL_mem hm
          have s03 := sm.trans (s1.trans s3)
          refine ⟨rfl, yes_if ?_⟩
          refine ⟨_, rfl, _, rfl, m, mk, x, y, rfl, hM.same s03, hy.same s03, by omega, by omega, fun H4 s4 => ?_⟩
          refine ⟨_, s4 _ _ eB, ?_, Kx.Same.own (s3.trans s4) hB _, ?_⟩
          · rw [List.length_map, List.length_map, List.length_take]
            exact small1000 (by omega)
          · rw [upd_same, List.take_succ_eq_append_getElem hi, ey2, List.map_append, List.map_append]; rfl
        · intro H3 ⟨s3, eB⟩
          rw [hlen, List.take_length] at eB
          refine ⟨B, _, rfl, SqL.of eB, ?_⟩
          have e : (ts.map (form mk true)).all id = ts.all (form mk true) := by rw [List.all_map]; rfl
          rw [e]
          exact q H3 (sm.trans (s1.trans s3))
end
end Kx
namespace Kx
open PySem PySem.Spec PyProof.Rows L2
section
variable {P : Program} {w : World} {K : PySem.W.Frag} {mg : Str → Option Value} {base : Heap}
theorem dp_strs {H : Hp} : ∀ f : List Str, DpAll K H (f.map V.str) (f.map PyData.str)
  | [] => .nil
  | z :: r => .cons (.str z) (dp_strs r)
theorem dp_list {H : Hp} {p : Addr} {f : List Str} (e : H p = some (.lst (f.map V.str))) : Dp K H (.ref p) (.list (f.map PyData.str)) := .lst (SqL.of e) (dp_strs f)
theorem lay_strs : ∀ f : List Str, (∀ z ∈ f, sok z = true) → PyData.canLayAll0 (f.map PyData.str) = true
  | [], _ => rfl
  | z :: r, h => by
    have a := h z (List.mem_cons_self ..)
    have b := lay_strs r fun x hx => h x (List.mem_cons_of_mem _ hx)
    show (PyData.canLay0 (.str z) && PyData.canLayAll0 (r.map PyData.str)) = true
    rw [b, Bool.and_true]
    simp only [PyData.canLay0]
    exact a
theorem depth_strs : ∀ f : List Str, PyData.depthAll (f.map PyData.str) = 0
  | [] => rfl
  | z :: r => by
    have b := depth_strs r
    show max (PyData.depth (.str z)) (PyData.depthAll (r.map PyData.str)) = 0
    rw [b]
    simp [PyData.depth]
theorem shaped_strs {f : List Str} (h : ∀ z ∈ f, sok z = true) : SeqAt.shaped (.list (f.map PyData.str)) = true := by
  have a := lay_strs f h
  have b := depth_strs f
  unfold SeqAt.shaped
  simp only [PyData.canLay0, PyData.depth, a, b, Bool.true_and]
  decide
theorem dd_mem : ∀ (ys f : List Str) (z : Str), z ∈ dd f ys → z ∈ f ∨ z ∈ ys
  | [], f, z, h => .inl h
  | y :: r, f, z, h => by
    rcases dd_mem r (add1 f y) z h with h | h
    · unfold add1 at h
      split at h
      · exact .inl h
      · rcases List.mem_append.mp h with h | h
        · exact .inl h
        · rw [List.mem_singleton.mp h]; exact .inr (List.mem_cons_self ..)
    · exact .inr (List.mem_cons_of_mem _ h)
theorem Is.nms_ok {H : Hp} {v : V} {t : PV} (h : Is H v t) : ∀ z ∈ nms t, sok z = true := fun z hz => by
  rcases dd_mem _ _ z hz with h2 | h2
  · simp at h2
  · exact h.oks z h2
theorem eqv_nil (f : List Str) : PyData.eqv (.list (f.map PyData.str)) (.list (([] : List Str).map PyData.str)) = (f == []) := by
  cases f with
  | nil => simp [PyData.eqv, PyData.eqvAll]
  | cons z r => simp [PyData.eqv, PyData.eqvAll]
theorem no_left {f : Addr} {fd : FuncData} {ps : List Str} {k : Nat} {sp : Sp} (no : ∀ vs H Q E, ¬ sp vs H Q E) : FnOk P w K mg base CX0 k f fd ps sp :=
  ⟨fun vs H Q E h => absurd h (no vs H Q E), fun A outer s H args us vs Q E _ _ _ _ h => absurd h (no vs H Q E)⟩
theorem all_form (T : Txt K mg) : ∀ n, FnOk P w K mg base CX0 (n + 1) T.a_has_form T.d_has_form ["parts_by_word", "value", "may_have_names", "kept"] (spForm T.c_Kept n)
  | 0 => no_left fun vs H Q E ⟨_, _, _, t, _, _, _, _, _, _, _, _, h, _⟩ => by have := cnt_pos t; omega
  | n + 1 => ok_has_form T (all_form T n) (ok_Kept_pair_of T) (ok_Kept_keep T)
theorem all_isT (T : Txt K mg) : ∀ n, FnOk P w K mg base CX0 (n + 1) T.a_law_is_term T.d_law_is_term ["makers", "value"] (spIs true n)
  | 0 => no_left fun vs H Q E ⟨_, _, _, t, _, _, _, h, _⟩ => by have := cnt_pos t; omega
  | n + 1 => ok_law_is_term T (all_isT T n)
theorem all_names (T : Txt K mg) : ∀ n, FnOk P w K mg base CX0 (n + 1) T.a_law_names T.d_law_names ["term"] (spNames n)
  | 0 => no_left fun vs H Q E ⟨_, t, _, _, _, h, _⟩ => by have := cnt_pos t; omega
  | n + 1 => ok_law_names T (all_names T n)
theorem all_size (T : Txt K mg) : ∀ n, FnOk P w K mg base CX0 (n + 1) T.a_size T.d_size ["term"] (spNat siz n)
  | 0 => no_left fun vs H Q E ⟨_, t, _, _, _, h, _⟩ => by have := cnt_pos t; omega
  | n + 1 => ok_size T (all_size T n)
theorem all_lsize (T : Txt K mg) : ∀ n, FnOk P w K mg base CX0 (n + 1) T.a_law_size T.d_law_size ["term"] (spNat siz n)
  | 0 => no_left fun vs H Q E ⟨_, t, _, _, _, h, _⟩ => by have := cnt_pos t; omega
  | n + 1 => ok_law_size T (all_lsize T n)
theorem all_depth (T : Txt K mg) : ∀ n, FnOk P w K mg base CX0 (n + 1) T.a_depth T.d_depth ["term"] (spNat dpt n)
  | 0 => no_left fun vs H Q E ⟨_, t, _, _, _, h, _⟩ => by have := cnt_pos t; omega
  | n + 1 => ok_depth T (all_depth T n)
theorem all_ldepth (T : Txt K mg) : ∀ n, FnOk P w K mg base CX0 (n + 1) T.a_law_depth T.d_law_depth ["term"] (spNat dpt n)
  | 0 => no_left fun vs H Q E ⟨_, t, _, _, _, h, _⟩ => by have := cnt_pos t; omega
  | n + 1 => ok_law_depth T (all_ldepth T n)
theorem all_term (T : Txt K mg) : ∀ n, FnOk P w K mg base CX0 (n + 3) T.a_law_term T.d_law_term ["draws", "makers", "names", "deep"] (spTerm n)
  | 0 => no_left fun vs H Q E ⟨_, _, _, _, _, _, k, _, _, _, _, _, _, _, _, h, _⟩ => by omega
  | n + 1 => ok_law_term T (ok_law_draw T) (ok_law_pick T (ok_law_draw T)) (all_term T n)
theorem all_bent (T : Txt K mg) : ∀ n, FnOk P w K mg base CX0 (n + 3) T.a_law_bent T.d_law_bent ["draws", "makers", "value"] (spBent n)
  | 0 => no_left fun vs H Q E ⟨_, _, _, _, _, t, _, _, _, _, _, h, _⟩ => by have := cnt_pos t; omega
  | n + 1 => ok_law_bent T (ok_law_draw T) (ok_law_odd T (ok_law_pick T (ok_law_draw T))) (all_bent T n)
theorem ok_law (T : Txt K mg) (G_law_draws : FnOk P w K mg base CX0 1 T.a_law_draws T.d_law_draws ["script"] (spDraws K)) (G_law_makers : FnOk P w K mg base CX0 2 T.a_law_makers T.d_law_makers ["draws"] spMakers) (G_law_draw : FnOk P w K mg base CX0 1 T.a_law_draw T.d_law_draw ["draws", "limit"] spDraw) (G_law_term : FnOk P w K mg base CX0 8 T.a_law_term T.d_law_term ["draws", "makers", "names", "deep"] (spTerm 5)) (G_law_bent : FnOk P w K mg base CX0 73 T.a_law_bent T.d_law_bent ["draws", "makers", "value"] (spBent 70)) (G_law_is_term : FnOk P w K mg base CX0 71 T.a_law_is_term T.d_law_is_term ["makers", "value"] (spIs true 70)) (G_law_told : FnOk P w K mg base CX0 1 T.a_law_told T.d_law_told ["actual", "due"] spTold) (G_is_term : FnOk P w K mg base CX0 72 T.a_is_term T.d_is_term ["makers", "value"] (spIs true 70)) (G_is_tree : FnOk P w K mg base CX0 72 T.a_is_tree T.d_is_tree ["makers", "value"] (spIs false 70)) (G_law_names : FnOk P w K mg base CX0 71 T.a_law_names T.d_law_names ["term"] (spNames 70)) (G_names_of : FnOk P w K mg base CX0 1 T.a_names_of T.d_names_of ["term"] (spNames 70)) (G_size : FnOk P w K mg base CX0 71 T.a_size T.d_size ["term"] (spNat siz 70)) (G_law_size : FnOk P w K mg base CX0 71 T.a_law_size T.d_law_size ["term"] (spNat siz 70)) (G_depth : FnOk P w K mg base CX0 71 T.a_depth T.d_depth ["term"] (spNat dpt 70)) (G_law_depth : FnOk P w K mg base CX0 71 T.a_law_depth T.d_law_depth ["term"] (spNat dpt 70)) : FnOk P w K mg base CX0 74 T.a_law T.d_law ["script"] (spLaw K) := by
  refine T.F_law.ok sc_law (fun vs H Q E h => ?_) (fun cdv A outer s H vs Q E hr h => ?_)
  · obtain ⟨a, ns, rfl, _⟩ := h; rfl
  · obtain ⟨a, ns, rfl, hS, h63, q⟩ := h
    have hr_law_draws := hr.mono (show 1 ≤ 73 by decide)
    have hr_law_makers := hr.mono (show 2 ≤ 73 by decide)
    have hr_law_draw := hr.mono (show 1 ≤ 73 by decide)
    have hr_law_term := hr.mono (show 8 ≤ 73 by decide)
    have hr_law_bent := hr
    have hr_law_is_term := hr.mono (show 71 ≤ 73 by decide)
    have hr_law_told := hr.mono (show 1 ≤ 73 by decide)
    have hr_is_term := hr.mono (show 72 ≤ 73 by decide)
    have hr_is_tree := hr.mono (show 72 ≤ 73 by decide)
    have hr_law_names := hr.mono (show 71 ≤ 73 by decide)
    have hr_names_of := hr.mono (show 1 ≤ 73 by decide)
    have hr_size := hr.mono (show 71 ≤ 73 by decide)
    have hr_law_size := hr.mono (show 71 ≤ 73 by decide)
    have hr_depth := hr.mono (show 71 ≤ 73 by decide)
    have hr_law_depth := hr.mono (show 71 ≤ 73 by decide)
    refine ⟨_, (pss_cons (ps_set (i := 1) sc_law.nd rfl (Or.inl rfl) (pe_call G_law_draws hr_law_draws rfl T.m_law_draws T.F_law_draws.kp T.b_law_draws .nil pass0 (pa_cons (pv 0) pa_nil)))
    (pss_cons (ps_set (i := 2) sc_law.nd rfl (Or.inl rfl) (pe_call G_law_makers hr_law_makers rfl T.m_law_makers T.F_law_makers.kp T.b_law_makers .nil pass0 (pa_cons (pv 1) pa_nil)))
    (pss_cons (ps_for PassesOwn.never rfl (pi_range1 (by rfl) T.z_range (pa_cons pe_int pa_nil)) (pg_name (i := 3) sc_law.nd rfl (Or.inl rfl))
    (pss_cons (ps_set (i := 4) sc_law.nd rfl (Or.inl rfl) (pe_call G_law_term hr_law_term rfl T.m_law_term T.F_law_term.kp T.b_law_term .nil pass0 (pa_cons (pv 1) (pa_cons (pv 2) (pa_cons (pe_lst (pa_cons pe_str (pa_cons pe_str (pa_cons pe_str (pa_cons pe_str pa_nil))))) (pa_cons (pe_call G_law_draw hr_law_draw rfl T.m_law_draw T.F_law_draw.kp T.b_law_draw .nil pass0 (pa_cons (pv 1) (pa_cons pe_int pa_nil))) pa_nil))))))
    (pss_cutK (ps_if (pt_cmpR op_eq (pe_call G_law_draw hr_law_draw rfl T.m_law_draw T.F_law_draw.kp T.b_law_draw .nil pass0 (pa_cons (pv 1) (pa_cons pe_int pa_nil))) pe_int (nomark _)) (pss_one (ps_set (i := 4) sc_law.nd rfl (Or.inl rfl) (pe_call G_law_bent hr_law_bent rfl T.m_law_bent T.F_law_bent.kp T.b_law_bent .nil pass0 (pa_cons (pv 1) (pa_cons (pv 2) (pa_cons (pv 4) pa_nil)))))) pss_nil)
    (pss_cons (ps_set (i := 5) sc_law.nd rfl (Or.inl rfl) (pe_call G_law_is_term hr_law_is_term rfl T.m_law_is_term T.F_law_is_term.kp T.b_law_is_term .nil pass0 (pa_cons (pv 2) (pa_cons (pv 4) pa_nil))))
    (pss_cons (ps_if (pt_not (pt_val (pe_call G_law_told hr_law_told rfl T.m_law_told T.F_law_told.kp T.b_law_told .nil pass0 (pa_cons (pe_call G_is_term hr_is_term rfl T.m_is_term T.F_is_term.kp T.b_is_term .nil pass0 (pa_cons (pv 2) (pa_cons (pv 4) pa_nil))) (pa_cons (pv 5) pa_nil))))) (pss_one (ps_ret pe_bl)) pss_nil)
    (pss_cons (ps_if (pt_not (pt_val (pe_call G_law_told hr_law_told rfl T.m_law_told T.F_law_told.kp T.b_law_told .nil pass0 (pa_cons (pe_call G_is_tree hr_is_tree rfl T.m_is_tree T.F_is_tree.kp T.b_is_tree .nil pass0 (pa_cons (pv 2) (pa_cons (pv 4) pa_nil))) (pa_cons (pe_cut (pe_and (pv 5) (pe_one (pe_cmpR (op_eqD hr.units) (pe_call G_law_names hr_law_names rfl T.m_law_names T.F_law_names.kp T.b_law_names .nil pass0 (pa_cons (pv 4) pa_nil)) (pe_lst pa_nil) (nomark _))))) pa_nil))))) (pss_one (ps_ret pe_bl)) pss_nil)
    (pss_one (ps_if (pt_val (pv 5)) (pss_one (ps_if (PW.pt (pw_or (pt_cmpR (op_neD hr.units) (pe_call G_names_of hr_names_of rfl T.m_names_of T.F_names_of.kp T.b_names_of .nil pass0 (pa_cons (pv 4) pa_nil)) (pe_call G_law_names hr_law_names rfl T.m_law_names T.F_law_names.kp T.b_law_names .nil pass0 (pa_cons (pv 4) pa_nil)) (nomark _)) (pw_or (pt_cmpR op_ne (pe_call G_size hr_size rfl T.m_size T.F_size.kp T.b_size .nil pass0 (pa_cons (pv 4) pa_nil)) (pe_call G_law_size hr_law_size rfl T.m_law_size T.F_law_size.kp T.b_law_size .nil pass0 (pa_cons (pv 4) pa_nil)) (nomark _)) (pw_or1 (pt_cmpR op_ne (pe_call G_depth hr_depth rfl T.m_depth T.F_depth.kp T.b_depth .nil pass0 (pa_cons (pv 4) pa_nil)) (pe_call G_law_depth hr_law_depth rfl T.m_law_depth T.F_law_depth.kp T.b_law_depth .nil pass0 (pa_cons (pv 4) pa_nil)) (nomark _)))))) (pss_one (ps_ret pe_bl)) pss_nil)) pss_nil))))))))
    (pss_one (ps_ret pe_bl))))), ?_⟩
    refine ⟨_, rfl, a, ns, rfl, hS, h63, fun d sa H1 s1 D1 => ?_⟩
    refine ⟨_, rfl, d, sa, rfl, D1, fun m H2 mk M2 x2 D2 => ?_⟩
    refine ⟨8, rfl, by decide, by decide, ?_⟩
    refine for_range (lo := 0) (n := 8) (fun i σ H3 => ∃ y3 y4 y5, σ = [some (.ref a), some (.ref d), some (.ref m), y3, y4, y5] ∧ Dr H3 d sa ∧ Mk H3 m mk) ?_ ?_ ?_
    · exact ⟨none, none, none, rfl, D2, M2⟩
    · intro i σ H3 hi ⟨y3, y4, y5, es, D3, M3⟩
      subst es
      refine ⟨_, rfl, _, rfl, (by show 4 ≤ sizeLine; decide), fun nl hnl => ?_⟩
      obtain ⟨nd, nsa⟩ := D3.free (H1 := H3) hnl
      have sN := same_upd hnl (.lst [.str "a", .str "b", .str "c.1", .str "d.2.1"])
      refine ⟨_, rfl, d, sa, _, rfl, D3.same sN, by omega, by omega, fun r H4 r0 r1 x4 D4 => ?_⟩
      obtain ⟨k, rfl⟩ : ∃ k : Nat, r = (k : Int) := ⟨r.toNat, by omega⟩
      have M4 := (M3.same sN).ex x4 (D3.same sN).lst
      refine ⟨d, sa, m, nl, mk, ["a", "b", "c.1", "d.2.1"], k, rfl, D4, M4, x4.but _ _ nd upd_same, nd, by decide, by decide, by decide +kernel, by omega, fun v t H5 hv ht hc x5 D5 => ?_⟩
      have M5 := M4.ex x5 D4.lst
      have c62 : cnt t ≤ 62 := by
        have : 2 ^ (k + 2) ≤ 2 ^ 6 := Nat.pow_le_pow_right (by decide) (by omega)
        omega
      refine ⟨fun σ H6 => ∃ v t y3 y5, σ = [some (.ref a), some (.ref d), some (.ref m), y3, some v, y5] ∧ Dr H6 d sa ∧ Mk H6 m mk ∧ Is H6 v t ∧ cnt t ≤ 70, ?_, ?_⟩
      · refine ⟨_, rfl, d, sa, _, rfl, D5, by omega, by omega, fun r2 H6 a0 a1 x6 D6 => ⟨rfl, _, rfl, ?_⟩⟩
        have M6 := M5.ex x6 D5.lst
        have hv6 := hv.ex x6 D5.lst
        refine ite2 (fun _ => ?_) (fun _ => ⟨v, t, _, _, rfl, D6, M6, hv6, by omega⟩)
        refine ⟨_, rfl, _, rfl, _, rfl, d, sa, m, mk, v, t, rfl, D6, M6, hv6, ht, by omega, by omega, fun v' t' H7 hv' hc' x7 D7 => ?_⟩
        exact ⟨v', t', _, _, rfl, D7, M6.ex x7 D6.lst, hv', by omega⟩
      · intro σ H6 ⟨v, t, y3, y5, es, D6, M6, I6, c70⟩
        subst es
        refine ⟨_, rfl, _, rfl, m, mk, v, t, rfl, M6, I6, c70, by omega, fun H7 s7 => ?_⟩
        have I7 := I6.same s7
        have M7 := M6.same s7
        refine ⟨_, rfl, _, rfl, m, mk, v, t, rfl, M7, I7, c70, by omega, fun H8 s8 => ⟨_, rfl, _, _, rfl, _, rfl, ?_⟩⟩
        refine ite2 (fun c => absurd c (by simp)) (fun _ => ?_)
        have I8 := I7.same s8
        have M8 := M7.same s8
        refine ⟨_, rfl, _, rfl, m, mk, v, t, rfl, M8, I8, c70, by omega, fun H9 s9 => ?_⟩
        have I9 := I8.same s9
        refine ⟨fun u H10 => u = .bl (form mk false t) ∧ Same H9 H10, ?_, ?_⟩
        · refine ⟨_, rfl, form mk true t, rfl, ?_⟩
          cases hf : form mk true t with
          | false => exact iteF ⟨by rw [tree_eq, hf, Bool.false_and], .refl _⟩
          | true =>
            refine iteT ⟨_, rfl, v, t, rfl, I9, form_tm mk t hf, c70, by omega, fun p H10 s10 ep => ⟨(by show 0 ≤ sizeLine; decide), fun l hl => ?_⟩⟩
            have s11 := same_upd hl (.lst [])
            refine ⟨_, _, dp_list (s11 _ _ ep), dp_list (f := []) upd_same, shaped_strs I9.nms_ok, shaped_strs (f := []) (fun z h => by simp at h), ?_, s10.trans s11⟩
            rw [eqv_nil, tree_eq, hf, Bool.true_and]
        · intro u H10 ⟨eu, s10⟩
          subst eu
          refine ⟨_, _, rfl, _, rfl, ?_⟩
          refine ite2 (fun c => absurd c (by simp)) (fun _ => ?_)
          have I10 := I9.same s10
          have s610 := ((s7.trans s8).trans s9).trans s10
          refine ⟨_, rfl, _, rfl, ite2 (fun hf => ?_) (fun _ => ⟨_, _, _, rfl, D6.same s610, M6.same s610⟩)⟩
          have tm := form_tm mk t hf
          refine ⟨_, rfl, v, t, rfl, I10, tm, c70, by omega, fun p1 H11 s11 e1 => ?_⟩
          have I11 := I10.same s11
          refine ⟨_, rfl, v, t, rfl, I11, tm, c70, by omega, fun p2 H12 s12 e2 => ?_⟩
          have I12 := I11.same s12
          have shp := shaped_strs I12.nms_ok
          refine ⟨_, _, dp_list (s12 _ _ e1), dp_list e2, shp, shp, _, rfl, ?_⟩
          refine ite2 (fun c => absurd c ?_) (fun _ => ?_)
          · rw [SeqAt.eqv_refl _ (SeqAt.canLay_of_shaped shp)]
            simp
          refine ⟨_, rfl, v, t, rfl, I12, tm, c70, by omega, fun H13 s13 => ?_⟩
          have I13 := I12.same s13
          refine ⟨_, rfl, v, t, rfl, I13, tm, c70, by omega, fun H14 s14 => ⟨rfl, _, rfl, ?_⟩⟩
          refine ite2 (fun c => absurd c (by simp)) (fun _ => ?_)
          have I14 := I13.same s14
          refine ⟨_, rfl, v, t, rfl, I14, tm, c70, by omega, fun H15 s15 => ?_⟩
          have I15 := I14.same s15
          refine ⟨_, rfl, v, t, rfl, I15, tm, c70, by omega, fun H16 s16 => ⟨rfl, _, rfl, ?_⟩⟩
          refine ite2 (fun c => absurd c (by simp)) (fun _ => ?_)
          have s616 := (((((s610.trans s11).trans s12).trans s13).trans s14).trans s15).trans s16
          exact ⟨_, _, _, rfl, D6.same s616, M6.same s616⟩
    · intro σ H3 ⟨y3, y4, y5, es, D3, M3⟩
      subst es
      exact q H3
end
end Kx
/-! The end: the program's top leaves the defs where the text says. -/
namespace Kx
open PySem L2
theorem all_mk {l : PySem.W.OpenLaw} {w : World} {K : PySem.W.Frag} {h : Heap} {mg : Str → Option Value} {fa f0 f1 f2 f3 f4 f5 f6 f7 f8 f9 f10 f11 f12 f13 f14 f15 f16 f17 f18 f19 f20 f21 : Addr} (X : K.In h) (G : h.Ns mainGlobals mg) (hfa : mg "law" = some (.ref fa))
    {od0 an0 od1 an1 od2 an2 od3 an3 od4 an4 od5 an5 od6 an6 od7 an7 od8 an8 od9 an9 od10 an10 od11 an11 od12 an12 od13 an13 od14 an14 od15 an15 od16 an16 od17 an17 od18 an18 od19 an19 od20 an20 od21 an21 : Option Addr} {sl0 sl1 sl2 sl3 sl4 sl5 sl6 sl7 sl8 sl9 sl10 sl11 sl12 sl13 sl14 sl15 sl16 sl17 sl18 sl19 sl20 sl21 : Array (Option Value)} {oc0 kV0 dc0 pm0 cd0 ct0 oc1 kV1 dc1 pm1 cd1 ct1 oc2 kV2 dc2 pm2 cd2 ct2 oc3 kV3 dc3 pm3 cd3 ct3 oc4 kV4 dc4 pm4 cd4 ct4 oc5 kV5 dc5 pm5 cd5 ct5 oc6 kV6 dc6 pm6 cd6 ct6 oc7 kV7 dc7 pm7 cd7 ct7 oc8 kV8 dc8 pm8 cd8 ct8 oc9 kV9 dc9 pm9 cd9 ct9 oc10 kV10 dc10 pm10 cd10 ct10 oc11 kV11 dc11 pm11 cd11 ct11 oc12 kV12 dc12 pm12 cd12 ct12 oc13 kV13 dc13 pm13 cd13 ct13 oc14 kV14 dc14 pm14 cd14 ct14 oc15 kV15 dc15 pm15 cd15 ct15 oc16 kV16 dc16 pm16 cd16 ct16 oc17 kV17 dc17 pm17 cd17 ct17 oc18 kV18 dc18 pm18 cd18 ct18 oc19 kV19 dc19 pm19 cd19 ct19 oc20 kV20 dc20 pm20 cd20 ct20 oc21 kV21 dc21 pm21 cd21 ct21 : Value}
    {C0 : Addr} (aC0 : PySem.W.nsIn K mainGlobals "Kept" = some (some (.ref C0))) (pg0 : PySem.W.plainGet K C0 Str.empty = true) (hd0 : PySem.W.hasDictIn K C0 = true) (po0 : PySem.W.plainOver K C0 = true) (sa0 : PySem.W.findIn K (.ref C0) "__setattr__" = some (some (.builtin "object.__setattr__"))) (mk0 : PySem.W.makesIn K C0 = true) (kc0 : PySem.W.keepIn K (.ref C0) = true) (nx0_0 : PySem.W.findIn K (.ref C0) "rows" = some none)
    {ti0 : Tok} (gi0 : PySem.W.nsIn K mainGlobals "MOST_KEPT" = some (some (.int 32 ti0)))
    (a0 : PySem.W.findIn K (.ref C0) "__init__" = some (some (.ref f0))) (i0 : PySem.W.isFn K (.ref f0) = true) (l0 : K.lookup f0 = some ⟨oc0, od0, .func (PySem.W.fnOf "__init__" "Kept.__init__" (defArgs s_Kept_init) (defBody s_Kept_init) (defScope s_Kept_init) .none kV0 dc0 pm0 an0 cd0 ct0), sl0⟩) (c0 : PySem.W.codeIn K cd0 "Kept.__init__" = true) (k0 : PySem.W.keepIn K (.ref f0) = true)
    (a1 : PySem.W.findIn K (.ref C0) "pair_of" = some (some (.ref f1))) (i1 : PySem.W.isFn K (.ref f1) = true) (l1 : K.lookup f1 = some ⟨oc1, od1, .func (PySem.W.fnOf "pair_of" "Kept.pair_of" (defArgs s_Kept_pair_of) (defBody s_Kept_pair_of) (defScope s_Kept_pair_of) .none kV1 dc1 pm1 an1 cd1 ct1), sl1⟩) (c1 : PySem.W.codeIn K cd1 "Kept.pair_of" = true) (k1 : PySem.W.keepIn K (.ref f1) = true)
    (a2 : PySem.W.findIn K (.ref C0) "keep" = some (some (.ref f2))) (i2 : PySem.W.isFn K (.ref f2) = true) (l2 : K.lookup f2 = some ⟨oc2, od2, .func (PySem.W.fnOf "keep" "Kept.keep" (defArgs s_Kept_keep) (defBody s_Kept_keep) (defScope s_Kept_keep) .none kV2 dc2 pm2 an2 cd2 ct2), sl2⟩) (c2 : PySem.W.codeIn K cd2 "Kept.keep" = true) (k2 : PySem.W.keepIn K (.ref f2) = true)
    (a3 : PySem.W.nsIn K mainGlobals "is_term" = some (some (.ref f3))) (l3 : K.lookup f3 = some ⟨oc3, od3, .func (PySem.W.fnOf "is_term" "is_term" (defArgs s_is_term) (defBody s_is_term) (defScope s_is_term) .none kV3 dc3 pm3 an3 cd3 ct3), sl3⟩) (c3 : PySem.W.codeIn K cd3 "is_term" = true) (k3 : PySem.W.keepIn K (.ref f3) = true)
    (a4 : PySem.W.nsIn K mainGlobals "is_tree" = some (some (.ref f4))) (l4 : K.lookup f4 = some ⟨oc4, od4, .func (PySem.W.fnOf "is_tree" "is_tree" (defArgs s_is_tree) (defBody s_is_tree) (defScope s_is_tree) .none kV4 dc4 pm4 an4 cd4 ct4), sl4⟩) (c4 : PySem.W.codeIn K cd4 "is_tree" = true) (k4 : PySem.W.keepIn K (.ref f4) = true)
    (a5 : PySem.W.nsIn K mainGlobals "_has_form" = some (some (.ref f5))) (l5 : K.lookup f5 = some ⟨oc5, od5, .func (PySem.W.fnOf "_has_form" "_has_form" (defArgs s_has_form) (defBody s_has_form) (defScope s_has_form) .none kV5 dc5 pm5 an5 cd5 ct5), sl5⟩) (c5 : PySem.W.codeIn K cd5 "_has_form" = true) (k5 : PySem.W.keepIn K (.ref f5) = true)
    (a6 : PySem.W.nsIn K mainGlobals "size" = some (some (.ref f6))) (l6 : K.lookup f6 = some ⟨oc6, od6, .func (PySem.W.fnOf "size" "size" (defArgs s_size) (defBody s_size) (defScope s_size) .none kV6 dc6 pm6 an6 cd6 ct6), sl6⟩) (c6 : PySem.W.codeIn K cd6 "size" = true) (k6 : PySem.W.keepIn K (.ref f6) = true)
    (a7 : PySem.W.nsIn K mainGlobals "depth" = some (some (.ref f7))) (l7 : K.lookup f7 = some ⟨oc7, od7, .func (PySem.W.fnOf "depth" "depth" (defArgs s_depth) (defBody s_depth) (defScope s_depth) .none kV7 dc7 pm7 an7 cd7 ct7), sl7⟩) (c7 : PySem.W.codeIn K cd7 "depth" = true) (k7 : PySem.W.keepIn K (.ref f7) = true)
    (a8 : PySem.W.nsIn K mainGlobals "names_of" = some (some (.ref f8))) (l8 : K.lookup f8 = some ⟨oc8, od8, .func (PySem.W.fnOf "names_of" "names_of" (defArgs s_names_of) (defBody s_names_of) (defScope s_names_of) .none kV8 dc8 pm8 an8 cd8 ct8), sl8⟩) (c8 : PySem.W.codeIn K cd8 "names_of" = true) (k8 : PySem.W.keepIn K (.ref f8) = true)
    (a9 : PySem.W.nsIn K mainGlobals "_law_draws" = some (some (.ref f9))) (l9 : K.lookup f9 = some ⟨oc9, od9, .func (PySem.W.fnOf "_law_draws" "_law_draws" (defArgs s_law_draws) (defBody s_law_draws) (defScope s_law_draws) .none kV9 dc9 pm9 an9 cd9 ct9), sl9⟩) (c9 : PySem.W.codeIn K cd9 "_law_draws" = true) (k9 : PySem.W.keepIn K (.ref f9) = true)
    (a10 : PySem.W.nsIn K mainGlobals "_law_draw" = some (some (.ref f10))) (l10 : K.lookup f10 = some ⟨oc10, od10, .func (PySem.W.fnOf "_law_draw" "_law_draw" (defArgs s_law_draw) (defBody s_law_draw) (defScope s_law_draw) .none kV10 dc10 pm10 an10 cd10 ct10), sl10⟩) (c10 : PySem.W.codeIn K cd10 "_law_draw" = true) (k10 : PySem.W.keepIn K (.ref f10) = true)
    (a11 : PySem.W.nsIn K mainGlobals "_law_pick" = some (some (.ref f11))) (l11 : K.lookup f11 = some ⟨oc11, od11, .func (PySem.W.fnOf "_law_pick" "_law_pick" (defArgs s_law_pick) (defBody s_law_pick) (defScope s_law_pick) .none kV11 dc11 pm11 an11 cd11 ct11), sl11⟩) (c11 : PySem.W.codeIn K cd11 "_law_pick" = true) (k11 : PySem.W.keepIn K (.ref f11) = true)
    (a12 : PySem.W.nsIn K mainGlobals "_law_makers" = some (some (.ref f12))) (l12 : K.lookup f12 = some ⟨oc12, od12, .func (PySem.W.fnOf "_law_makers" "_law_makers" (defArgs s_law_makers) (defBody s_law_makers) (defScope s_law_makers) .none kV12 dc12 pm12 an12 cd12 ct12), sl12⟩) (c12 : PySem.W.codeIn K cd12 "_law_makers" = true) (k12 : PySem.W.keepIn K (.ref f12) = true)
    (a13 : PySem.W.nsIn K mainGlobals "_law_term" = some (some (.ref f13))) (l13 : K.lookup f13 = some ⟨oc13, od13, .func (PySem.W.fnOf "_law_term" "_law_term" (defArgs s_law_term) (defBody s_law_term) (defScope s_law_term) .none kV13 dc13 pm13 an13 cd13 ct13), sl13⟩) (c13 : PySem.W.codeIn K cd13 "_law_term" = true) (k13 : PySem.W.keepIn K (.ref f13) = true)
    (a14 : PySem.W.nsIn K mainGlobals "_law_odd" = some (some (.ref f14))) (l14 : K.lookup f14 = some ⟨oc14, od14, .func (PySem.W.fnOf "_law_odd" "_law_odd" (defArgs s_law_odd) (defBody s_law_odd) (defScope s_law_odd) .none kV14 dc14 pm14 an14 cd14 ct14), sl14⟩) (c14 : PySem.W.codeIn K cd14 "_law_odd" = true) (k14 : PySem.W.keepIn K (.ref f14) = true)
    (a15 : PySem.W.nsIn K mainGlobals "_law_bent" = some (some (.ref f15))) (l15 : K.lookup f15 = some ⟨oc15, od15, .func (PySem.W.fnOf "_law_bent" "_law_bent" (defArgs s_law_bent) (defBody s_law_bent) (defScope s_law_bent) .none kV15 dc15 pm15 an15 cd15 ct15), sl15⟩) (c15 : PySem.W.codeIn K cd15 "_law_bent" = true) (k15 : PySem.W.keepIn K (.ref f15) = true)
    (a16 : PySem.W.nsIn K mainGlobals "_law_is_term" = some (some (.ref f16))) (l16 : K.lookup f16 = some ⟨oc16, od16, .func (PySem.W.fnOf "_law_is_term" "_law_is_term" (defArgs s_law_is_term) (defBody s_law_is_term) (defScope s_law_is_term) .none kV16 dc16 pm16 an16 cd16 ct16), sl16⟩) (c16 : PySem.W.codeIn K cd16 "_law_is_term" = true) (k16 : PySem.W.keepIn K (.ref f16) = true)
    (a17 : PySem.W.nsIn K mainGlobals "_law_names" = some (some (.ref f17))) (l17 : K.lookup f17 = some ⟨oc17, od17, .func (PySem.W.fnOf "_law_names" "_law_names" (defArgs s_law_names) (defBody s_law_names) (defScope s_law_names) .none kV17 dc17 pm17 an17 cd17 ct17), sl17⟩) (c17 : PySem.W.codeIn K cd17 "_law_names" = true) (k17 : PySem.W.keepIn K (.ref f17) = true)
    (a18 : PySem.W.nsIn K mainGlobals "_law_size" = some (some (.ref f18))) (l18 : K.lookup f18 = some ⟨oc18, od18, .func (PySem.W.fnOf "_law_size" "_law_size" (defArgs s_law_size) (defBody s_law_size) (defScope s_law_size) .none kV18 dc18 pm18 an18 cd18 ct18), sl18⟩) (c18 : PySem.W.codeIn K cd18 "_law_size" = true) (k18 : PySem.W.keepIn K (.ref f18) = true)
    (a19 : PySem.W.nsIn K mainGlobals "_law_depth" = some (some (.ref f19))) (l19 : K.lookup f19 = some ⟨oc19, od19, .func (PySem.W.fnOf "_law_depth" "_law_depth" (defArgs s_law_depth) (defBody s_law_depth) (defScope s_law_depth) .none kV19 dc19 pm19 an19 cd19 ct19), sl19⟩) (c19 : PySem.W.codeIn K cd19 "_law_depth" = true) (k19 : PySem.W.keepIn K (.ref f19) = true)
    (a20 : PySem.W.nsIn K mainGlobals "_law_told" = some (some (.ref f20))) (l20 : K.lookup f20 = some ⟨oc20, od20, .func (PySem.W.fnOf "_law_told" "_law_told" (defArgs s_law_told) (defBody s_law_told) (defScope s_law_told) .none kV20 dc20 pm20 an20 cd20 ct20), sl20⟩) (c20 : PySem.W.codeIn K cd20 "_law_told" = true) (k20 : PySem.W.keepIn K (.ref f20) = true)
    (a21 : PySem.W.nsIn K mainGlobals "law" = some (some (.ref f21))) (l21 : K.lookup f21 = some ⟨oc21, od21, .func (PySem.W.fnOf "law" "law" (defArgs s_law) (defBody s_law) (defScope s_law) .none kV21 dc21 pm21 an21 cd21 ct21), sl21⟩) (c21 : PySem.W.codeIn K cd21 "law" = true) (k21 : PySem.W.keepIn K (.ref f21) = true)
    (z0 : PySem.W.nsIn K mainGlobals "reversed" = some none)
    (z1 : PySem.W.nsIn K mainGlobals "dict" = some none)
    (z2 : PySem.W.nsIn K mainGlobals "isinstance" = some none)
    (z3 : PySem.W.nsIn K mainGlobals "str" = some none)
    (z4 : PySem.W.nsIn K mainGlobals "tuple" = some none)
    (z5 : PySem.W.nsIn K mainGlobals "len" = some none)
    (z6 : PySem.W.nsIn K mainGlobals "max" = some none)
    (z7 : PySem.W.nsIn K mainGlobals "list" = some none)
    (z8 : PySem.W.nsIn K mainGlobals "abs" = some none)
    (z9 : PySem.W.nsIn K mainGlobals "int" = some none)
    (z10 : PySem.W.nsIn K mainGlobals "range" = some none)
    (z11 : PySem.W.nsIn K mainGlobals "all" = some none)
    (z12 : PySem.W.nsIn K mainGlobals "sum" = some none)
    (z13 : PySem.W.nsIn K mainGlobals "bool" = some none)
    : ∃ fd : FuncData, (∀ (s : Shared) (v : Value), BindsTo s fd ⟨[v], []⟩ [("script", v)]) ∧ ∀ base : Heap, K.In base → base.Ns mainGlobals mg → FnOk l.prog w K mg base CX0 74 fa fd ["script"] (spLaw K) := by
  have e := hfa.symm.trans (PySem.W.mg_of X G a21)
  cases e
  let T : Txt K mg := {
    c_Kept := C0, cl_Kept := ⟨pg0, hd0, po0, sa0⟩, mg_Kept := PySem.W.mg_of X G aC0,
    no_Kept_rows := nx0_0,
    mk_Kept := ⟨mk0, a0, i0, kc0⟩,
    t_MOST_KEPT := ti0, g_MOST_KEPT := PySem.W.mg_of X G gi0,
    a_Kept_init := f0, d_Kept_init := _, F_Kept_init := fun_mk (st := s_Kept_init) l0 c0 k0, b_Kept_init := (fun_mk (st := s_Kept_init) l0 c0 k0).binds (ps := ["self"]) (fun _ _ _ _ _ _ us hl => match us, hl with | [_], _ => rfl), me_Kept_init := ⟨a0, i0, k0⟩,
    a_Kept_pair_of := f1, d_Kept_pair_of := _, F_Kept_pair_of := fun_mk (st := s_Kept_pair_of) l1 c1 k1, b_Kept_pair_of := (fun_mk (st := s_Kept_pair_of) l1 c1 k1).binds (ps := ["self", "tree"]) (fun _ _ _ _ _ _ us hl => match us, hl with | [_, _], _ => rfl), me_Kept_pair_of := ⟨a1, i1, k1⟩,
    a_Kept_keep := f2, d_Kept_keep := _, F_Kept_keep := fun_mk (st := s_Kept_keep) l2 c2 k2, b_Kept_keep := (fun_mk (st := s_Kept_keep) l2 c2 k2).binds (ps := ["self", "tree", "result"]) (fun _ _ _ _ _ _ us hl => match us, hl with | [_, _, _], _ => rfl), me_Kept_keep := ⟨a2, i2, k2⟩,
    a_is_term := f3, d_is_term := _, F_is_term := fun_mk (st := s_is_term) l3 c3 k3, b_is_term := (fun_mk (st := s_is_term) l3 c3 k3).binds (ps := ["makers", "value"]) (fun _ _ _ _ _ _ us hl => match us, hl with | [_, _], _ => rfl), m_is_term := PySem.W.mg_of X G a3,
    a_is_tree := f4, d_is_tree := _, F_is_tree := fun_mk (st := s_is_tree) l4 c4 k4, b_is_tree := (fun_mk (st := s_is_tree) l4 c4 k4).binds (ps := ["makers", "value"]) (fun _ _ _ _ _ _ us hl => match us, hl with | [_, _], _ => rfl), m_is_tree := PySem.W.mg_of X G a4,
    a_has_form := f5, d_has_form := _, F_has_form := fun_mk (st := s_has_form) l5 c5 k5, b_has_form := (fun_mk (st := s_has_form) l5 c5 k5).binds (ps := ["parts_by_word", "value", "may_have_names", "kept"]) (fun _ _ _ _ _ _ us hl => match us, hl with | [_, _, _, _], _ => rfl), m_has_form := PySem.W.mg_of X G a5,
    a_size := f6, d_size := _, F_size := fun_mk (st := s_size) l6 c6 k6, b_size := (fun_mk (st := s_size) l6 c6 k6).binds (ps := ["term"]) (fun _ _ _ _ _ _ us hl => match us, hl with | [_], _ => rfl), m_size := PySem.W.mg_of X G a6,
    a_depth := f7, d_depth := _, F_depth := fun_mk (st := s_depth) l7 c7 k7, b_depth := (fun_mk (st := s_depth) l7 c7 k7).binds (ps := ["term"]) (fun _ _ _ _ _ _ us hl => match us, hl with | [_], _ => rfl), m_depth := PySem.W.mg_of X G a7,
    a_names_of := f8, d_names_of := _, F_names_of := fun_mk (st := s_names_of) l8 c8 k8, b_names_of := (fun_mk (st := s_names_of) l8 c8 k8).binds (ps := ["term"]) (fun _ _ _ _ _ _ us hl => match us, hl with | [_], _ => rfl), m_names_of := PySem.W.mg_of X G a8,
    a_law_draws := f9, d_law_draws := _, F_law_draws := fun_mk (st := s_law_draws) l9 c9 k9, b_law_draws := (fun_mk (st := s_law_draws) l9 c9 k9).binds (ps := ["script"]) (fun _ _ _ _ _ _ us hl => match us, hl with | [_], _ => rfl), m_law_draws := PySem.W.mg_of X G a9,
    a_law_draw := f10, d_law_draw := _, F_law_draw := fun_mk (st := s_law_draw) l10 c10 k10, b_law_draw := (fun_mk (st := s_law_draw) l10 c10 k10).binds (ps := ["draws", "limit"]) (fun _ _ _ _ _ _ us hl => match us, hl with | [_, _], _ => rfl), m_law_draw := PySem.W.mg_of X G a10,
    a_law_pick := f11, d_law_pick := _, F_law_pick := fun_mk (st := s_law_pick) l11 c11 k11, b_law_pick := (fun_mk (st := s_law_pick) l11 c11 k11).binds (ps := ["draws", "row"]) (fun _ _ _ _ _ _ us hl => match us, hl with | [_, _], _ => rfl), m_law_pick := PySem.W.mg_of X G a11,
    a_law_makers := f12, d_law_makers := _, F_law_makers := fun_mk (st := s_law_makers) l12 c12 k12, b_law_makers := (fun_mk (st := s_law_makers) l12 c12 k12).binds (ps := ["draws"]) (fun _ _ _ _ _ _ us hl => match us, hl with | [_], _ => rfl), m_law_makers := PySem.W.mg_of X G a12,
    a_law_term := f13, d_law_term := _, F_law_term := fun_mk (st := s_law_term) l13 c13 k13, b_law_term := (fun_mk (st := s_law_term) l13 c13 k13).binds (ps := ["draws", "makers", "names", "deep"]) (fun _ _ _ _ _ _ us hl => match us, hl with | [_, _, _, _], _ => rfl), m_law_term := PySem.W.mg_of X G a13,
    a_law_odd := f14, d_law_odd := _, F_law_odd := fun_mk (st := s_law_odd) l14 c14 k14, b_law_odd := (fun_mk (st := s_law_odd) l14 c14 k14).binds (ps := ["draws", "makers"]) (fun _ _ _ _ _ _ us hl => match us, hl with | [_, _], _ => rfl), m_law_odd := PySem.W.mg_of X G a14,
    a_law_bent := f15, d_law_bent := _, F_law_bent := fun_mk (st := s_law_bent) l15 c15 k15, b_law_bent := (fun_mk (st := s_law_bent) l15 c15 k15).binds (ps := ["draws", "makers", "value"]) (fun _ _ _ _ _ _ us hl => match us, hl with | [_, _, _], _ => rfl), m_law_bent := PySem.W.mg_of X G a15,
    a_law_is_term := f16, d_law_is_term := _, F_law_is_term := fun_mk (st := s_law_is_term) l16 c16 k16, b_law_is_term := (fun_mk (st := s_law_is_term) l16 c16 k16).binds (ps := ["makers", "value"]) (fun _ _ _ _ _ _ us hl => match us, hl with | [_, _], _ => rfl), m_law_is_term := PySem.W.mg_of X G a16,
    a_law_names := f17, d_law_names := _, F_law_names := fun_mk (st := s_law_names) l17 c17 k17, b_law_names := (fun_mk (st := s_law_names) l17 c17 k17).binds (ps := ["term"]) (fun _ _ _ _ _ _ us hl => match us, hl with | [_], _ => rfl), m_law_names := PySem.W.mg_of X G a17,
    a_law_size := f18, d_law_size := _, F_law_size := fun_mk (st := s_law_size) l18 c18 k18, b_law_size := (fun_mk (st := s_law_size) l18 c18 k18).binds (ps := ["term"]) (fun _ _ _ _ _ _ us hl => match us, hl with | [_], _ => rfl), m_law_size := PySem.W.mg_of X G a18,
    a_law_depth := f19, d_law_depth := _, F_law_depth := fun_mk (st := s_law_depth) l19 c19 k19, b_law_depth := (fun_mk (st := s_law_depth) l19 c19 k19).binds (ps := ["term"]) (fun _ _ _ _ _ _ us hl => match us, hl with | [_], _ => rfl), m_law_depth := PySem.W.mg_of X G a19,
    a_law_told := f20, d_law_told := _, F_law_told := fun_mk (st := s_law_told) l20 c20 k20, b_law_told := (fun_mk (st := s_law_told) l20 c20 k20).binds (ps := ["actual", "due"]) (fun _ _ _ _ _ _ us hl => match us, hl with | [_, _], _ => rfl), m_law_told := PySem.W.mg_of X G a20,
    a_law := fa, d_law := _, F_law := fun_mk (st := s_law) l21 c21 k21, b_law := (fun_mk (st := s_law) l21 c21 k21).binds (ps := ["script"]) (fun _ _ _ _ _ _ us hl => match us, hl with | [_], _ => rfl), m_law := PySem.W.mg_of X G a21,
    z_reversed := PySem.W.mg_none_of X G z0,
    z_dict := PySem.W.mg_none_of X G z1,
    z_isinstance := PySem.W.mg_none_of X G z2,
    z_str := PySem.W.mg_none_of X G z3,
    z_tuple := PySem.W.mg_none_of X G z4,
    z_len := PySem.W.mg_none_of X G z5,
    z_max := PySem.W.mg_none_of X G z6,
    z_list := PySem.W.mg_none_of X G z7,
    z_abs := PySem.W.mg_none_of X G z8,
    z_int := PySem.W.mg_none_of X G z9,
    z_range := PySem.W.mg_none_of X G z10,
    z_all := PySem.W.mg_none_of X G z11,
    z_sum := PySem.W.mg_none_of X G z12,
    z_bool := PySem.W.mg_none_of X G z13 }
  refine ⟨PySem.W.fnOf "law" "law" (defArgs s_law) (defBody s_law) (defScope s_law) .none kV21 dc21 pm21 an21 cd21 ct21, fun _ _ => .of_eq rfl, fun base _ _ => ?_⟩
  have d1 := ok_law_draw (P := l.prog) (w := w) (base := base) T
  have pk := ok_law_pick T d1
  exact ok_law T (ok_law_draws T) (ok_law_makers T d1) d1 (all_term T 5) (all_bent T 70) (all_isT T 70) (ok_law_told T) (ok_is_term T (all_form T 70) (ok_Kept_init T)) (ok_is_tree T (all_form T 70) (ok_Kept_init T)) (all_names T 70) (ok_names_of T) (all_size T 70) (all_lsize T 70) (all_depth T 70) (all_ldepth T 70)
theorem law_walk {l : PySem.W.OpenLaw} {q : Program} {loose : List Str} {XP : (Str → Option Value) → Heap → Prop} {YP : World → Heap → Prop} {r : DefRec} {K : Params → PySem.W.Frag}
    (h63 : l.most = some 63) (hno : r.params.defaults = []) (hK : ∀ (w : World) (h : Heap), YP w h → (K w.params).In h)
    (ok : ∀ (w : World) (mg : Str → Option Value) (fa : Addr) (h : Heap), (K w.params).In h → h.Ns mainGlobals mg → mg r.name = some (.ref fa) →
      ∃ fd : FuncData, (∀ (s : Shared) (u : Value), BindsTo s fd ⟨[u], []⟩ [("script", u)]) ∧
        ∀ base : Heap, (K w.params).In base → base.Ns mainGlobals mg → FnOk l.prog w (K w.params) mg base CX0 74 fa fd ["script"] (spLaw (K w.params))) :
    PySem.W.WalkO q loose XP YP l.row.toRowW r [] (fun f vs => PySem.call f vs) :=
  L2.walk_of (n := 63) (k := 74) (x := "script") (CX := fun _ => CX0) (sp := fun w => spLaw (K w.params)) h63 (by decide) hno ⟨rfl, by decide, by decide⟩ hK ok
    (fun _ _ a ns few _ seq => ⟨a, ns, rfl, seq, few, fun _ => rfl⟩) fun _ _ _ _ _ z => z
end Kx
open PySem PySem.W PyProof.Rows
set_option maxRecDepth 100000 in
set_option maxHeartbeats 0 in
theorem PySem.Challenge.cw_exactkinds_k01_terms_and_trees_holds : PySem.Challenge.rw_exactkinds_k01_terms_and_trees.Holds := by
  w_on; o_law; k_head; (case hw => w_witness2)
  k_fill
  refine Kx.law_walk (l := PySem.Challenge.rw_exactkinds_k01_terms_and_trees) rfl rfl (fun _ _ Y => PySem.W.kIn_of Y) ?walked
  case walked =>
    intro w mg fa h inK names hmg
    refine' Kx.all_mk inK names hmg ?aC0 ?pg0 ?hd0 ?po0 ?sa0 ?mk0 ?kc0 ?nx0_0 ?gi0 ?a0 ?i0 ?l0 ?c0 ?k0 ?a1 ?i1 ?l1 ?c1 ?k1 ?a2 ?i2 ?l2 ?c2 ?k2 ?a3 ?l3 ?c3 ?k3 ?a4 ?l4 ?c4 ?k4 ?a5 ?l5 ?c5 ?k5 ?a6 ?l6 ?c6 ?k6 ?a7 ?l7 ?c7 ?k7 ?a8 ?l8 ?c8 ?k8 ?a9 ?l9 ?c9 ?k9 ?a10 ?l10 ?c10 ?k10 ?a11 ?l11 ?c11 ?k11 ?a12 ?l12 ?c12 ?k12 ?a13 ?l13 ?c13 ?k13 ?a14 ?l14 ?c14 ?k14 ?a15 ?l15 ?c15 ?k15 ?a16 ?l16 ?c16 ?k16 ?a17 ?l17 ?c17 ?k17 ?a18 ?l18 ?c18 ?k18 ?a19 ?l19 ?c19 ?k19 ?a20 ?l20 ?c20 ?k20 ?a21 ?l21 ?c21 ?k21 ?z0 ?z1 ?z2 ?z3 ?z4 ?z5 ?z6 ?z7 ?z8 ?z9 ?z10 ?z11 ?z12 ?z13
    (case aC0 => k_is)
    (case pg0 => k_is)
    (case hd0 => k_is)
    (case po0 => k_is)
    (case sa0 => k_is)
    (case mk0 => k_is)
    (case kc0 => k_is)
    (case nx0_0 => k_is)
    (case gi0 => k_is)
    (case a0 => k_is)
    (case i0 => k_is)
    (case l0 => k_is)
    (case c0 => k_is)
    (case k0 => k_is)
    (case a1 => k_is)
    (case i1 => k_is)
    (case l1 => k_is)
    (case c1 => k_is)
    (case k1 => k_is)
    (case a2 => k_is)
    (case i2 => k_is)
    (case l2 => k_is)
    (case c2 => k_is)
    (case k2 => k_is)
    (case a3 => k_is)
    (case l3 => k_is)
    (case c3 => k_is)
    (case k3 => k_is)
    (case a4 => k_is)
    (case l4 => k_is)
    (case c4 => k_is)
    (case k4 => k_is)
    (case a5 => k_is)
    (case l5 => k_is)
    (case c5 => k_is)
    (case k5 => k_is)
    (case a6 => k_is)
    (case l6 => k_is)
    (case c6 => k_is)
    (case k6 => k_is)
    (case a7 => k_is)
    (case l7 => k_is)
    (case c7 => k_is)
    (case k7 => k_is)
    (case a8 => k_is)
    (case l8 => k_is)
    (case c8 => k_is)
    (case k8 => k_is)
    (case a9 => k_is)
    (case l9 => k_is)
    (case c9 => k_is)
    (case k9 => k_is)
    (case a10 => k_is)
    (case l10 => k_is)
    (case c10 => k_is)
    (case k10 => k_is)
    (case a11 => k_is)
    (case l11 => k_is)
    (case c11 => k_is)
    (case k11 => k_is)
    (case a12 => k_is)
    (case l12 => k_is)
    (case c12 => k_is)
    (case k12 => k_is)
    (case a13 => k_is)
    (case l13 => k_is)
    (case c13 => k_is)
    (case k13 => k_is)
    (case a14 => k_is)
    (case l14 => k_is)
    (case c14 => k_is)
    (case k14 => k_is)
    (case a15 => k_is)
    (case l15 => k_is)
    (case c15 => k_is)
    (case k15 => k_is)
    (case a16 => k_is)
    (case l16 => k_is)
    (case c16 => k_is)
    (case k16 => k_is)
    (case a17 => k_is)
    (case l17 => k_is)
    (case c17 => k_is)
    (case k17 => k_is)
    (case a18 => k_is)
    (case l18 => k_is)
    (case c18 => k_is)
    (case k18 => k_is)
    (case a19 => k_is)
    (case l19 => k_is)
    (case c19 => k_is)
    (case k19 => k_is)
    (case a20 => k_is)
    (case l20 => k_is)
    (case c20 => k_is)
    (case k20 => k_is)
    (case a21 => k_is)
    (case l21 => k_is)
    (case c21 => k_is)
    (case k21 => k_is)
    (case z0 => k_is)
    (case z1 => k_is)
    (case z2 => k_is)
    (case z3 => k_is)
    (case z4 => k_is)
    (case z5 => k_is)
    (case z6 => k_is)
    (case z7 => k_is)
    (case z8 => k_is)
    (case z9 => k_is)
    (case z10 => k_is)
    (case z11 => k_is)
    (case z12 => k_is)
    (case z13 => k_is)

