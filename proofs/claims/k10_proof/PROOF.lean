import PyProof.Rows.All
import Wide.All
import OpenK.AllK
import Wide.FinOn
import HandS.ForMost
import HandS.Exc
import HandS.ExcOwn
import HandS.ExcIs
import HandS.WordsExc
import HandS.New
import HandS.Walk
import HandS.IsInst
import HandS.Conv
import HandS.TupAny
import HandS.Evl
import HandS.SetKeys
import HandS.Rev
import HandS.ForDict
import HandS.Dict
import HandS.DictComp
import HandS.Zip
import HandS.More
import HandS.Set
import HandS.Strs
import PyProof.EqAt
import PyProof.EqKinds
import HandS.Style
import HandS.Words
import HandS.Text
import HandS.FStr
import HandS.StrMore
import HandS.Small
import HandS.Iter
import KE.KDictPairs
import KE.GoesMore
import KE.GoesEnumKw
import KE.DataCmp
import PySem.Challenge.RW_exactkinds_k10_parts_and_limits
set_option Elab.async false
set_option linter.all false
set_option maxRecDepth 100000
set_option maxHeartbeats 2000000
/-! BadText(n): an own error that keeps a line's number. -/
namespace KBt
open PySem PySem.W PySem.Calls PyProof.Rows PySem.HandSPX
/-- how its __init__ is written -/
def ini (p q : Pos) : Arguments :=
  ⟨[], [⟨"self", none, p⟩, ⟨"line", none, q⟩], none, [], [], none, []⟩
def ibd (a b c e : Pos) : List Stmt :=
  [.Assign [.Attribute (.Name "self" a) "line" b] (.Name "line" c) e]
def isc : Scope :=
  ⟨.function, [("self", .local), ("line", .local)], false, false, []⟩
def fld (v : Value) : Str → Option Value := fun y => if y = "line" then some v else none
/-- what the top tells of the class (at C) and of its __init__ (at I) -/
structure Told (K : Frag) (mg : Str → Option Value) (C I : Addr) : Prop where
  name : mg "BadText" = some (.ref C)
  made : ∃ nm qn ns bs bm sn sub ab col dd m0 m1 m2 m3 m5,
    K.lookup C = some (excClassObj nm qn C ns bs bm true sn sub ab col dd m0 m1 m2 m3 m5 "ValueError.__new__") ∧ refsVE bm = true
  sets : findIn K (.ref C) "__setattr__" = some (some (.builtin "object.__setattr__"))
  gets : findIn K (.ref C) "__getattribute__" = some (some (.builtin "BaseException.__getattribute__"))
  geta : findIn K (.ref C) "__getattr__" = some none
  free : findIn K (.ref C) "line" = some none
  init : findIn K (.ref C) "__init__" = some (some (.ref I))
  fnTy : typeIn K (.ref I) = some (.type "function")
  keep : keepIn K (.ref C) = true
  base : subIn K (.ref C) (.type "BaseException") = some true
  type : typeIn K (.ref C) = some (.type "type")
  dict : hasDictIn K C = true
  caught : exmOne K (.ref C) (.ref C) = some true
  code : ∃ (oc : Value) (od : Option Addr) (doc pm : Value) (an : Option Addr) (cdv ct : Value) (osl : Array (Option Value)) (p1 p2 q1 q2 q3 q4 : Pos),
    K.lookup I = some ⟨oc, od, .func (fnOf "__init__" "BadText.__init__" (ini p1 p2) (ibd q1 q2 q3 q4) isc .none .none doc pm an cdv ct), osl⟩ ∧ codeIn K cdv "BadText.__init__" = true
/-- a new error at e, its own dict at d -/
structure New (h h' : Heap) (e C d : Addr) (v : Value) : Prop where
  old : ∀ b o, h.get? b = some o → h'.get? b = some o
  e0 : h.objs.size ≤ e
  obj : ∃ oe vs, h'.get? e = some oe ∧ oe.cls = .ref C ∧ oe.dict = some d ∧ oe.data = .fields vs ∧ vs[1]? = some .none
  d0 : h.objs.size ≤ d
  ne : d ≠ e
  ns : h'.Ns1 d (fld v)
theorem loc {M : Model} {A : Around} {s : Shared} {nm : Str} {sc : Scope} {L f : Addr} {cd v : Value} {m : Str → Option Value} {x : Str} {pos : Pos} {Q E : Value → Shared → Prop}
    (ns : s.heap.Ns L m) (e : m x = some v) (q : Q v s) (hf : sc.kind = .function := by rfl)
    (hl : (envOfC nm sc L f cd).kindOf x = some .local := by rfl) (hd : (x == ("__debug__" : Str)) = false := by decide) :
    wpAny M A (eval (.Name x pos) (envOfC nm sc L f cd)) Q E s :=
  wpAny_Name (wpAny_loadName_local hf hl ns e q) hd
section
variable {prog : Program} {w : World} {A : Around} {R : Result → Shared → Prop} {s : Shared} {K : Frag} {mg : Str → Option Value} {C I : Addr}
/-- the __init__ on a fresh object at x -/
theorem run_init (T : Told K mg C I) {x t0 : Addr} {v : Value} (kin : K.In s.heap) (lim : s.heap.NoLimit) (hx : s.heap.get? x = some (excO C t0)) (deep : A.depth < recursionLimit)
    (q : ∀ h' tk dx, (∀ b o, b ≠ x → s.heap.get? b = some o → h'.get? b = some o) →
      h'.get? x = some { cls := .ref C, dict := some dx, data := .fields #[.ref t0, .none, .none, .none, .bool false, .none] } → s.heap.objs.size ≤ dx → dx ≠ x → h'.Ns1 dx (fld v) →
      R (.ok (.ret .none)) { s with heap := h', toks := tk }) :
    codeAny (model prog w) A (.call (.ref I) ⟨[.ref x, v], []⟩) R s := by
  obtain ⟨oc, od, doc, pm, an, cdv, ct, osl, p1, p2, q1, q2, q3, q4, ho, hcd⟩ := T.code
  obtain ⟨nm, qn, ns, bs, bm, sn, sub, ab, col, dd, m0, m1, m2, m3, m5, hC, hbm⟩ := T.made
  have cl : clsIn K C = some { name := nm, bases := bs, mro := .ref C :: bm, ns := ns, qualname := qn, hasDict := true, slotNames := sn, subclasses := sub, abstract := ab, collection := col, hasDel := false } := by
    unfold clsIn
    rw [hC] <;> rfl
  refine Att.call_fn (binds := [("self", .ref x), ("line", v)]) kin lim ho hcd deep (BindsTo.of_eq (by first | rfl | with_unfolding_all rfl)) (by first | rfl | decide | with_unfolding_all rfl) (fun s1 J => ?_) rfl rfl rfl
  obtain ⟨h1, tk1, rfl⟩ := J.toInCall.same
  have k := J.toInCall.keep
  have fr := J.toInCall.ns
  have k1 : K.In h1 := kin.keeps k
  have x1 := k _ _ hx
  have big : s.heap.objs.size < h1.objs.size := fr.lt
  refine wpAny_execs_cons (plainObj_wpAny_Assign_Attribute ?_)
  refine loc (v := v) fr (by first | rfl | with_unfolding_all rfl | kernel_rfl) ?_
  refine loc (v := .ref x) fr (by first | rfl | with_unfolding_all rfl | kernel_rfl) ?_
  refine set_plain k1 (ox := excO C t0) (od := none) ⟨x1, rfl, rfl, trivial⟩ T.sets ?_
  refine exc_osa k1 x1 cl (show refsVE (.ref C :: bm) = true from hbm) rfl T.free (fun h3 tk3 dx k3 n3 ne3 x3 ns3 => ?_)
  exact wpAny_execs_nil (q h3 tk3 dx (fun b o hb e => k3 b o hb (k b o e)) x3 (Nat.le_of_lt (Nat.lt_of_lt_of_le big n3)) ne3 ns3)
theorem run_new (T : Told K mg C I) {v : Value} (kin : K.In s.heap) (lim : s.heap.NoLimit) (deep : A.depth + 1 < recursionLimit)
    (q : ∀ h' tk e d, New s.heap h' e C d v → R (.ok (.ret (.ref e))) { s with heap := h', toks := tk }) :
    codeAny (model prog w) A (.call (.ref C) ⟨[v], []⟩) R s := by
  obtain ⟨nm, qn, ns, bs, bm, sn, sub, ab, col, dd, m0, m1, m2, m3, m5, hC, hbm⟩ := T.made
  obtain ⟨hp, g, dr, tk, os⟩ := s
  have up : ∀ b o, hp.get? b = some o → ((hp.push (kdv_tup [v])).push (excO C hp.objs.size)).get? b = some o := fun b o e =>
    Heap.get?_push_of_some _ (Heap.get?_push_of_some _ e)
  have at1 : ((hp.push (kdv_tup [v])).push (excO C hp.objs.size)).get? (hp.objs.size + 1) = some (excO C hp.objs.size) := by heap_get
  have one : [v].length ≤ sizeLine := by
    rw [sizeLine_eq]
    show 1 ≤ 16777216
    decide
  refine call_own F.excBase_ValueError (fun y => refsVE_contains y bm hbm) (kin _ _ hC) (looks_findIn kin T.init) (fun self => bind_fn kin self T.fnTy) one ?_
  refine run_init (s := ⟨(hp.push (kdv_tup [v])).push (excO C hp.objs.size), g, dr, tk, os⟩) T (kin.keeps up) (lim.keeps up) at1 deep fun h' tk' dx k' x' n' ne' ns' => ?_
  have n2 : hp.objs.size + 1 + 1 ≤ dx := by
    first
      | exact n'
      | simpa only [Heap.size_push] using n'
      | (have z := n'; rw [Heap.size_push, Heap.size_push] at z; exact z)
  exact ⟨rfl, q h' tk' (hp.objs.size + 1) dx ⟨fun b o e => k' b o (Nat.ne_of_lt (Nat.lt_succ_of_lt (Heap.lt_size e))) (up b o e), Nat.le_succ _, ⟨_, _, x', rfl, rfl, rfl, rfl⟩, (by show hp.objs.size ≤ dx; omega), ne', ns'⟩⟩
end
theorem refs_own {D : Addr} : refsVE [.ref D, .type "ValueError", .type "Exception", .type "BaseException", .type "object"] = true := by
  show refsVE [.type "ValueError", .type "Exception", .type "BaseException", .type "object"] = true
  decide +kernel
theorem exm_from {K : Frag} {C : Addr} (b : subIn K (.ref C) (.type "BaseException") = some true) (i : isClsIn K C = true) (t : typeIn K (.ref C) = some (.type "type")) (s : subIn K (.ref C) (.ref C) = some true) : exmOne K (.ref C) (.ref C) = some true := by
  have i' : (clsIn K C).isSome = true := i
  simp [exmOne, kitCls, b, i', t, s]
end KBt
namespace Kx
open PySem PySem.Spec PyProof.Rows L2
theorem rel_fld {v : V} {u : Value} (r : RelV v u) (f : Str) : RelO (List.lookup f [(("line" : Str), v)]) (KBt.fld u f) := by
  unfold KBt.fld
  by_cases e : f = "line"
  · subst e
    have z : List.lookup ("line" : Str) [(("line" : Str), v)] = some v := by simp [List.lookup]
    rw [if_pos rfl, z]
    exact r
  · have n : (f == ("line" : Str)) = false := by simpa using e
    have z : List.lookup f [(("line" : Str), v)] = none := by simp [List.lookup, n]
    rw [if_neg e, z]
    trivial
/-- what stands at an error's own dict -/
abbrev lineD (v : V) : HO := .xd [(("line" : Str), v)]
section
variable {X : Cx} {C I : Addr}
def tBad (C : Addr) (ta : TA) : L2.St → Hp → XK → Prop := fun σ H Q => ta σ H fun vs H1 => ∃ v, vs = [v] ∧ ∀ d, H1 d = none → Q (.ref C) (some d) (upd H1 d (lineD v))
theorem pmk_bad {a : Expr} {ta : TA} {p pos : Pos} {k : Nat} (T : KBt.Told X.K X.mg C I) (hr : Room k X.A) (ha : PA X [a] ta) (hg : Gl X "BadText" := by rfl)
    (he : starEach (a :: []) X.env = (false, eval a X.env) :: starEach [] X.env := by rfl) (hpl : (backTo pos (starEach [] X.env)).any (·.1) = false := by rfl) :
    PMk X (.Call (.Name "BadText" p) [a] [] pos) (tBad C ta) := fun pins s σ H Q J h => by
  refine wpAny_Call_Name_kw (ld_glob J hg T.name ?_)
  refine PySem.W.callWith_K (h₀ := X.base) J.ok.mod.kin T.keep (thn (ha.run pos pins s σ H _ J h) fun us s1 hh => ?_) he hpl
  obtain ⟨vs, H1, J1, r1, v, rfl, q1⟩ := hh
  refine ⟨J1.kIn, ?_⟩
  obtain ⟨u, rfl, ru⟩ := vals1 r1
  show wpAny _ _ (call (.ref C) [u]) _ _ _
  have lim := J1.nolimit
  obtain ⟨hp, g, dr, tk, os⟩ := s1
  refine wpAny_call (KBt.run_new T J1.kIn lim (by have := hr.dp; omega) fun h' tk' e d N => ?_)
  obtain ⟨oe, fv, oe1, oe2, oe3, oe4, oe5⟩ := N.obj
  -- the heap without the error itself
  obtain ⟨G, g1, g2⟩ := restrict h' fun b => decide (b ≠ e)
  have keepG : ∀ b, b ≠ e → G.get? b = h'.get? b := fun b hb => g1 b (decide_eq_true hb)
  have noE : G.get? e = none := g2 e (by simp)
  have oldG : ∀ b o, hp.get? b = some o → G.get? b = some o := fun b o z =>
    (keepG b (Nat.ne_of_lt (Nat.lt_of_lt_of_le (Heap.lt_size z) N.e0))).trans (N.old b o z)
  have at_d : ObjOk X.prog X.w (upd H1 d (lineD v)) G d (lineD v) := ⟨_, N.ns.at (fun o z => (keepG d N.ne).trans z), rel_fld ru⟩
  have J2 : Inv X pins σ (upd H1 d (lineD v)) ⟨G, g, dr, tk', os⟩ := J1.laid (t' := tk') oldG N.d0 at_d
  refine ⟨e, oe, fv, ⟨G, g, dr, tk', os⟩, _, .ref C, some d, rfl, J2, fun b o z => ?_, noE, oe1, ⟨oe2, oe3⟩, oe4, oe5, ?_, rfl, J1.bare, raises_own T.base T.type, q1 d (J1.hok.fresh N.d0)⟩
  · by_cases hb : b = e
    · have z' : G.get? b = some o := z
      rw [hb, noE] at z'
      cases z'
    · exact (keepG b hb).symm.trans z
  · rw [upd_ne (Ne.symm N.ne)]
    exact J1.hok.fresh N.e0
def tRaiseB (C : Addr) (W : WX) (ta : TA) : TS := fun _ σ H => tBad C ta σ H fun cls d H' => W cls d σ H'
theorem ps_raiseB {a : Expr} {ta : TA} {W : WX} {p pos pos2 : Pos} {k : Nat} (hc : X.calm = true) (T : KBt.Told X.K X.mg C I) (hr : Room k X.A) (tk : Takes X W) (ha : PA X [a] ta) (hg : Gl X "BadText" := by rfl)
    (he : starEach (a :: []) X.env = (false, eval a X.env) :: starEach [] X.env := by rfl) (hpl : (backTo pos (starEach [] X.env)).any (·.1) = false := by rfl) :
    PS X (.Raise (some (.Call (.Name "BadText" p) [a] [] pos)) none pos2) (tRaiseB C W ta) := ps_raise hc tk (pmk_bad T hr ha hg he hpl)
/-- e.line of the caught error at a -/
def tLineOf (C : Addr) (a : Addr) (cls : Value) (d : Option Addr) (te : TE) : TE := fun σ H Q => te σ H fun x H1 => x = .ref a ∧ cls = .ref C ∧ ∃ (dd : Addr) (v : V), d = some dd ∧ H1 dd = some (lineD v) ∧ Q v H1
theorem pe_lineOf {a : Addr} {oe : Obj} {cls : Value} {d : Option Addr} {pn : List (Addr × Obj)} {e : Expr} {te : TE} {pos : Pos} (T : KBt.Told X.K X.mg C I) (hz : Zc cls d oe) (hf : ∃ vs, oe.data = .fields vs) (he : PE (X.suite a ((a, oe) :: pn)) e te)
    (hb : attributeBase e "line" X.env (eval e X.env) = eval e X.env := by rfl) :
    PE (X.suite a ((a, oe) :: pn)) (.Attribute e "line" pos) (tLineOf C a cls d te) := ⟨fun pins s σ H Q J h => by
  refine attr_of hb (thn (he.run pins s σ H _ J h) fun u s1 hh => ?_)
  obtain ⟨x, H1, J1, rx, rfl, rfl, dd, v, rfl, ed, q⟩ := hh
  obtain rfl : u = Value.ref a := rx
  obtain ⟨ha, _⟩ := J1.pin (a, oe) (List.mem_append_left _ List.mem_cons_self)
  obtain ⟨vs, hd⟩ := hf
  have hx : ObjOk X.prog X.w H1 s1.heap dd (lineD v) := J1.hok dd _ ed
  obtain ⟨mA, ns, hr⟩ := hx
  obtain ⟨od, ho, hl⟩ := lookIn_ns ns
  have z : List.lookup ("line" : Str) [(("line" : Str), v)] = some v := by simp [List.lookup]
  obtain ⟨u, hu, ru⟩ := RelO.some_of (v := v) (o := mA "line") (by rw [← z]; exact hr "line")
  have at_a : PySem.W.InstAt s1.heap a oe C (some od) := ⟨ha, hz.1, by unfold PySem.W.notCls; rw [hd] <;> rfl, by rw [hz.2]; exact ho⟩
  exact HandSPX.exc_get J1.kIn at_a T.gets T.geta T.base (PySem.W.findObj_own T.dict T.free rfl (by rw [hl, hu])) (handed_of ru) ⟨v, H1, J1.tok _, ru, q⟩⟩
end
end Kx
set_option maxHeartbeats 4000000
namespace Kx
open PySem PySem.Spec PyProof.Rows L2
def top (i : Nat) : Stmt := PySem.Challenge.pw_exactkinds_k10_parts_and_limits.main.body.getD i (.Pass ⟨0, 0, 0, 0⟩)
abbrev s_BadText_init : Stmt := inClass (top 2) 0
abbrev s_is_word : Stmt := top 17
abbrev s_parts_of : Stmt := top 19
abbrev s_constructor_of : Stmt := top 20
abbrev s_constructors_of : Stmt := top 21
abbrev s_words_of : Stmt := top 22
abbrev s_rows_of : Stmt := top 26
abbrev s_is_allowed : Stmt := top 27
abbrev s_Line_init : Stmt := inClass (top 28) 0
abbrev s_Line_refuse : Stmt := inClass (top 28) 1
abbrev s_Line_comes : Stmt := inClass (top 28) 2
abbrev s_Line_take : Stmt := inClass (top 28) 3
abbrev s_Line_skip : Stmt := inClass (top 28) 4
abbrev s_Line_finish : Stmt := inClass (top 28) 5
abbrev s_Line_take_word : Stmt := inClass (top 28) 6
abbrev s_Line_take_number : Stmt := inClass (top 28) 7
abbrev s_Line_take_tree : Stmt := inClass (top 28) 8
abbrev s_Line_take_trees : Stmt := inClass (top 28) 9
abbrev s_tokens_of : Stmt := top 29
abbrev s_token_end : Stmt := top 30
abbrev s_is_number : Stmt := top 31
abbrev s_most_open : Stmt := top 32
abbrev s_Question_init : Stmt := inClass (top 34) 0
abbrev s_take_question : Stmt := top 35
abbrev s_Draft_init : Stmt := inClass (top 37) 0
abbrev s_read : Stmt := top 38
abbrev s_drafted : Stmt := top 39
abbrev s_take_line : Stmt := top 40
abbrev s_take_maker : Stmt := top 41
abbrev s_take_constructor : Stmt := top 42
abbrev s_take_function : Stmt := top 43
abbrev s_take_kinds : Stmt := top 44
abbrev s_take_kind : Stmt := top 45
abbrev s_take_clause : Stmt := top 46
abbrev s_table : Stmt := top 47
abbrev s_program : Stmt := top 48
abbrev s_constructor_words : Stmt := top 49
abbrev s_kinds : Stmt := top 50
abbrev s_clauses : Stmt := top 51
abbrev s_declared : Stmt := top 52
abbrev s_law_state : Stmt := top 54
abbrev s_law_draw : Stmt := top 55
abbrev s_law_pick : Stmt := top 56
abbrev s_law_shape : Stmt := top 57
abbrev s_law_table : Stmt := top 58
abbrev s_law_line : Stmt := top 59
abbrev s_law_integers : Stmt := top 60
abbrev s_law_table_told : Stmt := top 61
abbrev s_law : Stmt := top 62
theorem sc_is_word : FnScope ["value"] ["value"] (defScope s_is_word) := ⟨rfl, rfl, rfl, by decide +kernel, rfl, by decide +kernel, by decide +kernel⟩
theorem sc_parts_of : FnScope ["table", "maker"] ["table", "maker"] (defScope s_parts_of) := ⟨rfl, rfl, rfl, by decide +kernel, rfl, by decide +kernel, by decide +kernel⟩
theorem sc_constructor_of : FnScope ["table", "word", "constructor"] ["table", "word"] (defScope s_constructor_of) := ⟨rfl, rfl, rfl, by decide +kernel, rfl, by decide +kernel, by decide +kernel⟩
theorem sc_constructors_of : FnScope ["table", "family", "constructor"] ["table", "family"] (defScope s_constructors_of) := ⟨rfl, rfl, rfl, by decide +kernel, rfl, by decide +kernel, by decide +kernel⟩
theorem sc_words_of : FnScope ["table", "makers", "constructors", "maker", "constructor"] ["table"] (defScope s_words_of) := ⟨rfl, rfl, rfl, by decide +kernel, rfl, by decide +kernel, by decide +kernel⟩
theorem sc_rows_of : FnScope ["text", "sign"] ["text"] (defScope s_rows_of) := ⟨rfl, rfl, rfl, by decide +kernel, rfl, by decide +kernel, by decide +kernel⟩
theorem sc_is_allowed : FnScope ["sign"] ["sign"] (defScope s_is_allowed) := ⟨rfl, rfl, rfl, by decide +kernel, rfl, by decide +kernel, by decide +kernel⟩
theorem sc_Line_init : FnScope ["self", "row", "number", "asks"] ["self", "row", "number"] (defScope s_Line_init) := ⟨rfl, rfl, rfl, by decide +kernel, rfl, by decide +kernel, by decide +kernel⟩
theorem sc_Line_refuse : FnScope ["self"] ["self"] (defScope s_Line_refuse) := ⟨rfl, rfl, rfl, by decide +kernel, rfl, by decide +kernel, by decide +kernel⟩
theorem sc_Line_comes : FnScope ["self", "token"] ["self", "token"] (defScope s_Line_comes) := ⟨rfl, rfl, rfl, by decide +kernel, rfl, by decide +kernel, by decide +kernel⟩
theorem sc_Line_take : FnScope ["self"] ["self"] (defScope s_Line_take) := ⟨rfl, rfl, rfl, by decide +kernel, rfl, by decide +kernel, by decide +kernel⟩
theorem sc_Line_skip : FnScope ["self", "token"] ["self", "token"] (defScope s_Line_skip) := ⟨rfl, rfl, rfl, by decide +kernel, rfl, by decide +kernel, by decide +kernel⟩
theorem sc_Line_finish : FnScope ["self"] ["self"] (defScope s_Line_finish) := ⟨rfl, rfl, rfl, by decide +kernel, rfl, by decide +kernel, by decide +kernel⟩
theorem sc_Line_take_word : FnScope ["self", "token"] ["self"] (defScope s_Line_take_word) := ⟨rfl, rfl, rfl, by decide +kernel, rfl, by decide +kernel, by decide +kernel⟩
theorem sc_Line_take_number : FnScope ["self", "token"] ["self"] (defScope s_Line_take_number) := ⟨rfl, rfl, rfl, by decide +kernel, rfl, by decide +kernel, by decide +kernel⟩
theorem sc_Line_take_tree : FnScope ["self", "word"] ["self"] (defScope s_Line_take_tree) := ⟨rfl, rfl, rfl, by decide +kernel, rfl, by decide +kernel, by decide +kernel⟩
theorem sc_Line_take_trees : FnScope ["self", "found"] ["self"] (defScope s_Line_take_trees) := ⟨rfl, rfl, rfl, by decide +kernel, rfl, by decide +kernel, by decide +kernel⟩
theorem sc_tokens_of : FnScope ["row", "found", "start", "end"] ["row"] (defScope s_tokens_of) := ⟨rfl, rfl, rfl, by decide +kernel, rfl, by decide +kernel, by decide +kernel⟩
theorem sc_token_end : FnScope ["row", "start", "end"] ["row", "start"] (defScope s_token_end) := ⟨rfl, rfl, rfl, by decide +kernel, rfl, by decide +kernel, by decide +kernel⟩
theorem sc_is_number : FnScope ["token"] ["token"] (defScope s_is_number) := ⟨rfl, rfl, rfl, by decide +kernel, rfl, by decide +kernel, by decide +kernel⟩
theorem sc_most_open : FnScope ["tokens", "count", "most", "token"] ["tokens"] (defScope s_most_open) := ⟨rfl, rfl, rfl, by decide +kernel, rfl, by decide +kernel, by decide +kernel⟩
theorem sc_Question_init : FnScope ["self", "word", "asks"] ["self", "word"] (defScope s_Question_init) := ⟨rfl, rfl, rfl, by decide +kernel, rfl, by decide +kernel, by decide +kernel⟩
theorem sc_take_question : FnScope ["line", "question"] ["line"] (defScope s_take_question) := ⟨rfl, rfl, rfl, by decide +kernel, rfl, by decide +kernel, by decide +kernel⟩
theorem sc_Draft_init : FnScope ["self", "asks"] ["self", "asks"] (defScope s_Draft_init) := ⟨rfl, rfl, rfl, by decide +kernel, rfl, by decide +kernel, by decide +kernel⟩
theorem sc_read : FnScope ["text", "draft"] ["text"] (defScope s_read) := ⟨rfl, rfl, rfl, by decide +kernel, rfl, by decide +kernel, by decide +kernel⟩
theorem sc_drafted : FnScope ["text", "asks", "rows", "draft", "number", "row", "line"] ["text", "asks"] (defScope s_drafted) := ⟨rfl, rfl, rfl, by decide +kernel, rfl, by decide +kernel, by decide +kernel⟩
theorem sc_take_line : FnScope ["draft", "line", "first"] ["draft", "line"] (defScope s_take_line) := ⟨rfl, rfl, rfl, by decide +kernel, rfl, by decide +kernel, by decide +kernel⟩
theorem sc_take_maker : FnScope ["draft", "line", "word"] ["draft", "line"] (defScope s_take_maker) := ⟨rfl, rfl, rfl, by decide +kernel, rfl, by decide +kernel, by decide +kernel⟩
theorem sc_take_constructor : FnScope ["draft", "line", "word", "parts", "family", "index"] ["draft", "line"] (defScope s_take_constructor) := ⟨rfl, rfl, rfl, by decide +kernel, rfl, by decide +kernel, by decide +kernel⟩
theorem sc_take_function : FnScope ["draft", "line", "word", "falls", "params", "family", "index"] ["draft", "line"] (defScope s_take_function) := ⟨rfl, rfl, rfl, by decide +kernel, rfl, by decide +kernel, by decide +kernel⟩
theorem sc_take_kinds : FnScope ["line", "found"] ["line"] (defScope s_take_kinds) := ⟨rfl, rfl, rfl, by decide +kernel, rfl, by decide +kernel, by decide +kernel⟩
theorem sc_take_kind : FnScope ["line", "family", "term"] ["line"] (defScope s_take_kind) := ⟨rfl, rfl, rfl, by decide +kernel, rfl, by decide +kernel, by decide +kernel⟩
theorem sc_take_clause : FnScope ["draft", "line", "word", "patterns", "clauses"] ["draft", "line"] (defScope s_take_clause) := ⟨rfl, rfl, rfl, by decide +kernel, rfl, by decide +kernel, by decide +kernel⟩
theorem sc_table : FnScope ["draft", "makers", "constructors", "word", "parts", "family", "index"] ["draft"] (defScope s_table) := ⟨rfl, rfl, rfl, by decide +kernel, rfl, by decide +kernel, by decide +kernel⟩
theorem sc_program : FnScope ["draft", "makers", "constructors", "functions", "word", "params", "family", "index", "falls", "clauses", "head"] ["draft"] (defScope s_program) := ⟨rfl, rfl, rfl, by decide +kernel, rfl, by decide +kernel, by decide +kernel⟩
theorem sc_constructor_words : FnScope ["draft", "row"] ["draft"] (defScope s_constructor_words) := ⟨rfl, rfl, rfl, by decide +kernel, rfl, by decide +kernel, by decide +kernel⟩
theorem sc_kinds : FnScope ["kinds", "makers", "family", "term"] ["kinds", "makers"] (defScope s_kinds) := ⟨rfl, rfl, rfl, by decide +kernel, rfl, by decide +kernel, by decide +kernel⟩
theorem sc_clauses : FnScope ["clauses", "constructors", "found", "patterns", "body", "told", "pattern"] ["clauses", "constructors"] (defScope s_clauses) := ⟨rfl, rfl, rfl, by decide +kernel, rfl, by decide +kernel, by decide +kernel⟩
theorem sc_declared : FnScope ["tree", "words", "items", "part"] ["tree", "words"] (defScope s_declared) := ⟨rfl, rfl, rfl, by decide +kernel, rfl, by decide +kernel, by decide +kernel⟩
theorem sc_law_state : FnScope ["script", "seed", "cell"] ["script"] (defScope s_law_state) := ⟨rfl, rfl, rfl, by decide +kernel, rfl, by decide +kernel, by decide +kernel⟩
theorem sc_law_draw : FnScope ["state", "many", "cells", "value", "mixed"] ["state", "many"] (defScope s_law_draw) := ⟨rfl, rfl, rfl, by decide +kernel, rfl, by decide +kernel, by decide +kernel⟩
theorem sc_law_pick : FnScope ["state", "row"] ["state", "row"] (defScope s_law_pick) := ⟨rfl, rfl, rfl, by decide +kernel, rfl, by decide +kernel, by decide +kernel⟩
theorem sc_law_shape : FnScope ["kind", "own", "other", "third", "zero", "next_n", "grown", "pair"] ["kind", "own", "other", "third"] (defScope s_law_shape) := ⟨rfl, rfl, rfl, by decide +kernel, rfl, by decide +kernel, by decide +kernel⟩
theorem sc_law_table : FnScope ["state", "makers", "families", "constructors", "own", "kind", "parts", "index"] ["state"] (defScope s_law_table) := ⟨rfl, rfl, rfl, by decide +kernel, rfl, by decide +kernel, by decide +kernel⟩
theorem sc_law_line : FnScope ["text", "e"] ["text"] (defScope s_law_line) := ⟨rfl, rfl, rfl, by decide +kernel, rfl, by decide +kernel, by decide +kernel⟩
theorem sc_law_integers : FnScope ["first"] [] (defScope s_law_integers) := ⟨rfl, rfl, rfl, by decide +kernel, rfl, by decide +kernel, by decide +kernel⟩
theorem sc_law_table_told : FnScope ["table", "word", "parts", "row", "family", "maker"] ["table"] (defScope s_law_table_told) := ⟨rfl, rfl, rfl, by decide +kernel, rfl, by decide +kernel, by decide +kernel⟩
theorem sc_law : FnScope ["script", "state", "table", "letter", "lines", "last", "asked", "more", "due", "word", "nested", "head", "turn", "text"] ["script"] (defScope s_law) := ⟨rfl, rfl, rfl, by decide +kernel, rfl, by decide +kernel, by decide +kernel⟩
structure Txt (K : PySem.W.Frag) (mg : Str → Option Value) where
  c_Line : Addr
  cl_Line : Cls K c_Line
  mg_Line : mg "Line" = some (.ref c_Line)
  no_Line_number : NoAttr K c_Line "number"
  no_Line_at : NoAttr K c_Line "at"
  no_Line_tokens : NoAttr K c_Line "tokens"
  c_Question : Addr
  cl_Question : Cls K c_Question
  mg_Question : mg "Question" = some (.ref c_Question)
  c_Draft : Addr
  cl_Draft : Cls K c_Draft
  mg_Draft : mg "Draft" = some (.ref c_Draft)
  no_Draft_asks : NoAttr K c_Draft "asks"
  no_Draft_makers : NoAttr K c_Draft "makers"
  no_Draft_families : NoAttr K c_Draft "families"
  no_Draft_constructors : NoAttr K c_Draft "constructors"
  no_Draft_functions : NoAttr K c_Draft "functions"
  no_Draft_questions : NoAttr K c_Draft "questions"
  t_MOST_NAME : Tok
  g_MOST_NAME : mg "MOST_NAME" = some (.int 12 t_MOST_NAME)
  t_MOST_MAKERS : Tok
  g_MOST_MAKERS : mg "MOST_MAKERS" = some (.int 5 t_MOST_MAKERS)
  t_MOST_FAMILIES : Tok
  g_MOST_FAMILIES : mg "MOST_FAMILIES" = some (.int 4 t_MOST_FAMILIES)
  t_MOST_CONSTRUCTORS : Tok
  g_MOST_CONSTRUCTORS : mg "MOST_CONSTRUCTORS" = some (.int 16 t_MOST_CONSTRUCTORS)
  t_MOST_PARTS : Tok
  g_MOST_PARTS : mg "MOST_PARTS" = some (.int 3 t_MOST_PARTS)
  t_MOST_NAMES : Tok
  g_MOST_NAMES : mg "MOST_NAMES" = some (.int 4 t_MOST_NAMES)
  t_MOST_DEEP : Tok
  g_MOST_DEEP : mg "MOST_DEEP" = some (.int 4 t_MOST_DEEP)
  t_MOST_FUNCTIONS : Tok
  g_MOST_FUNCTIONS : mg "MOST_FUNCTIONS" = some (.int 12 t_MOST_FUNCTIONS)
  t_MOST_CLAUSES : Tok
  g_MOST_CLAUSES : mg "MOST_CLAUSES" = some (.int 12 t_MOST_CLAUSES)
  t_MOST_PATTERN : Tok
  g_MOST_PATTERN : mg "MOST_PATTERN" = some (.int 6 t_MOST_PATTERN)
  t_MOST_BODY : Tok
  g_MOST_BODY : mg "MOST_BODY" = some (.int 30 t_MOST_BODY)
  t_MOST_TEXT : Tok
  g_MOST_TEXT : mg "MOST_TEXT" = some (.int 6000 t_MOST_TEXT)
  t_MOST_OPEN : Tok
  g_MOST_OPEN : mg "MOST_OPEN" = some (.int 40 t_MOST_OPEN)
  t_MOST_DIGITS : Tok
  g_MOST_DIGITS : mg "MOST_DIGITS" = some (.int 2 t_MOST_DIGITS)
  t_PERCENT_CODE : Tok
  g_PERCENT_CODE : mg "PERCENT_CODE" = some (.int 37 t_PERCENT_CODE)
  a_is_word : Addr
  d_is_word : FuncData
  F_is_word : Fun K "is_word" "is_word" s_is_word a_is_word d_is_word
  b_is_word : Binds K d_is_word ["value"] []
  m_is_word : mg "is_word" = some (.ref a_is_word)
  a_parts_of : Addr
  d_parts_of : FuncData
  F_parts_of : Fun K "parts_of" "parts_of" s_parts_of a_parts_of d_parts_of
  b_parts_of : Binds K d_parts_of ["table", "maker"] []
  m_parts_of : mg "parts_of" = some (.ref a_parts_of)
  a_constructor_of : Addr
  d_constructor_of : FuncData
  F_constructor_of : Fun K "constructor_of" "constructor_of" s_constructor_of a_constructor_of d_constructor_of
  b_constructor_of : Binds K d_constructor_of ["table", "word"] []
  m_constructor_of : mg "constructor_of" = some (.ref a_constructor_of)
  a_constructors_of : Addr
  d_constructors_of : FuncData
  F_constructors_of : Fun K "constructors_of" "constructors_of" s_constructors_of a_constructors_of d_constructors_of
  b_constructors_of : Binds K d_constructors_of ["table", "family"] []
  m_constructors_of : mg "constructors_of" = some (.ref a_constructors_of)
  a_words_of : Addr
  d_words_of : FuncData
  F_words_of : Fun K "words_of" "words_of" s_words_of a_words_of d_words_of
  b_words_of : Binds K d_words_of ["table"] []
  m_words_of : mg "words_of" = some (.ref a_words_of)
  a_rows_of : Addr
  d_rows_of : FuncData
  F_rows_of : Fun K "rows_of" "rows_of" s_rows_of a_rows_of d_rows_of
  b_rows_of : Binds K d_rows_of ["text"] []
  m_rows_of : mg "rows_of" = some (.ref a_rows_of)
  a_is_allowed : Addr
  d_is_allowed : FuncData
  F_is_allowed : Fun K "_is_allowed" "_is_allowed" s_is_allowed a_is_allowed d_is_allowed
  b_is_allowed : Binds K d_is_allowed ["sign"] []
  m_is_allowed : mg "_is_allowed" = some (.ref a_is_allowed)
  a_Line_init : Addr
  d_Line_init : FuncData
  F_Line_init : Fun K "__init__" "Line.__init__" s_Line_init a_Line_init d_Line_init
  b_Line_init : Binds K d_Line_init ["self", "row", "number"] []
  me_Line_init : Meth K c_Line "__init__" a_Line_init
  a_Line_refuse : Addr
  d_Line_refuse : FuncData
  F_Line_refuse : Fun K "refuse" "Line.refuse" s_Line_refuse a_Line_refuse d_Line_refuse
  b_Line_refuse : Binds K d_Line_refuse ["self"] []
  me_Line_refuse : Meth K c_Line "refuse" a_Line_refuse
  a_Line_comes : Addr
  d_Line_comes : FuncData
  F_Line_comes : Fun K "comes" "Line.comes" s_Line_comes a_Line_comes d_Line_comes
  b_Line_comes : Binds K d_Line_comes ["self", "token"] []
  me_Line_comes : Meth K c_Line "comes" a_Line_comes
  a_Line_take : Addr
  d_Line_take : FuncData
  F_Line_take : Fun K "take" "Line.take" s_Line_take a_Line_take d_Line_take
  b_Line_take : Binds K d_Line_take ["self"] []
  me_Line_take : Meth K c_Line "take" a_Line_take
  a_Line_skip : Addr
  d_Line_skip : FuncData
  F_Line_skip : Fun K "skip" "Line.skip" s_Line_skip a_Line_skip d_Line_skip
  b_Line_skip : Binds K d_Line_skip ["self", "token"] []
  me_Line_skip : Meth K c_Line "skip" a_Line_skip
  a_Line_finish : Addr
  d_Line_finish : FuncData
  F_Line_finish : Fun K "finish" "Line.finish" s_Line_finish a_Line_finish d_Line_finish
  b_Line_finish : Binds K d_Line_finish ["self"] []
  me_Line_finish : Meth K c_Line "finish" a_Line_finish
  a_Line_take_word : Addr
  d_Line_take_word : FuncData
  F_Line_take_word : Fun K "take_word" "Line.take_word" s_Line_take_word a_Line_take_word d_Line_take_word
  b_Line_take_word : Binds K d_Line_take_word ["self"] []
  me_Line_take_word : Meth K c_Line "take_word" a_Line_take_word
  a_Line_take_number : Addr
  d_Line_take_number : FuncData
  F_Line_take_number : Fun K "take_number" "Line.take_number" s_Line_take_number a_Line_take_number d_Line_take_number
  b_Line_take_number : Binds K d_Line_take_number ["self"] []
  me_Line_take_number : Meth K c_Line "take_number" a_Line_take_number
  a_Line_take_tree : Addr
  d_Line_take_tree : FuncData
  F_Line_take_tree : Fun K "take_tree" "Line.take_tree" s_Line_take_tree a_Line_take_tree d_Line_take_tree
  b_Line_take_tree : Binds K d_Line_take_tree ["self"] []
  me_Line_take_tree : Meth K c_Line "take_tree" a_Line_take_tree
  a_Line_take_trees : Addr
  d_Line_take_trees : FuncData
  F_Line_take_trees : Fun K "take_trees" "Line.take_trees" s_Line_take_trees a_Line_take_trees d_Line_take_trees
  b_Line_take_trees : Binds K d_Line_take_trees ["self"] []
  me_Line_take_trees : Meth K c_Line "take_trees" a_Line_take_trees
  a_tokens_of : Addr
  d_tokens_of : FuncData
  F_tokens_of : Fun K "_tokens_of" "_tokens_of" s_tokens_of a_tokens_of d_tokens_of
  b_tokens_of : Binds K d_tokens_of ["row"] []
  m_tokens_of : mg "_tokens_of" = some (.ref a_tokens_of)
  a_token_end : Addr
  d_token_end : FuncData
  F_token_end : Fun K "_token_end" "_token_end" s_token_end a_token_end d_token_end
  b_token_end : Binds K d_token_end ["row", "start"] []
  m_token_end : mg "_token_end" = some (.ref a_token_end)
  a_is_number : Addr
  d_is_number : FuncData
  F_is_number : Fun K "_is_number" "_is_number" s_is_number a_is_number d_is_number
  b_is_number : Binds K d_is_number ["token"] []
  m_is_number : mg "_is_number" = some (.ref a_is_number)
  a_most_open : Addr
  d_most_open : FuncData
  F_most_open : Fun K "_most_open" "_most_open" s_most_open a_most_open d_most_open
  b_most_open : Binds K d_most_open ["tokens"] []
  m_most_open : mg "_most_open" = some (.ref a_most_open)
  a_Question_init : Addr
  d_Question_init : FuncData
  F_Question_init : Fun K "__init__" "Question.__init__" s_Question_init a_Question_init d_Question_init
  b_Question_init : Binds K d_Question_init ["self", "word"] []
  me_Question_init : Meth K c_Question "__init__" a_Question_init
  a_take_question : Addr
  d_take_question : FuncData
  F_take_question : Fun K "take_question" "take_question" s_take_question a_take_question d_take_question
  b_take_question : Binds K d_take_question ["line"] []
  m_take_question : mg "take_question" = some (.ref a_take_question)
  a_Draft_init : Addr
  d_Draft_init : FuncData
  F_Draft_init : Fun K "__init__" "Draft.__init__" s_Draft_init a_Draft_init d_Draft_init
  b_Draft_init : Binds K d_Draft_init ["self", "asks"] []
  me_Draft_init : Meth K c_Draft "__init__" a_Draft_init
  a_read : Addr
  d_read : FuncData
  F_read : Fun K "read" "read" s_read a_read d_read
  b_read : Binds K d_read ["text"] []
  m_read : mg "read" = some (.ref a_read)
  a_drafted : Addr
  d_drafted : FuncData
  F_drafted : Fun K "_drafted" "_drafted" s_drafted a_drafted d_drafted
  b_drafted : Binds K d_drafted ["text", "asks"] []
  m_drafted : mg "_drafted" = some (.ref a_drafted)
  a_take_line : Addr
  d_take_line : FuncData
  F_take_line : Fun K "_take_line" "_take_line" s_take_line a_take_line d_take_line
  b_take_line : Binds K d_take_line ["draft", "line"] []
  m_take_line : mg "_take_line" = some (.ref a_take_line)
  a_take_maker : Addr
  d_take_maker : FuncData
  F_take_maker : Fun K "_take_maker" "_take_maker" s_take_maker a_take_maker d_take_maker
  b_take_maker : Binds K d_take_maker ["draft", "line"] []
  m_take_maker : mg "_take_maker" = some (.ref a_take_maker)
  a_take_constructor : Addr
  d_take_constructor : FuncData
  F_take_constructor : Fun K "_take_constructor" "_take_constructor" s_take_constructor a_take_constructor d_take_constructor
  b_take_constructor : Binds K d_take_constructor ["draft", "line"] []
  m_take_constructor : mg "_take_constructor" = some (.ref a_take_constructor)
  a_take_function : Addr
  d_take_function : FuncData
  F_take_function : Fun K "_take_function" "_take_function" s_take_function a_take_function d_take_function
  b_take_function : Binds K d_take_function ["draft", "line"] []
  m_take_function : mg "_take_function" = some (.ref a_take_function)
  a_take_kinds : Addr
  d_take_kinds : FuncData
  F_take_kinds : Fun K "_take_kinds" "_take_kinds" s_take_kinds a_take_kinds d_take_kinds
  b_take_kinds : Binds K d_take_kinds ["line"] []
  m_take_kinds : mg "_take_kinds" = some (.ref a_take_kinds)
  a_take_kind : Addr
  d_take_kind : FuncData
  F_take_kind : Fun K "_take_kind" "_take_kind" s_take_kind a_take_kind d_take_kind
  b_take_kind : Binds K d_take_kind ["line"] []
  m_take_kind : mg "_take_kind" = some (.ref a_take_kind)
  a_take_clause : Addr
  d_take_clause : FuncData
  F_take_clause : Fun K "_take_clause" "_take_clause" s_take_clause a_take_clause d_take_clause
  b_take_clause : Binds K d_take_clause ["draft", "line"] []
  m_take_clause : mg "_take_clause" = some (.ref a_take_clause)
  a_table : Addr
  d_table : FuncData
  F_table : Fun K "_table" "_table" s_table a_table d_table
  b_table : Binds K d_table ["draft"] []
  m_table : mg "_table" = some (.ref a_table)
  a_program : Addr
  d_program : FuncData
  F_program : Fun K "_program" "_program" s_program a_program d_program
  b_program : Binds K d_program ["draft"] []
  m_program : mg "_program" = some (.ref a_program)
  a_constructor_words : Addr
  d_constructor_words : FuncData
  F_constructor_words : Fun K "_constructor_words" "_constructor_words" s_constructor_words a_constructor_words d_constructor_words
  b_constructor_words : Binds K d_constructor_words ["draft"] []
  m_constructor_words : mg "_constructor_words" = some (.ref a_constructor_words)
  a_kinds : Addr
  d_kinds : FuncData
  F_kinds : Fun K "_kinds" "_kinds" s_kinds a_kinds d_kinds
  b_kinds : Binds K d_kinds ["kinds", "makers"] []
  m_kinds : mg "_kinds" = some (.ref a_kinds)
  a_clauses : Addr
  d_clauses : FuncData
  F_clauses : Fun K "_clauses" "_clauses" s_clauses a_clauses d_clauses
  b_clauses : Binds K d_clauses ["clauses", "constructors"] []
  m_clauses : mg "_clauses" = some (.ref a_clauses)
  a_declared : Addr
  d_declared : FuncData
  F_declared : Fun K "_declared" "_declared" s_declared a_declared d_declared
  b_declared : Binds K d_declared ["tree", "words"] []
  m_declared : mg "_declared" = some (.ref a_declared)
  a_law_state : Addr
  d_law_state : FuncData
  F_law_state : Fun K "_law_state" "_law_state" s_law_state a_law_state d_law_state
  b_law_state : Binds K d_law_state ["script"] []
  m_law_state : mg "_law_state" = some (.ref a_law_state)
  a_law_draw : Addr
  d_law_draw : FuncData
  F_law_draw : Fun K "_law_draw" "_law_draw" s_law_draw a_law_draw d_law_draw
  b_law_draw : Binds K d_law_draw ["state", "many"] []
  m_law_draw : mg "_law_draw" = some (.ref a_law_draw)
  a_law_pick : Addr
  d_law_pick : FuncData
  F_law_pick : Fun K "_law_pick" "_law_pick" s_law_pick a_law_pick d_law_pick
  b_law_pick : Binds K d_law_pick ["state", "row"] []
  m_law_pick : mg "_law_pick" = some (.ref a_law_pick)
  a_law_shape : Addr
  d_law_shape : FuncData
  F_law_shape : Fun K "_law_shape" "_law_shape" s_law_shape a_law_shape d_law_shape
  b_law_shape : Binds K d_law_shape ["kind", "own", "other", "third"] []
  m_law_shape : mg "_law_shape" = some (.ref a_law_shape)
  a_law_table : Addr
  d_law_table : FuncData
  F_law_table : Fun K "_law_table" "_law_table" s_law_table a_law_table d_law_table
  b_law_table : Binds K d_law_table ["state"] []
  m_law_table : mg "_law_table" = some (.ref a_law_table)
  a_law_line : Addr
  d_law_line : FuncData
  F_law_line : Fun K "_law_line" "_law_line" s_law_line a_law_line d_law_line
  b_law_line : Binds K d_law_line ["text"] []
  m_law_line : mg "_law_line" = some (.ref a_law_line)
  a_law_integers : Addr
  d_law_integers : FuncData
  F_law_integers : Fun K "_law_integers" "_law_integers" s_law_integers a_law_integers d_law_integers
  b_law_integers : Binds K d_law_integers [] []
  m_law_integers : mg "_law_integers" = some (.ref a_law_integers)
  a_law_table_told : Addr
  d_law_table_told : FuncData
  F_law_table_told : Fun K "_law_table_told" "_law_table_told" s_law_table_told a_law_table_told d_law_table_told
  b_law_table_told : Binds K d_law_table_told ["table"] []
  m_law_table_told : mg "_law_table_told" = some (.ref a_law_table_told)
  a_law : Addr
  d_law : FuncData
  F_law : Fun K "law" "law" s_law a_law d_law
  b_law : Binds K d_law ["script"] []
  m_law : mg "law" = some (.ref a_law)
  mk_Line : Mk K c_Line a_Line_init
  mk_Question : Mk K c_Question a_Question_init
  mk_Draft : Mk K c_Draft a_Draft_init
  c_BadText : Addr
  i_BadText : Addr
  low_BadText : KBt.Told K mg c_BadText i_BadText
  z_isinstance : mg "isinstance" = none
  z_str : mg "str" = none
  z_len : mg "len" = none
  z_dict : mg "dict" = none
  z_tuple : mg "tuple" = none
  z_list : mg "list" = none
  z_ord : mg "ord" = none
  z_int : mg "int" = none
  z_max : mg "max" = none
  z_enumerate : mg "enumerate" = none
  z_abs : mg "abs" = none
  z_range : mg "range" = none
end Kx
set_option maxHeartbeats 2000000
/-! Rules of our own over the layer: see the remarks. -/
namespace Kx
open PySem PySem.Spec PyProof.Rows L2
/-! ### rules with the written part named (for the blocks of comprehensions) -/
section
variable {X : Cx} {K : PySem.W.Frag}
theorem inSeqK (h : X.K = K := by rfl) : OpR X (compareOp .In) (rIn K false) := by subst h; exact op_in_seq
theorem notInSeqK (h : X.K = K := by rfl) : OpR X (compareOp .NotIn) (rIn K true) := by subst h; exact op_notIn_seq
theorem ixLK (h : X.K = K := by rfl) : IxR X (rIxL K) := by subst h; exact ix_list
theorem ixTK (h : X.K = K := by rfl) : IxR X (rIxT K) := by subst h; exact ix_tup
end
/-! ### l.extend(t), t a tuple -/
def rExtT (K : PySem.W.Frag) : V → List V → Hp → VK → Prop := fun x vs H Q => ∃ l b xs zs, x = .ref l ∧ vs = [.ref b] ∧ H l = some (.lst xs) ∧ (∃ o : Obj, H b = some (.frz o (.tup zs)) ∧ o.dict = none ∧ o.slots = #[]) ∧ xs.length + zs.length ≤ sizeLine ∧ Q .non (upd H l (.lst (xs ++ zs)))
section
variable {X : Cx}
theorem mt_extT : MtR X "list.extend" (rExtT X.K) := by
  intro pins s σ H x vs v us Q I rx rv hyp
  obtain ⟨l, b, xs, zs, rfl, rfl, hH, ⟨o, hB, hd, hsl⟩, hz, fin⟩ := hyp
  cases rx
  obtain ⟨u, rfl, ru⟩ := rv.one
  cases ru
  obtain ⟨z, its, n, r, hl, e⟩ := I.lstM hH
  obtain ⟨e2, z2, its2, r2, hT⟩ := (show ObjOk X.prog X.w H s.heap b (.frz o (.tup zs)) from I.hok b _ hB)
  obtain ⟨o2, e3, hc2, n2, hd2⟩ := hT
  rw [e2] at e3
  cases e3
  obtain ⟨oc, od, dt, sl⟩ := o
  simp only at hc2 hd2 hd hsl
  subst hc2 hd2 hd hsl
  have w1 : its.length = xs.length := r.length.symm
  have w2 : its2.length = zs.length := r2.length.symm
  have size2 : its.toArray.size + its2.toArray.size ≤ sizeLine := by
    simp only [List.size_toArray, w1, w2]; exact hz
  have few : ¬ (!its.toArray.isEmpty && Builtin.List.listTooLong (its.toArray.size + its2.toArray.size)) = true := by
    rw [notLongL size2, Bool.and_false]; simp
  refine call_meets F.slot_list_extend ⟨_, e, rfl⟩ F.entry_list_extend (F.args_list_extend_2 _ _)
    (AutoSeq1.list_extend_list_tuple_0 l its.toArray n b its2.toArray n2 few (Nat.le_trans (Nat.le_add_right _ _) size2) (Nat.le_succ_of_le size2)) ⟨e, e2, ?_⟩
  refine ⟨.non, _, I.lset (its' := its ++ its2) hH e (by simp) (r.append r2) ?_, rfl, fin⟩
  simp only [List.length_append]; exact hz
end
/-! ### t[:0:-1]: a tuple backwards without its first item -/
section
variable {prog : Program} {w : World} {A : Around} {E : Value → Shared → Prop} {s : Shared}
theorem back_pick {α : Type} : ∀ l : List α, (List.range l.length).filterMap (fun m => l[l.length - 1 - m]?) = l.reverse := by
  intro l
  have h : ∀ k, k ≤ l.length → (List.range k).filterMap (fun m => l[l.length - 1 - m]?) = (l.drop (l.length - k)).reverse := by
    intro k
    induction k with
    | zero => intro _; simp
    | succ k ih =>
      intro hk
      rw [List.range_succ, List.filterMap_append, ih (by omega)]
      have e : l.drop (l.length - (k + 1)) = l[l.length - (k + 1)]'(by omega) :: l.drop (l.length - k) := by
        rw [List.drop_eq_getElem_cons (by omega)]
        congr 2
        omega
      rw [e, List.reverse_cons]
      congr 1
      have e2 : l[l.length - 1 - k]? = some (l[l.length - (k + 1)]'(by omega)) := by
        rw [← List.getElem?_eq_getElem]
        congr 1
        omega
      simp [e2]
  have := h l.length (Nat.le_refl _)
  simpa using this
theorem back_pick1 (xs : List Value) (h1 : 1 ≤ xs.length) : (List.range (xs.length - 1)).filterMap (fun (m : Nat) => xs[(((xs.length - 1 : Nat) : Int) + (m : Int) * (-1)).toNat]?) = (xs.drop 1).reverse := by
  have h := back_pick (xs.drop 1)
  rw [List.length_drop] at h
  rw [← h]
  have key : ∀ k, k ≤ xs.length - 1 → (List.range k).filterMap (fun (m : Nat) => xs[(((xs.length - 1 : Nat) : Int) + (m : Int) * (-1)).toNat]?) = (List.range k).filterMap (fun m => (xs.drop 1)[xs.length - 1 - 1 - m]?) := by
    intro k
    induction k with
    | zero => intro _; rfl
    | succ k ih =>
      intro hk
      rw [List.range_succ, List.filterMap_append, List.filterMap_append, ih (by omega)]
      congr 1
      have e : (((xs.length - 1 : Nat) : Int) + (k : Int) * (-1)).toNat = 1 + (xs.length - 1 - 1 - k) := by omega
      simp only [List.filterMap_cons, List.filterMap_nil, e, List.getElem?_drop]
  exact key _ (Nat.le_refl _)
theorem back_adjust (n : Nat) (h : 1 ≤ n) : Builtin.Slice.sliceAdjust none (some 0) (-1) (n : Int) = (((n - 1 : Nat) : Int), 0) := by
  unfold Builtin.Slice.sliceAdjust
  simp only [show ((-1 : Int) < 0) from by omega, if_true]
  refine Prod.ext ?_ ?_
  · show (n : Int) - 1 = _; omega
  · show (if (0 : Int) < 0 then max ((0 : Int) + (n : Int)) (-1) else min (0 : Int) ((n : Int) - 1)) = 0
    rw [if_neg (by omega)]; omega
theorem back_places (n : Nat) : Builtin.Slice.slicePlaces ((n : Nat) : Int) 0 (-1) = n := by
  unfold Builtin.Slice.slicePlaces
  simp only [show ¬ ((-1 : Int) > 0) from by omega, if_false, Int.neg_neg, Int.ediv_one]
  split <;> omega
theorem back_applied {sl : Addr} {vl vu vs : Value} {n : Nat} {Q : Int × Int × Nat → Shared → Prop} (h1 : 1 ≤ n) (hs : s.heap.IsSliceOf sl vl vu vs) (pl : IsPart vl none) (pu : IsPart vu (some 0)) (ps : IsPart vs (some (-1)))
    (h : Q (((n - 1 : Nat) : Int), -1, n - 1) s) : wpAny (model prog w) A (Builtin.Slice.sliceApplied (.ref sl) (pure (n : Int))) Q E s := by
  obtain ⟨os, ho, hc, hd⟩ := id hs
  unfold Builtin.Slice.sliceApplied Builtin.Slice.sliceFields
  refine wpAny_bind (wpAny_bind (wpAny_field ho hd (x := vl) rfl (wpAny_bind (wpAny_field ho hd (x := vu) rfl (wpAny_bind (wpAny_field ho hd (x := vs) rfl (wpAny_pure ?_)))))))
  refine wpAny_bind (HT.slicePart_ ps ?_)
  show wpAny _ _ (if ((-1 : Int) == 0) = true then _ else _) _ _ s
  rw [if_neg (by decide)]
  refine wpAny_bind (HT.slicePart_ pl (wpAny_bind (HT.slicePart_ pu (wpAny_bind (wpAny_pure ?_)))))
  show wpAny _ _ (match Builtin.Slice.sliceAdjust none (some 0) (-1) (n : Int) with | (lo, hi) => pure (lo, (-1 : Int), Builtin.Slice.slicePlaces lo hi (-1))) _ _ s
  rw [back_adjust n h1]
  show wpAny _ _ (pure (((n - 1 : Nat) : Int), (-1 : Int), Builtin.Slice.slicePlaces ((n - 1 : Nat) : Int) 0 (-1))) _ _ s
  rw [back_places]
  exact wpAny_pure h
theorem getItem_back {t sl : Addr} {items : Array Value} {vl vu vs : Value} {Q : Value → Shared → Prop} (h1 : 1 ≤ items.size) (ht : IsTup s.heap t items) (hs : s.heap.IsSliceOf sl vl vu vs) (pl : IsPart vl none) (pu : IsPart vu (some 0)) (ps : IsPart vs (some (-1)))
    (h : Q (.ref s.heap.objs.size) { s with heap := s.heap.push { cls := .type "tuple", data := .seq ((items.toList.drop 1).reverse).toArray } })
    (hsz : items.size ≤ sizeLine) : wpAny (model prog w) A (getItem (.ref t) (.ref sl)) Q E s := by
  have fits : sizeOk (.seq ((items.toList.drop 1).reverse).toArray) := by
    show ((items.toList.drop 1).reverse).toArray.size ≤ sizeLine
    simp only [List.size_toArray, List.length_reverse, List.length_drop, Array.length_toList]
    omega
  obtain ⟨os, ho, hc, hd⟩ := id hs
  have ty : s.TypeIs (.ref sl) "slice" := ⟨os, ho, hc⟩
  unfold getItem
  try with_reducible refine wpAny_holding ?_
  first | refine wpAny_bind (wpAny_pure ?_) | skip
  refine wpAny_bind (wpAny_sequenceKey ht.typeIs (by decide) ?_)
  refine wpAny_bind (wpAny_callSpecial?_slot (name := Str.ofString "__getitem__") ht.typeIs PyProof.Rows.slot_tuple_getitem
    (wpAny_call_entry PyProof.Rows.slot_tuple_getitem ht.typeIs F.entry_tuple_getitem ?_ (F.args_tuple_getitem_2 _ _)))
  show wpAny _ _ (Builtin.Tuple.tupleItemsOf (.ref t) >>= _) _ _ s
  refine wpAny_bind (tupleItemsOf_ ht ?_)
  refine wpAny_bind (wpAny_typeOf ty ?_)
  rw [if_pos (by decide)]
  refine wpAny_bind (back_applied (n := items.size) h1 hs pl pu ps ?_)
  have no : ¬ ((((items.size - 1 : Nat) : Int) == 0 && (-1 : Int) == 1 && (items.size - 1) == items.size) = true) := by simp
  show wpAny _ _ (if (((items.size - 1 : Nat) : Int) == 0 && (-1 : Int) == 1 && (items.size - 1) == items.size) = true then _ else _) _ _ s
  have e := back_pick1 items.toList (by simpa using h1)
  simp only [Array.length_toList, Array.getElem?_toList] at e
  rw [if_neg no, e]
  first
    | exact wpAny_bind (m := Builtin.Tuple.tupleExact _) (wpAny_newObj_type (wpAny_pure ⟨_, rfl, wpAny_pure h⟩) fits)
    | exact wpAny_bind (m := Builtin.Tuple.tupleExact _) (wpAny_newObj_type (wpAny_bind (wpAny_pure (wpAny_pure ⟨_, rfl, wpAny_pure h⟩))) fits)
    | exact wpAny_bind (wpAny_bind (m := Builtin.Tuple.tupleExact _) (wpAny_newObj_type (wpAny_pure (wpAny_pure ⟨_, rfl, wpAny_pure h⟩)) fits))
    | exact wpAny_bind (wpAny_bind (m := Builtin.Tuple.tupleExact _) (wpAny_newObj_type (wpAny_pure ⟨_, rfl, wpAny_pure h⟩) fits))
end
/-- what t[:0:-1] asks: t is not empty; the new tuple is told as an object that stands as it is -/
def tBackT (K : PySem.W.Frag) (te : TE) : TE := fun σ H Q => te σ H fun x H1 => ∃ a xs, x = .ref a ∧ SqT K H1 a xs ∧ xs ≠ [] ∧ ∀ p (o : Obj), H1 p = none → o.dict = none → o.slots = #[] → Q (.ref p) (upd H1 p (.frz o (.tup (xs.drop 1).reverse)))
section
variable {X : Cx}
theorem pe_cutback {e : Expr} {te : TE} {j k : Nat} {p0 p1 p2 p3 pos : Pos} (he : PE X e te) : PE X (.Subscript e (.Slice none (some (.Constant (.int 0) j p0)) (some (.UnaryOp .USub (.Constant (.int 1) k p1) p2)) p3) pos) (tBackT X.K te) := by
  refine ⟨fun pins s σ H Q I h => ?_⟩
  refine Subscript_ (thn (he.run pins s σ H _ I h) fun v s1 ⟨x, H1, I1, r1, q1⟩ => ?_)
  obtain ⟨a, xs, ex, hx, hne, fin⟩ := q1
  subst ex
  cases r1
  have hst : PO X (some (.UnaryOp .USub (.Constant (.int 1) k p1) p2)) (tPart (tUn (rU fun i => .int (-i)) (tC (.int 1)))) := po_some (pe_un un_neg pe_int)
  have hup : PO X (some (.Constant (.int 0) j p0)) (tPart (tC (.int 0))) := po_some pe_int
  refine wpAny_Slice (thn (po_none.run pins s1 σ H1 (fun o H2 => o = none ∧ H2 = H1) I1 ⟨rfl, rfl⟩) fun vl s2 ⟨l, H2, I2, pl, el, e2⟩ => ?_)
  subst el e2
  refine thn (hup.run pins s2 σ H2 (fun o H3 => o = some 0 ∧ H3 = H2) I2 ⟨0, rfl, rfl, rfl⟩) fun vu s3 ⟨u, H3, I3, pu, eu, e3⟩ => ?_
  subst eu e3
  refine thn (hst.run pins s3 σ H3 (fun o H4 => o = some (-1) ∧ H4 = H3) I3 ⟨1, rfl, -1, rfl, rfl, rfl⟩) fun vs s4 ⟨o, H4, I4, ps, eo, e4⟩ => ?_
  subst eo e4
  have I5 : Inv X pins σ H4 { s4 with heap := s4.heap.push { cls := .type "slice", data := .fields #[vl, vu, vs] } } := I4.kept (t' := s4.toks) fun b ob q => Heap.get?_push_of_some _ q
  obtain ⟨its, r, ht, hz⟩ := I5.tuple hx
  have hlen : its.length = xs.length := r.length.symm
  have h1 : 1 ≤ xs.length := by cases xs with | nil => exact absurd rfl hne | cons _ _ => simp
  show wpAny (model X.prog X.w) X.A (subscriptTail e (.Slice none (some (.Constant (.int 0) j p0)) (some (.UnaryOp .USub (.Constant (.int 1) k p1) p2)) p3) (.ref a) (.ref s4.heap.objs.size)) (EP X pins σ Q) X.xe { s4 with heap := s4.heap.push { cls := .type "slice", data := .fields #[vl, vu, vs] } }
  refine tail_any (ops := [.ref a, .ref s4.heap.objs.size]) ht.typeIs (PyProof.Rows.slot_tuple_getitem.lookup) ?_ (by with_unfolding_all rfl)
  refine getItem_back (by rw [List.size_toArray, hlen]; exact h1) ht (Heap.IsSliceOf.new _ vl vu vs) pl pu ps ?_ (by rw [List.size_toArray, hlen]; exact hz)
  refine ⟨.ref _, _, I5.laid (t' := s4.toks) (o := .frz { cls := .type "tuple", data := .seq ((its.drop 1).reverse).toArray } (.tup (xs.drop 1).reverse)) (fun b ob q => Heap.get?_push_of_some _ q) (Nat.le_refl _) ?_, rfl, fin _ _ (I5.hok.fresh (Nat.le_refl _)) rfl rfl⟩
  refine ⟨Heap.get?_push_size _ rfl, ?_, _, (r.drop 1).reverse, IsTup.new _ _⟩
  rw [List.length_reverse, List.length_drop]
  exact Nat.le_trans (Nat.sub_le _ _) hz
/-! ### tuple(l) of a list, told as an object that stands as it is -/
theorem call_tupleF : CallR X (.type "tuple") (fun xs H Q => ∃ p ys, xs = [.ref p] ∧ SqL X.K H p ys ∧ ∀ l (o : Obj), H l = none → o.dict = none → o.slots = #[] → Q (.ref l) (upd H l (.frz o (.tup ys)))) := by
  intro pins s σ H xs us Q I r hyp
  obtain ⟨p, ys, rfl, hq, fin⟩ := hyp
  obtain ⟨u, rfl, rx⟩ := vals1 r
  cases rx
  obtain ⟨its, r', pl, hz⟩ := I.list hq
  have w1 : its.length = ys.length := r'.length.symm
  refine call_tuple_list pl.isList (fun h' kp => ?_) (by rw [List.size_toArray, w1]; exact hz)
  have J : Inv X pins σ H { s with heap := h' } := I.kept (t' := s.toks) kp
  have J2 : Inv X pins σ (upd H h'.objs.size (.frz { cls := .type "tuple", data := .seq its.toArray } (.tup ys))) { s with heap := h'.push { cls := .type "tuple", data := .seq its.toArray } } :=
    J.laid (t' := s.toks) (fun b o e => Heap.get?_push_of_some _ e) (Nat.le_refl _) ⟨Heap.get?_push_size _ rfl, hz, its, r', IsTup.new _ _⟩
  exact ⟨.ref h'.objs.size, _, J2, rfl, fin _ _ (J.hok.fresh (Nat.le_refl _)) rfl rfl⟩
/-! ### dict(t) of a tuple of pairs -/
theorem pairs_list {pins : List (Addr × Obj)} {σ : L2.St} {H : Hp} {s : Shared} (I : Inv X pins σ H s) : ∀ {ps : List Addr} {kvs : List (Key × V)}, Paired (fun p kv => SqT X.K H p [kV kv.1, kv.2]) ps kvs →
    ∃ (prs : List (Key × Value)) (psv : List (Value × Value)), KV kvs prs ∧ prs.length = ps.length ∧ psv.length = ps.length ∧ ∀ (j : Nat) (u v : Value), psv[j]? = some (u, v) → ∃ b k, ps[j]? = some b ∧ prs[j]? = some (k, v) ∧ IsTup s.heap b #[u, v] ∧ keyIs k u = true
  | _, _, .nil => ⟨[], [], .nil, rfl, rfl, fun j u v e => by simp at e⟩
  | _, _, .cons (a := p) (b := kv) h t => by
    obtain ⟨prs, psv, r, l1, l2, hp⟩ := pairs_list I t
    obtain ⟨its, rv, ht, _⟩ := I.tuple h
    obtain ⟨u, y, ei, ru, ry⟩ := vals2 rv
    subst ei
    refine ⟨(kv.1, y) :: prs, (u, y) :: psv, .cons ⟨rfl, ry⟩ r, by simp [l1], by simp [l2], fun j u' v' e => ?_⟩
    cases j with
    | zero =>
      cases (Option.some.inj e)
      exact ⟨p, kv.1, rfl, rfl, ht, kV_is (P := X.prog) (w := X.w) ru⟩
    | succ j => exact hp j u' v' (by simpa using e)
theorem call_dictT (hcalm : X.calm = true) : CallR X (.type "dict") (fun xs H Q => ∃ (a : Addr) (o : Obj) (ps : List Addr) (kvs : List (Key × V)), xs = [.ref a] ∧ H a = some (.frz o (.tup (ps.map V.ref))) ∧ o.dict = none ∧ Paired (fun p kv => SqT X.K H p [kV kv.1, kv.2]) ps kvs ∧
    ∀ p, H p = none → Q (.ref p) (upd H p (.dK (mergeK [] kvs)))) := by
  intro pins s σ H xs us Q I r hyp
  obtain ⟨a, o, ps, kvs, ex, hq, hd, hp, fin⟩ := hyp
  subst ex
  obtain ⟨u, eu, rx⟩ := vals1 r
  subst eu
  cases rx
  obtain ⟨e2, hz, its, rv, hT⟩ := (show ObjOk X.prog X.w H s.heap a (.frz o (.tup (ps.map V.ref))) from I.hok a _ hq)
  obtain ⟨o2, e3, hc2, n2, hd2⟩ := hT
  rw [e2] at e3
  cases e3
  have ei := refs_at rv
  subst ei
  rw [List.length_map] at hz
  obtain ⟨prs, psv, rel, l1, l2, hpr⟩ := pairs_list I hp
  have items : PairItems s.heap (ps.map Value.ref).toArray (fun j => ps.getD j 0) psv := by
    refine ⟨by simp [l2], fun j k v e => ?_⟩
    obtain ⟨b, k', e1, _, e4, _⟩ := hpr j k v e
    refine ⟨by simp [e1], ?_⟩
    have eb : ps.getD j 0 = b := by simp [List.getD, e1]
    show PairAt s.heap (ps.getD j 0) k v
    rw [eb]
    exact .inl e4
  refine PySem.call_dict_pairs (knd := mixKind X.prog X.w) (kvs := prs) (PairArg.tuple a (ps.map Value.ref).toArray (fun j => ps.getD j 0) psv) (I.ok.hd hcalm) ⟨⟨o, n2, e2, hc2, hd, hd2⟩, items⟩ ⟨by rw [l1, l2], fun i key v e => ?_⟩ (by rw [l2]; exact hz) fun h' tk hd' k => ?_
  · obtain ⟨b, k', _, e5, _, e6⟩ := hpr i key v e
    exact ⟨k', e5, e6⟩
  · have hm : (s.heap.objs.size == sysModules) = false := beq_eq_false_iff_ne.mpr (Nat.ne_of_gt I.big)
    have few : (mergeK [] kvs).length ≤ sizeLine := by
      have z := length_mergeK kvs []
      rw [List.length_nil, Nat.zero_add, rel.length, l1] at z
      exact Nat.le_trans z hz
    exact ⟨.ref s.heap.objs.size, _, I.laid (t' := tk) (fun b o q => k b o (by simp) q) (Nat.le_refl _) (show ObjOk X.prog X.w _ _ _ (.dK (mergeK [] kvs)) from ⟨few, hm, merged [] prs, KV.merge rel .nil, hd'⟩), rfl, fin _ (I.hok.fresh (Nat.le_refl _))⟩
end
end Kx
namespace Kx
open PySem PySem.Spec PyProof.Rows L2
/-- a block cut behind its first statement: what holds there is named -/
theorem pss_cutK {X : Cx} {st : Stmt} {rest : List Stmt} {t u : TS} (h1 : PS X st t) (h2 : PSs X rest u) :
    PSs X (st :: rest) (fun D σ H => ∃ Mid : L2.St → Hp → Prop, t { D with nx := Mid } σ H ∧ ∀ σ' H', Mid σ' H' → u D σ' H') := Evl.pss_cut h1 h2
end Kx
namespace Kx
open PySem PySem.Spec PyProof.Rows L2
section
variable {X : Cx}
/-- a test, an expression, with a word behind it: what follows is shown once -/
theorem pt_cut {e : Expr} {t : TT} (h : PT X e t) : PT X e (fun σ H Q => ∃ M : Bool → Hp → Prop, t σ H M ∧ ∀ b H1, M b H1 → Q b H1) :=
  ⟨fun pins s σ H Q I ⟨M, hm, k⟩ => thn (h.run pins s σ H M I hm) fun b s1 ⟨H1, I1, q⟩ => ⟨H1, I1, k b H1 q⟩⟩
theorem pe_cut {e : Expr} {t : TE} (h : PE X e t) : PE X e (fun σ H Q => ∃ M : VK, t σ H M ∧ ∀ v H1, M v H1 → Q v H1) :=
  ⟨fun pins s σ H Q I ⟨M, hm, k⟩ => thn (h.run pins s σ H M I hm) fun b s1 ⟨v, H1, I1, r, q⟩ => ⟨v, H1, I1, r, k v H1 q⟩⟩
end
end Kx
namespace Kx
open PySem PySem.Spec PyProof.Rows L2
/-- a comprehension without a test: its element is asked -/
theorem yes_if {σ : L2.St} {H : Hp} {A B : Hp → Prop} (h : A H) : tYes σ H (fun b H3 => if b = true then A H3 else B H3) := by
  have e : (if true = true then A H else B H) := iteT h
  exact e
end Kx
set_option maxHeartbeats 400000
/-! for i, x in enumerate(l, start=1): a list. -/
namespace Kx
open PySem PySem.Spec PyProof.Rows L2
/-- the list at a, each item in a new pair with its number from 1 -/
def IteS (K : PySem.W.Frag) (a : Addr) : It :=
  ⟨fun i H => ∃ (xs : List V) (x : V), SqL K H a xs ∧ xs[i]? = some x, fun i H v H' => ∃ t x, v = .ref t ∧ H t = none ∧ H' = upd H t (.tup [.int (1 + (i : Int)), x]) ∧ ∀ xs, SqL K H a xs → xs[i]? = some x, fun i H => ∃ xs : List V, SqL K H a xs ∧ i = xs.length⟩
theorem turn_enumS {P : Program} {w : World} {K : PySem.W.Frag} {elts : List Expr} {kk : Nat} {tpos : Pos} {a e j : Addr} (na : a ≠ j) (ne : e ≠ j) (nea : e ≠ a) :
    Turn P w K (.Tuple elts kk tpos) (IteS K a) [e, j] e (fun i h => (∃ old, IsEnum h e j (1 + ((i : Nat) : Int)) old) ∧ h.IsListIter j a i) where
  mem := List.mem_cons_self ..
  obj := by
    rintro i h ⟨⟨old, h1⟩, ⟨o, h2, _, d2⟩⟩ c hc
    simp only [List.mem_cons, List.not_mem_nil, or_false] at hc
    rcases hc with rfl | rfl
    · exact ⟨_, h1, fun v q => nomatch q⟩
    · exact ⟨o, h2, fun v q => by rw [d2] at q; cases q⟩
  keep := by
    rintro i h h' ⟨⟨old, h1⟩, h2⟩ k
    exact ⟨⟨old, k e (by simp) _ h1⟩, h2.at fun o q => k j (by simp) o q⟩
  item := by
    intro X hP hw hK hc i pins s σ H E I hf st hg
    subst hP hw hK
    obtain ⟨⟨old, h1⟩, h2⟩ := st
    obtain ⟨xs, x, hq, hx⟩ := hg
    obtain ⟨its, rv, p, _⟩ := I.list hq
    obtain ⟨u, hu, ru⟩ := rv.get hx
    have hh : X.A.handled = none := I.ok.hd hc
    have b1 : i < its.toArray.size := by simpa using (List.getElem?_eq_some_iff.mp hu).1
    have el : e < s.heap.objs.size := Heap.lt_size h1
    have nf : e ∉ [j, a] := by simp only [List.mem_cons, List.not_mem_nil, or_false, not_or]; exact ⟨ne, nea⟩
    refine wpAny_pyNext_enum_itemC (Draws.list (A := X.A.in1) hh j a na its.toArray) h1 ⟨h2, p.isList⟩ b1 ne nf fun v g tk e1 g1 g2 gT gs gk => ?_
    have q1 : v = u := by simpa [hu] using e1.symm
    subst q1
    refine ⟨_, rfl, wpAny_letOwnedTupleGo_enum (s := { s with heap := g, toks := tk + 1 }) g1 fun g' k1 sb => ?_⟩
    have out : ∀ c, c ≠ e → g'.get? c = g.get? c := fun c n => sb.2 c n
    have nw : g'.get? s.heap.objs.size = some { cls := .type "tuple", data := .seq #[.int (1 + (i : Int)) tk, v] } := (out _ (Nat.ne_of_gt el)).trans gT
    have made : ObjOk X.prog X.w (upd H s.heap.objs.size (.tup [.int (1 + (i : Int)), x])) g' s.heap.objs.size (.tup [.int (1 + (i : Int)), x]) := ⟨by show 2 ≤ sizeLine; decide, [.int (1 + (i : Int)) tk, v], .cons ⟨_, rfl⟩ (.cons ru .nil), ⟨_, nw, rfl, _, rfl⟩⟩
    have J := I.turnedNew (t' := tk + 1) (ch := [e, j]) (fun c o n y => by
      simp only [List.mem_cons, List.not_mem_nil, or_false, not_or] at n
      exact (out c n.1).trans (gk c o n.1 n.2 y)) hf (Nat.le_refl _) made
    refine ⟨.ref s.heap.objs.size, _, J, rfl, ⟨_, x, rfl, I.hok.fresh (Nat.le_refl _), rfl, fun l hl => by rw [I.list_inj hl hq]; exact hx⟩, ⟨⟨v, ?_⟩, ?_⟩, fun c hcm => ?_⟩
    · have ei : 1 + ((i + 1 : Nat) : Int) = 1 + (i : Int) + 1 := by omega
      rw [ei]; exact k1
    · exact g2.1.at fun o q => (out _ ne.symm).trans q
    · have lt : c < s.heap.objs.size := by
        simp only [List.mem_cons, List.not_mem_nil, or_false] at hcm
        rcases hcm with q | q
        · rw [q]; exact el
        · rw [q]; obtain ⟨_, y, _⟩ := h2; exact Heap.lt_size y
      rw [upd_ne (Nat.ne_of_lt lt)]
      exact (hf c hcm).1
  done := by
    intro X hP hw hK hc i pins s σ H E I hf st hg
    subst hP hw hK
    obtain ⟨⟨old, h1⟩, h2⟩ := st
    obtain ⟨xs, hq, l1⟩ := hg
    obtain ⟨its, rv, p, _⟩ := I.list hq
    have hh : X.A.handled = none := I.ok.hd hc
    have m1 : i = its.toArray.size := by rw [List.size_toArray, ← rv.length]; exact l1
    subst m1
    obtain ⟨f0, f1, f2, f3, f4, f5⟩ := hf j (by simp)
    refine wpAny_pyNext_enum_endD (Draws.list (A := X.A.in1) hh j a na its.toArray) h1 ⟨h2, p.isList⟩ fun g eb => ⟨rfl, I.turned (t' := s.toks) (fun b o hb q => eb b o hb q) f0 f1 f3 f4 f5⟩
  self := fun A i s Q E st h => let ⟨⟨_, y⟩, _⟩ := st; wpAny_pyIter_enum y h
theorem withTyK {M : Model} {A : Around} {E : Value → Shared → Prop} {s : Shared} {pos : Pos} {T : String} {env : Env} {e : Expr} {rest : List Expr} {kws : List Keyword} {Q : Value → Shared → Prop}
    (q : wpAny M A (spliced (backTo pos (starEach (e :: rest) env))) (fun us t => wpAny M A (evalAll ((backToKw pos (keywordEach kws env)).map (·.2))) (fun ws t2 => wpAny M A (call (.type T) us (((backToKw pos (keywordEach kws env)).filterMap (·.1)).zip ws)) Q E t2) E t) E s)
    (h1 : backTo pos (starEach (e :: rest) env) = (false, eval e env) :: backTo pos (starEach rest env)) (h2 : (backTo pos (starEach (e :: rest) env)).any (·.1) = false)
    (h3 : (backToKw pos (keywordEach kws env)).all (·.1.isSome) = true) (h4 : (backToKw pos (keywordEach kws env)).any (·.1.isNone) = false) :
    wpAny M A (callWith pos (.type T) [] (backTo pos (starEach (e :: rest) env)) (backToKw pos (keywordEach kws env))) Q E s := by
  have k : wpAny M A (evalArgs (.type T) true (backTo pos (starEach (e :: rest) env)) (backToKw pos (keywordEach kws env))) (fun a t => wpAny M A (call (.type T) ([] ++ a.pos) a.kw) Q E t) E s := by
    rw [h1] at q ⊢
    exact PyProof.Rows.evalArgs_kwB h3 q
  unfold callWith
  refine wpAny_bind (wpAny_holding (wpAny_mono k (fun a t z => wpAny_bind (wpAny_standAt ?_)) fun _ _ y => y))
  simp only [h2, h4, Bool.or_self]
  refine wpAny_bind (wpAny_pure ?_)
  exact wpAny_bind (wpAny_mono z (fun r t z2 => wpAny_bind (wpAny_holding (wpAny_point (wpAny_pure z2)))) fun _ _ y => y)
def iEnumS (K : PySem.W.Frag) (ta : TA) : TI := fun σ H R => ta σ H fun vs H1 => ∃ a xs, vs = [.ref a] ∧ SqL K H1 a xs ∧ R (IteS K a) H1
theorem pi_enumS {X : Cx} {e : Expr} {es : List Expr} {kws : List Keyword} {ta tk : TA} {p pos tpos : Pos} {elts : List Expr} {kk : Nat} (hg : Gl X "enumerate") (hm : X.mg "enumerate" = none) (ha : PA X (e :: es) ta) (hk : PK X kws tk) (h1 : ∀ σ H (Q : List V → Hp → Prop), Q [.int 1] H → tk σ H Q := by exact fun _ _ _ h => h)
    (he : backTo pos (starEach (e :: es) X.env) = (false, eval e X.env) :: backTo pos (starEach es X.env) := by rfl) (hpl : (backTo pos (starEach (e :: es) X.env)).any (·.1) = false := by rfl)
    (hall : (backToKw pos (keywordEach kws X.env)).all (·.1.isSome) = true := by rfl) (hnone : (backToKw pos (keywordEach kws X.env)).any (·.1.isNone) = false := by rfl) (hks : (backToKw pos (keywordEach kws X.env)).filterMap (·.1) = [Str.ofString "start"] := by rfl) :
    PI X (.Tuple elts kk tpos) (.Call (.Name "enumerate" p) (e :: es) kws pos) (iEnumS X.K ta) := by
  refine ⟨fun pins s σ H R I h => ?_⟩
  refine wpAny_Call_Name_kw (ld_blt I hg hm boot_enumerate ?_)
  refine withTyK (thn (ha.run pos pins s σ H _ I h) fun us s1 ⟨vs, H1, J, rel, q1⟩ => thn (hk.run pos pins s1 σ H1 (fun zs H2 => zs = [.int 1] ∧ H2 = H1) J (h1 _ _ _ ⟨rfl, rfl⟩)) fun ws s2 ⟨zs, H2, J2, rel2, q2⟩ => ?_) he hpl hall hnone
  rw [hks]
  obtain ⟨rfl, rfl⟩ := q2
  obtain ⟨a, xs, ex, hx, q⟩ := q1
  subst ex
  obtain ⟨u, rfl, r1⟩ := vals1 rel
  cases r1
  obtain ⟨u2, rfl, r2⟩ := vals1 rel2
  obtain ⟨t, rfl⟩ := r2
  obtain ⟨its, _, p1, _⟩ := J2.list hx
  have la : a < s2.heap.objs.size := by obtain ⟨o, ho, _⟩ := id p1.isList; exact Heap.lt_size ho
  refine enum_begins_start (begins_list _ _) p1.isList (by decide) (by decide) fun g y1 y2 ys kp => wpAny_pyIter_enum y1 ?_
  have J3 : Inv X pins σ H2 { s2 with heap := g } := J2.kept (t' := s2.toks) kp
  refine ⟨s2.heap.objs.size + 1, [s2.heap.objs.size + 1, s2.heap.objs.size], _, _, H2, rfl, J3, turn_enumS (a := a) (e := s2.heap.objs.size + 1) (j := s2.heap.objs.size) (Nat.ne_of_lt la) (Nat.succ_ne_self _) (Nat.ne_of_gt (Nat.lt_succ_of_lt la)), ⟨⟨.none, y1⟩, ⟨_, y2, rfl, rfl⟩⟩, fun c hc => ?_, q⟩
  have le : s2.heap.objs.size ≤ c := by
    rcases List.mem_cons.mp hc with e | e
    · rw [e]; exact Nat.le_succ _
    · rw [List.mem_singleton.mp e]; exact Nat.le_refl _
  exact J2.fpOk le (J2.hok.fresh le)
theorem u64 {A : Around} {k : Nat} (r : Room k A) : A.units + 64 < cLine := by have := r.un; omega
section
variable {X : Cx}
/-! ### for x in s: a list or a tuple -/
def iSeq (K : PySem.W.Frag) (tl : TE) : TI := fun σ H R => tl σ H fun x H1 => ∃ a, x = .ref a ∧ (((∃ xs, SqL K H1 a xs) ∧ R (Itl K a) H1) ∨ ((∃ xs, SqT K H1 a xs) ∧ R (Itt K a) H1))
theorem pi_seq {tg l : Expr} {tl : TE} (hl : PE X l tl) : PI X tg l (iSeq X.K tl) := by
  refine ⟨fun pins s σ H R I h => thn (hl.run pins s σ H _ I h) fun v s1 ⟨x, H1, I1, r1, q1⟩ => ?_⟩
  obtain ⟨a, e, q⟩ := q1
  subst e
  cases r1
  have far : ∀ b ∈ [s1.heap.objs.size], FpOk X pins H1 b := fun b hb => by
    rw [List.mem_singleton.mp hb]
    exact I1.fpOk (Nat.le_refl _) (I1.hok.fresh (Nat.le_refl _))
  rcases q with ⟨⟨xs, hq⟩, q⟩ | ⟨⟨xs, hq⟩, q⟩
  · obtain ⟨its, rv, p, _⟩ := I1.list hq
    exact wpAny_pyIter_list p.isList ⟨_, [s1.heap.objs.size], _, _, H1, rfl, I1.kept (t' := s1.toks) fun b o e => Heap.get?_push_of_some _ e, turn_list a _, ⟨_, Heap.get?_push_size _ rfl, rfl, rfl⟩, far, q⟩
  · obtain ⟨its, rv, p, _⟩ := I1.tuple hq
    exact wpAny_pyIter_tuple (show s1.heap.IsTuple a its.toArray from p) ⟨_, [s1.heap.objs.size], _, _, H1, rfl, I1.kept (t' := s1.toks) fun b o e => Heap.get?_push_of_some _ e, turn_tuple a _, ⟨_, Heap.get?_push_size _ rfl, rfl, rfl⟩, far, q⟩
end
/-- the loop over it -/
theorem for_enumS {K : PySem.W.Frag} {a : Addr} {xs : List V} {g : TG} {tb : TS} {D : Ends} {σ : L2.St} {H : Hp} (Pv : Nat → L2.St → Hp → Prop) (h0 : Pv 0 σ H) (hq : ∀ i σ H, Pv i σ H → SqL K H a xs)
    (hs : ∀ (i : Nat) (x : V) (t : Addr) (σ : L2.St) (H : Hp), xs[i]? = some x → Pv i σ H → H t = none → g (.ref t) σ (upd H t (.tup [.int (1 + (i : Int)), x])) fun σ2 H2 => tb { D with nx := Pv (i + 1), ct := Pv (i + 1), bk := D.nx } σ2 H2) (hd : ∀ σ H, Pv xs.length σ H → D.nx σ H) :
    ∃ W : Nat → Nat → L2.St → Hp → Prop, (∃ m, W 0 m σ H) ∧ ∀ i m σ H, W i m σ H →
      ((IteS K a).stop i H ∧ D.nx σ H) ∨ ((IteS K a).go i H ∧ ∃ N : L2.St → Hp → Prop, (∀ σ' H', N σ' H' → ∃ m', m' < m ∧ W (i + 1) m' σ' H') ∧ ∀ v H', (IteS K a).yld i H v H' → g v σ H' fun σ2 H2 => tb { D with nx := N, ct := N, bk := D.nx } σ2 H2) := by
  refine ⟨fun i m σ H => m = xs.length - i ∧ i ≤ xs.length ∧ Pv i σ H, ⟨_, rfl, Nat.zero_le _, h0⟩, fun i m σ H w => ?_⟩
  obtain ⟨rfl, le, pv⟩ := w
  have qx := hq i σ H pv
  rcases Nat.lt_or_ge i xs.length with lt | ge
  · have ex : xs[i]? = some xs[i] := List.getElem?_eq_getElem lt
    refine .inr ⟨⟨xs, _, qx, ex⟩, Pv (i + 1), fun σ' H' p' => ⟨xs.length - (i + 1), by omega, rfl, lt, p'⟩, ?_⟩
    rintro v H' ⟨t, x, rfl, nt, rfl, kx⟩
    exact hs i x t σ H (kx xs qx) pv nt
  · have e : i = xs.length := Nat.le_antisymm le ge
    exact .inl ⟨⟨xs, qx, e⟩, hd σ H (e ▸ pv)⟩
end Kx
set_option maxHeartbeats 1000000
/-! The mathematics: data, texts, tokens. -/
namespace Kx
open PySem PySem.Spec PyProof.Rows L2
inductive PV where
  | str (z : Str)
  | int (i : Int)
  | tup (xs : List PV)
mutual
/-- how deep it is -/
def dep : PV → Nat
  | .str _ => 1
  | .int _ => 1
  | .tup ts => 1 + depL ts
def depL : List PV → Nat
  | [] => 0
  | t :: r => max (dep t) (depL r)
end
theorem dep_pos : ∀ t : PV, 1 ≤ dep t
  | .str _ => by simp [dep]
  | .int _ => by simp [dep]
  | .tup ts => by simp [dep]
theorem depL_mem : ∀ {l : List PV} {t : PV}, t ∈ l → dep t ≤ depL l
  | a :: r, t, h => by
    rcases List.mem_cons.mp h with rfl | h
    · simp only [depL]; omega
    · have := depL_mem h
      simp only [depL]; omega
theorem depL_le {l : List PV} {c : Nat} (h : ∀ t ∈ l, dep t ≤ c) : depL l ≤ c := by
  induction l with
  | nil => simp [depL]
  | cons a r ih =>
    have h1 := h a (List.mem_cons_self ..)
    have h2 := ih fun t ht => h t (List.mem_cons_of_mem _ ht)
    simp only [depL]; omega
/-! ### signs -/
def cs (z : Str) : List Nat := z.cps.toList
def mkS (l : List Nat) : Str := ⟨l.toArray⟩
theorem cs_mk (l : List Nat) : cs (mkS l) = l := by simp [cs, mkS]
theorem mk_cs (z : Str) : mkS (cs z) = z := by cases z; simp [cs, mkS]
theorem cs_inj {a b : Str} (h : cs a = cs b) : a = b := by rw [← mk_cs a, h, mk_cs]
theorem cs_app (a b : Str) : cs (a ++ b) = cs a ++ cs b := by
  show (a.cps ++ b.cps).toList = _
  simp [cs]
theorem mk_app (a b : List Nat) : mkS a ++ mkS b = mkS (a ++ b) := cs_inj (by rw [cs_app, cs_mk, cs_mk, cs_mk])
theorem cs_len (z : Str) : (cs z).length = z.length := by simp [cs, Str.length]
theorem mk_len (l : List Nat) : (mkS l).length = l.length := by rw [← cs_len, cs_mk]
abbrev isAl (c : Nat) : Bool := Unicode.isAlnum c
/-- a sign of a line -/
def okc (c : Nat) : Prop := 32 ≤ c ∧ c ≤ 126 ∧ c ≠ 37 ∧ c ≠ 35
instance (c : Nat) : Decidable (okc c) := by unfold okc; infer_instance
/-! ### texts of trees -/
def sepJ : List (List Nat) → List Nat
  | [] => []
  | [a] => a
  | a :: b :: r => a ++ 44 :: 32 :: sepJ (b :: r)
def sepT : List (List (List Nat)) → List (List Nat)
  | [] => []
  | [a] => a
  | a :: b :: r => a ++ [44] :: sepT (b :: r)
mutual
def txt : PV → List Nat
  | .str z => cs z
  | .int _ => []
  | .tup [] => []
  | .tup (.int _ :: _) => []
  | .tup (.tup _ :: _) => []
  | .tup (.str w :: r) => if r.isEmpty then cs w else cs w ++ 40 :: (sepJ (txtL r) ++ [41])
def txtL : List PV → List (List Nat)
  | [] => []
  | t :: r => txt t :: txtL r
end
theorem txtL_map : ∀ l : List PV, txtL l = l.map txt
  | [] => rfl
  | t :: r => by simp only [txtL, List.map_cons, txtL_map r]
mutual
def tokT : PV → List (List Nat)
  | .str z => [cs z]
  | .int _ => []
  | .tup [] => []
  | .tup (.int _ :: _) => []
  | .tup (.tup _ :: _) => []
  | .tup (.str w :: r) => if r.isEmpty then [cs w] else cs w :: [40] :: (sepT (tokTL r) ++ [[41]])
def tokTL : List PV → List (List (List Nat))
  | [] => []
  | t :: r => tokT t :: tokTL r
end
theorem tokTL_map : ∀ l : List PV, tokTL l = l.map tokT
  | [] => rfl
  | t :: r => by simp only [tokTL, List.map_cons, tokTL_map r]
mutual
/-- as it is read ahead of the declarations -/
def raw : PV → PV
  | .str z => .str z
  | .int i => .int i
  | .tup [] => .tup []
  | .tup (.int i :: r) => .tup (.int i :: r)
  | .tup (.tup x :: r) => .tup (.tup x :: r)
  | .tup (.str w :: r) => if r.isEmpty then .str w else .tup (.str w :: rawL r)
def rawL : List PV → List PV
  | [] => []
  | t :: r => raw t :: rawL r
end
theorem rawL_map : ∀ l : List PV, rawL l = l.map raw
  | [] => rfl
  | t :: r => by simp only [rawL, List.map_cons, rawL_map r]
mutual
/-- what the declarations make of it -/
def dcl (ws : List Str) : PV → PV
  | .str z => if z ∈ ws then .tup [.str z] else .str z
  | .int i => .int i
  | .tup [] => .tup []
  | .tup (a :: r) => .tup (a :: dclL ws r)
def dclL (ws : List Str) : List PV → List PV
  | [] => []
  | t :: r => dcl ws t :: dclL ws r
end
theorem dclL_map (ws : List Str) : ∀ l : List PV, dclL ws l = l.map (dcl ws)
  | [] => rfl
  | t :: r => by simp only [dclL, List.map_cons, dclL_map ws r]
/-- a tree as it is drawn: words alone, names, words with parts -/
def Tr (L N B : List Str) : Nat → PV → Prop
  | _, .str z => z ∈ N
  | _, .int _ => False
  | _, .tup [] => False
  | _, .tup (.int _ :: _) => False
  | _, .tup (.tup _ :: _) => False
  | 0, .tup (.str w :: r) => r = [] ∧ w ∈ L
  | n + 1, .tup (.str w :: r) => (r = [] ∧ w ∈ L) ∨ (r ≠ [] ∧ w ∈ B ∧ r.length ≤ 3 ∧ ∀ t ∈ r, Tr L N B n t)
theorem Tr.cases {L N B : List Str} : ∀ {n : Nat} {t : PV}, Tr L N B n t → (∃ z, t = .str z ∧ z ∈ N) ∨ (∃ w, t = .tup [.str w] ∧ w ∈ L) ∨ ∃ w r m, t = .tup (.str w :: r) ∧ n = m + 1 ∧ r ≠ [] ∧ w ∈ B ∧ r.length ≤ 3 ∧ ∀ t ∈ r, Tr L N B m t
  | 0, .str z, h => .inl ⟨z, rfl, h⟩
  | n + 1, .str z, h => .inl ⟨z, rfl, h⟩
  | 0, .tup (.str w :: r), h => by
    obtain ⟨rfl, h⟩ := h
    exact .inr (.inl ⟨w, rfl, h⟩)
  | n + 1, .tup (.str w :: r), h => by
    rcases h with ⟨rfl, h⟩ | ⟨h1, h2, h3, h4⟩
    · exact .inr (.inl ⟨w, rfl, h⟩)
    · exact .inr (.inr ⟨w, r, n, rfl, rfl, h1, h2, h3, h4⟩)
theorem Tr.dcl {L N B : List Str} (no : ∀ z ∈ N, z ∉ L) : ∀ {n : Nat} {t : PV}, Tr L N B n t → dcl L (raw t) = t := by
  intro n
  induction n with
  | zero =>
    intro t h
    rcases h.cases with ⟨z, rfl, hz⟩ | ⟨w, rfl, hw⟩ | ⟨w, r, m, rfl, e, _⟩
    · simp [raw, Kx.dcl, no z hz]
    · simp [raw, Kx.dcl, hw]
    · omega
  | succ n ih =>
    intro t h
    rcases h.cases with ⟨z, rfl, hz⟩ | ⟨w, rfl, hw⟩ | ⟨w, r, m, rfl, e, hr, hw, hl, ht⟩
    · simp [raw, Kx.dcl, no z hz]
    · simp [raw, Kx.dcl, hw]
    · cases e
      have e2 : r.isEmpty = false := by cases r with | nil => exact absurd rfl hr | cons _ _ => rfl
      simp only [raw, e2, Bool.false_eq_true, if_false, Kx.dcl, dclL_map, rawL_map, List.map_map]
      congr 2
      have : ∀ t ∈ r, (Kx.dcl L ∘ raw) t = t := fun t h => ih (ht t h)
      exact (List.map_congr_left (g := fun t => t) this).trans (List.map_id' r)
/-- the bound of a text of a tree -/
def Bd (a b : Nat) : Nat → Nat
  | 0 => a
  | n + 1 => max a (b + 6 + 3 * Bd a b n)
theorem sepJ_len : ∀ (l : List (List Nat)) (c : Nat), (∀ x ∈ l, x.length ≤ c) → (sepJ l).length ≤ l.length * c + 2 * (l.length - 1)
  | [], c, _ => by simp [sepJ]
  | [a], c, h => by have := h a (List.mem_cons_self ..); simp [sepJ]; omega
  | a :: b :: r, c, h => by
    have h1 := h a (List.mem_cons_self ..)
    have h2 := sepJ_len (b :: r) c fun x hx => h x (List.mem_cons_of_mem _ hx)
    simp only [sepJ, List.length_append, List.length_cons, Nat.add_mul, Nat.one_mul] at h2 ⊢
    omega
theorem Tr.len {L N B : List Str} {a b : Nat} (hL : ∀ z ∈ L, z.length ≤ a) (hN : ∀ z ∈ N, z.length ≤ a) (hB : ∀ z ∈ B, z.length ≤ b) : ∀ {n : Nat} {t : PV}, Tr L N B n t → (txt t).length ≤ Bd a b n := by
  intro n
  induction n with
  | zero =>
    intro t h
    rcases h.cases with ⟨z, rfl, hz⟩ | ⟨w, rfl, hw⟩ | ⟨w, r, m, rfl, e, _⟩
    · simp only [txt, cs_len, Bd]; exact hN z hz
    · simp only [txt, List.isEmpty_nil, if_true, cs_len, Bd]; exact hL w hw
    · omega
  | succ n ih =>
    intro t h
    rcases h.cases with ⟨z, rfl, hz⟩ | ⟨w, rfl, hw⟩ | ⟨w, r, m, rfl, e, hr, hw, hl, ht⟩
    · have := hN z hz
      simp only [txt, cs_len, Bd]; omega
    · have := hL w hw
      simp only [txt, List.isEmpty_nil, if_true, cs_len, Bd]; omega
    · cases e
      have e2 : r.isEmpty = false := by cases r with | nil => exact absurd rfl hr | cons _ _ => rfl
      have h1 := hB w hw
      have h2 := sepJ_len (txtL r) (Bd a b n) (fun x hx => by
        rw [txtL_map] at hx
        obtain ⟨t, ht', rfl⟩ := List.mem_map.mp hx
        exact ih (ht t ht'))
      have h3 : (txtL r).length = r.length := by rw [txtL_map, List.length_map]
      have h4 : r.length * Bd a b n ≤ 3 * Bd a b n := Nat.mul_le_mul_right _ hl
      rw [h3] at h2
      simp only [txt, e2, Bool.false_eq_true, if_false, List.length_append, List.length_cons, List.length_nil, cs_len, Bd]
      omega
/-! ### tokens -/
inductive Toks : List Nat → List (List Nat) → Prop
  | nil : Toks [] []
  | sp {l : List Nat} {T : List (List Nat)} (h : Toks l T) : Toks (32 :: l) T
  | word {w l : List Nat} {T : List (List Nat)} (n : w ≠ []) (a : ∀ c ∈ w, isAl c = true) (e : ∀ c r, l = c :: r → isAl c = false) (h : Toks l T) : Toks (w ++ l) (w :: T)
  | arrow {l : List Nat} {T : List (List Nat)} (h : Toks l T) : Toks (45 :: 62 :: l) ([45, 62] :: T)
  | sign {c : Nat} {l : List Nat} {T : List (List Nat)} (a : isAl c = false) (n : c ≠ 32) (m : c ≠ 45) (h : Toks l T) : Toks (c :: l) ([c] :: T)
/-- what follows doesn't go on a word -/
def Stp (l : List Nat) : Prop := ∀ c r, l = c :: r → isAl c = false
theorem stp_nil : Stp [] := fun c r e => by cases e
theorem stp_cons {c : Nat} {l : List Nat} (h : isAl c = false) : Stp (c :: l) := fun c' r e => by cases e; exact h
/-- a word of the language -/
def WdP (w : List Nat) : Prop := w ≠ [] ∧ (∀ c ∈ w, isAl c = true) ∧ ∀ c ∈ w, okc c
instance (w : List Nat) : Decidable (WdP w) := by unfold WdP; infer_instance
theorem al_40 : isAl 40 = false := by decide +kernel
theorem al_41 : isAl 41 = false := by decide +kernel
theorem al_44 : isAl 44 = false := by decide +kernel
theorem al_32 : isAl 32 = false := by decide +kernel
theorem al_45 : isAl 45 = false := by decide +kernel
theorem al_58 : isAl 58 = false := by decide +kernel
theorem al_61 : isAl 61 = false := by decide +kernel
theorem Toks.wd {w l : List Nat} {T : List (List Nat)} (h : WdP w) (s : Stp l) (t : Toks l T) : Toks (w ++ l) (w :: T) := .word h.1 h.2.1 s t
theorem Toks.op {l : List Nat} {T : List (List Nat)} (t : Toks l T) : Toks (40 :: l) ([40] :: T) := .sign al_40 (by decide) (by decide) t
theorem Toks.cl {l : List Nat} {T : List (List Nat)} (t : Toks l T) : Toks (41 :: l) ([41] :: T) := .sign al_41 (by decide) (by decide) t
theorem Toks.co {l : List Nat} {T : List (List Nat)} (t : Toks l T) : Toks (44 :: l) ([44] :: T) := .sign al_44 (by decide) (by decide) t
/-- a piece with its tokens, whatever follows -/
def Pc (x : List Nat) (T : List (List Nat)) : Prop := ∀ l U, Stp l → Toks l U → Toks (x ++ l) (T ++ U)
theorem Pc.wd {w : List Nat} (h : WdP w) : Pc w [w] := fun l U s t => t.wd h s
theorem Pc.sep : ∀ {xs : List (List Nat)} {Ts : List (List (List Nat))}, Paired Pc xs Ts → Pc (sepJ xs) (sepT Ts)
  | _, _, .nil => fun l U s t => t
  | [x], [T], .cons h .nil => h
  | x :: y :: r, T :: T2 :: Tr, .cons h (.cons h2 h3) => fun l U s t => by
    have k := Pc.sep (.cons h2 h3) l U s t
    have := h (44 :: 32 :: (sepJ (y :: r) ++ l)) ([44] :: (sepT (T2 :: Tr) ++ U)) (stp_cons al_44) (.co (.sp k))
    simpa only [sepJ, sepT, List.append_assoc, List.cons_append] using this
theorem Pc.par {x : List Nat} {T : List (List Nat)} {w : List Nat} (h : WdP w) (k : Pc x T) : Pc (w ++ 40 :: (x ++ [41])) (w :: [40] :: (T ++ [[41]])) := fun l U s t => by
  have h1 := k (41 :: l) ([41] :: U) (stp_cons al_41) t.cl
  have h2 := Toks.wd h (stp_cons al_40) h1.op
  simpa only [List.append_assoc, List.cons_append, List.nil_append] using h2
theorem Tr.pc {L N B : List Str} (hL : ∀ z ∈ L, WdP (cs z)) (hN : ∀ z ∈ N, WdP (cs z)) (hB : ∀ z ∈ B, WdP (cs z)) : ∀ {n : Nat} {t : PV}, Tr L N B n t → Pc (txt t) (tokT t) := by
  intro n
  induction n with
  | zero =>
    intro t h
    rcases h.cases with ⟨z, rfl, hz⟩ | ⟨w, rfl, hw⟩ | ⟨w, r, m, rfl, e, _⟩
    · exact Pc.wd (hN z hz)
    · exact Pc.wd (hL w hw)
    · omega
  | succ n ih =>
    intro t h
    rcases h.cases with ⟨z, rfl, hz⟩ | ⟨w, rfl, hw⟩ | ⟨w, r, m, rfl, e, hr, hw, hl, ht⟩
    · exact Pc.wd (hN z hz)
    · exact Pc.wd (hL w hw)
    · cases e
      have e2 : r.isEmpty = false := by cases r with | nil => exact absurd rfl hr | cons _ _ => rfl
      have pr : ∀ {r : List PV}, (∀ t ∈ r, Tr L N B n t) → Paired Pc (txtL r) (tokTL r) := by
        intro r
        induction r with
        | nil => intro _; exact .nil
        | cons a r ih2 => intro h; exact .cons (ih (h a (List.mem_cons_self ..))) (ih2 fun t ht => h t (List.mem_cons_of_mem _ ht))
      have := Pc.par (hB w hw) (Pc.sep (pr ht))
      simpa only [txt, tokT, e2, Bool.false_eq_true, if_false] using this
/-! ### signs of texts -/
def Ok (l : List Nat) : Prop := ∀ c ∈ l, okc c
theorem Ok.app {a b : List Nat} (h : Ok a) (k : Ok b) : Ok (a ++ b) := fun c hc => (List.mem_append.mp hc).elim (h c) (k c)
theorem Ok.cons {c : Nat} {b : List Nat} (h : okc c) (k : Ok b) : Ok (c :: b) := fun d hd => by
  rcases List.mem_cons.mp hd with rfl | hd
  · exact h
  · exact k d hd
theorem Ok.nil : Ok [] := fun c h => by cases h
theorem Ok.sep : ∀ {xs : List (List Nat)}, (∀ x ∈ xs, Ok x) → Ok (sepJ xs)
  | [], _ => .nil
  | [x], h => h x (List.mem_cons_self ..)
  | x :: y :: r, h => .app (h x (List.mem_cons_self ..)) (.cons (by decide) (.cons (by decide) (Ok.sep fun z hz => h z (List.mem_cons_of_mem _ hz))))
theorem Tr.ok {L N B : List Str} (hL : ∀ z ∈ L, WdP (cs z)) (hN : ∀ z ∈ N, WdP (cs z)) (hB : ∀ z ∈ B, WdP (cs z)) : ∀ {n : Nat} {t : PV}, Tr L N B n t → Ok (txt t) := by
  intro n
  induction n with
  | zero =>
    intro t h
    rcases h.cases with ⟨z, rfl, hz⟩ | ⟨w, rfl, hw⟩ | ⟨w, r, m, rfl, e, _⟩
    · exact (hN z hz).2.2
    · exact (hL w hw).2.2
    · omega
  | succ n ih =>
    intro t h
    rcases h.cases with ⟨z, rfl, hz⟩ | ⟨w, rfl, hw⟩ | ⟨w, r, m, rfl, e, hr, hw, hl, ht⟩
    · exact (hN z hz).2.2
    · exact (hL w hw).2.2
    · cases e
      have e2 : r.isEmpty = false := by cases r with | nil => exact absurd rfl hr | cons _ _ => rfl
      simp only [txt, e2, Bool.false_eq_true, if_false]
      refine .app (hB w hw).2.2 (.cons (by decide) (.app (.sep fun x hx => ?_) (.cons (by decide) .nil)))
      rw [txtL_map] at hx
      obtain ⟨t, ht', rfl⟩ := List.mem_map.mp hx
      exact ih (ht t ht')
/-- the open parentheses among the tokens -/
def opn (T : List (List Nat)) : Nat := T.count [40]
theorem opn_app (a b : List (List Nat)) : opn (a ++ b) = opn a + opn b := List.count_append ..
theorem opn_sep : ∀ {xs : List (List (List Nat))} {c : Nat}, (∀ x ∈ xs, opn x ≤ c) → opn (sepT xs) ≤ xs.length * c
  | [], c, _ => by simp [sepT, opn]
  | [x], c, h => by have := h x (List.mem_cons_self ..); simp [sepT]; exact this
  | x :: y :: r, c, h => by
    have h1 := h x (List.mem_cons_self ..)
    have h2 := opn_sep (xs := y :: r) (c := c) fun z hz => h z (List.mem_cons_of_mem _ hz)
    have h3 : opn ([44] :: sepT (y :: r)) = opn (sepT (y :: r)) := by simp [opn]
    simp only [sepT, opn_app, h3, List.length_cons, Nat.add_mul, Nat.one_mul] at h2 ⊢
    omega
def Od : Nat → Nat
  | 0 => 0
  | n + 1 => 1 + 3 * Od n
theorem wd_no {w : List Nat} (h : WdP w) : w ≠ [40] := fun e => by
  have := h.2.1 40 (by rw [e]; simp)
  rw [show isAl 40 = false from al_40] at this
  cases this
theorem opn_cons {w : List Nat} (h : w ≠ [40]) (T : List (List Nat)) : opn (w :: T) = opn T := by
  unfold opn
  rw [List.count_cons]
  simp [h]
theorem Tr.opn {L N B : List Str} (hL : ∀ z ∈ L, WdP (cs z)) (hN : ∀ z ∈ N, WdP (cs z)) (hB : ∀ z ∈ B, WdP (cs z)) : ∀ {n : Nat} {t : PV}, Tr L N B n t → opn (tokT t) ≤ Od n := by
  intro n
  induction n with
  | zero =>
    intro t h
    rcases h.cases with ⟨z, rfl, hz⟩ | ⟨w, rfl, hw⟩ | ⟨w, r, m, rfl, e, _⟩
    · simp only [tokT]; rw [opn_cons (wd_no (hN z hz))]; exact Nat.zero_le _
    · simp only [tokT, List.isEmpty_nil, if_true]; rw [opn_cons (wd_no (hL w hw))]; exact Nat.zero_le _
    · omega
  | succ n ih =>
    intro t h
    rcases h.cases with ⟨z, rfl, hz⟩ | ⟨w, rfl, hw⟩ | ⟨w, r, m, rfl, e, hr, hw, hl, ht⟩
    · simp only [tokT]; rw [opn_cons (wd_no (hN z hz))]; exact Nat.zero_le _
    · simp only [tokT, List.isEmpty_nil, if_true]; rw [opn_cons (wd_no (hL w hw))]; exact Nat.zero_le _
    · cases e
      have e2 : r.isEmpty = false := by cases r with | nil => exact absurd rfl hr | cons _ _ => rfl
      have h2 := opn_sep (xs := tokTL r) (c := Od n) (fun x hx => by
        rw [tokTL_map] at hx
        obtain ⟨t, ht', rfl⟩ := List.mem_map.mp hx
        exact ih (ht t ht'))
      have h3 : (tokTL r).length = r.length := by rw [tokTL_map, List.length_map]
      have h4 : r.length * Od n ≤ 3 * Od n := Nat.mul_le_mul_right _ hl
      have h5 : Kx.opn ([40] :: (sepT (tokTL r) ++ [[41]])) = 1 + Kx.opn (sepT (tokTL r)) := by
        have : Kx.opn [[41]] = 0 := by decide
        have e3 : Kx.opn ([40] :: (sepT (tokTL r) ++ [[41]])) = Kx.opn (sepT (tokTL r) ++ [[41]]) + 1 := by unfold Kx.opn; rw [List.count_cons]; rfl
        rw [e3, opn_app, this]; omega
      rw [h3] at h2
      simp only [tokT, e2, Bool.false_eq_true, if_false]
      rw [opn_cons (wd_no (hB w hw)), h5]
      simp only [Od]
      omega
theorem Tr.dep {L N B : List Str} : ∀ {n : Nat} {t : PV}, Tr L N B n t → Kx.dep t ≤ n + 2 := by
  intro n
  induction n with
  | zero =>
    intro t h
    rcases h.cases with ⟨z, rfl, hz⟩ | ⟨w, rfl, hw⟩ | ⟨w, r, m, rfl, e, _⟩
    · simp [Kx.dep]
    · simp [Kx.dep, depL]
    · omega
  | succ n ih =>
    intro t h
    rcases h.cases with ⟨z, rfl, hz⟩ | ⟨w, rfl, hw⟩ | ⟨w, r, m, rfl, e, hr, hw, hl, ht⟩
    · simp [Kx.dep]
    · simp [Kx.dep, depL]
    · cases e
      have := depL_le (l := r) (c := n + 2) fun t h => ih (ht t h)
      simp only [Kx.dep, depL]
      omega
end Kx
set_option maxHeartbeats 2000000
/-! ' ' * n -/
namespace Kx
open PySem PySem.Spec PyProof.Rows L2
def blk (n : Nat) : List Nat := List.replicate n 32
def rMulB : R2 := fun x y H Q => ∃ n : Nat, x = .str " " ∧ y = .int n ∧ n ≤ 100 ∧ Q (.str (mkS (blk n))) H
theorem fold_app (a : Array Nat) : ∀ (n : Nat) (acc : Array Nat), (List.foldl (fun x y => x ++ y) acc (List.replicate n a)).toList = acc.toList ++ (List.replicate n a.toList).flatten
  | 0, acc => by simp
  | n + 1, acc => by
    rw [List.replicate_succ, List.foldl_cons, fold_app a n, Array.toList_append, List.replicate_succ, List.flatten_cons, List.append_assoc]
theorem blk_eq (n : Nat) : (⟨List.foldl (fun x y => x ++ y) #[] (List.replicate n (" " : Str).cps)⟩ : Str) = mkS (blk n) := cs_inj (by
  rw [cs_mk]
  show (List.foldl (fun x y => x ++ y) #[] (List.replicate n (" " : Str).cps)).toList = _
  rw [fold_app]
  show [] ++ (List.replicate n [32]).flatten = blk n
  rw [List.nil_append]
  induction n with
  | zero => rfl
  | succ n ih => rw [List.replicate_succ, List.flatten_cons, ih]; rfl)
theorem op_mulB {X : Cx} : OpR X (binaryOp .Mult) rMulB := by
  intro pins s σ H x y v u Q I rx ry h
  obtain ⟨n, rfl, rfl, h100, q⟩ := h
  obtain ⟨t, rfl⟩ := (show ∃ t, v = Value.str " " t from rx)
  obtain ⟨t2, rfl⟩ := (show ∃ t, u = Value.int n t from ry)
  refine wpAny_binaryOp_repeat (T := "str") (U := "int") (by decide) (fun s' => typeIs_str s' " " t) (fun s' => typeIs_int s' _ t2) noFill_str_mul F.fills_int_mul F.slot_int_rmul repeat_str F.slot_int_index.lookup
    (call_gives F.slot_int_rmul (typeIs_int s _ t2) F.entry_int_rmul (F.args_int_rmul_2 _ _) (AutoIntG1.int___rmul___int_str_0 _ t2 " " t) ⟨rfl, ?_⟩)
  refine call_gives F.slot_str_mul (typeIs_str s " " t) F.entry_str_mul (F.args_str_mul_2 _ _) (gives_str_mul " " n t t2 ?_ ?_ ?_) ?_
  · have h1 : decide ((n : Int) < -2 ^ 63) = false := decide_eq_false (by omega)
    have h3 : decide ((n : Int) ≥ 2 ^ 63) = false := decide_eq_false (by omega)
    rw [h1, h3]; rfl
  · intro hh _
    have hn : 1 ≤ n := by omega
    have : (1 : Int) ≤ (2 ^ 63 - 1) / (n : Int) := by
      apply (Int.le_ediv_iff_mul_le (by omega)).mpr
      omega
    show ¬ (1 : Int) > (2 ^ 63 - 1) / (n : Int)
    omega
  · intro _ _
    show decide (1 * ((n : Int)).toNat > sizeLine) = false
    exact decide_eq_false (by rw [sizeLine_eq]; omega)
  · by_cases c1 : (n : Int) < 1
    · rw [if_pos c1]
      have : n = 0 := by omega
      subst this
      exact ⟨by show 0 ≤ sizeLine; exact Nat.zero_le _, .str (mkS (blk 0)), H, Inv.tok I _, ⟨_, rfl⟩, q⟩
    · rw [if_neg c1]
      by_cases c2 : (((n : Int) == 1) || ((" " : Str).length == 0)) = true
      · rw [if_pos c2]
        have h2 : (n : Int) = 1 := by
          have e : ((" " : Str).length == 0) = false := rfl
          rw [e, Bool.or_false] at c2
          simpa using c2
        have : n = 1 := by omega
        subst this
        exact ⟨.str (mkS (blk 1)), H, Inv.tok I _, ⟨_, rfl⟩, q⟩
      · rw [if_neg c2, Int.toNat_natCast, blk_eq]
        refine ⟨?_, .str (mkS (blk n)), H, Inv.tok I _, ⟨_, rfl⟩, q⟩
        show (mkS (blk n)).length ≤ sizeLine
        rw [mk_len, blk, List.length_replicate, sizeLine_eq]; omega
end Kx
/-! The heap: what stands for a tree; the promises of the defs. -/
namespace Kx
open PySem PySem.Spec PyProof.Rows L2
/-- all its signs are signs -/
abbrev sok (z : Str) : Bool := PyData.strOk z
mutual
/-- the value v stands for the tree -/
inductive Is (H : Hp) : V → PV → Prop
  | str (z : Str) (ok : sok z = true) : Is H (.str z) (.str z)
  | int (i : Int) : Is H (.int i) (.int i)
  | tup {a : Addr} {vs : List V} {ts : List PV} (e : H a = some (.tup vs)) (h : IsL H vs ts) : Is H (.ref a) (.tup ts)
inductive IsL (H : Hp) : List V → List PV → Prop
  | nil : IsL H [] []
  | cons {v : V} {vs : List V} {t : PV} {ts : List PV} (h : Is H v t) (r : IsL H vs ts) : IsL H (v :: vs) (t :: ts)
end
/-- all tuples stand -/
def Tk (H H' : Hp) : Prop := ∀ a vs, H a = some (.tup vs) → H' a = some (.tup vs)
theorem Tk.of {H H' : Hp} (s : Same H H') : Tk H H' := fun a vs e => s _ _ e
theorem Tk.refl (H : Hp) : Tk H H := fun _ _ e => e
theorem Tk.trans {H H1 H2 : Hp} (x : Tk H H1) (y : Tk H1 H2) : Tk H H2 := fun a vs e => y _ _ (x _ _ e)
mutual
theorem Is.tk {H H' : Hp} (x : Tk H H') : ∀ {v : V} {t : PV}, Is H v t → Is H' v t
  | _, _, .str z k => .str z k
  | _, _, .int i => .int i
  | _, _, .tup e h => .tup (x _ _ e) (IsL.tk x h)
theorem IsL.tk {H H' : Hp} (x : Tk H H') : ∀ {v : List V} {t : List PV}, IsL H v t → IsL H' v t
  | _, _, .nil => .nil
  | _, _, .cons h r => .cons (Is.tk x h) (IsL.tk x r)
end
theorem Is.same {H H' : Hp} (x : Same H H') {v : V} {t : PV} (h : Is H v t) : Is H' v t := h.tk (.of x)
theorem IsL.same {H H' : Hp} (x : Same H H') {v : List V} {t : List PV} (h : IsL H v t) : IsL H' v t := h.tk (.of x)
theorem same_upd {H : Hp} {p : Addr} (h : H p = none) (o : HO) : Same H (upd H p o) := fun b u e => by rw [upd_ne (ne_of_none e h)]; exact e
theorem IsL.len {H : Hp} : ∀ {v : List V} {t : List PV}, IsL H v t → v.length = t.length
  | _, _, .nil => rfl
  | _, _, .cons _ r => by simp [IsL.len r]
theorem IsL.get {H : Hp} : ∀ {v : List V} {t : List PV}, IsL H v t → ∀ {i : Nat} {x : V}, v[i]? = some x → ∃ y, t[i]? = some y ∧ Is H x y
  | _, _, .nil, i, x, h => by simp at h
  | _, _, .cons h r, 0, x, e => by cases (Option.some.inj e); exact ⟨_, rfl, h⟩
  | _, _, .cons h r, i + 1, x, e => IsL.get r (by simpa using e)
theorem IsL.append {H : Hp} : ∀ {v : List V} {t : List PV} {v' : List V} {t' : List PV}, IsL H v t → IsL H v' t' → IsL H (v ++ v') (t ++ t')
  | _, _, _, _, .nil, h => h
  | _, _, _, _, .cons a r, h => .cons a (r.append h)
theorem IsL.take {H : Hp} : ∀ (n : Nat) {v : List V} {t : List PV}, IsL H v t → IsL H (v.take n) (t.take n)
  | 0, _, _, _ => .nil
  | n + 1, _, _, .nil => .nil
  | n + 1, _, _, .cons a r => .cons a (r.take n)
theorem IsL.drop {H : Hp} : ∀ (n : Nat) {v : List V} {t : List PV}, IsL H v t → IsL H (v.drop n) (t.drop n)
  | 0, _, _, h => h
  | n + 1, _, _, .nil => .nil
  | n + 1, _, _, .cons a r => r.drop n
theorem IsL.reverse {H : Hp} : ∀ {v : List V} {t : List PV}, IsL H v t → IsL H v.reverse t.reverse
  | _, _, .nil => .nil
  | _, _, .cons a r => by simp only [List.reverse_cons]; exact r.reverse.append (.cons a .nil)
theorem IsL.snoc_inv {H : Hp} {v : List V} {t : List PV} {x : V} (h : IsL H v t) (e : v[v.length - 1]? = some x) (hn : v ≠ []) : ∃ ts y, t = ts ++ [y] ∧ Is H x y ∧ IsL H v.dropLast ts := by
  have hl := h.len
  have hv : 0 < v.length := by cases v with | nil => exact absurd rfl hn | cons _ _ => simp
  obtain ⟨y, e2, hy⟩ := h.get e
  refine ⟨t.take (t.length - 1), y, ?_, hy, ?_⟩
  · have : t.length - 1 < t.length := by omega
    have e3 : t[t.length - 1]'this = y := by
      rw [hl, List.getElem?_eq_getElem this] at e2
      exact Option.some.inj e2
    have h2 := List.take_append_drop (t.length - 1) t
    have h3 : t.drop (t.length - 1) = [y] := by
      rw [List.drop_eq_getElem_cons this, e3, List.drop_eq_nil_of_le (by omega)]
    rw [h3] at h2
    exact h2.symm
  · rw [List.dropLast_eq_take, hl]
    exact h.take _
theorem Is.str_inv {H : Hp} {v : V} {z : Str} (h : Is H v (.str z)) : v = .str z := by cases h; rfl
theorem Is.tup_inv {H : Hp} {v : V} {ts : List PV} (h : Is H v (.tup ts)) : ∃ a vs, v = .ref a ∧ H a = some (.tup vs) ∧ IsL H vs ts := by
  cases h with
  | tup e h => exact ⟨_, _, rfl, e, h⟩
/-! ### isinstance -/
def tyOf : PV → Value → Prop := fun t u => match t with
  | .str _ => u = .type "str"
  | .tup _ => u = .type "tuple"
  | .int _ => u = .type "int"
theorem Is.ty {K : PySem.W.Frag} {H : Hp} {v : V} {t : PV} (h : Is H v t) : ∃ u, TyX K H v u ∧ tyOf t u := by
  cases h with
  | str z _ => exact ⟨_, .base (.str z), rfl⟩
  | int i => exact ⟨_, .base (.int i), rfl⟩
  | tup e h => exact ⟨_, .base (.tup e), rfl⟩
def isStr : PV → Bool
  | .str _ => true
  | _ => false
def isTup : PV → Bool
  | .tup _ => true
  | _ => false
theorem kit_str {K : PySem.W.Frag} {t : PV} {u : Value} (h : tyOf t u) : PySem.W.kitOne K u (.type "str") = some (isStr t) := by
  cases t with
  | str z => cases h; exact kit_ty (show kitB "str" "str" = some true by decide +kernel)
  | tup ts => cases h; exact kit_ty (show kitB "tuple" "str" = some false by decide +kernel)
  | int i => cases h; exact kit_ty (show kitB "int" "str" = some false by decide +kernel)
theorem kit_tup {K : PySem.W.Frag} {t : PV} {u : Value} (h : tyOf t u) : PySem.W.kitOne K u (.type "tuple") = some (isTup t) := by
  cases t with
  | str z => cases h; exact kit_ty (show kitB "str" "tuple" = some false by decide +kernel)
  | tup ts => cases h; exact kit_ty (show kitB "tuple" "tuple" = some true by decide +kernel)
  | int i => cases h; exact kit_ty (show kitB "int" "tuple" = some false by decide +kernel)
/-- what isinstance asks of such a value -/
theorem isi_str {K : PySem.W.Frag} {H : Hp} {v : V} {t : PV} {Q : VK} (h : Is H v t) (q : Q (.bl (isStr t)) H) : rIsi K [v, .ty "str"] H Q := by
  obtain ⟨u, a, b⟩ := h.ty (K := K)
  exact ⟨_, _, u, _, _, rfl, .ty _, a, kit_str b, q⟩
theorem isi_tup {K : PySem.W.Frag} {H : Hp} {v : V} {t : PV} {Q : VK} (h : Is H v t) (q : Q (.bl (isTup t)) H) : rIsi K [v, .ty "tuple"] H Q := by
  obtain ⟨u, a, b⟩ := h.ty (K := K)
  exact ⟨_, _, u, _, _, rfl, .ty _, a, kit_tup b, q⟩
theorem Paired.imp {α β : Type} {F G : α → β → Prop} : ∀ {l : List α} {m : List β}, Paired F l m → (∀ a b, F a b → G a b) → Paired G l m
  | _, _, .nil, _ => .nil
  | _, _, .cons h t, f => .cons (f _ _ h) (Paired.imp t f)
theorem Same.own {l : Addr} {H H1 : Hp} (x : Same H H1) (hl : H l = none) (o : HO) : Same H (upd H1 l o) := fun b u h => by rw [upd_ne (ne_of_none h hl)]; exact x b u h
end Kx
namespace Kx
open PySem PySem.Spec PyProof.Rows L2
section
variable {P : Program} {w : World} {K : PySem.W.Frag} {mg : Str → Option Value} {base : Heap}
/-- all but the lists at d and c stands; those are lists still -/
structure Ex (d c : Addr) (H H' : Hp) : Prop where
  but : ∀ b o, b ≠ d → b ≠ c → H b = some o → H' b = some o
  l1 : (∃ xs, H d = some (.lst xs)) → ∃ xs, H' d = some (.lst xs)
  l2 : (∃ xs, H c = some (.lst xs)) → ∃ xs, H' c = some (.lst xs)
theorem Ex.refl (d c : Addr) (H : Hp) : Ex d c H H := ⟨fun _ _ _ _ h => h, id, id⟩
theorem Ex.trans {d c : Addr} {H H1 H2 : Hp} (a : Ex d c H H1) (b : Ex d c H1 H2) : Ex d c H H2 := ⟨fun x o n1 n2 h => b.but x o n1 n2 (a.but x o n1 n2 h), fun h => b.l1 (a.l1 h), fun h => b.l2 (a.l2 h)⟩
theorem Ex.of {d c : Addr} {H H' : Hp} (s : Same H H') : Ex d c H H' := ⟨fun b o _ _ h => s b o h, fun ⟨xs, h⟩ => ⟨xs, s _ _ h⟩, fun ⟨xs, h⟩ => ⟨xs, s _ _ h⟩⟩
theorem Ex.set1 {d c : Addr} {H : Hp} (xs : List V) : Ex d c H (upd H d (.lst xs)) := ⟨fun b o n _ h => by rw [upd_ne n]; exact h, fun _ => ⟨xs, upd_same⟩, fun ⟨ys, h⟩ => by
  by_cases q : c = d
  · subst q; exact ⟨xs, upd_same⟩
  · exact ⟨ys, by rw [upd_ne q]; exact h⟩⟩
theorem Ex.set2 {d c : Addr} {H : Hp} (xs : List V) : Ex d c H (upd H c (.lst xs)) := ⟨fun b o _ n h => by rw [upd_ne n]; exact h, fun ⟨ys, h⟩ => (by
  by_cases q : d = c
  · subst q; exact ⟨xs, upd_same⟩
  · exact ⟨ys, by rw [upd_ne q]; exact h⟩), fun _ => ⟨xs, upd_same⟩⟩
theorem Ex.own {d c l : Addr} {H H1 : Hp} (x : Ex d c H H1) (hl : H l = none) (o : HO) : Ex d c H (upd H1 l o) :=
  ⟨fun b u n n2 h => by rw [upd_ne (ne_of_none h hl)]; exact x.but b u n n2 h, fun ⟨xs, e⟩ => by rw [upd_ne (ne_of_none e hl)]; exact x.l1 ⟨xs, e⟩, fun ⟨xs, e⟩ => by rw [upd_ne (ne_of_none e hl)]; exact x.l2 ⟨xs, e⟩⟩
/-- the state of the draws: a list of the cells and the seed -/
def Dr (H : Hp) (d c : Addr) : Prop := ∃ (ns : List Int) (m : Int), H d = some (.lst [.ref c, .int m, .bl false]) ∧ H c = some (.lst (ns.map V.int)) ∧ c ≠ d ∧ (∀ n ∈ ns, 0 ≤ n) ∧ 0 ≤ m ∧ m < 2147483648 ∧ ns.length ≤ 63
theorem Dr.lst {H : Hp} {d c : Addr} (h : Dr H d c) : (∃ xs, H d = some (.lst xs)) ∧ ∃ xs, H c = some (.lst xs) := by
  obtain ⟨ns, m, e, e2, _⟩ := h
  exact ⟨⟨_, e⟩, _, e2⟩
theorem Dr.same {H H' : Hp} {d c : Addr} (s : Same H H') (h : Dr H d c) : Dr H' d c := by
  obtain ⟨ns, m, e, e2, r⟩ := h
  exact ⟨ns, m, s _ _ e, s _ _ e2, r⟩
theorem Dr.own {H : Hp} {d c l : Addr} {o : HO} (h : Dr H d c) (n1 : l ≠ d) (n2 : l ≠ c) : Dr (upd H l o) d c := by
  obtain ⟨ns, m, e, e2, r⟩ := h
  exact ⟨ns, m, by rw [upd_ne n1.symm]; exact e, by rw [upd_ne n2.symm]; exact e2, r⟩
theorem Dr.free {H : Hp} {d c l : Addr} (h : Dr H d c) (n : H l = none) : l ≠ d ∧ l ≠ c := by
  obtain ⟨ns, m, e, e2, r⟩ := h
  exact ⟨(ne_of_none e n).symm, (ne_of_none e2 n).symm⟩
/-- what is no list stands -/
theorem Ex.keep {d c b : Addr} {H H' : Hp} {o : HO} (x : Ex d c H H') (h : Dr H d c) (e : H b = some o) (n : ∀ xs, o ≠ .lst xs) : H' b = some o := by
  obtain ⟨⟨xs, h1⟩, ys, h2⟩ := h.lst
  refine x.but b o (fun q => ?_) (fun q => ?_) e
  · subst q; rw [h1] at e; exact n xs (Option.some.inj e).symm
  · subst q; rw [h2] at e; exact n ys (Option.some.inj e).symm
theorem Ex.tk {d c : Addr} {H H' : Hp} (x : Ex d c H H') (h : Dr H d c) : Tk H H' := fun a vs e => x.keep h e fun xs q => by cases q
theorem Is.ex {d c : Addr} {H H' : Hp} (x : Ex d c H H') (h : Dr H d c) {v : V} {t : PV} (i : Is H v t) : Is H' v t := i.tk (x.tk h)
theorem IsL.ex {d c : Addr} {H H' : Hp} (x : Ex d c H H') (h : Dr H d c) {v : List V} {t : List PV} (i : IsL H v t) : IsL H' v t := i.tk (x.tk h)
def spState (K : PySem.W.Frag) : Sp := fun vs H Q _ => ∃ (a : Addr) (ns : List Int), vs = [.ref a] ∧ SqL K H a (ns.map V.int) ∧ ns.length ≤ 63 ∧ ∀ d c H', Same H H' → Dr H' d c → Q (.ref d) H'
def spDraw : Sp := fun vs H Q _ => ∃ (d c : Addr) (n : Int), vs = [.ref d, .int n] ∧ Dr H d c ∧ 1 ≤ n ∧ n ≤ 1000 ∧ ∀ (r : Int) H', 0 ≤ r → r < n → Ex d c H H' → Dr H' d c → Q (.int r) H'
def spPick (K : PySem.W.Frag) : Sp := fun vs H Q _ => ∃ (d c p : Addr) (xs : List V), vs = [.ref d, .ref p] ∧ Dr H d c ∧ (H p = some (.lst xs) ∨ SqT K H p xs) ∧ p ≠ d ∧ p ≠ c ∧ 1 ≤ xs.length ∧ xs.length ≤ 1000 ∧ ∀ (x : V) H', x ∈ xs → Ex d c H H' → Dr H' d c → Q x H'
theorem fmb (a : Int) {b : Int} (hb : 0 < b) : 0 ≤ a.fmod b ∧ a.fmod b < b := ⟨Int.fmod_nonneg_of_pos a hb, Int.fmod_lt_of_pos a hb⟩
theorem at_int {ns : List Int} {i : Int} (h0 : 0 ≤ i) (h : i < ns.length) : ∃ x : Int, atI (ns.map V.int) i = some (.int x) := by
  have hk : i.toNat < ns.length := by omega
  have q : atI (ns.map V.int) ((i.toNat : Nat) : Int) = some (.int ns[i.toNat]) := atI_nat (by rw [List.getElem?_map, List.getElem?_eq_getElem hk] <;> rfl)
  rw [show ((i.toNat : Nat) : Int) = i by omega] at q
  exact ⟨_, q⟩
theorem ok_law_state (T : Txt K mg)  : FnOk P w K mg base CX0 1 T.a_law_state T.d_law_state ["script"] (spState K) := by
  refine T.F_law_state.ok sc_law_state (fun vs H Q E h => ?_) (fun cdv A outer s H vs Q E hr h => ?_)
  · obtain ⟨a, ns, rfl, _⟩ := h; rfl
  · obtain ⟨a, ns, rfl, hS, hl, q⟩ := h
    refine ⟨_, (pss_cons (ps_set (i := 1) sc_law_state.nd rfl (Or.inl rfl) pe_int)
    (pss_cons (ps_for PassesOwn.never rfl (pi_list (pv 0)) (pg_name (i := 2) sc_law_state.nd rfl (Or.inl rfl))
    (pss_one (ps_set (i := 1) sc_law_state.nd rfl (Or.inl rfl) (pe_op op_modN (pe_callTy call_int1 (by rfl) T.z_int (by decide +kernel) (pa_cons (pe_op op_add (pe_op op_mul (pv 1) pe_int) (pv 2)) pa_nil)) pe_int))))
    (pss_one (ps_ret (pe_lst (pa_cons (pe_lc (own := [("cell", 2)]) (g := (gName 2)) (tt := tYes) rfl sc_law_state.nd (pi_list (pv 0)) (blkOk_by (own := [("cell", 2)]) (N := ["script", "seed", "cell"]) (sc := defScope s_law_state) (by decide +kernel)) (fun _ _ _ _ _ => (pg_name (i := 2) sc_law_state.nd rfl (Or.inl rfl))) (fun _ _ _ _ _ => pts_nil) (fun _ _ _ _ _ => (pe_callB call_abs (by rfl) T.z_abs (by decide +kernel) (pa_cons (pe_callTy call_int1 (by rfl) T.z_int (by decide +kernel) (pa_cons (pv 2) pa_nil)) pa_nil)))) (pa_cons (pe_op op_add (pv 1) pe_int) (pa_cons pe_bl pa_nil)))))))), ?_⟩
    refine ⟨_, rfl, a, rfl, ⟨_, hS⟩, for_list (K := K) (a := a) (xs := ns.map V.int) (fun i σ H2 => ∃ m y, σ = [some (.ref a), some (.int m), y] ∧ H2 = H ∧ 0 ≤ m ∧ m < 1000003) ⟨7, none, rfl, rfl, by omega, by omega⟩ (fun i σ H2 _ ⟨_, _, _, e, _⟩ => by rw [e]; exact hS) ?_ ?_⟩
    · rintro i x σ H2 hx ⟨m, y, rfl, rfl, m0, m1⟩
      obtain ⟨n, _, rfl⟩ := List.mem_map.mp (List.mem_of_getElem? hx)
      obtain ⟨b0, b1⟩ := fmb (m * 31 + n) (b := 1000003) (by decide)
      exact ⟨_, rfl, _, _, rfl, rfl, .inl ⟨by omega, by omega⟩, _, rfl, _, _, rfl, rfl, .inl ⟨_, rfl, _, _, rfl, rfl, (by show (1000003 : Int) ≠ 0; decide), _, _, rfl, rfl, b0, b1⟩⟩
    · rintro σ H2 ⟨m, y, rfl, rfl, m0, m1⟩
      refine ⟨_, rfl, a, rfl, ⟨_, hS⟩, fun D hD => ?_⟩
      refine lc_list (K := K) (a := a) (xs := ns.map V.int) (fun i H3 => ∃ ms : List Int, H3 = upd H2 D (.lst (ms.map V.int)) ∧ ms.length = i ∧ ∀ n ∈ ms, 0 ≤ n) ⟨[], rfl, rfl, fun _ h => by cases h⟩ (fun i H3 _ ⟨ms, e, _⟩ => ?_) ?_ ?_
      · rw [e]; exact (same_upd hD _).seq hS
      · rintro i x H3 hx ⟨ms, rfl, hlen, hpos⟩
        have hi := (List.getElem?_eq_some_iff.mp hx).1
        rw [List.length_map] at hi
        obtain ⟨n, _, rfl⟩ := List.mem_map.mp (List.mem_of_getElem? hx)
        refine ⟨rfl, yes_if ⟨_, rfl, .inl ⟨_, rfl, _, rfl, ms.map V.int, upd_same, ?_, ms ++ [if n < 0 then -n else n], ?_, ?_, ?_⟩⟩⟩
        · rw [List.length_map]; exact small1000 (by omega)
        · rw [upd_upd, List.map_append]; rfl
        · rw [List.length_append, hlen]; rfl
        · intro z hz
          rcases List.mem_append.mp hz with hz | hz
          · exact hpos z hz
          · rw [List.mem_singleton.mp hz]; split <;> omega
      · rintro H3 ⟨ms, rfl, hlen, hpos⟩
        rw [List.length_map] at hlen
        refine ⟨_, rfl, _, _, rfl, rfl, (by show 3 ≤ sizeLine; decide), fun d hd => ?_⟩
        have n1 : D ≠ d := ne_of_none upd_same hd
        exact q d D _ ((same_upd hD _).trans (same_upd hd _)) ⟨ms, m + 1, upd_same, by rw [upd_ne n1, upd_same], n1, hpos, by omega, by omega, by omega⟩
theorem ok_law_draw (T : Txt K mg)  : FnOk P w K mg base CX0 1 T.a_law_draw T.d_law_draw ["state", "many"] spDraw := by
  refine T.F_law_draw.ok sc_law_draw (fun vs H Q E h => ?_) (fun cdv A outer s H vs Q E hr h => ?_)
  · obtain ⟨d, c, n, rfl, _⟩ := h; rfl
  · obtain ⟨d, c, n, rfl, hD, h1, h2, q⟩ := h
    have nz : n ≠ 0 := by omega
    refine ⟨_, (pss_cons (ps_set (i := 2) sc_law_draw.nd rfl (Or.inl rfl) (pe_ix ix_list (pv 0) pe_int (fun _ _ => rfl)))
    (Evl.pss_cut (ps_while PassesOwn.never (PW.pt (pw_and (pt_cmpR op_gt (pe_callB call_len_seq (by rfl) T.z_len (by decide +kernel) (pa_cons (pv 2) pa_nil)) pe_int (nomark _)) (pw_and1 (pt_cmpR op_eq (pe_ix ix_list (pv 2) pe_int (fun _ _ => rfl)) pe_int (nomark _)))))
    (pss_one (ps_expr (pe_bm PySem.F.plainAttrs_list PySem.F.slot_list_pop PySem.F.type_list_pop mt_popAt (pv 2) (pa_cons pe_int pa_nil)))))
    (pss_cons (ps_if (pt_cmpR op_gt (pe_callB call_len_seq (by rfl) T.z_len (by decide +kernel) (pa_cons (pv 2) pa_nil)) pe_int (nomark _)) (pss_cons (ps_set (i := 3) sc_law_draw.nd rfl (Or.inl rfl) (pe_ix ix_list (pv 2) pe_int (fun _ _ => rfl)))
    (pss_cons (ps_asg (pe_op op_fdivN (pv 3) (pv 1)) (pg_sub (pv 2) pe_int set_list))
    (pss_one (ps_ret (pe_op op_modN (pe_callTy call_int1 (by rfl) T.z_int (by decide +kernel) (pa_cons (pv 3) pa_nil)) (pv 1)))))) pss_nil)
    (pss_cons (ps_set (i := 4) sc_law_draw.nd rfl (Or.inl rfl) (pe_op op_modN (pe_callTy call_int1 (by rfl) T.z_int (by decide +kernel) (pa_cons (pe_op op_add (pe_op op_mul (pe_ix ix_list (pv 0) pe_int (fun _ _ => rfl)) pe_int) pe_int) pa_nil)) pe_int))
    (pss_cons (ps_asg (pv 4) (pg_sub (pv 0) pe_int set_list))
    (pss_one (ps_ret (pe_op op_modN (pe_callTy call_int1 (by rfl) T.z_int (by decide +kernel) (pa_cons (pe_op op_fdivN (pv 4) pe_int) pa_nil)) (pv 1))))))))), ?_⟩
    obtain ⟨ns, m, e, e2, hn, hpos, m0, m1, hl⟩ := id hD
    refine ⟨_, rfl, d, _, _, _, rfl, rfl, SqL.of e, rfl, ?_⟩
    refine ⟨fun σ H2 => ∃ ms : List Int, σ = [some (.ref d), some (.int n), some (.ref c), none, none] ∧ H2 d = some (.lst [.ref c, .int m, .bl false]) ∧ H2 c = some (.lst (ms.map V.int)) ∧ ms.length ≤ 63 ∧ (∀ z ∈ ms, 0 ≤ z) ∧ Ex d c H H2, ?_, ?_⟩
    · refine ⟨fun k σ H2 => ∃ ms : List Int, σ = [some (.ref d), some (.int n), some (.ref c), none, none] ∧ H2 d = some (.lst [.ref c, .int m, .bl false]) ∧ H2 c = some (.lst (ms.map V.int)) ∧ ms.length = k ∧ k ≤ 63 ∧ (∀ z ∈ ms, 0 ≤ z) ∧ Ex d c H H2, ⟨ns.length, ns, rfl, e, e2, rfl, hl, hpos, .refl _ _ _⟩, ?_⟩
      rintro k σ H2 ⟨ms, rfl, f1, f2, hk, k63, hp, hx⟩
      refine ⟨_, rfl, c, _, rfl, .inl (SqL.of f2), _, _, rfl, rfl, _, rfl, ite2 (fun cz => ?_) (fun _ => iteF ⟨ms, rfl, f1, f2, by omega, hp, hx⟩)⟩
      cases ms with
      | nil => cases cz
      | cons x ms =>
      refine ⟨_, rfl, c, _, _, V.int x, rfl, rfl, SqL.of f2, atI_nat (j := 0) rfl, rfl, _, rfl, ite2 (fun c0 => ?_) (fun _ => ⟨_, rfl, f1, f2, by omega, hp, hx⟩)⟩
      refine ⟨fun σ' H' => ∃ ms' : List Int, σ' = [some (.ref d), some (.int n), some (.ref c), none, none] ∧ H' d = some (.lst [.ref c, .int m, .bl false]) ∧ H' c = some (.lst (ms'.map V.int)) ∧ ms'.length < k ∧ k ≤ 63 ∧ (∀ z ∈ ms', 0 ≤ z) ∧ Ex d c H H', fun σ' H' ⟨ms', r1, r2, r3, r4, r5, r6, r7⟩ => ⟨ms'.length, r4, ms', r1, r2, r3, rfl, by omega, r6, r7⟩, ?_⟩
      have z0 : ixN ((x :: ms).map V.int).length 0 = some 0 := Evl.ixN_nat (j := 0) (by rw [List.length_map, List.length_cons]; omega)
      refine ⟨_, rfl, .inl ⟨rfl, _, SqL.of f2⟩, c, _, 0, 0, _, rfl, rfl, f2, by decide, by decide, (ixN_seq z0).1, rfl, ms, rfl, by rw [upd_ne hn.symm]; exact f1, by rw [upd_same]; rfl, by rw [List.length_cons] at hk; omega, k63, fun z hz => hp z (List.mem_cons_of_mem _ hz), hx.trans (.set2 _)⟩
    · rintro σ H2 ⟨ms, rfl, f1, f2, k63, hp, hx⟩
      refine ⟨_, rfl, c, _, rfl, .inl (SqL.of f2), _, _, rfl, rfl, _, rfl, ite2 (fun cz => ?_) (fun _ => ?_)⟩
      · cases ms with
        | nil => cases cz
        | cons x ms =>
        have x0 := hp x (List.mem_cons_self ..)
        have z0 : ixN ((x :: ms).map V.int).length 0 = some 0 := Evl.ixN_nat (j := 0) (by rw [List.length_map, List.length_cons]; omega)
        refine ⟨_, rfl, c, _, _, V.int x, rfl, rfl, SqL.of f2, atI_nat (j := 0) rfl, _, rfl, _, rfl, _, _, rfl, rfl, ⟨nz, by omega⟩, _, rfl, c, _, _, 0, rfl, rfl, f2, z0, _, rfl, .inl ⟨_, rfl, _, rfl, _, _, rfl, rfl, nz, ?_⟩⟩
        obtain ⟨b0, b1⟩ := fmb x (b := n) (by omega)
        refine q _ _ b0 b1 (hx.trans (.set2 _)) ⟨x.fdiv n :: ms, m, by rw [upd_ne hn.symm]; exact f1, upd_same, hn, fun z hz => ?_, m0, m1, k63⟩
        rcases List.mem_cons.mp hz with rfl | hz
        · exact Int.fdiv_nonneg x0 (by omega)
        · exact hp z (List.mem_cons_of_mem _ hz)
      · obtain ⟨b0, b1⟩ := fmb (m * 48271 + 12345) (b := 2147483647) (by decide)
        refine ⟨_, rfl, d, _, _, _, rfl, rfl, SqL.of f1, rfl, _, _, rfl, rfl, .inl ⟨by omega, by omega⟩, _, _, rfl, rfl, .inl ⟨_, rfl, _, _, rfl, rfl, (by show (2147483647 : Int) ≠ 0; decide), _, rfl, _, rfl, d, _, _, 1, rfl, rfl, f1, rfl, ?_⟩⟩
        refine ⟨_, rfl, _, _, rfl, rfl, ⟨by decide, by decide⟩, .inl ⟨_, rfl, _, rfl, _, _, rfl, rfl, nz, ?_⟩⟩
        obtain ⟨c0, c1⟩ := fmb (((m * 48271 + 12345).fmod 2147483647).fdiv 64) (b := n) (by omega)
        exact q _ _ c0 c1 (hx.trans (.set1 _)) ⟨ms, _, upd_same, by rw [upd_ne hn]; exact f2, hn, hp, b0, by omega, k63⟩
theorem ok_law_pick (T : Txt K mg) (G_law_draw : FnOk P w K mg base CX0 1 T.a_law_draw T.d_law_draw ["state", "many"] spDraw) : FnOk P w K mg base CX0 2 T.a_law_pick T.d_law_pick ["state", "row"] (spPick K) := by
  refine T.F_law_pick.ok sc_law_pick (fun vs H Q E h => ?_) (fun cdv A outer s H vs Q E hr h => ?_)
  · obtain ⟨d, c, p, xs, rfl, _⟩ := h; rfl
  · obtain ⟨d, c, p, xs, rfl, hD, hP, hn, hn2, h1, h2, q⟩ := h
    have hr_law_draw := hr
    refine ⟨_, (pss_one (ps_ret (pe_ix ix_seq (pv 1) (pe_call G_law_draw hr_law_draw rfl T.m_law_draw T.F_law_draw.kp T.b_law_draw .nil pass0 (pa_cons (pv 0) (pa_cons (pe_callB call_len_seq (by rfl) T.z_len (by decide +kernel) (pa_cons (pv 1) pa_nil)) pa_nil))) (fun _ _ => rfl)))), ?_⟩
    have seqs : ∀ H', Ex d c H H' → H' p = some (.lst xs) ∨ SqT K H' p xs := fun H' x => by
      rcases hP with e | (e | ⟨o, e⟩) | e
      · exact .inl (x.but _ _ hn hn2 e)
      · exact .inr (.inl (.inl (x.but _ _ hn hn2 e)))
      · exact .inr (.inl (.inr ⟨o, x.but _ _ hn hn2 e⟩))
      · exact .inr (.inr e)
    refine ⟨_, rfl, _, rfl, _, rfl, p, xs, rfl, hP.imp SqL.of id, d, c, _, rfl, hD, by omega, by omega, fun r H' r0 r1 hx hD' => ?_⟩
    have hk : r.toNat < xs.length := by omega
    have hat : atI xs r = some (xs[r.toNat]) := by
      have z : atI xs ((r.toNat : Nat) : Int) = some (xs[r.toNat]) := atI_nat (List.getElem?_eq_getElem hk)
      rwa [show ((r.toNat : Nat) : Int) = r by omega] at z
    have fin := q (xs[r.toNat]) H' (List.getElem_mem hk) hx hD'
    rcases seqs H' hx with e | e
    · exact .inl ⟨p, _, _, _, rfl, rfl, SqL.of e, hat, fin⟩
    · exact .inr (.inl ⟨p, _, _, _, rfl, rfl, e, hat, fin⟩)
end
end Kx
namespace Kx
open PySem PySem.Spec PyProof.Rows L2
section
variable {P : Program} {w : World} {K : PySem.W.Frag} {mg : Str → Option Value} {base : Heap}
set_option pp.maxSteps 900
theorem no_left {f : Addr} {fd : FuncData} {ps : List Str} {k : Nat} {sp : Sp} {CX : CXT} (no : ∀ vs H Q E, ¬ sp vs H Q E) : FnOk P w K mg base CX k f fd ps sp :=
  ⟨fun vs H Q E h => absurd h (no vs H Q E), fun A outer s H args us vs Q E _ _ _ _ h => absurd h (no vs H Q E)⟩
theorem beq0 (m : Nat) : decide (V.int (m : Int) = V.int 0) = (m == 0) := by
  rw [dec_int, Bool.eq_iff_iff]
  simp only [beq_iff_eq]
  omega
theorem tr_str {L N B : List Str} {z : Str} (h : z ∈ N) : ∀ n, Tr L N B n (.str z)
  | 0 => h
  | _ + 1 => h
theorem tr_one {L N B : List Str} {w : Str} (h : w ∈ L) : ∀ n, Tr L N B n (.tup [.str w])
  | 0 => ⟨rfl, h⟩
  | _ + 1 => .inl ⟨rfl, h⟩
structure Kd where
  fam : Str
  tm : PV
def kdP (k : Kd) : PV := .tup [.str k.fam, k.tm]
theorem IsL.over {H : Hp} {D : Addr} {xs ys : List V} (e : H D = some (.lst xs)) {vs : List V} {ts : List PV} (h : IsL H vs ts) : IsL (upd H D (.lst ys)) vs ts := h.tk fun a us e2 => by rw [upd_ne (fun q => by rw [q, e] at e2; cases e2)]; exact e2
theorem Is.over {H : Hp} {D : Addr} {xs ys : List V} (e : H D = some (.lst xs)) {v : V} {t : PV} (h : Is H v t) : Is (upd H D (.lst ys)) v t := h.tk fun a us e2 => by rw [upd_ne (fun q => by rw [q, e] at e2; cases e2)]; exact e2
theorem seq_ex {d c l : Addr} {H H' : Hp} {xs : List V} (x : Ex d c H H') (n1 : l ≠ d) (n2 : l ≠ c) (h : H l = some (.lst xs) ∨ SqT K H l xs) : H' l = some (.lst xs) ∨ SqT K H' l xs := by
  rcases h with e | (e | ⟨o, e⟩) | e
  · exact .inl (x.but _ _ n1 n2 e)
  · exact .inr (.inl (.inl (x.but _ _ n1 n2 e)))
  · exact .inr (.inl (.inr ⟨o, x.but _ _ n1 n2 e⟩))
  · exact .inr (.inr e)
structure Cn where
  w : Str
  ps : List Kd
  md : Kd
structure Cl where
  ps : List PV
  b : PV
structure Fn where
  w : Str
  ps : List Kd
  md : Kd
  falls : Nat
  cls : List Cl
structure Tb where
  mks : List (Str × Nat)
  fams : List Str
  cns : List Cn
def mkP (m : Str × Nat) : PV := .tup [.str m.1, .int m.2]
def cnP (c : Cn) : PV := .tup [.str c.w, .tup (c.ps.map kdP), .str c.md.fam, c.md.tm]
def clP (c : Cl) : PV := .tup [.tup c.ps, c.b]
def fnP (f : Fn) : PV := .tup [.str f.w, .tup (f.ps.map kdP), .str f.md.fam, f.md.tm, .int f.falls, .tup (f.cls.map clP)]
def tabP (t : Tb) : PV := .tup [.str "table", .tup (t.mks.map mkP), .tup (t.fams.map PV.str), .tup (t.cns.map cnP)]
def prgP (fs : List Fn) : PV := .tup [.str "program", .tup (fs.map fnP)]
theorem strsL {H : Hp} : ∀ {zs : List Str}, (∀ z ∈ zs, sok z = true) → IsL H (zs.map V.str) (zs.map PV.str)
  | [], _ => .nil
  | z :: r, h => .cons (.str z (h z (List.mem_cons_self ..))) (strsL fun x hx => h x (List.mem_cons_of_mem _ hx))
theorem strs_inv {H : Hp} : ∀ {zs : List Str} {vs : List V}, IsL H vs (zs.map PV.str) → vs = zs.map V.str
  | [], _, .nil => rfl
  | z :: r, _, .cons a b => by rw [a.str_inv, strs_inv b]; rfl
/-- the four parts of a table -/
theorem tab_inv {H : Hp} {tv : V} {t : Tb} (h : Is H tv (tabP t)) : ∃ (a m f k : Addr) (vm vk : List V), tv = .ref a ∧ H a = some (.tup [.str "table", .ref m, .ref f, .ref k]) ∧ H m = some (.tup vm) ∧ IsL H vm (t.mks.map mkP) ∧ H f = some (.tup (t.fams.map V.str)) ∧ H k = some (.tup vk) ∧ IsL H vk (t.cns.map cnP) := by
  obtain ⟨a, vs, rfl, ea, hl⟩ := h.tup_inv
  cases hl with
  | cons h0 hl =>
  cases hl with
  | cons h1 hl =>
  cases hl with
  | cons h2 hl =>
  cases hl with
  | cons h3 hl =>
  cases hl
  cases h0.str_inv
  obtain ⟨m, vm, rfl, em, im⟩ := h1.tup_inv
  obtain ⟨f, vf, rfl, ef, jf⟩ := h2.tup_inv
  obtain ⟨k, vk, rfl, ek, ik⟩ := h3.tup_inv
  cases strs_inv jf
  exact ⟨a, m, f, k, vm, vk, rfl, ea, em, im, ef, ek, ik⟩
theorem mem_at {H : Hp} {vs : List V} {ts : List PV} (h : IsL H vs ts) {i : Nat} {x : V} (e : vs[i]? = some x) : ∃ t, ts[i]? = some t ∧ Is H x t := h.get e
theorem lit_get {zs : List Str} {i : Nat} {x : V} (hx : (zs.map V.str)[i]? = some x) : ∃ z, zs[i]? = some z ∧ V.str z = x := by
  rw [List.getElem?_map] at hx
  cases h : zs[i]? with
  | none => rw [h] at hx; cases hx
  | some z => rw [h] at hx; exact ⟨z, rfl, Option.some.inj hx⟩
/-- texts with a text between -/
def gj (g : List Nat) : List (List Nat) → List Nat
  | [] => []
  | [a] => a
  | a :: b :: r => a ++ (g ++ gj g (b :: r))
theorem gj_sep : ∀ l : List (List Nat), gj [44, 32] l = sepJ l
  | [] => rfl
  | [a] => rfl
  | a :: b :: r => by simp only [gj, sepJ, gj_sep (b :: r)]; rfl
theorem cs_empty : cs Str.empty = [] := rfl
theorem cs_join (g : Str) : ∀ l : List Str, cs (Txt.join g l) = gj (cs g) (l.map cs) := by
  intro l
  show cs (PySem.Builtin.Str.glued g l) = _
  rw [StrLaws.glued_eq_join]
  induction l with
  | nil => rfl
  | cons a r ih =>
    cases r with
    | nil => rfl
    | cons b r =>
      show cs (a ++ g ++ Str.join g (b :: r)) = _
      rw [cs_app, cs_app, ih, List.append_assoc]
      rfl
theorem gj_len (g : List Nat) : ∀ l : List (List Nat), (gj g l).length ≤ (l.map List.length).sum + l.length * g.length
  | [] => by simp [gj]
  | [a] => by simp [gj]
  | a :: b :: r => by
    have := gj_len g (b :: r)
    simp only [gj, List.length_append, List.map_cons, List.sum_cons, List.length_cons, Nat.add_mul, Nat.one_mul] at this ⊢
    omega
def num (n : Nat) : List Nat := cs (toString (n : Int))
def kdT (k : Kd) : List Nat := cs k.fam ++ 40 :: (txt k.tm ++ [41])
def arT (ps : List Kd) (md : Kd) : List Nat := (if ps.isEmpty then [] else sepJ (ps.map kdT) ++ [32]) ++ 45 :: 62 :: 32 :: kdT md
def lineM (m : Str × Nat) : List Nat := cs "maker" ++ 32 :: (cs m.1 ++ 32 :: num m.2)
def lineF (z : Str) : List Nat := cs "family" ++ 32 :: cs z
def lineC (c : Cn) : List Nat := cs "con" ++ 32 :: (cs c.w ++ 32 :: 58 :: 32 :: arT c.ps c.md)
def lineH (f : Fn) : List Nat := cs "fun" ++ 32 :: (cs f.w ++ 32 :: (cs "falls" ++ 32 :: (num f.falls ++ 32 :: 58 :: 32 :: arT f.ps f.md)))
def lineL (w : Str) (c : Cl) : List Nat := cs w ++ 40 :: (sepJ (c.ps.map txt) ++ 41 :: 32 :: 61 :: 32 :: txt c.b)
theorem wd_num : ∀ n : Nat, n < 100 → WdP (num n) := by decide +kernel
theorem num_len : ∀ n : Nat, n < 100 → (num n).length ≤ 2 := by decide +kernel
def tokK (k : Kd) : List (List Nat) := cs k.fam :: [40] :: (tokT k.tm ++ [[41]])
def arTok (ps : List Kd) (md : Kd) : List (List Nat) := sepT (ps.map tokK) ++ [45, 62] :: tokK md
theorem Pc.nil : Pc [] [] := fun l U s t => t
theorem toks_end {x : List Nat} {T : List (List Nat)} (h : Pc x T) : Toks x T := by
  have := h [] [] stp_nil .nil
  simpa using this
/-- a line: its signs, its tokens, its length -/
structure LnOk (x : List Nat) (T : List (List Nat)) (n : Nat) : Prop where
  tk : Toks x T
  ok : Ok x
  len : x.length ≤ n
  op : opn T ≤ 40
def tokM (m : Str × Nat) : List (List Nat) := [cs "maker", cs m.1, num m.2]
def tokF (z : Str) : List (List Nat) := [cs "family", cs z]
def tokC (c : Cn) : List (List Nat) := cs "con" :: cs c.w :: [58] :: arTok c.ps c.md
def tokH (f : Fn) : List (List Nat) := cs "fun" :: cs f.w :: cs "falls" :: num f.falls :: [58] :: arTok f.ps f.md
def tokL (w : Str) (c : Cl) : List (List Nat) := cs w :: [40] :: (sepT (c.ps.map tokT) ++ [41] :: [61] :: tokT c.b)
theorem wd_maker : WdP (cs "maker") := by decide +kernel
theorem wd_family : WdP (cs "family") := by decide +kernel
theorem wd_con : WdP (cs "con") := by decide +kernel
theorem wd_fun : WdP (cs "fun") := by decide +kernel
theorem wd_falls : WdP (cs "falls") := by decide +kernel
theorem Toks.c58 {l : List Nat} {T : List (List Nat)} (t : Toks l T) : Toks (58 :: l) ([58] :: T) := .sign al_58 (by decide) (by decide) t
theorem Toks.c61 {l : List Nat} {T : List (List Nat)} (t : Toks l T) : Toks (61 :: l) ([61] :: T) := .sign al_61 (by decide) (by decide) t
def SV (l : List Nat) : V := .str (mkS l)
theorem slen (a b : Str) : (a ++ b).length = a.length + b.length := by rw [← cs_len, cs_app, List.length_append, cs_len, cs_len]
theorem small7 {n : Nat} (h : n ≤ 20000) : n ≤ sizeLine := by rw [sizeLine_eq]; omega
theorem sqt_same {K : PySem.W.Frag} {H H' : Hp} {a : Addr} {xs : List V} (s : Same H H') (h : SqT K H a xs) : SqT K H' a xs := by
  rcases h with (e | ⟨o, e⟩) | e
  · exact .inl (.inl (s _ _ e))
  · exact .inl (.inr ⟨o, s _ _ e⟩)
  · exact .inr e
def rAddS : R2 := fun x y H Q => ∃ i j, x = .str i ∧ y = .str j ∧ i.length + j.length ≤ sizeLine ∧ Q (.str (i ++ j)) H
def TxE (σ : L2.St) (H0 : Hp) (te : TE) (l : List Nat) : Prop := ∀ (H : Hp) (Q : VK), Same H0 H → (∀ H', Same H H' → Q (SV l) H') → te σ H Q
def LxE (σ : L2.St) (H0 : Hp) (te : TE) (ls : List (List Nat)) : Prop := ∀ (H : Hp) (Q : VK), Same H0 H → (∀ p H', Same H H' → H' p = some (.lst (ls.map SV)) → Q (.ref p) H') → te σ H Q
def TlE (K : PySem.W.Frag) (σ : L2.St) (H0 : Hp) (te : TE) (xs : List V) : Prop := ∀ (H : Hp) (Q : VK), Same H0 H → (∀ a H', Same H H' → SqT K H' a xs → Q (.ref a) H') → te σ H Q
theorem TxE.to {σ : L2.St} {H0 : Hp} {te : TE} {l l2 : List Nat} (h : TxE σ H0 te l) (e : l = l2) : TxE σ H0 te l2 := e ▸ h
theorem TxE.same {σ : L2.St} {H0 H1 : Hp} {te : TE} {l : List Nat} (h : TxE σ H0 te l) (s : Same H0 H1) : TxE σ H1 te l := fun H Q s2 q => h H Q (s.trans s2) q
theorem tx_lit {σ : L2.St} {H0 : Hp} {z : Str} : TxE σ H0 (tC (.str z)) (cs z) := fun H Q s q => by
  have := q H (.refl _)
  unfold SV at this
  rw [mk_cs] at this
  exact this
theorem tx_var {σ : L2.St} {H0 : Hp} {i : Nat} {l : List Nat} (e : σ[i]? = some (some (SV l))) : TxE σ H0 (tVar i) l := fun H Q s q => ⟨_, e, q H (.refl _)⟩
theorem tx_varS {σ : L2.St} {H0 : Hp} {i : Nat} {z : Str} (e : σ[i]? = some (some (.str z))) : TxE σ H0 (tVar i) (cs z) := tx_var (by rw [e]; unfold SV; rw [mk_cs])
theorem tx_add {σ : L2.St} {H0 : Hp} {ta tb : TE} {a b : List Nat} (ha : TxE σ H0 ta a) (hb : TxE σ H0 tb b) (l : a.length + b.length ≤ 20000) : TxE σ H0 (tOp rAddS ta tb) (a ++ b) := fun H Q s q =>
  ha H _ s fun H1 s1 => hb H1 _ (s.trans s1) fun H2 s2 => ⟨_, _, rfl, rfl, by rw [mk_len, mk_len]; exact small7 l, by rw [mk_app]; exact q H2 (s1.trans s2)⟩
def rJoinS (K : PySem.W.Frag) : V → List V → Hp → VK → Prop := fun x xs H Q => ∃ a p, ∃ ys : List Str, x = .str a ∧ xs = [.ref p] ∧ (SqL K H p (ys.map V.str) ∨ SqT K H p (ys.map V.str)) ∧ (ys.map (·.length)).sum + ys.length * a.length ≤ 16777216 ∧ Q (.str (Txt.join a ys)) H
theorem tx_join {K : PySem.W.Frag} {σ : L2.St} {H0 : Hp} {g : Str} {te : TE} {ls : List (List Nat)} (h : LxE σ H0 te ls) (l : (ls.map List.length).sum + ls.length * g.length ≤ 16777216) : TxE σ H0 (tM1 (rJoinS K) (tC (.str g)) te) (gj (cs g) ls) := fun H Q s q =>
  ⟨⟨_, rfl⟩, h H _ s fun p H1 s1 e1 => ⟨g, p, ls.map mkS, rfl, rfl, .inl (SqL.of (by rw [List.map_map]; exact e1)), by
    rw [List.map_map, List.length_map]
    have : (List.map ((fun x : Str => x.length) ∘ mkS) ls) = ls.map List.length := List.map_congr_left fun x _ => mk_len x
    rw [this]; exact l, by
    have e : Txt.join g (ls.map mkS) = mkS (gj (cs g) ls) := cs_inj (by
      rw [cs_join, cs_mk, List.map_map]
      congr 1
      exact (List.map_congr_left (g := fun x => x) fun x _ => cs_mk x).trans (List.map_id' ls))
    rw [e]; exact q H1 s1⟩⟩
theorem tl_var {K : PySem.W.Frag} {σ : L2.St} {H0 : Hp} {i : Nat} {a : Addr} {xs : List V} (e : σ[i]? = some (some (.ref a))) (h : SqT K H0 a xs) : TlE K σ H0 (tVar i) xs := fun H Q s q => ⟨_, e, q a H (.refl _) (sqt_same s h)⟩
/-- a list of the texts of a tuple's items -/
theorem lx_lcT {K : PySem.W.Frag} {σ : L2.St} {H0 : Hp} {tl te : TE} {xs : List V} {L : List (List Nat)} {k : Nat} (ht : TlE K σ H0 tl xs) (hl : L.length = xs.length) (hb : xs.length ≤ 1000)
    (hs : ∀ (i : Nat) (x : V) (y : List Nat) (H' : Hp), xs[i]? = some x → L[i]? = some y → Same H0 H' → TxE ((σ.set k none).set k (some x)) H' te y) :
    LxE σ H0 (tLc (iTup K tl) (gName k) tYes te [k]) L := fun H Q s q => by
  refine ht H _ s fun a H1 s1 ha => ⟨a, rfl, ⟨xs, ha⟩, fun D hD => ?_⟩
  refine lc_tup (K := K) (a := a) (xs := xs) (fun i H4 => Same H1 H4 ∧ H4 D = some (.lst ((L.take i).map SV))) ?_ ?_ ?_ ?_
  · exact ⟨same_upd hD _, upd_same⟩
  · exact fun i H' _ ⟨s, _⟩ => sqt_same s ha
  · rintro i x H4 hx ⟨s4, e4⟩
    have hi := (List.getElem?_eq_some_iff.mp hx).1
    have hy : L[i]? = some (L[i]'(by omega)) := List.getElem?_eq_getElem _
    refine ⟨by show ((σ.set k none).set k (some x)).set k none = σ.set k none; simp only [List.set_set], yes_if ?_⟩
    refine hs i x _ H4 hx hy ((s.trans s1).trans s4) H4 _ (.refl _) fun H5 s5 => ⟨_, s5 _ _ e4, ?_, Kx.Same.own (s4.trans s5) hD _, ?_⟩
    · rw [List.length_map]; exact small1000 (by have : (L.take i).length ≤ i := List.length_take_le ..; omega)
    · rw [upd_same, List.take_add_one, hy, List.map_append]; rfl
  · rintro H4 ⟨s4, e4⟩
    rw [← hl, List.take_length] at e4
    exact q D H4 (s1.trans s4) e4
/-- the same over a list or a tuple -/
theorem lx_lcS {K : PySem.W.Frag} {σ : L2.St} {H0 : Hp} {te : TE} {a : Addr} {xs : List V} {L : List (List Nat)} {j k : Nat} (e : σ[j]? = some (some (.ref a))) (ha : SqL K H0 a xs ∨ SqT K H0 a xs) (hl : L.length = xs.length) (hb : xs.length ≤ 1000)
    (hs : ∀ (i : Nat) (x : V) (y : List Nat) (H' : Hp), xs[i]? = some x → L[i]? = some y → Same H0 H' → TxE ((σ.set k none).set k (some x)) H' te y) :
    LxE σ H0 (tLc (iSeq K (tVar j)) (gName k) tYes te [k]) L := fun H Q s q => by
  have step : ∀ (D : Addr) (i : Nat) (x : V) (H4 : Hp), H D = none → xs[i]? = some x → Same H H4 ∧ H4 D = some (.lst ((L.take i).map SV)) → gName k x (wipe σ [k]) H4 fun σ2 H2 => wipe σ2 [k] = wipe σ [k] ∧ tYes σ2 H2 fun b H3 =>
      if b = true then te σ2 H3 fun y H4 => ∃ acc, H4 D = some (.lst acc) ∧ acc.length < sizeLine ∧ (Same H (upd H4 D (.lst (acc ++ [y]))) ∧ (upd H4 D (.lst (acc ++ [y]))) D = some (.lst ((L.take (i + 1)).map SV))) else (Same H H3 ∧ H3 D = some (.lst ((L.take (i + 1)).map SV))) := by
    rintro D i x H4 hD hx ⟨s4, e4⟩
    have hi := (List.getElem?_eq_some_iff.mp hx).1
    have hy : L[i]? = some (L[i]'(by omega)) := List.getElem?_eq_getElem _
    refine ⟨by show ((σ.set k none).set k (some x)).set k none = σ.set k none; simp only [List.set_set], yes_if ?_⟩
    refine hs i x _ H4 hx hy (s.trans s4) H4 _ (.refl _) fun H5 s5 => ⟨_, s5 _ _ e4, ?_, Kx.Same.own (s4.trans s5) hD _, ?_⟩
    · rw [List.length_map]; exact small1000 (by have : (L.take i).length ≤ i := List.length_take_le ..; omega)
    · rw [upd_same, List.take_add_one, hy, List.map_append]; rfl
  rcases ha with ha | ha
  · refine ⟨_, e, a, rfl, .inl ⟨⟨xs, s.seq ha⟩, fun D hD => ?_⟩⟩
    refine lc_list (K := K) (a := a) (xs := xs) (fun i H4 => Same H H4 ∧ H4 D = some (.lst ((L.take i).map SV))) ⟨same_upd hD _, upd_same⟩ (fun i H' _ ⟨s2, _⟩ => (s.trans s2).seq ha) (fun i x H4 hx p => step D i x H4 hD hx p) ?_
    rintro H4 ⟨s4, e4⟩
    rw [← hl, List.take_length] at e4
    exact q D H4 s4 e4
  · refine ⟨_, e, a, rfl, .inr ⟨⟨xs, sqt_same s ha⟩, fun D hD => ?_⟩⟩
    refine lc_tup (K := K) (a := a) (xs := xs) (fun i H4 => Same H H4 ∧ H4 D = some (.lst ((L.take i).map SV))) ⟨same_upd hD _, upd_same⟩ (fun i H' _ ⟨s2, _⟩ => sqt_same (s.trans s2) ha) (fun i x H4 hx p => step D i x H4 hD hx p) ?_
    rintro H4 ⟨s4, e4⟩
    rw [← hl, List.take_length] at e4
    exact q D H4 s4 e4
theorem tx_ixT {K : PySem.W.Frag} {σ : L2.St} {H0 : Hp} {i j : Nat} {a : Addr} {w : Str} {xs : List V} (e : σ[i]? = some (some (.ref a))) (h : SqT K H0 a xs) (g : xs[j]? = some (.str w)) : TxE σ H0 (tOp (rIxT K) (tVar i) (tC (.int j))) (cs w) := fun H Q s q =>
  ⟨_, e, a, _, _, _, rfl, rfl, sqt_same s h, atI_nat g, by have := q H (.refl _); unfold SV at this; rw [mk_cs] at this; exact this⟩
theorem slice1 {x : V} {vs : List V} : ¬ (HT.sIx (x :: vs).length 0 (some (1 : Int)) = 0 ∧ HT.sIx (x :: vs).length (x :: vs).length none = (x :: vs).length) := by
  intro e
  have h := e.1
  rw [show (1 : Int) = ((1 : Nat) : Int) from rfl, HT.sIx_nat, List.length_cons] at h
  omega
theorem cut_from (xs : List V) {k : Nat} (h : k ≤ xs.length) : cutV xs (some (k : Int)) none = xs.drop k := by
  unfold cutV
  rw [HT.sIx_nat, HT.sIx_none, Nat.min_eq_left h, List.take_of_length_le (by rw [List.length_drop]; exact Nat.le_refl _)]
theorem cut1 {x : V} {vs : List V} : cutV (x :: vs) (some (1 : Int)) none = vs := cut_from (k := 1) (x :: vs) (by rw [List.length_cons]; omega)
theorem TxE.go {σ : L2.St} {H : Hp} {te : TE} {l : List Nat} {Q : VK} (h : TxE σ H te l) (q : ∀ H', Same H H' → Q (SV l) H') : te σ H Q := h H Q (.refl _) q
theorem tx_ix0 {K : PySem.W.Frag} {σ : L2.St} {H0 : Hp} {i : Nat} {a : Addr} {w : Str} {xs : List V} (e : σ[i]? = some (some (.ref a))) (h : SqT K H0 a (.str w :: xs)) : TxE σ H0 (tOp (rIx K) (tVar i) (tC (.int 0))) (cs w) := fun H Q s q =>
  ⟨_, e, .inr (.inl ⟨a, _, _, _, rfl, rfl, sqt_same s h, atI_nat (j := 0) rfl, by have := q H (.refl _); unfold SV at this; rw [mk_cs] at this; exact this⟩)⟩
theorem tl_drop1 {K : PySem.W.Frag} {σ : L2.St} {H0 : Hp} {i : Nat} {a : Addr} {x : V} {xs : List V} (e : σ[i]? = some (some (.ref a))) (h : SqT K H0 a (x :: xs)) : TlE K σ H0 (tSl (rSlT K) (tVar i) (tPart (tC (.int 1))) tNoPart) xs := fun H Q s q =>
  ⟨_, e, 1, rfl, a, x :: xs, rfl, sqt_same s h, slice1, fun p hp => q p _ (same_upd hp _) (by rw [cut1]; exact .inl (.inl upd_same))⟩
theorem sum_le {l : List (List Nat)} {c : Nat} (h : ∀ x ∈ l, x.length ≤ c) : (l.map List.length).sum ≤ l.length * c := by
  induction l with
  | nil => simp
  | cons a r ih =>
    have h1 := h a (List.mem_cons_self ..)
    have h2 := ih fun x hx => h x (List.mem_cons_of_mem _ hx)
    rw [List.map_cons, List.sum_cons, List.length_cons, Nat.add_mul, Nat.one_mul]
    omega
theorem go_lx {σ : L2.St} {H : Hp} {te : TE} {ls : List (List Nat)} {g : TG} {rest : TS} {D : Ends} (h : LxE σ H te ls) (q : ∀ p H1, Same H H1 → H1 p = some (.lst (ls.map SV)) → g (.ref p) σ H1 fun σ2 H2 => rest D σ2 H2) : tSeq (tAsg te g) rest D σ H := h H _ (.refl _) q
theorem tl_ixT {K : PySem.W.Frag} {σ : L2.St} {H0 : Hp} {i j : Nat} {a m : Addr} {xs ys : List V} (e : σ[i]? = some (some (.ref a))) (h : SqT K H0 a xs) (g : xs[j]? = some (.ref m)) (h2 : SqT K H0 m ys) : TlE K σ H0 (tOp (rIxT K) (tVar i) (tC (.int j))) ys := fun H Q s q =>
  ⟨_, e, a, _, _, _, rfl, rfl, sqt_same s h, atI_nat g, q m H (.refl _) (sqt_same s h2)⟩
def TsE (σ : L2.St) (H0 : Hp) (ta : TA) (ls : List (List Nat)) : Prop := ∀ (H : Hp) (Q : List V → Hp → Prop), Same H0 H → (∀ H', Same H H' → Q (ls.map SV) H') → ta σ H Q
theorem ts_nil {σ : L2.St} {H0 : Hp} : TsE σ H0 tNil [] := fun H Q s q => q H (.refl _)
theorem ts_cons {σ : L2.St} {H0 : Hp} {te : TE} {ta : TA} {l : List Nat} {ls : List (List Nat)} (a : TxE σ H0 te l) (b : TsE σ H0 ta ls) : TsE σ H0 (tCons te ta) (l :: ls) := fun H Q s q =>
  a H _ s fun H1 s1 => b H1 _ (s.trans s1) fun H2 s2 => q H2 (s1.trans s2)
theorem lx_lst {σ : L2.St} {H0 : Hp} {ta : TA} {ls : List (List Nat)} (a : TsE σ H0 ta ls) (l : ls.length ≤ 1000) : LxE σ H0 (tLst ta) ls := fun H Q s q =>
  a H _ s fun H1 s1 => ⟨by rw [List.length_map]; exact Nat.le_of_lt (small1000 l), fun p hp => q p _ (s1.trans (same_upd hp _)) upd_same⟩
theorem lx_var {σ : L2.St} {H0 : Hp} {i : Nat} {p : Addr} {ls : List (List Nat)} (e : σ[i]? = some (some (.ref p))) (h : H0 p = some (.lst (ls.map SV))) : LxE σ H0 (tVar i) ls := fun H Q s q => ⟨_, e, q p H (.refl _) (s _ _ h)⟩
theorem lx_cat {σ : L2.St} {H0 : Hp} {ta tb : TE} {la lb : List (List Nat)} (a : LxE σ H0 ta la) (b : LxE σ H0 tb lb) (l : la.length + lb.length ≤ 1000) : LxE σ H0 (tOp rCat ta tb) (la ++ lb) := fun H Q s q =>
  a H _ s fun p H1 s1 e1 => b H1 _ (s.trans s1) fun p2 H2 s2 e2 => ⟨p, p2, _, _, rfl, rfl, s2 _ _ e1, e2, by rw [List.length_map, List.length_map]; exact Nat.le_of_lt (small1000 l), fun p3 hp3 => q p3 _ ((s1.trans s2).trans (same_upd hp3 _)) (by rw [upd_same, List.map_append])⟩
def LxF (σ : L2.St) (H0 : Hp) (te : TE) (ls : List (List Nat)) : Prop := ∀ (H : Hp) (Q : VK), Same H0 H → (∀ p H', H p = none → Same H H' → H' p = some (.lst (ls.map SV)) → Q (.ref p) H') → te σ H Q
theorem lx_catF {σ : L2.St} {H0 : Hp} {ta tb : TE} {la lb : List (List Nat)} (a : LxE σ H0 ta la) (b : LxE σ H0 tb lb) (l : la.length + lb.length ≤ 1000) : LxF σ H0 (tOp rCat ta tb) (la ++ lb) := fun H Q s q =>
  a H _ s fun p H1 s1 e1 => b H1 _ (s.trans s1) fun p2 H2 s2 e2 => ⟨p, p2, _, _, rfl, rfl, s2 _ _ e1, e2, by rw [List.length_map, List.length_map]; exact Nat.le_of_lt (small1000 l), fun p3 hp3 => q p3 _ ((s1.trans s2).free hp3) ((s1.trans s2).trans (same_upd hp3 _)) (by rw [upd_same, List.map_append])⟩
theorem go_lxF {σ : L2.St} {H : Hp} {te : TE} {ls : List (List Nat)} {g : TG} {rest : TS} {D : Ends} (h : LxF σ H te ls) (q : ∀ p H1, H p = none → Same H H1 → H1 p = some (.lst (ls.map SV)) → g (.ref p) σ H1 fun σ2 H2 => rest D σ2 H2) : tSeq (tAsg te g) rest D σ H := h H _ (.refl _) q
theorem one_inv {H : Hp} {vs : List V} {t : PV} (h : IsL H vs [t]) : ∃ v, vs = [v] ∧ Is H v t := by
  cases h with
  | cons a b => cases b; exact ⟨_, rfl, a⟩
theorem two_inv {H : Hp} {vs : List V} {t u : PV} (h : IsL H vs [t, u]) : ∃ v w, vs = [v, w] ∧ Is H v t ∧ Is H w u := by
  cases h with
  | cons a b => obtain ⟨w, rfl, h⟩ := one_inv b; exact ⟨_, w, rfl, a, h⟩
theorem map_at {α β : Type} {f : α → β} {l : List α} {i : Nat} {y : β} (h : (l.map f)[i]? = some y) : ∃ x, l[i]? = some x ∧ f x = y := by
  rw [List.getElem?_map] at h
  cases e : l[i]? with
  | none => rw [e] at h; cases h
  | some x => rw [e] at h; exact ⟨x, rfl, Option.some.inj h⟩
theorem sumj {ls : List (List Nat)} {n c g : Nat} (h : ls.length ≤ n) (k : ∀ x ∈ ls, x.length ≤ c) (l : n * c + n * g ≤ 16777216) : (ls.map List.length).sum + ls.length * g ≤ 16777216 := by
  have h1 := sum_le k
  have h2 : ls.length * c ≤ n * c := Nat.mul_le_mul_right _ h
  have h3 : ls.length * g ≤ n * g := Nat.mul_le_mul_right _ h
  omega
theorem go_tx {σ : L2.St} {H : Hp} {te : TE} {l : List Nat} {g : TG} {rest : TS} {D : Ends} (h : TxE σ H te l) (q : ∀ H1, Same H H1 → g (SV l) σ H1 fun σ2 H2 => rest D σ2 H2) : tSeq (tAsg te g) rest D σ H := h H _ (.refl _) q
theorem go_c1 {σ : L2.St} {H : Hp} {te : TE} {l : List Nat} {R : List V → Hp → Prop} (h : TxE σ H te l) (q : ∀ H', Same H H' → R [SV l] H') : tCons te tNil σ H R := h H _ (.refl _) q
def fullT (ls : List (List Nat)) : List Nat := (ls.map (· ++ [10])).flatten
theorem gj_nil : ∀ l : List (List Nat), gj [] l = l.flatten
  | [] => rfl
  | [a] => by simp [gj]
  | a :: b :: r => by
    have := gj_nil (b :: r)
    simp only [gj, List.nil_append, this, List.flatten_cons]
theorem flat_len {l : List (List Nat)} {c : Nat} (h : ∀ x ∈ l, x.length ≤ c) : l.flatten.length ≤ l.length * c := by
  rw [List.length_flatten]
  exact sum_le h
theorem full_app (a b : List (List Nat)) : fullT (a ++ b) = fullT a ++ fullT b := by simp [fullT]
theorem full_le {l : List (List Nat)} {n c : Nat} (hn : l.length ≤ n) (h : ∀ x ∈ l, x.length ≤ c) : (fullT l).length ≤ n * (c + 1) := by
  have h1 := flat_len (l := l.map (· ++ [10])) (c := c + 1) fun x hx => by
    obtain ⟨y, hy, rfl⟩ := List.mem_map.mp hx
    have := h y hy
    rw [List.length_append, List.length_singleton]; omega
  rw [List.length_map] at h1
  exact Nat.le_trans h1 (Nat.mul_le_mul_right _ hn)
theorem nx_of {f : L2.St → Hp → Prop} {r : VK} {b c : L2.St → Hp → Prop} {σ : L2.St} {H : Hp} (h : f σ H) : (Ends.mk f r b c).nx σ H := h
theorem go_l1 {σ : L2.St} {H : Hp} {te : TE} {ls : List (List Nat)} {R : List V → Hp → Prop} (h : LxE σ H te ls) (q : ∀ p H', Same H H' → H' p = some (.lst (ls.map SV)) → R [.ref p] H') : tCons te tNil σ H R := h H _ (.refl _) q
/-- over a list of texts -/
theorem lx_lcL {K : PySem.W.Frag} {σ : L2.St} {H0 : Hp} {te : TE} {a : Addr} {xs : List V} {L : List (List Nat)} {j k : Nat} (e : σ[j]? = some (some (.ref a))) (ha : SqL K H0 a xs) (hl : L.length = xs.length) (hb : xs.length ≤ 1000)
    (hs : ∀ (i : Nat) (x : V) (y : List Nat) (H' : Hp), xs[i]? = some x → L[i]? = some y → Same H0 H' → TxE ((σ.set k none).set k (some x)) H' te y) :
    LxE σ H0 (tLc (iList K (tVar j)) (gName k) tYes te [k]) L := fun H Q s q => by
  refine ⟨_, e, a, rfl, ⟨xs, s.seq ha⟩, fun D hD => ?_⟩
  refine lc_list (K := K) (a := a) (xs := xs) (fun i H4 => Same H H4 ∧ H4 D = some (.lst ((L.take i).map SV))) ⟨same_upd hD _, upd_same⟩ (fun i H' _ ⟨s2, _⟩ => (s.trans s2).seq ha) ?_ ?_
  · rintro i x H4 hx ⟨s4, e4⟩
    have hi := (List.getElem?_eq_some_iff.mp hx).1
    have hy : L[i]? = some (L[i]'(by omega)) := List.getElem?_eq_getElem _
    refine ⟨by show ((σ.set k none).set k (some x)).set k none = σ.set k none; simp only [List.set_set], yes_if ?_⟩
    refine hs i x _ H4 hx hy (s.trans s4) H4 _ (.refl _) fun H5 s5 => ⟨_, s5 _ _ e4, ?_, Kx.Same.own (s4.trans s5) hD _, ?_⟩
    · rw [List.length_map]; exact small1000 (by have : (L.take i).length ≤ i := List.length_take_le ..; omega)
    · rw [upd_same, List.take_add_one, hy, List.map_append]; rfl
  · rintro H4 ⟨s4, e4⟩
    rw [← hl, List.take_length] at e4
    exact q D H4 s4 e4
theorem kitAny_cons {K : PySem.W.Frag} {u c : Value} {cs : List Value} {r b : Bool} (h : PySem.W.kitOne K u c = some r) (f : r = false → PySem.W.kitAny K u cs = some b) (t : r = true → b = true) : PySem.W.kitAny K u (c :: cs) = some b := by
  unfold PySem.W.kitAny
  rw [h]
  cases r with
  | true => simp [t rfl]
  | false => exact f rfl
theorem kit_bool {K : PySem.W.Frag} {t : PV} {u : Value} (h : tyOf t u) : PySem.W.kitOne K u (.type "bool") = some false := by
  cases t with
  | str z => cases h; exact kit_ty (show kitB "str" "bool" = some false by decide +kernel)
  | tup ts => cases h; exact kit_ty (show kitB "tuple" "bool" = some false by decide +kernel)
  | int i => cases h; exact kit_ty (show kitB "int" "bool" = some false by decide +kernel)
theorem kit_list {K : PySem.W.Frag} {t : PV} {u : Value} (h : tyOf t u) : PySem.W.kitOne K u (.type "list") = some false := by
  cases t with
  | str z => cases h; exact kit_ty (show kitB "str" "list" = some false by decide +kernel)
  | tup ts => cases h; exact kit_ty (show kitB "tuple" "list" = some false by decide +kernel)
  | int i => cases h; exact kit_ty (show kitB "int" "list" = some false by decide +kernel)
def isInt : PV → Bool
  | .int _ => true
  | _ => false
theorem kit_int {K : PySem.W.Frag} {t : PV} {u : Value} (h : tyOf t u) : PySem.W.kitOne K u (.type "int") = some (isInt t) := by
  cases t with
  | str z => cases h; exact kit_ty (show kitB "str" "int" = some false by decide +kernel)
  | tup ts => cases h; exact kit_ty (show kitB "tuple" "int" = some false by decide +kernel)
  | int i => cases h; exact kit_ty (show kitB "int" "int" = some true by decide +kernel)
theorem no_non {H : Hp} {v : V} {t : PV} (h : Is H v t) : decide (v = V.non) = false := decide_eq_false fun e => by subst e; cases h
end
end Kx
namespace Kx
open PySem PySem.Spec PyProof.Rows L2
section
variable {P : Program} {w : World} {K : PySem.W.Frag} {mg : Str → Option Value} {base : Heap}
set_option pp.maxSteps 1200
/-! ### words and signs as they are read -/
def WkB (z : Str) : Prop := 1 ≤ z.length ∧ z.length ≤ 12 ∧ Txt.isascii z = true ∧ Txt.isalnum z = true ∧ ∃ c, z.cps.toList[0]? = some c ∧ Txt.isalpha ⟨#[c]⟩ = true
def wkb (z : Str) : Bool := decide (1 ≤ z.length) && (decide (z.length ≤ 12) && (Txt.isascii z && (Txt.isalnum z && match z.cps.toList with | c :: _ => Txt.isalpha ⟨#[c]⟩ | [] => false)))
theorem wkb_of {z : Str} (h : wkb z = true) : WkB z := by
  unfold wkb at h
  simp only [Bool.and_eq_true, decide_eq_true_eq] at h
  obtain ⟨h1, h2, h3, h4, h5⟩ := h
  refine ⟨h1, h2, h3, h4, ?_⟩
  cases e : z.cps.toList with
  | nil => rw [e] at h5; cases h5
  | cons c r => rw [e] at h5; exact ⟨c, rfl, h5⟩
def spWord : Sp := fun vs H Q _ => ∃ z, vs = [.str z] ∧ WkB z ∧ Q (.bl true) H
theorem ok_is_word (T : Txt K mg)  : FnOk P w K mg base CX0 1 T.a_is_word T.d_is_word ["value"] spWord := by
  refine T.F_is_word.ok sc_is_word (fun vs H Q E h => ?_) (fun cdv A outer s H vs Q E hr h => ?_)
  · obtain ⟨z, rfl, _⟩ := h; rfl
  · obtain ⟨z, rfl, ⟨h1, h2, h3, h4, c, hc, h5⟩, q⟩ := h
    refine ⟨_, (pss_cons (ps_if (PW.pt (pw_or (pt_not (pt_val (pe_callB call_isi (by rfl) T.z_isinstance (by decide +kernel) (pa_cons (pv 0) (pa_cons (pe_bltn rfl T.z_str (by decide +kernel) (show RelV (V.ty "str") (Value.type "str") from rfl)) pa_nil))))) (pw_or1 (pt_not (pt_chain op_le op_le pe_int (pe_callB call_len_str (by rfl) T.z_len (by decide +kernel) (pa_cons (pv 0) pa_nil)) (pe_glob (by rfl) T.g_MOST_NAME (show RelV (V.int 12) (.int 12 T.t_MOST_NAME) from ⟨_, rfl⟩)) (by with_unfolding_all rfl)))))) (pss_one (ps_ret pe_bl)) pss_nil)
    (pss_one (ps_ret (pe_and (pe_bm0 PySem.F.plainAttrs_str PySem.F.slot_str_isascii PySem.F.type_str_isascii mt_isascii (pv 0)) (pe_and (pe_m0 PySem.F.slot_str_isalnum PySem.F.type_str_isalnum mt_isalnum (pv 0)) (pe_one (pe_m0 PySem.F.slot_str_isalpha PySem.F.type_str_isalpha mt_isalpha (pe_ix ix_str (pv 0) pe_int (fun _ _ => rfl))))))))), ?_⟩
    refine ⟨_, rfl, _, _, .type "str", _, true, rfl, .ty _, .base (.str z), kit_ty (show kitB "str" "str" = some true by decide +kernel), _, rfl, iteF ?_⟩
    refine ⟨_, rfl, z, rfl, small7 (by omega), _, _, rfl, rfl, _, rfl, ?_⟩
    rw [show decide ((1 : Int) ≤ (z.length : Int)) = true from decide_eq_true (by omega)]
    refine iteT ⟨_, _, rfl, rfl, _, rfl, ?_⟩
    rw [show decide ((z.length : Int) ≤ 12) = true from decide_eq_true (by omega)]
    refine iteF ⟨_, rfl, rfl, z, rfl, rfl, trivial, _, rfl, ?_⟩
    rw [h3]
    refine iteT ⟨_, rfl, ⟨z, rfl⟩, z, rfl, rfl, trivial, _, rfl, ?_⟩
    rw [h4]
    refine iteT ⟨_, rfl, z, 0, c, rfl, rfl, small7 (by omega), atI_nat (j := 0) hc, ⟨_, rfl⟩, _, rfl, rfl, trivial, ?_⟩
    rw [h5]; exact q
/-- a sign of a row -/
def okr (c : Nat) : Prop := 32 ≤ c ∧ c ≤ 126 ∧ c ≠ 37
instance (c : Nat) : Decidable (okr c) := by unfold okr; infer_instance
theorem okc.r {c : Nat} (h : okc c) : okr c := ⟨h.1, h.2.1, h.2.2.1⟩
def OkR (l : List Nat) : Prop := ∀ c ∈ l, okr c
theorem Ok.r {l : List Nat} (h : Ok l) : OkR l := fun c hc => (h c hc).r
def spAllowed : Sp := fun vs H Q _ => ∃ c : Nat, vs = [.str ⟨#[c]⟩] ∧ (c = 10 ∨ okr c) ∧ Q (.bl true) H
theorem le_facts : ∀ c : Nat, c < 127 → okr c → (!decide ([c] < [32])) = true ∧ (!decide ([126] < [c])) = true := by decide +kernel
theorem ok_is_allowed (T : Txt K mg)  : FnOk P w K mg base CX0 1 T.a_is_allowed T.d_is_allowed ["sign"] spAllowed := by
  refine T.F_is_allowed.ok sc_is_allowed (fun vs H Q E h => ?_) (fun cdv A outer s H vs Q E hr h => ?_)
  · obtain ⟨c, rfl, _⟩ := h; rfl
  · obtain ⟨c, rfl, hc, q⟩ := h
    refine ⟨_, (pss_one (ps_ret (pe_or (pe_cmpR op_eq (pv 0) pe_str (nomark _)) (pe_one (pe_and (pe_chain op_le_str op_le_str pe_str (pv 0) pe_str (by with_unfolding_all rfl)) (pe_one (pe_cmpR op_ne (pe_callB call_ord (by rfl) T.z_ord (by decide +kernel) (pa_cons (pv 0) pa_nil)) (pe_glob (by rfl) T.g_PERCENT_CODE (show RelV (V.int 37) (.int 37 T.t_PERCENT_CODE) from ⟨_, rfl⟩)) (nomark _)))))))), ?_⟩
    refine ⟨_, rfl, rfl, _, rfl, ?_⟩
    by_cases h10 : c = 10
    · subst h10
      rw [show decide (V.str ⟨#[10]⟩ = V.str "\n") = true by decide]
      exact iteT q
    · have hk := hc.resolve_left h10
      obtain ⟨f1, f2⟩ := le_facts c (by have := hk.2.1; omega) hk
      rw [show decide (V.str ⟨#[c]⟩ = V.str "\n") = false from decide_eq_false (fun e => by
        have e2 := congrArg cs (V.str.inj e)
        have e3 : [c] = [10] := e2
        exact h10 (by simpa using e3))]
      refine iteF ⟨_, rfl, _, _, rfl, rfl, _, rfl, ?_⟩
      rw [show (!decide (({ cps := #[c] } : Str).cps.toList < (" " : Str).cps.toList)) = true from f1]
      refine iteT ⟨_, _, rfl, rfl, _, rfl, ?_⟩
      rw [show (!decide (("~" : Str).cps.toList < ({ cps := #[c] } : Str).cps.toList)) = true from f2]
      refine iteT ⟨_, rfl, _, rfl, rfl, rfl, ?_⟩
      have h37 : (!decide (V.int (((({ cps := #[c] } : Str).cps.getD 0 0 : Nat)) : Int) = V.int 37)) = true := by
        have : c ≠ 37 := hk.2.2
        have e : (({ cps := #[c] } : Str).cps.getD 0 0) = c := rfl
        rw [e, dec_int]
        have : ¬ ((c : Int) = 37) := by omega
        simpa using this
      rw [h37]; exact q
theorem for_str {z : Str} {g : TG} {tb : TS} {D : Ends} {σ : L2.St} {H : Hp} (Pv : Nat → L2.St → Hp → Prop) (h0 : Pv 0 σ H)
    (hs : ∀ (i : Nat) (c : Nat) (σ : L2.St) (H : Hp), z.cps[i]? = some c → Pv i σ H → g (.str ⟨#[c]⟩) σ H fun σ2 H2 => tb { D with nx := Pv (i + 1), ct := Pv (i + 1), bk := D.nx } σ2 H2) (hd : ∀ σ H, Pv z.cps.size σ H → D.nx σ H) :
    ∃ W : Nat → Nat → L2.St → Hp → Prop, (∃ m, W 0 m σ H) ∧ ∀ i m σ H, W i m σ H →
      ((Its z).stop i H ∧ D.nx σ H) ∨ ((Its z).go i H ∧ ∃ N : L2.St → Hp → Prop, (∀ σ' H', N σ' H' → ∃ m', m' < m ∧ W (i + 1) m' σ' H') ∧ ∀ v H', (Its z).yld i H v H' → g v σ H' fun σ2 H2 => tb { D with nx := N, ct := N, bk := D.nx } σ2 H2) := by
  refine ⟨fun i m σ H => m = z.cps.size - i ∧ i ≤ z.cps.size ∧ Pv i σ H, ⟨_, rfl, Nat.zero_le _, h0⟩, fun i m σ H w => ?_⟩
  obtain ⟨rfl, le, pv⟩ := w
  rcases Nat.lt_or_ge i z.cps.size with lt | ge
  · refine .inr ⟨lt, Pv (i + 1), fun σ' H' p' => ⟨z.cps.size - (i + 1), by omega, rfl, lt, p'⟩, ?_⟩
    rintro v H2 ⟨e2, c, ec, rfl⟩
    rw [e2]
    exact hs i c σ H ec pv
  · have e : i = z.cps.size := Nat.le_antisymm le ge
    exact .inl ⟨ge, hd σ H (e ▸ pv)⟩
theorem pre_ten {p : List Nat} (h : 10 ∉ p) (k : Nat) : TL.pre [10] (p.drop k) = false := by
  unfold TL.pre
  cases e : p.drop k with
  | nil => rfl
  | cons a r =>
    have ha : a ∈ p := List.mem_of_mem_drop (by rw [e]; exact List.mem_cons_self ..)
    have : a ≠ 10 := fun q => h (q ▸ ha)
    show ([a] == [10]) = false
    simpa using this
theorem pre_ten2 {p r : List Nat} (h : 10 ∉ p) {k : Nat} (hk : k < p.length) : TL.pre [10] ((p ++ ([10] ++ r)).drop k) = false := by
  unfold TL.pre
  rw [List.drop_append_of_le_length (Nat.le_of_lt hk)]
  cases e : p.drop k with
  | nil => have := congrArg List.length e; rw [List.length_drop] at this; simp at this; omega
  | cons a q =>
    have ha : a ∈ p := List.mem_of_mem_drop (by rw [e]; exact List.mem_cons_self ..)
    have : a ≠ 10 := fun q => h (q ▸ ha)
    show ([a] == [10]) = false
    simpa using this
theorem spl_full : ∀ ls : List (List Nat), (∀ l ∈ ls, 10 ∉ l) → TL.spl [10] 0 [] (fullT ls) = ls ++ [[]]
  | [], _ => rfl
  | a :: r, h => by
    have e : fullT (a :: r) = a ++ ([10] ++ fullT r) := by simp [fullT]
    rw [e, TL.spl_part (by simp) fun i hi => pre_ten2 (h a (List.mem_cons_self ..)) hi, spl_full r fun l hl => h l (List.mem_cons_of_mem _ hl)]
    rfl
theorem split_full (ls : List (List Nat)) (h : ∀ l ∈ ls, 10 ∉ l) : Txt.split (mkS (fullT ls)) "\n" = ls.map mkS ++ [Str.empty] := by
  have e := TL.split_spl (mkS (fullT ls)) "\n" (by decide +kernel) (TL.kind_ok (by decide +kernel))
  rw [show TL.tl ("\n" : Str) = [10] from rfl, show TL.tl (mkS (fullT ls)) = fullT ls from cs_mk _, spl_full ls h] at e
  have e2 : ((Txt.split (mkS (fullT ls)) "\n").map TL.tl).map mkS = (ls ++ [[]]).map mkS := by rw [e]
  rw [List.map_map] at e2
  rw [show (mkS ∘ TL.tl) = id from funext fun x => mk_cs x, List.map_id] at e2
  rw [e2, List.map_append]
  rfl
def spRowsOf : Sp := fun vs H Q _ => ∃ ls : List (List Nat), vs = [SV (fullT ls)] ∧ (fullT ls).length ≤ 6000 ∧ (∀ l ∈ ls, OkR l) ∧ ∀ p H', Same H H' → H p = none → H' p = some (.lst (ls.map SV)) → Q (.ref p) H'
theorem full_mem {ls : List (List Nat)} (h : ∀ l ∈ ls, OkR l) : ∀ c ∈ fullT ls, c = 10 ∨ okr c := fun c hc => by
  unfold fullT at hc
  obtain ⟨l, hl, hc⟩ := List.mem_flatten.mp hc
  obtain ⟨x, hx, rfl⟩ := List.mem_map.mp hl
  rcases List.mem_append.mp hc with h1 | h1
  · exact .inr (h x hx c h1)
  · exact .inl (List.mem_singleton.mp h1)
theorem sIx_m1 (n d : Nat) : HT.sIx n d (some (-1)) = ((-1 : Int) + (n : Int)).toNat := by
  show (if (-1 : Int) < 0 then ((-1 : Int) + (n : Int)).toNat else min (-1 : Int).toNat n) = _
  rw [if_pos (by decide)]
theorem ok_no10 {l : List Nat} (h : OkR l) : 10 ∉ l := fun hm => by have := (h 10 hm).1; omega
theorem ok_rows_of (T : Txt K mg) (G_is_allowed : FnOk P w K mg base CX0 1 T.a_is_allowed T.d_is_allowed ["sign"] spAllowed) : FnOk P w K mg base CX0 2 T.a_rows_of T.d_rows_of ["text"] spRowsOf := by
  refine T.F_rows_of.ok sc_rows_of (fun vs H Q E h => ?_) (fun cdv A outer s H vs Q E hr h => ?_)
  · obtain ⟨ls, rfl, _⟩ := h; rfl
  · obtain ⟨ls, rfl, hl, hk, q⟩ := h
    have hr_is_allowed := hr
    refine ⟨_, (pss_cons (ps_if (PW.pt (pw_or (pt_not (pt_val (pe_callB call_isi (by rfl) T.z_isinstance (by decide +kernel) (pa_cons (pv 0) (pa_cons (pe_bltn rfl T.z_str (by decide +kernel) (show RelV (V.ty "str") (Value.type "str") from rfl)) pa_nil))))) (pw_or1 (pt_cmpR op_gt (pe_callB call_len_str (by rfl) T.z_len (by decide +kernel) (pa_cons (pv 0) pa_nil)) (pe_glob (by rfl) T.g_MOST_TEXT (show RelV (V.int 6000) (.int 6000 T.t_MOST_TEXT) from ⟨_, rfl⟩)) (nomark _))))) (pss_one ps_never) pss_nil)
    (pss_cons (ps_for PassesOwn.never rfl (pi_str (pv 0)) (pg_name (i := 1) sc_rows_of.nd rfl (Or.inl rfl))
    (pss_one (ps_if (pt_not (pt_val (pe_call G_is_allowed hr_is_allowed rfl T.m_is_allowed T.F_is_allowed.kp T.b_is_allowed .nil pass0 (pa_cons (pv 1) pa_nil)))) (pss_one ps_never) pss_nil)))
    (pss_one (ps_ret (pe_slice sl_list (pe_split (pv 0) pe_str) po_none (po_some (pe_un un_neg pe_int))))))), ?_⟩
    have hlen : (mkS (fullT ls)).length = (fullT ls).length := mk_len _
    refine ⟨_, rfl, _, _, .type "str", _, true, rfl, .ty _, .base (.str _), kit_ty (show kitB "str" "str" = some true by decide +kernel), _, rfl, iteF ?_⟩
    refine ⟨_, rfl, _, rfl, small7 (by omega), _, _, rfl, rfl, _, rfl, ?_⟩
    rw [show decide ((6000 : Int) < ((mkS (fullT ls)).length : Int)) = false from decide_eq_false (by omega)]
    refine iteF ⟨_, rfl, _, rfl, ?_⟩
    refine for_str (fun i σ H' => ∃ y, σ = [some (SV (fullT ls)), y] ∧ H' = H) ?_ ?_ ?_
    · exact ⟨_, rfl, rfl⟩
    · rintro i c σ H' hc ⟨y, rfl, rfl⟩
      have hm : c ∈ fullT ls := by
        have := Array.mem_of_getElem? hc
        simpa [mkS] using this
      refine ⟨_, rfl, c, rfl, full_mem hk c hm, _, rfl, iteF ⟨_, rfl, rfl⟩⟩
    · rintro σ H' ⟨y, rfl, rfl⟩
      have hsp := split_full ls fun l hl => ok_no10 (hk l hl)
      refine ⟨_, rfl, ⟨_, rfl⟩, _, _, rfl, rfl, rfl, by rw [hlen]; exact small7 (by omega), fun p hp => ⟨_, rfl, _, rfl, p, _, rfl, SqL.of upd_same, fun p2 hp2 => ?_⟩⟩
      have s1 := same_upd hp (.lst ((Txt.split (mkS (fullT ls)) "\n").map V.str))
      refine q p2 _ (s1.trans (same_upd hp2 _)) (s1.free hp2) ?_
      rw [upd_same, hsp]
      congr 2
      unfold cutV
      rw [List.map_append, List.map_map]
      have e1 : HT.sIx ((ls.map (V.str ∘ mkS)) ++ [Str.empty].map V.str).length ((ls.map (V.str ∘ mkS)) ++ [Str.empty].map V.str).length (some (-1)) = ls.length := by
        rw [sIx_m1]
        simp only [List.length_append, List.length_map, List.length_cons, List.length_nil]
        omega
      rw [e1, HT.sIx_none, List.drop_zero, Nat.sub_zero, List.take_left' (by rw [List.length_map])]
      rfl
/-! ### tokens -/
def wl : List Nat → Nat
  | [] => 0
  | c :: r => if isAl c = true then wl r + 1 else 0
def tlen (l : List Nat) : Nat := if 0 < wl l then wl l else if l.take 2 = [45, 62] then 2 else 1
theorem wl_no {c : Nat} {l : List Nat} (h : isAl c = false) : wl (c :: l) = 0 := by
  show (if isAl c = true then wl l + 1 else 0) = 0
  rw [h]; rfl
theorem wl_yes {c : Nat} {l : List Nat} (h : isAl c = true) : wl (c :: l) = wl l + 1 := by
  show (if isAl c = true then wl l + 1 else 0) = _
  rw [h]; rfl
theorem wl_app {w l : List Nat} (h : ∀ c ∈ w, isAl c = true) (s : Stp l) : wl (w ++ l) = w.length := by
  induction w with
  | nil =>
    cases l with
    | nil => rfl
    | cons c r => exact wl_no (s c r rfl)
  | cons a w ih => rw [List.cons_append, wl_yes (h a (List.mem_cons_self ..)), ih fun c hc => h c (List.mem_cons_of_mem _ hc)]; rfl
theorem wl_le : ∀ l : List Nat, wl l ≤ l.length
  | [] => Nat.le_refl _
  | c :: r => by
    have := wl_le r
    cases h : isAl c with
    | true => rw [wl_yes h, List.length_cons]; omega
    | false => rw [wl_no h]; exact Nat.zero_le _
theorem wl_al : ∀ {l : List Nat} {j c : Nat}, j < wl l → l[j]? = some c → isAl c = true
  | a :: r, j, c, h, e => by
    cases ha : isAl a with
    | false => rw [wl_no ha] at h; omega
    | true =>
      rw [wl_yes ha] at h
      cases j with
      | zero => cases e; exact ha
      | succ j => exact wl_al (l := r) (j := j) (by omega) (by simpa using e)
theorem wl_end : ∀ {l : List Nat} {c : Nat}, l[wl l]? = some c → isAl c = false
  | [], c, e => by simp [wl] at e
  | a :: r, c, e => by
    cases ha : isAl a with
    | false => rw [wl_no ha] at e; cases e; exact ha
    | true => rw [wl_yes ha] at e; exact wl_end (l := r) (by simpa using e)
theorem isal_one (c : Nat) : Txt.isalnum ⟨#[c]⟩ = isAl c := by simp [Txt.isalnum, Str.length]
theorem sw3 {x : List Nat} {k : Nat} (h : k ≤ x.length) : Txt.startswith3 (mkS x) "->" (k : Int) = decide ((x.drop k).take 2 = [45, 62]) := by
  have hf : fromIndex (mkS x).length (k : Int) = k := by unfold fromIndex; split <;> omega
  unfold Txt.startswith3
  rw [hf, StrLaws.subAt_eq, mk_len, show (mkS x).cps.toList = x from cs_mk x, show ("->" : Str).length = 2 from rfl, show ("->" : Str).cps.toList = [45, 62] from rfl]
  by_cases h2 : (x.drop k).take 2 = [45, 62]
  · have := congrArg List.length h2
    rw [List.length_take, List.length_drop] at this
    rw [decide_eq_true h2, decide_eq_true (show k + 2 ≤ x.length by simp at this; omega), h2]
    rfl
  · rw [decide_eq_false h2, show ((x.drop k).take 2 == [45, 62]) = false by simpa using h2, Bool.and_false]
def spEnd : Sp := fun vs H Q _ => ∃ (x : List Nat) (k : Nat), vs = [SV x, .int k] ∧ k < x.length ∧ x.length ≤ 10000 ∧ Q (.int ((k + tlen (x.drop k) : Nat) : Int)) H
theorem at_drop {x : List Nat} {k j : Nat} : (x.drop k)[j]? = x[k + j]? := List.getElem?_drop ..
theorem ok_token_end (T : Txt K mg)  : FnOk P w K mg base CX0 1 T.a_token_end T.d_token_end ["row", "start"] spEnd := by
  refine T.F_token_end.ok sc_token_end (fun vs H Q E h => ?_) (fun cdv A outer s H vs Q E hr h => ?_)
  · obtain ⟨x, k, rfl, _⟩ := h; rfl
  · obtain ⟨x, k, rfl, hk, hl, q⟩ := h
    refine ⟨_, (pss_cons (ps_set (i := 2) sc_token_end.nd rfl (Or.inl rfl) (pv 1))
    (Evl.pss_cut (ps_while PassesOwn.never (PW.pt (pw_and (pt_cmpR op_lt (pv 2) (pe_callB call_len_str (by rfl) T.z_len (by decide +kernel) (pa_cons (pv 0) pa_nil)) (nomark _)) (pw_and1 (pt_val (pe_m0 PySem.F.slot_str_isalnum PySem.F.type_str_isalnum mt_isalnum (pe_ix ix_str (pv 0) (pv 2) (fun _ _ => rfl)))))))
    (pss_one (ps_aug (i := 2) sc_token_end.nd rfl (Or.inl rfl) pe_int ip_add)))
    (pss_cons (ps_if (pt_cmpR op_gt (pv 2) (pv 1) (nomark _)) (pss_one (ps_ret (pv 2))) pss_nil)
    (pss_one (ps_ret (pe_ifExp (pt_val (pe_bm PySem.F.plainAttrs_str PySem.F.slot_str_startswith PySem.F.type_str_startswith mt_startswith3 (pv 0) (pa_cons pe_str (pa_cons (pv 1) pa_nil)))) (pe_op op_add (pv 1) pe_int) (pe_op op_add (pv 1) pe_int))))))), ?_⟩
    have hlen : (mkS x).length = x.length := mk_len _
    have hwl := wl_le (x.drop k)
    rw [List.length_drop] at hwl
    refine ⟨_, rfl, ?_⟩
    have hdl : (x.drop k).length = x.length - k := List.length_drop ..
    refine ⟨fun σ H' => σ = [some (SV x), some (.int k), some (.int ((k + wl (x.drop k) : Nat) : Int))] ∧ H' = H, ?_, ?_⟩
    · refine ⟨fun m σ H' => ∃ j, σ = [some (SV x), some (.int k), some (.int ((k + j : Nat) : Int))] ∧ H' = H ∧ j ≤ wl (x.drop k) ∧ m = wl (x.drop k) - j, ⟨_, 0, rfl, rfl, Nat.zero_le _, rfl⟩, ?_⟩
      rintro m σ H' ⟨j, rfl, rfl, hj, rfl⟩
      refine ⟨_, rfl, _, rfl, _, rfl, small7 (by omega), _, _, rfl, rfl, _, rfl, ?_⟩
      by_cases hjl : k + j < x.length
      case neg =>
        rw [show decide (((k + j : Nat) : Int) < ((mkS x).length : Int)) = false from decide_eq_false (by omega)]
        have : j = wl (x.drop k) := by omega
        exact iteF (iteF ⟨by rw [this], rfl⟩)
      rw [show decide (((k + j : Nat) : Int) < ((mkS x).length : Int)) = true from decide_eq_true (by omega)]
      obtain ⟨c, hc⟩ : ∃ c, x[k + j]? = some c := ⟨_, List.getElem?_eq_getElem hjl⟩
      refine iteT ⟨_, rfl, _, rfl, mkS x, ((k + j : Nat) : Int), c, rfl, rfl, small7 (by omega), atI_nat (by show (cs (mkS x))[k + j]? = _; rw [cs_mk]; exact hc), ⟨_, rfl⟩, _, rfl, rfl, trivial, _, rfl, ?_⟩
      rw [isal_one]
      by_cases hw : j < wl (x.drop k)
      case pos =>
        rw [wl_al hw (by rw [at_drop]; exact hc)]
        refine iteT ⟨fun σ H2 => ∃ j', σ = [some (SV x), some (.int k), some (.int ((k + j' : Nat) : Int))] ∧ H2 = H' ∧ j' = j + 1, fun σ' H' ⟨j', r1, r2, r3⟩ => ⟨wl (x.drop k) - j', by omega, j', r1, r2, by omega, rfl⟩, ?_⟩
        exact ⟨_, rfl, _, _, rfl, rfl, j + 1, rfl, rfl, rfl⟩
      have hje : j = wl (x.drop k) := by omega
      rw [wl_end (by rw [← hje, at_drop]; exact hc)]
      exact iteF ⟨by rw [hje], rfl⟩
    · rintro σ H' ⟨rfl, rfl⟩
      refine ⟨_, rfl, _, rfl, _, _, rfl, rfl, _, rfl, ?_⟩
      by_cases h0 : 0 < wl (x.drop k)
      case pos =>
        rw [show decide ((k : Int) < ((k + wl (x.drop k) : Nat) : Int)) = true from decide_eq_true (by omega)]
        rw [show tlen (x.drop k) = wl (x.drop k) from if_pos h0] at q
        exact iteT ⟨_, rfl, q⟩
      rw [show decide ((k : Int) < ((k + wl (x.drop k) : Nat) : Int)) = false from decide_eq_false (by omega)]
      rw [show tlen (x.drop k) = if (x.drop k).take 2 = [45, 62] then 2 else 1 from if_neg h0] at q
      refine iteF ⟨_, rfl, rfl, _, rfl, mkS x, "->", (k : Int), rfl, rfl, _, rfl, ?_⟩
      rw [sw3 (by omega)]
      by_cases h2 : (x.drop k).take 2 = [45, 62]
      · rw [if_pos h2] at q
        rw [decide_eq_true h2]
        exact iteT ⟨_, rfl, _, _, rfl, rfl, q⟩
      · rw [if_neg h2] at q
        rw [decide_eq_false h2]
        exact iteF ⟨_, rfl, _, _, rfl, rfl, q⟩
theorem toks_step {l : List Nat} {T : List (List Nat)} (h : Toks l T) (ne : l ≠ []) : 0 < tlen l ∧ tlen l ≤ l.length ∧ ((l[0]? = some 32 ∧ Toks (l.drop (tlen l)) T) ∨ (l[0]? ≠ some 32 ∧ ∃ T3, T = l.take (tlen l) :: T3 ∧ Toks (l.drop (tlen l)) T3)) := by
  cases h with
  | nil => exact absurd rfl ne
  | @sp l T h =>
    have e : tlen (32 :: l) = 1 := by
      unfold tlen
      rw [wl_no al_32, if_neg (by omega), if_neg (by simp)]
    rw [e]
    exact ⟨by decide, by simp, .inl ⟨rfl, h⟩⟩
  | @word w l T n a st h =>
    have hp : 0 < w.length := List.length_pos_iff.mpr n
    have e : tlen (w ++ l) = w.length := by
      unfold tlen
      rw [wl_app a st, if_pos hp]
    rw [e]
    refine ⟨hp, by rw [List.length_append]; omega, .inr ⟨fun q => ?_, T, ?_, ?_⟩⟩
    · cases w with
      | nil => exact n rfl
      | cons b r =>
        cases q
        have := a 32 (List.mem_cons_self ..)
        rw [show isAl 32 = false from al_32] at this
        cases this
    · rw [List.take_left]
    · rw [List.drop_left]; exact h
  | @arrow l T h =>
    have e : tlen (45 :: 62 :: l) = 2 := by
      unfold tlen
      rw [wl_no al_45, if_neg (by omega), if_pos (by simp)]
    rw [e]
    exact ⟨by decide, by simp, .inr ⟨by simp, T, rfl, h⟩⟩
  | @sign c l T a n m h =>
    have e : tlen (c :: l) = 1 := by
      unfold tlen
      rw [wl_no a, if_neg (by omega), if_neg (by
        intro q
        cases l with
        | nil => simp at q
        | cons d r => simp only [List.take_succ_cons, List.cons.injEq] at q; exact m q.1)]
    rw [e]
    exact ⟨by decide, by simp, .inr ⟨by simpa using n, T, rfl, h⟩⟩
theorem small7k {n : Nat} (h : n ≤ 7000) : n < sizeLine := by rw [sizeLine_eq]; omega
def spTokens : Sp := fun vs H Q _ => ∃ (x : List Nat) (T : List (List Nat)), vs = [SV x] ∧ Toks x T ∧ x.length ≤ 6000 ∧ ∀ p H', H p = none → Same H H' → H' p = some (.lst (T.map SV)) → T.length ≤ 6000 → Q (.ref p) H'
theorem cut_mid {x : List Nat} {k e : Nat} (h1 : k ≤ e) (h2 : e ≤ x.length) : cutS (mkS x) (some (k : Int)) (some (e : Int)) = mkS ((x.drop k).take (e - k)) := by
  unfold cutS
  rw [HT.sIx_nat, HT.sIx_nat, mk_len, Nat.min_eq_left h2, Nat.min_eq_left (Nat.le_trans h1 h2)]
  rfl
theorem ok_tokens_of (T : Txt K mg) (G_token_end : FnOk P w K mg base CX0 1 T.a_token_end T.d_token_end ["row", "start"] spEnd) : FnOk P w K mg base CX0 2 T.a_tokens_of T.d_tokens_of ["row"] spTokens := by
  refine T.F_tokens_of.ok sc_tokens_of (fun vs H Q E h => ?_) (fun cdv A outer s H vs Q E hr h => ?_)
  · obtain ⟨x, U, rfl, _⟩ := h; rfl
  · obtain ⟨x, U, rfl, hT, hl, q⟩ := h
    have hr_token_end := hr
    refine ⟨_, (pss_cons (ps_set (i := 1) sc_tokens_of.nd rfl (Or.inl rfl) (pe_lst pa_nil))
    (pss_cons (ps_set (i := 2) sc_tokens_of.nd rfl (Or.inl rfl) pe_int)
    (pss_cons (ps_while PassesOwn.never (pt_cmpR op_lt (pv 2) (pe_callB call_len_str (by rfl) T.z_len (by decide +kernel) (pa_cons (pv 0) pa_nil)) (nomark _))
    (pss_cons (ps_set (i := 3) sc_tokens_of.nd rfl (Or.inl rfl) (pe_call G_token_end hr_token_end rfl T.m_token_end T.F_token_end.kp T.b_token_end .nil pass0 (pa_cons (pv 0) (pa_cons (pv 2) pa_nil))))
    (pss_cons (ps_if (pt_cmpR op_ne (pe_ix ix_str (pv 0) (pv 2) (fun _ _ => rfl)) pe_str (nomark _)) (pss_one (ps_expr (pe_bm PySem.F.plainAttrs_list PySem.F.slot_list_append PySem.F.type_list_append mt_append (pv 1) (pa_cons (pe_slice sl_str (pv 0) (po_some (pv 2)) (po_some (pv 3))) pa_nil)))) pss_nil)
    (pss_one (ps_set (i := 2) sc_tokens_of.nd rfl (Or.inl rfl) (pv 3))))))
    (pss_one (ps_ret (pv 1)))))), ?_⟩
    have hlen : (mkS x).length = x.length := mk_len _
    refine ⟨by decide, fun p hp => ?_⟩
    refine ⟨fun m σ H' => ∃ (k : Nat) (T1 T2 : List (List Nat)) (y : Option V), σ = [some (SV x), some (.ref p), some (.int k), y] ∧ k ≤ x.length ∧ Toks (x.drop k) T2 ∧ U = T1 ++ T2 ∧ T1.length ≤ k ∧ Same H H' ∧ H' p = some (.lst (T1.map SV)) ∧ m = x.length - k, ⟨_, 0, [], U, _, rfl, Nat.zero_le _, hT, rfl, Nat.zero_le _, same_upd hp _, upd_same, rfl⟩, ?_⟩
    rintro m σ H' ⟨k, T1, T2, y, rfl, hk, hT2, rfl, h1, s1, e1, rfl⟩
    refine ⟨_, rfl, _, rfl, _, rfl, small7 (by omega), _, _, rfl, rfl, _, rfl, ?_⟩
    by_cases hkl : k < x.length
    case neg =>
      rw [show decide ((k : Int) < ((mkS x).length : Int)) = false from decide_eq_false (by omega)]
      have e0 : x.drop k = [] := List.drop_eq_nil_of_le (by omega)
      rw [e0] at hT2
      have : T2 = [] := by
        generalize hz : ([] : List Nat) = z at hT2
        cases hT2 with
        | nil => rfl
        | sp h => cases hz
        | word n a e h =>
          have := congrArg List.length hz
          rw [List.length_append] at this
          have := List.length_pos_iff.mpr n
          simp at *
          omega
        | arrow h => cases hz
        | sign a n m h => cases hz
      subst this
      rw [List.append_nil] at q
      exact iteF ⟨_, rfl, q p H' hp s1 e1 (by omega)⟩
    rw [show decide ((k : Int) < ((mkS x).length : Int)) = true from decide_eq_true (by omega)]
    have ne : x.drop k ≠ [] := fun e => by have := congrArg List.length e; rw [List.length_drop] at this; simp at this; omega
    obtain ⟨t0, t1, hor⟩ := toks_step hT2 ne
    have hdl : (x.drop k).length = x.length - k := List.length_drop ..
    have dd : (x.drop k).drop (tlen (x.drop k)) = x.drop (k + tlen (x.drop k)) := List.drop_drop ..
    obtain ⟨c, hc⟩ : ∃ c, x[k]? = some c := ⟨_, List.getElem?_eq_getElem hkl⟩
    have hc0 : (x.drop k)[0]? = some c := by rw [at_drop]; exact hc
    refine iteT ⟨fun σ' H2 => ∃ (T3 T4 : List (List Nat)) (y : Option V), σ' = [some (SV x), some (.ref p), some (.int ((k + tlen (x.drop k) : Nat) : Int)), y] ∧ Toks (x.drop (k + tlen (x.drop k))) T4 ∧ T1 ++ T2 = T3 ++ T4 ∧ T3.length ≤ k + tlen (x.drop k) ∧ Same H H2 ∧ H2 p = some (.lst (T3.map SV)),
      fun σ' H2 ⟨T3, T4, y, r1, r2, r3, r4, r5, r6⟩ => ⟨x.length - (k + tlen (x.drop k)), by omega, _, T3, T4, y, r1, by omega, r2, r3, r4, r5, r6, rfl⟩, ?_⟩
    refine ⟨_, rfl, _, rfl, x, k, rfl, hkl, by omega, ?_⟩
    refine ⟨_, rfl, _, rfl, mkS x, (k : Int), c, rfl, rfl, small7 (by omega), atI_nat (by show (cs (mkS x))[k]? = _; rw [cs_mk]; exact hc), rfl, _, rfl, ?_⟩
    rcases hor with ⟨h32, hT3⟩ | ⟨h32, T3, rfl, hT3⟩
    · rw [hc0] at h32
      cases h32
      rw [show (!decide (V.str ⟨#[32]⟩ = V.str " ")) = false by decide]
      rw [dd] at hT3
      exact iteF ⟨_, rfl, T1, T2, _, rfl, hT3, rfl, by omega, s1, e1⟩
    · have nc : c ≠ 32 := fun e => h32 (by rw [hc0, e])
      rw [show (!decide (V.str ⟨#[c]⟩ = V.str " ")) = true by
        have : ¬ (V.str ⟨#[c]⟩ = V.str " ") := fun e => by
          have e3 : [c] = [32] := congrArg cs (V.str.inj e)
          exact nc (by simpa using e3)
        simpa using this]
      rw [dd] at hT3
      refine iteT ⟨_, rfl, .inl ⟨rfl, _, SqL.of e1⟩, _, rfl, _, rfl, _, rfl, _, rfl, _, rfl, mkS x, rfl, small7 (by omega), ?_⟩
      rw [cut_mid (by omega) (by omega), show k + tlen (x.drop k) - k = tlen (x.drop k) by omega]
      refine ⟨p, _, _, rfl, rfl, e1, ?_, _, rfl, T1 ++ [(x.drop k).take (tlen (x.drop k))], T3, _, rfl, hT3, by simp, ?_, Kx.Same.own s1 hp _, ?_⟩
      · rw [List.length_map]; exact small7k (by omega)
      · rw [List.length_append, List.length_singleton]; omega
      · rw [upd_same, List.map_append]; rfl
end
end Kx
namespace Kx
open PySem PySem.Spec PyProof.Rows L2
section
variable {P : Program} {w : World} {K : PySem.W.Frag} {mg : Str → Option Value} {base : Heap}
set_option pp.maxSteps 1200
/-! ### numbers, parentheses -/
def spNumber : Sp := fun vs H Q _ => ∃ n : Nat, vs = [SV (num n)] ∧ n < 100 ∧ Q (.bl true) H
theorem num_facts : ∀ n : Nat, n < 100 → Txt.isdigit (mkS (num n)) = true ∧ (mkS (num n)).length ≤ 2 ∧ 1 ≤ (num n).length ∧ (mkS (num n) = "0" ∨ (num n).head? ≠ some 48) ∧ PySem.intText? (mkS (num n)) = some (n : Int) := by decide +kernel
theorem ok_is_number (T : Txt K mg)  : FnOk P w K mg base CX0 1 T.a_is_number T.d_is_number ["token"] spNumber := by
  refine T.F_is_number.ok sc_is_number (fun vs H Q E h => ?_) (fun cdv A outer s H vs Q E hr h => ?_)
  · obtain ⟨n, rfl, _⟩ := h; rfl
  · obtain ⟨n, rfl, hn, q⟩ := h
    refine ⟨_, (pss_cons (ps_if (PW.pt (pw_or (pt_not (pt_val (pe_m0 PySem.F.slot_str_isdigit PySem.F.type_str_isdigit mt_isdigit (pv 0)))) (pw_or1 (pt_cmpR op_gt (pe_callB call_len_str (by rfl) T.z_len (by decide +kernel) (pa_cons (pv 0) pa_nil)) (pe_glob (by rfl) T.g_MOST_DIGITS (show RelV (V.int 2) (.int 2 T.t_MOST_DIGITS) from ⟨_, rfl⟩)) (nomark _))))) (pss_one (ps_ret pe_bl)) pss_nil)
    (pss_one (ps_ret (pe_or (pe_cmpR op_eq (pv 0) pe_str (nomark _)) (pe_one (pe_cmpR op_ne (pe_ix ix_str (pv 0) pe_int (fun _ _ => rfl)) pe_str (nomark _))))))), ?_⟩
    obtain ⟨f1, f2, f3, f4, _⟩ := num_facts n hn
    refine ⟨_, rfl, ⟨_, rfl⟩, mkS (num n), rfl, rfl, trivial, _, rfl, ?_⟩
    rw [f1]
    refine iteF ⟨_, rfl, _, rfl, small7 (by omega), _, _, rfl, rfl, _, rfl, ?_⟩
    rw [show decide ((2 : Int) < ((mkS (num n)).length : Int)) = false from decide_eq_false (by omega)]
    refine iteF ⟨_, rfl, rfl, _, rfl, ?_⟩
    by_cases h0 : mkS (num n) = "0"
    · rw [show decide (SV (num n) = V.str "0") = true from decide_eq_true (by unfold SV; rw [h0])]
      exact iteT q
    · rw [show decide (SV (num n) = V.str "0") = false from decide_eq_false (fun e => h0 (V.str.inj e))]
      obtain ⟨c, r, hc⟩ : ∃ c r, num n = c :: r := by cases e : num n with | nil => rw [e] at f3; simp at f3 | cons c r => exact ⟨c, r, rfl⟩
      have nc : c ≠ 48 := fun e => by
        rcases f4 with f4 | f4
        · exact h0 f4
        · rw [hc, e] at f4; exact f4 rfl
      refine iteF ⟨_, rfl, mkS (num n), 0, c, rfl, rfl, small7 (by omega), atI_nat (j := 0) (by show (cs (mkS (num n)))[0]? = _; rw [cs_mk, hc]; rfl), rfl, ?_⟩
      have : (!decide (V.str ⟨#[c]⟩ = V.str "0")) = true := by
        have : ¬ (V.str ⟨#[c]⟩ = V.str "0") := fun e => by
          have e3 : [c] = [48] := congrArg cs (V.str.inj e)
          exact nc (by simpa using e3)
        simpa using this
      rw [this]; exact q
theorem sv_eq (a b : List Nat) : decide (SV a = SV b) = decide (a = b) := by
  apply decide_eq_decide.mpr
  constructor
  · intro h
    have := congrArg cs (V.str.inj h)
    rwa [cs_mk, cs_mk] at this
  · intro h; rw [h]
theorem sv_lit (a : List Nat) (z : Str) : decide (SV a = V.str z) = decide (a = cs z) := by
  have := sv_eq a (cs z)
  rw [show SV (cs z) = V.str z by unfold SV; rw [mk_cs]] at this
  exact this
def net (U : List (List Nat)) : Int := (U.count [40] : Int) - (U.count [41] : Int)
/-- no more than 40 stand open -/
def NetOk (U : List (List Nat)) : Prop := ∀ i, net (U.take i) ≤ 40
theorem net_snoc (U : List (List Nat)) (t : List Nat) : net (U ++ [t]) = net U + net [t] := by
  unfold net
  rw [List.count_append, List.count_append]
  omega
theorem NetOk.of {U : List (List Nat)} (h : opn U ≤ 40) : NetOk U := fun i => by
  have h1 : opn U = opn (U.take i) + opn (U.drop i) := by rw [← opn_app, List.take_append_drop]
  unfold net
  unfold opn at h h1
  omega
def spMost : Sp := fun vs H Q _ => ∃ (p : Addr) (U : List (List Nat)), vs = [.ref p] ∧ H p = some (.lst (U.map SV)) ∧ ∀ m : Int, (∀ i, i ≤ U.length → net (U.take i) ≤ m) → (NetOk U → m ≤ 40) → Q (.int m) H
theorem ok_most_open (T : Txt K mg)  : FnOk P w K mg base CX0 1 T.a_most_open T.d_most_open ["tokens"] spMost := by
  refine T.F_most_open.ok sc_most_open (fun vs H Q E h => ?_) (fun cdv A outer s H vs Q E hr h => ?_)
  · obtain ⟨p, U, rfl, _⟩ := h; rfl
  · obtain ⟨p, U, rfl, e, q⟩ := h
    refine ⟨_, (pss_cons (ps_set (i := 1) sc_most_open.nd rfl (Or.inl rfl) pe_int)
    (pss_cons (ps_set (i := 2) sc_most_open.nd rfl (Or.inl rfl) pe_int)
    (pss_cons (ps_for PassesOwn.never rfl (pi_list (pv 0)) (pg_name (i := 3) sc_most_open.nd rfl (Or.inl rfl))
    (pss_cons (ps_if (pt_cmpR op_eq (pv 3) pe_str (nomark _)) (pss_one (ps_aug (i := 1) sc_most_open.nd rfl (Or.inl rfl) pe_int ip_add)) (pss_one (ps_if (pt_cmpR op_eq (pv 3) pe_str (nomark _)) (pss_one (ps_aug (i := 1) sc_most_open.nd rfl (Or.inl rfl) pe_int ip_sub)) pss_nil)))
    (pss_one (ps_set (i := 2) sc_most_open.nd rfl (Or.inl rfl) (pe_callB (call_max2 rfl) (by rfl) T.z_max (by decide +kernel) (pa_cons (pv 2) (pa_cons (pv 1) pa_nil)))))))
    (pss_one (ps_ret (pv 2)))))), ?_⟩
    refine ⟨_, rfl, p, rfl, ⟨_, SqL.of e⟩, ?_⟩
    refine for_list (K := K) (a := p) (xs := U.map SV) (fun i σ H' => ∃ (c m : Int) (y : Option V), σ = [some (.ref p), some (.int c), some (.int m), y] ∧ H' = H ∧ c = net (U.take i) ∧ (∀ j, j ≤ i → net (U.take j) ≤ m) ∧ (NetOk U → m ≤ 40)) ?_ ?_ ?_ ?_
    · refine ⟨0, 0, _, rfl, rfl, rfl, fun j hj => ?_, fun _ => by decide⟩
      have : j = 0 := by omega
      subst this
      exact Int.le_refl _
    · exact fun i σ H' _ ⟨_, _, _, _, e2, _⟩ => by rw [e2]; exact SqL.of e
    · rintro i x σ H' hx ⟨c, m, y, rfl, rfl, hc, hm, hk⟩
      obtain ⟨t, ht, rfl⟩ := map_at hx
      have tk : U.take (i + 1) = U.take i ++ [t] := by rw [List.take_add_one, ht]; rfl
      have o1 : net (U.take (i + 1)) = net (U.take i) + net [t] := by rw [tk, net_snoc]
      have fin : ∀ c' : Int, c' = net (U.take (i + 1)) → (∀ j, j ≤ i + 1 → net (U.take j) ≤ (if c' > m then c' else m)) ∧ (NetOk U → (if c' > m then c' else m) ≤ 40) := fun c' h => by
        refine ⟨fun j hj => ?_, fun k => ?_⟩
        · by_cases e1 : j = i + 1
          · rw [e1, ← h]
            split <;> omega
          · have := hm j (by omega)
            split <;> omega
        · have h1 := hk k
          have h2 := k (i + 1)
          rw [← h] at h2
          split
          · exact h2
          · exact h1
      refine ⟨_, rfl, rfl, _, rfl, ?_⟩
      rw [sv_lit]
      by_cases h1 : t = cs "("
      · rw [decide_eq_true h1]
        have : net [t] = 1 := by rw [h1]; decide
        refine iteT ⟨_, rfl, _, _, rfl, rfl, _, rfl, _, rfl, _, _, rfl, ?_⟩
        have hc' : (fun i j => (i + j : Int)) c 1 = net (U.take (i + 1)) := by show c + 1 = _; omega
        exact ⟨_, _, _, rfl, rfl, hc', fin _ hc'⟩
      · rw [decide_eq_false h1]
        refine iteF ⟨_, rfl, rfl, _, rfl, ?_⟩
        rw [sv_lit]
        by_cases h2 : t = cs ")"
        · rw [decide_eq_true h2]
          have : net [t] = -1 := by rw [h2]; decide
          refine iteT ⟨_, rfl, _, _, rfl, rfl, _, rfl, _, rfl, _, _, rfl, ?_⟩
          have hc' : (fun i j => (i - j : Int)) c 1 = net (U.take (i + 1)) := by show c - 1 = _; omega
          exact ⟨_, _, _, rfl, rfl, hc', fin _ hc'⟩
        · rw [decide_eq_false h2]
          have : net [t] = 0 := by
            have h1' : ¬ t = [40] := h1
            have h2' : ¬ t = [41] := h2
            unfold net
            rw [List.count_singleton, List.count_singleton]
            simp [h1', h2']
          refine iteF ⟨_, rfl, _, rfl, _, _, rfl, ?_⟩
          exact ⟨_, _, _, rfl, rfl, by omega, fin _ (by omega)⟩
    · rintro σ H' ⟨c, m, y, rfl, rfl, hc, hm, hk⟩
      rw [List.length_map] at hm
      exact ⟨_, rfl, q m hm hk⟩
/-! ### a line -/
def lnD (n : Int) (i : Nat) (l : Addr) : List (Str × V) := [("number", .int n), ("at", .int i), ("tokens", .ref l)]
structure LnAt (C o dx l : Addr) (n : Int) (i : Nat) (U : List (List Nat)) (H : Hp) : Prop where
  ins : H o = some (.ins C dx (lnD n i l))
  lst : H l = some (.lst (U.map SV))
  len : U.length ≤ 6000
  ok : ∀ t ∈ U, Ok t
/-- all but the line stands -/
def Lx (o : Addr) (H H' : Hp) : Prop := ∀ b u, b ≠ o → H b = some u → H' b = some u
theorem Lx.refl (o : Addr) (H : Hp) : Lx o H H := fun _ _ _ h => h
theorem Lx.trans {o : Addr} {H H1 H2 : Hp} (a : Lx o H H1) (b : Lx o H1 H2) : Lx o H H2 := fun c u n h => b c u n (a c u n h)
theorem Lx.of {o : Addr} {H H' : Hp} (s : Same H H') : Lx o H H' := fun b u _ h => s b u h
theorem Lx.own {o p : Addr} {H H1 : Hp} (x : Lx o H H1) (hp : H p = none) (u : HO) : Lx o H (upd H1 p u) := fun b v n h => by rw [upd_ne (ne_of_none h hp)]; exact x b v n h
section
variable {C o dx l : Addr} {n : Int} {i : Nat} {U : List (List Nat)} {H H' : Hp}
theorem LnAt.ne (L : LnAt C o dx l n i U H) : l ≠ o := fun e => by have := L.lst; rw [e, L.ins] at this; cases this
theorem LnAt.same (L : LnAt C o dx l n i U H) (s : Same H H') : LnAt C o dx l n i U H' := ⟨s _ _ L.ins, s _ _ L.lst, L.len, L.ok⟩
theorem LnAt.tk (L : LnAt C o dx l n i U H) (x : Lx o H H') : Tk H H' := fun a vs h => x a _ (fun q => by rw [q, L.ins] at h; cases h) h
theorem LnAt.put (L : LnAt C o dx l n i U H) (j : Nat) : LnAt C o dx l n j U (upd H o (.ins C dx (lnD n j l))) ∧ Lx o H (upd H o (.ins C dx (lnD n j l))) :=
  ⟨⟨upd_same, by rw [upd_ne L.ne]; exact L.lst, L.len, L.ok⟩, fun b u nb h => by rw [upd_ne nb]; exact h⟩
end
theorem get_drop {U R : List (List Nat)} {i : Nat} {t : List Nat} (h : U.drop i = t :: R) : U[i]? = some t ∧ U.drop (i + 1) = R ∧ i < U.length := by
  have h0 : (U.drop i)[0]? = some t := by rw [h]; rfl
  rw [List.getElem?_drop] at h0
  refine ⟨h0, ?_, (List.getElem?_eq_some_iff.mp h0).1⟩
  rw [← List.drop_drop, h]; rfl
theorem drop_app {U X R : List (List Nat)} {i : Nat} (h : U.drop i = X ++ R) : U.drop (i + X.length) = R := by
  rw [← List.drop_drop, h, List.drop_left]
def spTake (C : Addr) : Sp := fun vs H Q _ => ∃ (o dx l : Addr) (n : Int) (i : Nat) (U : List (List Nat)) (t : List Nat), vs = [.ref o] ∧ LnAt C o dx l n i U H ∧ U[i]? = some t ∧ ∀ H', Lx o H H' → LnAt C o dx l n (i + 1) U H' → Q (SV t) H'
theorem ok_Line_take (T : Txt K mg)  : FnOk P w K mg base CX0 1 T.a_Line_take T.d_Line_take ["self"] (spTake T.c_Line) := by
  refine T.F_Line_take.ok sc_Line_take (fun vs H Q E h => ?_) (fun cdv A outer s H vs Q E hr h => ?_)
  · obtain ⟨o, dx, l, n, i, U, t, rfl, _⟩ := h; rfl
  · obtain ⟨o, dx, l, n, i, U, t, rfl, L, ht, q⟩ := h
    refine ⟨_, (pss_cons (ps_if (pt_cmpR op_eq (pe_fld (pv 0) rfl) (pe_callB call_len_seq (by rfl) T.z_len (by decide +kernel) (pa_cons (pe_fld (pv 0) rfl) pa_nil)) (nomark _)) (pss_one ps_never) pss_nil)
    (pss_cons (ps_fldaug (pv 0) pe_int in_add)
    (pss_one (ps_ret (pe_ix ix_list (pe_fld (pv 0) rfl) (pe_op op_sub (pe_fld (pv 0) rfl) pe_int) (fun _ _ => rfl)))))), ?_⟩
    have hi := (List.getElem?_eq_some_iff.mp ht).1
    refine ⟨_, rfl, o, _, dx, _, _, rfl, L.ins, T.cl_Line, T.no_Line_at, rfl, _, rfl, o, _, dx, _, _, rfl, L.ins, T.cl_Line, T.no_Line_tokens, rfl, l, _, rfl, .inl (SqL.of L.lst), rfl, _, rfl, ?_⟩
    rw [List.length_map, show decide (V.int (i : Int) = V.int (U.length : Int)) = false by rw [dec_int]; exact beq_eq_false_iff_ne.mpr (by omega)]
    obtain ⟨L1, x1⟩ := L.put (i + 1)
    refine iteF ⟨_, rfl, o, _, dx, _, _, rfl, L.ins, T.cl_Line, T.no_Line_at, rfl, _, _, rfl, rfl, dx, _, L.ins, by show 3 < 1000; decide, ?_⟩
    rw [show putF "at" ((fun i j => V.int (i + j)) (i : Int) 1) (lnD n i l) = lnD n (i + 1) l from rfl]
    refine ⟨_, rfl, o, _, dx, _, _, rfl, L1.ins, T.cl_Line, T.no_Line_tokens, rfl, _, rfl, o, _, dx, _, _, rfl, L1.ins, T.cl_Line, T.no_Line_at, rfl, _, _, rfl, rfl, l, _, _, _, rfl, rfl, SqL.of L1.lst, ?_, q _ x1 L1⟩
    show atI (U.map SV) (((i + 1 : Nat) : Int) - 1) = _
    rw [show (((i + 1 : Nat) : Int) - 1) = (i : Int) by omega]
    exact atI_nat (by rw [List.getElem?_map, ht]; rfl)
def spComes (C : Addr) : Sp := fun vs H Q _ => ∃ (o dx l : Addr) (n : Int) (i : Nat) (U : List (List Nat)) (z : Str), vs = [.ref o, .str z] ∧ LnAt C o dx l n i U H ∧ i ≤ U.length ∧ sok z = true ∧ ∀ H', Same H H' → Q (.bl (decide (U[i]? = some (cs z)))) H'
theorem sok_ok {t : List Nat} (h : Ok t) : sok (mkS t) = true := by
  show (mkS t).cps.all (· < 0x110000) = true
  rw [Array.all_eq_true']
  intro c hc
  have := h c (by simpa [mkS] using hc)
  simp only [decide_eq_true_eq]
  have := this.2.1
  omega
theorem one_shaped {w : Str} (h : sok w = true) : SeqAt.shaped (.list [.str w]) = true := by
  simp only [SeqAt.shaped, PyData.canLay0, PyData.canLayAll0, PyData.depth, PyData.depthAll, show PyData.strOk w = true from h]
  rfl
theorem cut_one {U : List (List Nat)} {i : Nat} (h : i ≤ U.length) : cutV (U.map SV) (some (i : Int)) (some ((i : Int) + 1)) = (match U[i]? with | some t => [SV t] | none => []) := by
  unfold cutV
  rw [show ((i : Int) + 1) = ((i + 1 : Nat) : Int) by omega, HT.sIx_nat, HT.sIx_nat, List.length_map, Nat.min_eq_left h]
  cases e : U[i]? with
  | none =>
    have : U.length ≤ i := List.getElem?_eq_none_iff.mp e
    rw [List.drop_eq_nil_of_le (by rw [List.length_map]; exact this)]
    exact List.take_nil
  | some t =>
    have hi := (List.getElem?_eq_some_iff.mp e).1
    rw [Nat.min_eq_left hi, show i + 1 - i = 1 by omega]
    have : (U.map SV).drop i = SV t :: (U.map SV).drop (i + 1) := by
      have h2 : (U.map SV)[i]? = some (SV t) := by rw [List.getElem?_map, e]; rfl
      rw [List.drop_eq_getElem_cons (by rw [List.length_map]; exact hi)]
      congr 1
      have := List.getElem?_eq_getElem (l := U.map SV) (i := i) (by rw [List.length_map]; exact hi)
      rw [h2] at this
      exact (Option.some.inj this).symm
    rw [this]; rfl
theorem ok_Line_comes (T : Txt K mg)  : FnOk P w K mg base CX0 1 T.a_Line_comes T.d_Line_comes ["self", "token"] (spComes T.c_Line) := by
  refine T.F_Line_comes.ok sc_Line_comes (fun vs H Q E h => ?_) (fun cdv A outer s H vs Q E hr h => ?_)
  · obtain ⟨o, dx, l, n, i, U, z, rfl, _⟩ := h; rfl
  · obtain ⟨o, dx, l, n, i, U, z, rfl, L, hi, hz, q⟩ := h
    refine ⟨_, (pss_one (ps_ret (pe_cmpR (op_eqD (u64 hr)) (pe_slice sl_list (pe_fld (pv 0) rfl) (po_some (pe_fld (pv 0) rfl)) (po_some (pe_op op_add (pe_fld (pv 0) rfl) pe_int))) (pe_lst (pa_cons (pv 1) pa_nil)) (nomark _)))), ?_⟩
    refine ⟨_, rfl, o, _, dx, _, _, rfl, L.ins, T.cl_Line, T.no_Line_tokens, rfl, _, rfl, o, _, dx, _, _, rfl, L.ins, T.cl_Line, T.no_Line_at, rfl, _, rfl, _, rfl, o, _, dx, _, _, rfl, L.ins, T.cl_Line, T.no_Line_at, rfl, _, _, rfl, rfl, _, rfl, l, _, rfl, SqL.of L.lst, fun p hp => ?_⟩
    have s1 := same_upd hp (.lst (cutV (U.map SV) (some (i : Int)) (some ((i : Int) + 1))))
    refine ⟨_, rfl, (by show 1 ≤ sizeLine; decide), fun p2 hp2 => ?_⟩
    have s2 := same_upd hp2 (.lst [V.str z])
    have e1 := s2 _ _ (show upd H p (.lst (cutV (U.map SV) (some (i : Int)) (some ((i : Int) + 1)))) p = some (.lst (match U[i]? with | some t => [SV t] | none => [])) by rw [upd_same, cut_one hi])
    have dz : Dp K (upd (upd H p (.lst (cutV (U.map SV) (some (i : Int)) (some ((i : Int) + 1))))) p2 (.lst [V.str z])) (.ref p2) (.list [.str z]) := .lst (SqL.of upd_same) (.cons (.str z) .nil)
    generalize upd (upd H p (.lst (cutV (U.map SV) (some (i : Int)) (some ((i : Int) + 1))))) p2 (.lst [V.str z]) = H2 at *
    have fin := q H2 (s1.trans s2)
    cases e : U[i]? with
    | none =>
      rw [e] at e1 fin
      refine ⟨.list [], .list [.str z], .lst (SqL.of e1) .nil, dz, rfl, one_shaped hz, ?_⟩
      simpa [PyData.eqv, PyData.eqvAll] using fin
    | some t =>
      rw [e] at e1 fin
      refine ⟨.list [.str (mkS t)], .list [.str z], .lst (SqL.of e1) (.cons (.str _) .nil), dz, one_shaped (sok_ok (L.ok t (List.mem_of_getElem? e))), one_shaped hz, ?_⟩
      have : (PyData.list [.str (mkS t)]).eqv (.list [.str z]) = decide (some t = some (cs z)) := by
        rw [Bool.eq_iff_iff]
        simp only [PyData.eqv, PyData.eqvAll, Bool.and_true, beq_iff_eq, decide_eq_true_eq, Option.some.injEq]
        constructor
        · intro h; rw [← h, cs_mk]
        · intro h; rw [h, mk_cs]
      rw [this]; exact fin
def spSkip (C : Addr) : Sp := fun vs H Q _ => ∃ (o dx l : Addr) (n : Int) (i : Nat) (U : List (List Nat)) (z : Str), vs = [.ref o, .str z] ∧ LnAt C o dx l n i U H ∧ U[i]? = some (cs z) ∧ ∀ H', Lx o H H' → LnAt C o dx l n (i + 1) U H' → Q .non H'
theorem ok_Line_skip (T : Txt K mg) (G_Line_take : FnOk P w K mg base CX0 1 T.a_Line_take T.d_Line_take ["self"] (spTake T.c_Line)) : FnOk P w K mg base CX0 2 T.a_Line_skip T.d_Line_skip ["self", "token"] (spSkip T.c_Line) := by
  refine T.F_Line_skip.ok sc_Line_skip (fun vs H Q E h => ?_) (fun cdv A outer s H vs Q E hr h => ?_)
  · obtain ⟨o, dx, l, n, i, U, z, rfl, _⟩ := h; rfl
  · obtain ⟨o, dx, l, n, i, U, z, rfl, L, hi, q⟩ := h
    have hr_Line_take := hr
    refine ⟨_, (pss_one (ps_if (pt_cmpR op_ne (pe_meth0 (pv 0) T.cl_Line T.me_Line_take G_Line_take hr_Line_take T.b_Line_take .nil pass0) (pv 1) (nomark _)) (pss_one ps_never) pss_nil)), ?_⟩
    refine ⟨_, rfl, o, dx, _, rfl, L.ins, rfl, o, dx, l, n, i, U, cs z, rfl, L, hi, fun H1 x1 L1 => ⟨_, rfl, rfl, _, rfl, ?_⟩⟩
    rw [sv_lit, decide_eq_true rfl]
    exact iteF (q H1 x1 L1)
def spFinish (C : Addr) : Sp := fun vs H Q _ => ∃ (o dx l : Addr) (n : Int) (U : List (List Nat)), vs = [.ref o] ∧ LnAt C o dx l n U.length U H ∧ Q .non H
theorem ok_Line_finish (T : Txt K mg)  : FnOk P w K mg base CX0 1 T.a_Line_finish T.d_Line_finish ["self"] (spFinish T.c_Line) := by
  refine T.F_Line_finish.ok sc_Line_finish (fun vs H Q E h => ?_) (fun cdv A outer s H vs Q E hr h => ?_)
  · obtain ⟨o, dx, l, n, U, rfl, _⟩ := h; rfl
  · obtain ⟨o, dx, l, n, U, rfl, L, q⟩ := h
    refine ⟨_, (pss_one (ps_if (pt_cmpR op_ne (pe_fld (pv 0) rfl) (pe_callB call_len_seq (by rfl) T.z_len (by decide +kernel) (pa_cons (pe_fld (pv 0) rfl) pa_nil)) (nomark _)) (pss_one ps_never) pss_nil)), ?_⟩
    refine ⟨_, rfl, o, _, dx, _, _, rfl, L.ins, T.cl_Line, T.no_Line_at, rfl, _, rfl, o, _, dx, _, _, rfl, L.ins, T.cl_Line, T.no_Line_tokens, rfl, l, _, rfl, .inl (SqL.of L.lst), rfl, _, rfl, ?_⟩
    rw [List.length_map, show (!decide (V.int (U.length : Int) = V.int (U.length : Int))) = false by simp]
    exact iteF q
def spTakeWord (C : Addr) : Sp := fun vs H Q _ => ∃ (o dx l : Addr) (n : Int) (i : Nat) (U : List (List Nat)) (z : Str), vs = [.ref o] ∧ LnAt C o dx l n i U H ∧ U[i]? = some (cs z) ∧ WkB z ∧ ∀ H', Lx o H H' → LnAt C o dx l n (i + 1) U H' → Q (.str z) H'
theorem ok_Line_take_word (T : Txt K mg) (G_is_word : FnOk P w K mg base CX0 1 T.a_is_word T.d_is_word ["value"] spWord) (G_Line_take : FnOk P w K mg base CX0 1 T.a_Line_take T.d_Line_take ["self"] (spTake T.c_Line)) : FnOk P w K mg base CX0 2 T.a_Line_take_word T.d_Line_take_word ["self"] (spTakeWord T.c_Line) := by
  refine T.F_Line_take_word.ok sc_Line_take_word (fun vs H Q E h => ?_) (fun cdv A outer s H vs Q E hr h => ?_)
  · obtain ⟨o, dx, l, n, i, U, z, rfl, _⟩ := h; rfl
  · obtain ⟨o, dx, l, n, i, U, z, rfl, L, hi, hz, q⟩ := h
    have hr_Line_take := hr
    have hr_is_word := hr
    refine ⟨_, (pss_cons (ps_set (i := 1) sc_Line_take_word.nd rfl (Or.inl rfl) (pe_meth0 (pv 0) T.cl_Line T.me_Line_take G_Line_take hr_Line_take T.b_Line_take .nil pass0))
    (pss_cons (ps_if (pt_not (pt_val (pe_call G_is_word hr_is_word rfl T.m_is_word T.F_is_word.kp T.b_is_word .nil pass0 (pa_cons (pv 1) pa_nil)))) (pss_one ps_never) pss_nil)
    (pss_one (ps_ret (pv 1))))), ?_⟩
    refine ⟨_, rfl, o, dx, _, rfl, L.ins, rfl, o, dx, l, n, i, U, cs z, rfl, L, hi, fun H1 x1 L1 => ?_⟩
    rw [show SV (cs z) = V.str z by unfold SV; rw [mk_cs]]
    exact ⟨_, rfl, z, rfl, hz, _, rfl, iteF ⟨_, rfl, q H1 x1 L1⟩⟩
def spTakeNum (C : Addr) : Sp := fun vs H Q _ => ∃ (o dx l : Addr) (n : Int) (i : Nat) (U : List (List Nat)) (k : Nat), vs = [.ref o] ∧ LnAt C o dx l n i U H ∧ U[i]? = some (num k) ∧ k < 100 ∧ ∀ H', Lx o H H' → LnAt C o dx l n (i + 1) U H' → Q (.int k) H'
theorem ok_Line_take_number (T : Txt K mg) (G_is_number : FnOk P w K mg base CX0 1 T.a_is_number T.d_is_number ["token"] spNumber) (G_Line_take : FnOk P w K mg base CX0 1 T.a_Line_take T.d_Line_take ["self"] (spTake T.c_Line)) : FnOk P w K mg base CX0 2 T.a_Line_take_number T.d_Line_take_number ["self"] (spTakeNum T.c_Line) := by
  refine T.F_Line_take_number.ok sc_Line_take_number (fun vs H Q E h => ?_) (fun cdv A outer s H vs Q E hr h => ?_)
  · obtain ⟨o, dx, l, n, i, U, k, rfl, _⟩ := h; rfl
  · obtain ⟨o, dx, l, n, i, U, k, rfl, L, hi, hk, q⟩ := h
    have hr_Line_take := hr
    have hr_is_number := hr
    refine ⟨_, (pss_cons (ps_set (i := 1) sc_Line_take_number.nd rfl (Or.inl rfl) (pe_meth0 (pv 0) T.cl_Line T.me_Line_take G_Line_take hr_Line_take T.b_Line_take .nil pass0))
    (pss_cons (ps_if (pt_not (pt_val (pe_call G_is_number hr_is_number rfl T.m_is_number T.F_is_number.kp T.b_is_number .nil pass0 (pa_cons (pv 1) pa_nil)))) (pss_one ps_never) pss_nil)
    (pss_one (ps_ret (pe_callTy call_int_str (by rfl) T.z_int (by decide +kernel) (pa_cons (pv 1) pa_nil)))))), ?_⟩
    obtain ⟨_, f2, _, _, f5⟩ := num_facts k hk
    refine ⟨_, rfl, o, dx, _, rfl, L.ins, rfl, o, dx, l, n, i, U, num k, rfl, L, hi, fun H1 x1 L1 => ?_⟩
    exact ⟨_, rfl, k, rfl, hk, _, rfl, iteF ⟨_, rfl, mkS (num k), _, rfl, f5, by omega, q H1 x1 L1⟩⟩
end
end Kx
namespace Kx
open PySem PySem.Spec PyProof.Rows L2
section
variable {P : Program} {w : World} {K : PySem.W.Frag} {mg : Str → Option Value} {base : Heap}
set_option pp.maxSteps 1200
theorem pre35 {x r : List Nat} (h : 35 ∉ x) {k : Nat} (hk : k < x.length) : TL.pre [35] ((x ++ r).drop k) = false := by
  unfold TL.pre
  rw [List.drop_append_of_le_length (Nat.le_of_lt hk)]
  cases e : x.drop k with
  | nil => have := congrArg List.length e; rw [List.length_drop] at this; simp at this; omega
  | cons a q =>
    have ha : a ∈ x := List.mem_of_mem_drop (by rw [e]; exact List.mem_cons_self ..)
    have : a ≠ 35 := fun q => h (q ▸ ha)
    show ([a] == [35]) = false
    simpa using this
/-- what stands behind the signs of a line: nothing, or a comment -/
def Cm (cm : List Nat) : Prop := OkR cm ∧ (cm = [] ∨ ∃ r, cm = 35 :: r)
theorem part_cm {x cm : List Nat} (h : 35 ∉ x) (hc : Cm cm) : (Txt.partition (mkS (x ++ cm)) "#").1 = mkS x := by
  have run := TL.par_run [35] (x ++ cm) x.length 0 [] (by rw [List.length_append]; omega) fun k _ hk => by
    rw [Nat.zero_add] at hk
    exact pre35 h hk
  rw [List.drop_zero, Nat.zero_add, List.drop_left, List.take_left, List.nil_append] at run
  rcases hc.2 with rfl | ⟨r, rfl⟩
  · have e : TL.par [35] [] (x ++ []) = none := by rw [run]; rfl
    rw [TL.partition_par _ _ (by decide +kernel), show TL.tl ("#" : Str) = [35] from rfl, show TL.tl (mkS (x ++ [])) = x ++ [] from cs_mk _, e, List.append_nil]
  · have e : TL.par [35] [] (x ++ 35 :: r) = some (x, r) := by rw [run]; rfl
    rw [TL.partition_par _ _ (by decide +kernel), show TL.tl ("#" : Str) = [35] from rfl, show TL.tl (mkS (x ++ 35 :: r)) = x ++ 35 :: r from cs_mk _, e]
    all_goals rfl
def spLInit (C : Addr) : Sp := fun vs H Q _ => ∃ (o dx : Addr) (n : Int) (x cm : List Nat) (U : List (List Nat)), vs = [.ref o, SV (x ++ cm), .int n] ∧ H o = some (.ins C dx []) ∧ Toks x U ∧ Ok x ∧ Cm cm ∧ (x ++ cm).length ≤ 6000 ∧ NetOk U ∧ ∀ l H', H l = none → Lx o H H' → LnAt C o dx l n 0 U H' → Q .non H'
theorem toks_ok {x : List Nat} {U : List (List Nat)} (h : Toks x U) : Ok x → ∀ t ∈ U, Ok t := by
  induction h with
  | nil => intro _ t ht; cases ht
  | sp h ih => intro o; exact ih fun c hc => o c (List.mem_cons_of_mem _ hc)
  | word n a e h ih =>
    intro o t ht
    rcases List.mem_cons.mp ht with rfl | ht
    · exact fun c hc => o c (List.mem_append_left _ hc)
    · exact ih (fun c hc => o c (List.mem_append_right _ hc)) t ht
  | arrow h ih =>
    intro o t ht
    rcases List.mem_cons.mp ht with rfl | ht
    · exact fun c hc => by simp only [List.mem_cons, List.not_mem_nil, or_false] at hc; rcases hc with rfl | rfl <;> decide
    · exact ih (fun c hc => o c (List.mem_cons_of_mem _ (List.mem_cons_of_mem _ hc))) t ht
  | sign a n m h ih =>
    intro o t ht
    rcases List.mem_cons.mp ht with rfl | ht
    · exact fun c hc => by rw [List.mem_singleton.mp hc]; exact o _ (List.mem_cons_self ..)
    · exact ih (fun c hc => o c (List.mem_cons_of_mem _ hc)) t ht
theorem ok_Line_init (T : Txt K mg) (G_most_open : FnOk P w K mg base CX0 1 T.a_most_open T.d_most_open ["tokens"] spMost) (G_tokens_of : FnOk P w K mg base CX0 2 T.a_tokens_of T.d_tokens_of ["row"] spTokens) : FnOk P w K mg base CX0 3 T.a_Line_init T.d_Line_init ["self", "row", "number"] (spLInit T.c_Line) := by
  refine T.F_Line_init.ok sc_Line_init (fun vs H Q E h => ?_) (fun cdv A outer s H vs Q E hr h => ?_)
  · obtain ⟨o, dx, n, x, cm, U, rfl, _⟩ := h; rfl
  · obtain ⟨o, dx, n, x, cm, U, rfl, e, hT, hO, hC, hl, ho, q⟩ := h
    rw [List.length_append] at hl
    have hr_tokens_of : Room 2 _ := hr
    have hr_most_open : Room 1 _ := hr.mono (by decide)
    refine ⟨_, (pss_cons (ps_fld (pv 0) (pv 2) rfl)
    (pss_cons (ps_fld (pv 0) pe_int rfl)
    (pss_cons (ps_fld (pv 0) (pe_call G_tokens_of hr_tokens_of rfl T.m_tokens_of T.F_tokens_of.kp T.b_tokens_of .nil pass0 (pa_cons (pe_ix ix_tup (pe_partition (pv 1) pe_str) pe_int (fun _ _ => rfl)) pa_nil)) rfl)
    (pss_one (ps_if (pt_cmpR op_gt (pe_call G_most_open hr_most_open rfl T.m_most_open T.F_most_open.kp T.b_most_open .nil pass0 (pa_cons (pe_fld (pv 0) rfl) pa_nil)) (pe_glob (by rfl) T.g_MOST_OPEN (show RelV (V.int 40) (.int 40 T.t_MOST_OPEN) from ⟨_, rfl⟩)) (nomark _)) (pss_one ps_never) pss_nil))))), ?_⟩
    refine ⟨_, rfl, _, rfl, o, T.c_Line, dx, [], rfl, e, T.cl_Line, T.no_Line_number, by decide, ?_⟩
    refine ⟨_, rfl, o, T.c_Line, dx, _, rfl, upd_same, T.cl_Line, T.no_Line_at, by show 1 < 1000; decide, ?_⟩
    have x1 : Lx o H (upd (upd H o (.ins T.c_Line dx (putF "number" (.int n) []))) o (.ins T.c_Line dx (putF "at" (.int 0) (putF "number" (.int n) [])))) := fun b u nb h => by rw [upd_ne nb, upd_ne nb]; exact h
    have e1 : (upd (upd H o (.ins T.c_Line dx (putF "number" (.int n) []))) o (.ins T.c_Line dx (putF "at" (.int 0) (putF "number" (.int n) [])))) o = some (.ins T.c_Line dx [("number", .int n), ("at", .int 0)]) := upd_same
    generalize (upd (upd H o (.ins T.c_Line dx (putF "number" (.int n) []))) o (.ins T.c_Line dx (putF "at" (.int 0) (putF "number" (.int n) [])))) = H1 at x1 e1 ⊢
    have h35 : 35 ∉ x := fun hm => by have := (hO 35 hm).2.2.2; omega
    refine ⟨_, rfl, ⟨_, rfl⟩, mkS (x ++ cm), _, rfl, rfl, rfl, by rw [mk_len, List.length_append]; exact small7 (by omega), fun p hp => ⟨p, _, _, _, rfl, rfl, .inl (.inl upd_same), atI_nat (j := 0) rfl, x, U, by rw [part_cm h35 hC]; rfl, hT, by omega, fun l H2 nl s2 el lU => ?_⟩⟩
    have s1 := same_upd hp (.tup [.str (Txt.partition (mkS (x ++ cm)) "#").1, .str (Txt.partition (mkS (x ++ cm)) "#").2.1, .str (Txt.partition (mkS (x ++ cm)) "#").2.2])
    have e2 := s2 _ _ (s1 _ _ e1)
    have x2 : Lx o H H2 := (x1.trans (.of s1)).trans (.of s2)
    have nlo : l ≠ o := fun z => by rw [z, e2] at el; cases el
    refine ⟨_, rfl, o, T.c_Line, dx, _, rfl, e2, T.cl_Line, T.no_Line_tokens, by show 2 < 1000; decide, ?_⟩
    have L : LnAt T.c_Line o dx l n 0 U (upd H2 o (.ins T.c_Line dx (lnD n 0 l))) := ⟨upd_same, by rw [upd_ne nlo]; exact el, lU, toks_ok hT hO⟩
    rw [show putF "tokens" (.ref l) [("number", V.int n), ("at", V.int 0)] = lnD n 0 l from rfl]
    refine ⟨_, rfl, o, _, dx, _, _, rfl, L.ins, T.cl_Line, T.no_Line_tokens, rfl, l, U, rfl, L.lst, fun m _ hm => ⟨_, _, rfl, rfl, _, rfl, ?_⟩⟩
    have hm := hm ho
    rw [show decide ((40 : Int) < m) = false from decide_eq_false (by omega)]
    have nl0 : H l = none := by
      cases e : H l with
      | none => rfl
      | some u => have := s1 _ _ (x1 _ _ nlo e); rw [nl] at this; cases this
    exact iteF (q l _ nl0 (x2.trans fun b u nb h => by rw [upd_ne nb]; exact h) L)
/-! ### trees -/
def TrW (n : Nat) (t : PV) : Prop := ∃ (L N B : List Str) (m : Nat), m < n ∧ Tr L N B m t ∧ (∀ z ∈ L, WkB z ∧ sok z = true) ∧ (∀ z ∈ N, WkB z ∧ sok z = true) ∧ ∀ z ∈ B, WkB z ∧ sok z = true
theorem TrW.up {n k : Nat} {t : PV} (h : TrW n t) (l : n ≤ k) : TrW k t := by
  obtain ⟨L, N, B, m, a, b⟩ := h
  exact ⟨L, N, B, m, by omega, b⟩
theorem TrW.cases {n : Nat} {t : PV} (h : TrW (n + 1) t) : ∃ z, WkB z ∧ sok z = true ∧ (t = .str z ∨ t = .tup [.str z] ∨ ∃ r, t = .tup (.str z :: r) ∧ r ≠ [] ∧ r.length ≤ 3 ∧ ∀ t ∈ r, TrW n t) := by
  obtain ⟨L, N, B, m, mn, h, hL, hN, hB⟩ := h
  rcases h.cases with ⟨z, rfl, hz⟩ | ⟨w, rfl, hw⟩ | ⟨w, r, k, rfl, e, hr, hw, hl, ht⟩
  · exact ⟨z, (hN z hz).1, (hN z hz).2, .inl rfl⟩
  · exact ⟨w, (hL w hw).1, (hL w hw).2, .inr (.inl rfl)⟩
  · exact ⟨w, (hB w hw).1, (hB w hw).2, .inr (.inr ⟨r, rfl, hr, hl, fun t h => ⟨L, N, B, k, by omega, ht t h, hL, hN, hB⟩⟩)⟩
def spRTree (C : Addr) (k : Nat) : Sp := fun vs H Q _ => ∃ (o dx l : Addr) (n : Int) (i : Nat) (U R : List (List Nat)) (t : PV), vs = [.ref o] ∧ LnAt C o dx l n i U H ∧ TrW k t ∧ U.drop i = tokT t ++ R ∧ R.head? ≠ some [40] ∧
  ∀ v H', Is H' v (raw t) → Lx o H H' → LnAt C o dx l n (i + (tokT t).length) U H' → Q v H'
def remT (ts : List PV) : List (List Nat) := ts.flatMap fun t => [44] :: tokT t
theorem sepT_rem : ∀ (t : PV) (r : List PV), sepT ((t :: r).map tokT) = tokT t ++ remT r
  | t, [] => by simp [sepT, remT]
  | t, a :: r => by
    have := sepT_rem a r
    simp only [List.map_cons, sepT] at this ⊢
    rw [this]
    simp [remT]
def spRTrees (C : Addr) (k : Nat) : Sp := fun vs H Q _ => ∃ (o dx l : Addr) (n : Int) (i : Nat) (U R : List (List Nat)) (ts : List PV), vs = [.ref o] ∧ LnAt C o dx l n i U H ∧ ts ≠ [] ∧ ts.length ≤ 3 ∧ (∀ t ∈ ts, TrW k t) ∧ U.drop i = [40] :: (sepT (ts.map tokT) ++ [41] :: R) ∧
  ∀ p vs H', H' p = some (.tup vs) → IsL H' vs (ts.map raw) → Lx o H H' → LnAt C o dx l n (i + (2 + (sepT (ts.map tokT)).length)) U H' → Q (.ref p) H'
theorem ok_Line_take_tree {k : Nat}(T : Txt K mg) (G_Line_comes : FnOk P w K mg base CX0 1 T.a_Line_comes T.d_Line_comes ["self", "token"] (spComes T.c_Line)) (G_Line_take_trees : FnOk P w K mg base CX0 (2*k+4) T.a_Line_take_trees T.d_Line_take_trees ["self"] (spRTrees T.c_Line k)) (G_Line_take_word : FnOk P w K mg base CX0 2 T.a_Line_take_word T.d_Line_take_word ["self"] (spTakeWord T.c_Line)) : FnOk P w K mg base CX0 (2*k+5) T.a_Line_take_tree T.d_Line_take_tree ["self"] (spRTree T.c_Line (k+1)) := by
  refine T.F_Line_take_tree.ok sc_Line_take_tree (fun vs H Q E h => ?_) (fun cdv A outer s H vs Q E hr h => ?_)
  · obtain ⟨o, dx, l, n, i, U, R, t, rfl, _⟩ := h; rfl
  · obtain ⟨o, dx, l, n, i, U, R, t, rfl, L, hT, hd, hR, q⟩ := h
    have hr_Line_comes : Room 1 _ := hr.mono (by omega)
    have hr_Line_take_word : Room 2 _ := hr.mono (by omega)
    have hr_Line_take_trees : Room (2*k+4) _ := hr.mono (by omega)
    refine ⟨_, (pss_cons (ps_set (i := 1) sc_Line_take_tree.nd rfl (Or.inl rfl) (pe_meth0 (pv 0) T.cl_Line T.me_Line_take_word G_Line_take_word hr_Line_take_word T.b_Line_take_word .nil pass0))
    (pss_cons (ps_if (pt_val (pe_meth (pv 0) T.cl_Line T.me_Line_comes G_Line_comes hr_Line_comes T.b_Line_comes .nil pass0 (pa_cons pe_str pa_nil))) (pss_one (ps_ret (pe_op op_catT (pe_tup (pa_cons (pv 1) pa_nil)) (pe_meth0 (pv 0) T.cl_Line T.me_Line_take_trees G_Line_take_trees hr_Line_take_trees T.b_Line_take_trees .nil pass0)))) pss_nil)
    (pss_one (ps_ret (pv 1))))), ?_⟩
    obtain ⟨z, hz, okz, hc⟩ := hT.cases
    obtain ⟨X, eX⟩ : ∃ X, tokT t = cs z :: X := by
      rcases hc with rfl | rfl | ⟨r, rfl, hr, _⟩
      · exact ⟨_, rfl⟩
      · exact ⟨_, rfl⟩
      · have e2 : r.isEmpty = false := by cases r with | nil => exact absurd rfl hr | cons _ _ => rfl
        exact ⟨[40] :: (sepT (tokTL r) ++ [[41]]), by simp only [tokT, e2, Bool.false_eq_true, if_false]⟩
    rw [eX, List.cons_append] at hd
    obtain ⟨g1, g2, g3⟩ := get_drop hd
    refine ⟨_, rfl, o, dx, _, rfl, L.ins, rfl, o, dx, l, n, i, U, z, rfl, L, g1, hz, fun H1 x1 L1 => ?_⟩
    refine ⟨_, rfl, o, dx, _, rfl, L1.ins, rfl, o, dx, l, n, i + 1, U, "(", rfl, L1, by omega, by decide +kernel, fun H2 s2 => ⟨_, rfl, ?_⟩⟩
    have L2 := L1.same s2
    have x2 := x1.trans (Lx.of s2)
    have hn : U[i + 1]? = (X ++ R).head? := by
      rw [← g2, List.head?_drop]
    rcases hc with rfl | rfl | ⟨r, rfl, hr, hl, ht⟩
    · have : X = [] := by simp only [tokT, List.cons.injEq] at eX; exact eX.2.symm
      subst this
      rw [hn, List.nil_append, show cs "(" = [40] from rfl, decide_eq_false hR]
      refine iteF ⟨_, rfl, q _ H2 (by show Is H2 _ (raw (.str z)); exact .str z okz) x2 (by rw [eX]; exact L2)⟩
    · have : X = [] := by simp only [tokT, List.isEmpty_nil, if_true, List.cons.injEq] at eX; exact eX.2.symm
      subst this
      rw [hn, List.nil_append, show cs "(" = [40] from rfl, decide_eq_false hR]
      refine iteF ⟨_, rfl, q _ H2 (by show Is H2 _ (raw (.tup [.str z])); simp only [raw, List.isEmpty_nil, if_true]; exact .str z okz) x2 (by rw [eX]; exact L2)⟩
    · have e2 : r.isEmpty = false := by cases r with | nil => exact absurd rfl hr | cons _ _ => rfl
      have eX2 : X = [40] :: (sepT (r.map tokT) ++ [[41]]) := by
        simp only [tokT, e2, Bool.false_eq_true, if_false, List.cons.injEq, tokTL_map] at eX
        exact eX.2.symm
      rw [hn, eX2, List.cons_append, List.head?_cons, show cs "(" = [40] from rfl, decide_eq_true rfl]
      refine iteT ⟨_, rfl, (by show 1 ≤ sizeLine; decide), fun p1 hp1 => ?_⟩
      have s3 := same_upd hp1 (.tup [V.str z])
      have L3 := L2.same s3
      refine ⟨_, rfl, o, dx, _, rfl, L3.ins, rfl, o, dx, l, n, i + 1, U, R, r, rfl, L3, hr, hl, ht, by rw [g2, eX2]; simp, fun p2 vs H4 e4 i4 x4 L4 => ?_⟩
      have e3 : H4 p1 = some (.tup [V.str z]) := x4 _ _ (fun z => by rw [z, L2.ins] at hp1; cases hp1) upd_same
      have hlen := i4.len
      rw [List.length_map] at hlen
      refine ⟨p1, p2, _, _, rfl, rfl, .inl (.inl e3), .inl (.inl e4), by simp, by rw [List.length_singleton]; exact Nat.le_of_lt (small1000 (by omega)), fun e => ?_, fun _ p5 hp5 => ?_⟩
      · have : r.length = 0 := by rw [← hlen, e]; rfl
        exact absurd (List.length_eq_zero_iff.mp this) hr
      · have s5 := same_upd hp5 (.tup ([V.str z] ++ vs))
        refine q _ _ ?_ (((x2.trans (.of s3)).trans x4).trans (.of s5)) ?_
        · simp only [raw, e2, Bool.false_eq_true, if_false, rawL_map]
          exact .tup upd_same (.cons (.str z okz) (i4.same s5))
        · rw [eX, eX2]
          have := L4.same s5
          rw [show i + (cs z :: [40] :: (sepT (r.map tokT) ++ [[41]])).length = i + 1 + (2 + (sepT (r.map tokT)).length) by simp only [List.length_cons, List.length_append, List.length_nil]; omega]
          exact this
end
end Kx
namespace Kx
open PySem PySem.Spec PyProof.Rows L2
section
variable {P : Program} {w : World} {K : PySem.W.Frag} {mg : Str → Option Value} {base : Heap}
set_option pp.maxSteps 800
theorem rem_head {R : List (List Nat)} (rem : List PV) (h : R.head? ≠ some [40]) : (remT rem ++ R).head? ≠ some [40] := by
  cases rem with
  | nil => exact h
  | cons t r => simp [remT]
theorem rem_cons (t : PV) (r : List PV) : remT (t :: r) = [44] :: (tokT t ++ remT r) := by simp [remT]
theorem ok_Line_take_trees {k : Nat}(T : Txt K mg) (G_Line_skip : FnOk P w K mg base CX0 2 T.a_Line_skip T.d_Line_skip ["self", "token"] (spSkip T.c_Line)) (G_Line_comes : FnOk P w K mg base CX0 1 T.a_Line_comes T.d_Line_comes ["self", "token"] (spComes T.c_Line)) (G_Line_take_tree : FnOk P w K mg base CX0 (2*k+3) T.a_Line_take_tree T.d_Line_take_tree ["self"] (spRTree T.c_Line k)) : FnOk P w K mg base CX0 (2*k+4) T.a_Line_take_trees T.d_Line_take_trees ["self"] (spRTrees T.c_Line k) := by
  refine T.F_Line_take_trees.ok sc_Line_take_trees (fun vs H Q E h => ?_) (fun cdv A outer s H vs Q E hr h => ?_)
  · obtain ⟨o, dx, l, n, i, U, R, ts, rfl, _⟩ := h; rfl
  · obtain ⟨o, dx, l, n, i, U, R, ts, rfl, L, hne, hl3, hT, hd, q⟩ := h
    have hr_Line_comes : Room 1 _ := hr.mono (by omega)
    have hr_Line_skip : Room 2 _ := hr.mono (by omega)
    have hr_Line_take_tree : Room (2*k+3) _ := hr
    refine ⟨_, (pss_cons (ps_expr (pe_meth (pv 0) T.cl_Line T.me_Line_skip G_Line_skip hr_Line_skip T.b_Line_skip .nil pass0 (pa_cons pe_str pa_nil)))
    (pss_cons (ps_set (i := 1) sc_Line_take_trees.nd rfl (Or.inl rfl) (pe_lst (pa_cons (pe_meth0 (pv 0) T.cl_Line T.me_Line_take_tree G_Line_take_tree hr_Line_take_tree T.b_Line_take_tree .nil pass0) pa_nil)))
    (pss_cons (ps_while PassesOwn.never (pt_val (pe_meth (pv 0) T.cl_Line T.me_Line_comes G_Line_comes hr_Line_comes T.b_Line_comes .nil pass0 (pa_cons pe_str pa_nil)))
    (pss_cons (ps_expr (pe_meth (pv 0) T.cl_Line T.me_Line_skip G_Line_skip hr_Line_skip T.b_Line_skip .nil pass0 (pa_cons pe_str pa_nil)))
    (pss_one (ps_expr (pe_bm PySem.F.plainAttrs_list PySem.F.slot_list_append PySem.F.type_list_append mt_append (pv 1) (pa_cons (pe_meth0 (pv 0) T.cl_Line T.me_Line_take_tree G_Line_take_tree hr_Line_take_tree T.b_Line_take_tree .nil pass0) pa_nil))))))
    (pss_cons (ps_expr (pe_meth (pv 0) T.cl_Line T.me_Line_skip G_Line_skip hr_Line_skip T.b_Line_skip .nil pass0 (pa_cons pe_str pa_nil)))
    (pss_one (ps_ret (pe_callTy call_tuple_of (by rfl) T.z_tuple (by decide +kernel) (pa_cons (pv 1) pa_nil)))))))), ?_⟩
    obtain ⟨t0, r0, rfl⟩ : ∃ t r, ts = t :: r := by cases ts with | nil => exact absurd rfl hne | cons t r => exact ⟨t, r, rfl⟩
    rw [sepT_rem] at hd q
    obtain ⟨g1, g2, g3⟩ := get_drop hd
    refine ⟨_, rfl, o, dx, _, rfl, L.ins, rfl, o, dx, l, n, i, U, "(", rfl, L, g1, fun H1 x1 L1 => ?_⟩
    rw [List.append_assoc] at g2
    have h41 : (([41] : List Nat) :: R).head? ≠ some [40] := by simp
    refine ⟨_, rfl, o, dx, _, rfl, L1.ins, rfl, o, dx, l, n, i + 1, U, remT r0 ++ [41] :: R, t0, rfl, L1, hT t0 (List.mem_cons_self ..), g2, rem_head r0 h41, fun v H2 iv x2 L2 => ⟨(by show 1 ≤ sizeLine; decide), fun p hp => ?_⟩⟩
    have s3 := same_upd hp (.lst [v])
    have L3 := L2.same s3
    have npo : p ≠ o := fun z => by rw [z, L2.ins] at hp; cases hp
    have hp0 : H p = none := by
      cases e : H p with
      | none => rfl
      | some u => have := x2 _ _ npo (x1 _ _ npo e); rw [hp] at this; cases this
    have x13 := x1.trans (x2.trans (.of s3))
    have inv0 : ∃ (done rem : List PV) (vs : List V) (j : Nat), t0 :: r0 = done ++ rem ∧ LnAt T.c_Line o dx l n j U (upd H2 p (.lst [v])) ∧ U.drop j = remT rem ++ [41] :: R ∧ (upd H2 p (.lst [v])) p = some (.lst vs) ∧ IsL (upd H2 p (.lst [v])) vs (done.map raw) ∧ Lx o H (upd H2 p (.lst [v])) ∧ j + (remT rem).length = i + 1 + (tokT t0 ++ remT r0).length ∧ rem.length = rem.length := by
      refine ⟨[t0], r0, [v], i + 1 + (tokT t0).length, rfl, L3, drop_app g2, upd_same, .cons (iv.same s3) .nil, x13, ?_, rfl⟩
      rw [List.length_append]; omega
    refine ⟨fun m σ H' => ∃ (done rem : List PV) (vs : List V) (j : Nat), σ = [some (.ref o), some (.ref p)] ∧ t0 :: r0 = done ++ rem ∧ LnAt T.c_Line o dx l n j U H' ∧ U.drop j = remT rem ++ [41] :: R ∧ H' p = some (.lst vs) ∧ IsL H' vs (done.map raw) ∧ Lx o H H' ∧ j + (remT rem).length = i + 1 + (tokT t0 ++ remT r0).length ∧ m = rem.length, ?_, ?_⟩
    · obtain ⟨a, b, c, d, e1, e2, e3, e4, e5, e6, e7, _⟩ := inv0
      exact ⟨_, a, b, c, d, rfl, e1, e2, e3, e4, e5, e6, e7, rfl⟩
    rintro m σ H' ⟨done, rem, vs, j, rfl, hts, L', hj, ep, ivs, x', hcnt, rfl⟩
    have hjl : j ≤ U.length := by
      cases hrm : remT rem ++ [41] :: R with
      | nil => simp at hrm
      | cons a b => rw [hrm] at hj; exact Nat.le_of_lt (get_drop hj).2.2
    refine ⟨_, rfl, o, dx, _, rfl, L'.ins, rfl, o, dx, l, n, j, U, ",", rfl, L', hjl, by decide +kernel, fun H3 sc => ⟨_, rfl, ?_⟩⟩
    have Lc := L'.same sc
    have xc := x'.trans (Lx.of sc)
    have epc := sc _ _ ep
    have ivc := ivs.same sc
    cases rem with
    | nil =>
      have hj2 : U.drop j = [41] :: R := hj
      obtain ⟨k1, k2, k3⟩ := get_drop hj2
      rw [k1, show decide (some [41] = some (cs ",")) = false by decide]
      refine iteF ⟨_, rfl, o, dx, _, rfl, Lc.ins, rfl, o, dx, l, n, j, U, ")", rfl, Lc, k1, fun H4 x4 L4 => ?_⟩
      have ep4 := x4 _ _ npo epc
      refine ⟨_, rfl, p, vs, rfl, .inl ⟨SqL.of ep4, fun q2 hq2 => ?_⟩⟩
      have s5 := same_upd hq2 (.tup vs)
      rw [List.append_nil] at hts
      rw [← hts] at ivc
      refine q q2 vs _ upd_same ((ivc.tk (Lc.tk x4)).same s5) ((xc.trans x4).trans (.of s5)) ?_
      have := L4.same s5
      have hc : j = i + 1 + (tokT t0 ++ remT r0).length := by simpa [remT] using hcnt
      rw [show i + (2 + (tokT t0 ++ remT r0).length) = j + 1 by omega]
      exact this
    | cons t r =>
      rw [rem_cons, List.cons_append, List.append_assoc] at hj
      obtain ⟨k1, k2, k3⟩ := get_drop hj
      rw [k1, show decide (some [44] = some (cs ",")) = true by decide]
      refine iteT ⟨fun σ' H5 => ∃ (vs' : List V) (j' : Nat), σ' = [some (.ref o), some (.ref p)] ∧ LnAt T.c_Line o dx l n j' U H5 ∧ U.drop j' = remT r ++ [41] :: R ∧ H5 p = some (.lst vs') ∧ IsL H5 vs' ((done ++ [t]).map raw) ∧ Lx o H H5 ∧ j' + (remT r).length = i + 1 + (tokT t0 ++ remT r0).length,
        fun σ' H5 ⟨vs', j', a1, a2, a3, a4, a5, a6, a7⟩ => ⟨r.length, by simp, done ++ [t], r, vs', j', a1, by rw [hts]; simp, a2, a3, a4, a5, a6, a7, rfl⟩, ?_⟩
      refine ⟨_, rfl, o, dx, _, rfl, Lc.ins, rfl, o, dx, l, n, j, U, ",", rfl, Lc, k1, fun H4 x4 L4 => ?_⟩
      have ep4 := x4 _ _ npo epc
      refine ⟨_, rfl, .inl ⟨rfl, _, SqL.of ep4⟩, _, rfl, o, dx, _, rfl, L4.ins, rfl, o, dx, l, n, j + 1, U, remT r ++ [41] :: R, t, rfl, L4, hT t (by rw [hts]; simp), k2, rem_head r h41, fun v5 H5 iv5 x5 L5 => ?_⟩
      have ep5 := x5 _ _ npo ep4
      have hlen := ivc.len
      rw [List.length_map] at hlen
      have ld : done.length ≤ 3 := by have := congrArg List.length hts; rw [List.length_append] at this; simp at this hl3; omega
      have nlp : l ≠ p := fun z => by
        have h1 := L2.lst
        rw [z, hp] at h1; cases h1
      have L6 : LnAt T.c_Line o dx l n (j + 1 + (tokT t).length) U (upd H5 p (.lst (vs ++ [v5]))) := ⟨by rw [upd_ne npo.symm]; exact L5.ins, by rw [upd_ne nlp]; exact L5.lst, L5.len, L5.ok⟩
      refine ⟨p, _, _, rfl, rfl, ep5, small1000 (by omega), vs ++ [v5], _, rfl, L6, drop_app k2, upd_same, ?_, (xc.trans (x4.trans x5)).own hp0 _, ?_⟩
      · rw [List.map_append]
        exact IsL.over ep5 (((ivc.tk (Lc.tk x4)).tk (L4.tk x5)).append (.cons iv5 .nil))
      · rw [rem_cons] at hcnt
        simp only [List.length_cons, List.length_append] at hcnt ⊢
        omega
theorem all_rtree (T : Txt K mg) : ∀ k, FnOk P w K mg base CX0 (2 * k + 3) T.a_Line_take_tree T.d_Line_take_tree ["self"] (spRTree T.c_Line k)
  | 0 => no_left fun vs H Q E ⟨_, _, _, _, _, _, _, _, _, _, ⟨_, _, _, _, h, _⟩, _⟩ => by omega
  | k + 1 => ok_Line_take_tree T (ok_Line_comes T) (ok_Line_take_trees T (ok_Line_skip T (ok_Line_take T)) (ok_Line_comes T) (all_rtree T k)) (ok_Line_take_word T (ok_is_word T) (ok_Line_take T))
theorem all_rtrees (T : Txt K mg) (k : Nat) : FnOk P w K mg base CX0 (2 * k + 4) T.a_Line_take_trees T.d_Line_take_trees ["self"] (spRTrees T.c_Line k) :=
  ok_Line_take_trees T (ok_Line_skip T (ok_Line_take T)) (ok_Line_comes T) (all_rtree T k)
/-! ### kinds -/
def rawK (k : Kd) : PV := .tup [.str k.fam, raw k.tm]
def KdW (k : Kd) : Prop := WkB k.fam ∧ sok k.fam = true ∧ TrW 45 k.tm
def spRKind (C : Addr) : Sp := fun vs H Q _ => ∃ (o dx l : Addr) (n : Int) (i : Nat) (U R : List (List Nat)) (k : Kd), vs = [.ref o] ∧ LnAt C o dx l n i U H ∧ KdW k ∧ U.drop i = tokK k ++ R ∧
  ∀ v H', Is H' v (rawK k) → Lx o H H' → LnAt C o dx l n (i + (tokK k).length) U H' → Q v H'
theorem ok_take_kind (T : Txt K mg) (G_Line_skip : FnOk P w K mg base CX0 2 T.a_Line_skip T.d_Line_skip ["self", "token"] (spSkip T.c_Line)) (G_Line_take_word : FnOk P w K mg base CX0 2 T.a_Line_take_word T.d_Line_take_word ["self"] (spTakeWord T.c_Line)) (G_Line_take_tree : FnOk P w K mg base CX0 93 T.a_Line_take_tree T.d_Line_take_tree ["self"] (spRTree T.c_Line 45)) : FnOk P w K mg base CX0 94 T.a_take_kind T.d_take_kind ["line"] (spRKind T.c_Line) := by
  refine T.F_take_kind.ok sc_take_kind (fun vs H Q E h => ?_) (fun cdv A outer s H vs Q E hr h => ?_)
  · obtain ⟨o, dx, l, n, i, U, R, k, rfl, _⟩ := h; rfl
  · obtain ⟨o, dx, l, n, i, U, R, k, rfl, L, ⟨w1, w2, w3⟩, hd, q⟩ := h
    have hr_Line_skip : Room 2 _ := hr.mono (by decide)
    have hr_Line_take_word : Room 2 _ := hr.mono (by decide)
    have hr_Line_take_tree : Room 93 _ := hr
    refine ⟨_, (pss_cons (ps_set (i := 1) sc_take_kind.nd rfl (Or.inl rfl) (pe_meth0 (pv 0) T.cl_Line T.me_Line_take_word G_Line_take_word hr_Line_take_word T.b_Line_take_word .nil pass0))
    (pss_cons (ps_expr (pe_meth (pv 0) T.cl_Line T.me_Line_skip G_Line_skip hr_Line_skip T.b_Line_skip .nil pass0 (pa_cons pe_str pa_nil)))
    (pss_cons (ps_set (i := 2) sc_take_kind.nd rfl (Or.inl rfl) (pe_meth0 (pv 0) T.cl_Line T.me_Line_take_tree G_Line_take_tree hr_Line_take_tree T.b_Line_take_tree .nil pass0))
    (pss_cons (ps_expr (pe_meth (pv 0) T.cl_Line T.me_Line_skip G_Line_skip hr_Line_skip T.b_Line_skip .nil pass0 (pa_cons pe_str pa_nil)))
    (pss_one (ps_ret (pe_tup (pa_cons (pv 1) (pa_cons (pv 2) pa_nil))))))))), ?_⟩
    have hd0 : U.drop i = cs k.fam :: ([40] :: (tokT k.tm ++ ([41] :: R))) := by rw [hd]; simp [tokK]
    obtain ⟨a1, a2, a3⟩ := get_drop hd0
    obtain ⟨b1, b2, b3⟩ := get_drop a2
    have c0 := drop_app b2
    obtain ⟨c1, c2, c3⟩ := get_drop c0
    refine ⟨_, rfl, o, dx, _, rfl, L.ins, rfl, o, dx, l, n, i, U, k.fam, rfl, L, a1, w1, fun H1 x1 L1 => ?_⟩
    refine ⟨_, rfl, o, dx, _, rfl, L1.ins, rfl, o, dx, l, n, i + 1, U, "(", rfl, L1, b1, fun H2 x2 L2 => ?_⟩
    refine ⟨_, rfl, o, dx, _, rfl, L2.ins, rfl, o, dx, l, n, i + 1 + 1, U, [41] :: R, k.tm, rfl, L2, w3, b2, by simp, fun v H3 iv x3 L3 => ?_⟩
    refine ⟨_, rfl, o, dx, _, rfl, L3.ins, rfl, o, dx, l, n, i + 1 + 1 + (tokT k.tm).length, U, ")", rfl, L3, c1, fun H4 x4 L4 => ?_⟩
    refine ⟨_, rfl, _, rfl, (by show 2 ≤ sizeLine; decide), fun p hp => ?_⟩
    have s5 := same_upd hp (.tup [V.str k.fam, v])
    refine q _ _ (.tup upd_same (.cons (.str _ w2) (.cons ((iv.tk (L3.tk x4)).same s5) .nil))) ((((x1.trans x2).trans x3).trans x4).trans (.of s5)) ?_
    have := L4.same s5
    rw [show i + (tokK k).length = i + 1 + 1 + (tokT k.tm).length + 1 by simp only [tokK, List.length_cons, List.length_append, List.length_nil]; omega]
    exact this
def remK (ks : List Kd) : List (List Nat) := ks.flatMap fun k => [44] :: tokK k
theorem sepK_rem : ∀ (t : Kd) (r : List Kd), sepT ((t :: r).map tokK) = tokK t ++ remK r
  | t, [] => by simp [sepT, remK]
  | t, a :: r => by
    have := sepK_rem a r
    simp only [List.map_cons, sepT] at this ⊢
    rw [this]
    simp [remK]
theorem remK_cons (t : Kd) (r : List Kd) : remK (t :: r) = [44] :: (tokK t ++ remK r) := by simp [remK]
def spRKinds (C : Addr) : Sp := fun vs H Q _ => ∃ (o dx l : Addr) (n : Int) (i : Nat) (U R : List (List Nat)) (ks : List Kd), vs = [.ref o] ∧ LnAt C o dx l n i U H ∧ ks ≠ [] ∧ ks.length ≤ 3 ∧ (∀ k ∈ ks, KdW k) ∧ U.drop i = sepT (ks.map tokK) ++ R ∧ R.head? ≠ some [44] ∧ R ≠ [] ∧
  ∀ p vs H', H' p = some (.tup vs) → IsL H' vs (ks.map rawK) → Lx o H H' → LnAt C o dx l n (i + (sepT (ks.map tokK)).length) U H' → Q (.ref p) H'
theorem ok_take_kinds (T : Txt K mg) (G_take_kind : FnOk P w K mg base CX0 94 T.a_take_kind T.d_take_kind ["line"] (spRKind T.c_Line)) (G_Line_skip : FnOk P w K mg base CX0 2 T.a_Line_skip T.d_Line_skip ["self", "token"] (spSkip T.c_Line)) (G_Line_comes : FnOk P w K mg base CX0 1 T.a_Line_comes T.d_Line_comes ["self", "token"] (spComes T.c_Line)) : FnOk P w K mg base CX0 95 T.a_take_kinds T.d_take_kinds ["line"] (spRKinds T.c_Line) := by
  refine T.F_take_kinds.ok sc_take_kinds (fun vs H Q E h => ?_) (fun cdv A outer s H vs Q E hr h => ?_)
  · obtain ⟨o, dx, l, n, i, U, R, ks, rfl, _⟩ := h; rfl
  · obtain ⟨o, dx, l, n, i, U, R, ks, rfl, L, hne, hl3, hT, hd, hR, hRn, q⟩ := h
    have hr_Line_comes : Room 1 _ := hr.mono (by decide)
    have hr_Line_skip : Room 2 _ := hr.mono (by decide)
    have hr_take_kind : Room 94 _ := hr
    refine ⟨_, (pss_cons (ps_set (i := 1) sc_take_kinds.nd rfl (Or.inl rfl) (pe_lst (pa_cons (pe_call G_take_kind hr_take_kind rfl T.m_take_kind T.F_take_kind.kp T.b_take_kind .nil pass0 (pa_cons (pv 0) pa_nil)) pa_nil)))
    (pss_cons (ps_while PassesOwn.never (pt_val (pe_meth (pv 0) T.cl_Line T.me_Line_comes G_Line_comes hr_Line_comes T.b_Line_comes .nil pass0 (pa_cons pe_str pa_nil)))
    (pss_cons (ps_expr (pe_meth (pv 0) T.cl_Line T.me_Line_skip G_Line_skip hr_Line_skip T.b_Line_skip .nil pass0 (pa_cons pe_str pa_nil)))
    (pss_one (ps_expr (pe_bm PySem.F.plainAttrs_list PySem.F.slot_list_append PySem.F.type_list_append mt_append (pv 1) (pa_cons (pe_call G_take_kind hr_take_kind rfl T.m_take_kind T.F_take_kind.kp T.b_take_kind .nil pass0 (pa_cons (pv 0) pa_nil)) pa_nil))))))
    (pss_one (ps_ret (pe_callTy call_tuple_of (by rfl) T.z_tuple (by decide +kernel) (pa_cons (pv 1) pa_nil)))))), ?_⟩
    obtain ⟨t0, r0, rfl⟩ : ∃ t r, ks = t :: r := by cases ks with | nil => exact absurd rfl hne | cons t r => exact ⟨t, r, rfl⟩
    rw [sepK_rem] at hd q
    rw [List.append_assoc] at hd
    refine ⟨_, rfl, o, dx, l, n, i, U, remK r0 ++ R, t0, rfl, L, hT t0 (List.mem_cons_self ..), hd, fun v H2 iv x2 L2 => ⟨(by show 1 ≤ sizeLine; decide), fun p hp => ?_⟩⟩
    have s3 := same_upd hp (.lst [v])
    have L3 := L2.same s3
    have npo : p ≠ o := fun z => by rw [z, L2.ins] at hp; cases hp
    have hp0 : H p = none := by
      cases e : H p with
      | none => rfl
      | some u => have := x2 _ _ npo e; rw [hp] at this; cases this
    refine ⟨fun m σ H' => ∃ (done rem : List Kd) (vs : List V) (j : Nat), σ = [some (.ref o), some (.ref p)] ∧ t0 :: r0 = done ++ rem ∧ LnAt T.c_Line o dx l n j U H' ∧ U.drop j = remK rem ++ R ∧ H' p = some (.lst vs) ∧ IsL H' vs (done.map rawK) ∧ Lx o H H' ∧ j + (remK rem).length = i + (tokK t0 ++ remK r0).length ∧ m = rem.length,
      ⟨_, [t0], r0, [v], i + (tokK t0).length, rfl, rfl, L3, drop_app hd, upd_same, .cons (iv.same s3) .nil, x2.trans (.of s3), by rw [List.length_append]; omega, rfl⟩, ?_⟩
    rintro m σ H' ⟨done, rem, vs, j, rfl, hts, L', hj, ep, ivs, x', hcnt, rfl⟩
    have hjl : j ≤ U.length := by
      cases hrm : remK rem ++ R with
      | nil => exact absurd (List.append_eq_nil_iff.mp hrm).2 hRn
      | cons a b => rw [hrm] at hj; exact Nat.le_of_lt (get_drop hj).2.2
    refine ⟨_, rfl, o, dx, _, rfl, L'.ins, rfl, o, dx, l, n, j, U, ",", rfl, L', hjl, by decide +kernel, fun H3 sc => ⟨_, rfl, ?_⟩⟩
    have Lc := L'.same sc
    have xc := x'.trans (Lx.of sc)
    have epc := sc _ _ ep
    have ivc := ivs.same sc
    cases rem with
    | nil =>
      have hj2 : U.drop j = R := hj
      have hh : U[j]? = R.head? := by rw [← hj2, List.head?_drop]
      rw [hh, show cs "," = [44] from rfl, decide_eq_false hR]
      refine iteF ⟨_, rfl, p, vs, rfl, .inl ⟨SqL.of epc, fun q2 hq2 => ?_⟩⟩
      have s5 := same_upd hq2 (.tup vs)
      rw [List.append_nil] at hts
      rw [← hts] at ivc
      refine q q2 vs _ upd_same (ivc.same s5) (xc.trans (.of s5)) ?_
      have := Lc.same s5
      have hc : j = i + (tokK t0 ++ remK r0).length := by simpa [remK] using hcnt
      rw [← hc]
      exact this
    | cons t r =>
      rw [remK_cons, List.cons_append, List.append_assoc] at hj
      obtain ⟨k1, k2, k3⟩ := get_drop hj
      rw [k1, show decide (some [44] = some (cs ",")) = true by decide]
      refine iteT ⟨fun σ' H5 => ∃ (vs' : List V) (j' : Nat), σ' = [some (.ref o), some (.ref p)] ∧ LnAt T.c_Line o dx l n j' U H5 ∧ U.drop j' = remK r ++ R ∧ H5 p = some (.lst vs') ∧ IsL H5 vs' ((done ++ [t]).map rawK) ∧ Lx o H H5 ∧ j' + (remK r).length = i + (tokK t0 ++ remK r0).length,
        fun σ' H5 ⟨vs', j', a1, a2, a3, a4, a5, a6, a7⟩ => ⟨r.length, by simp, done ++ [t], r, vs', j', a1, by rw [hts]; simp, a2, a3, a4, a5, a6, a7, rfl⟩, ?_⟩
      refine ⟨_, rfl, o, dx, _, rfl, Lc.ins, rfl, o, dx, l, n, j, U, ",", rfl, Lc, k1, fun H4 x4 L4 => ?_⟩
      have ep4 := x4 _ _ npo epc
      refine ⟨_, rfl, .inl ⟨rfl, _, SqL.of ep4⟩, _, rfl, o, dx, l, n, j + 1, U, remK r ++ R, t, rfl, L4, hT t (by rw [hts]; simp), k2, fun v5 H5 iv5 x5 L5 => ?_⟩
      have ep5 := x5 _ _ npo ep4
      have hlen := ivc.len
      rw [List.length_map] at hlen
      have ld : done.length ≤ 3 := by have := congrArg List.length hts; rw [List.length_append] at this; simp at this hl3; omega
      have nlp : l ≠ p := fun z => by
        have h1 := L2.lst
        rw [z, hp] at h1; cases h1
      have L6 : LnAt T.c_Line o dx l n (j + 1 + (tokK t).length) U (upd H5 p (.lst (vs ++ [v5]))) := ⟨by rw [upd_ne npo.symm]; exact L5.ins, by rw [upd_ne nlp]; exact L5.lst, L5.len, L5.ok⟩
      refine ⟨p, _, _, rfl, rfl, ep5, small1000 (by omega), vs ++ [v5], _, rfl, L6, drop_app k2, upd_same, ?_, (xc.trans (x4.trans x5)).own hp0 _, ?_⟩
      · rw [List.map_append]
        exact IsL.over ep5 (((ivc.tk (Lc.tk x4)).tk (L4.tk x5)).append (.cons iv5 .nil))
      · rw [remK_cons] at hcnt
        simp only [List.length_cons, List.length_append] at hcnt ⊢
        omega
end
end Kx
namespace Kx
open PySem PySem.Spec PyProof.Rows L2
section
variable {P : Program} {w : World} {K : PySem.W.Frag} {mg : Str → Option Value} {base : Heap}
set_option pp.maxSteps 800
/-! ### the draft -/
def cnR (c : Cn) : PV := .tup [.str c.w, .tup (c.ps.map rawK), .str c.md.fam, raw c.md.tm]
def clR (c : Cl) : PV := .tup [.tup (c.ps.map raw), raw c.b]
structure DS where
  ms : List (Str × Nat)
  fm : List Str
  cn : List Cn
  fs : List Fn
inductive FnL (H : Hp) : List V → List Addr → List Fn → Prop
  | nil : FnL H [] [] []
  | cons {p q : Addr} {kv ix : V} {vs us : List V} {qs : List Addr} {f : Fn} {fs : List Fn} (e : H p = some (.tup [.str f.w, kv, .str f.md.fam, ix, .int f.falls, .ref q])) (o1 : sok f.w = true) (o2 : sok f.md.fam = true) (ik : Is H kv (.tup (f.ps.map rawK))) (ii : Is H ix (raw f.md.tm))
    (eq : H q = some (.lst us)) (il : IsL H us (f.cls.map clR)) (r : FnL H vs qs fs) : FnL H (.ref p :: vs) (q :: qs) (f :: fs)
theorem FnL.keep {H H' : Hp} (t : Tk H H') : ∀ {vs : List V} {qs : List Addr} {fs : List Fn}, FnL H vs qs fs → (∀ q ∈ qs, ∀ u, H q = some u → H' q = some u) → FnL H' vs qs fs
  | _, _, _, .nil, _ => .nil
  | _, _, _, .cons e o1 o2 ik ii eq il r, k => .cons (t _ _ e) o1 o2 (ik.tk t) (ii.tk t) (k _ (List.mem_cons_self ..) _ eq) (il.tk t) (r.keep t fun q hq => k q (List.mem_cons_of_mem _ hq))
theorem FnL.lst {H : Hp} : ∀ {vs : List V} {qs : List Addr} {fs : List Fn}, FnL H vs qs fs → ∀ q ∈ qs, ∃ us, H q = some (.lst us)
  | _, _, _, .cons _ _ _ _ _ eq _ r, q, hq => by
    rcases List.mem_cons.mp hq with rfl | hq
    · exact ⟨_, eq⟩
    · exact r.lst q hq
theorem FnL.len {H : Hp} : ∀ {vs : List V} {qs : List Addr} {fs : List Fn}, FnL H vs qs fs → vs.length = fs.length
  | _, _, _, .nil => rfl
  | _, _, _, .cons _ _ _ _ _ _ _ r => by rw [List.length_cons, List.length_cons, r.len]
theorem FnL.snoc {H : Hp} {p q : Addr} {kv ix : V} {us : List V} {f : Fn} (e : H p = some (.tup [.str f.w, kv, .str f.md.fam, ix, .int f.falls, .ref q])) (o1 : sok f.w = true) (o2 : sok f.md.fam = true) (ik : Is H kv (.tup (f.ps.map rawK))) (ii : Is H ix (raw f.md.tm))
    (eq : H q = some (.lst us)) (il : IsL H us (f.cls.map clR)) : ∀ {vs : List V} {qs : List Addr} {fs : List Fn}, FnL H vs qs fs → FnL H (vs ++ [.ref p]) (qs ++ [q]) (fs ++ [f])
  | _, _, _, .nil => .cons e o1 o2 ik ii eq il .nil
  | _, _, _, .cons a b c d e2 f2 g r => .cons a b c d e2 f2 g (r.snoc e o1 o2 ik ii eq il)
theorem FnL.last {H : Hp} {f : Fn} : ∀ {fs : List Fn} {vs : List V} {qs : List Addr}, FnL H vs qs (fs ++ [f]) → ∃ vs' qs' p q kv ix us, vs = vs' ++ [.ref p] ∧ qs = qs' ++ [q] ∧ FnL H vs' qs' fs ∧ H p = some (.tup [.str f.w, kv, .str f.md.fam, ix, .int f.falls, .ref q]) ∧ sok f.w = true ∧ sok f.md.fam = true ∧ Is H kv (.tup (f.ps.map rawK)) ∧ Is H ix (raw f.md.tm) ∧ H q = some (.lst us) ∧ IsL H us (f.cls.map clR)
  | [], _, _, .cons e o1 o2 ik ii eq il .nil => ⟨[], [], _, _, _, _, _, rfl, rfl, .nil, e, o1, o2, ik, ii, eq, il⟩
  | g :: fs, _, _, .cons a b c d e2 f2 i r => by
    obtain ⟨vs', qs', p, q, kv, ix, us, rfl, rfl, h, t⟩ := FnL.last r
    exact ⟨_ :: vs', _ :: qs', p, q, kv, ix, us, rfl, rfl, .cons a b c d e2 f2 i h, t⟩
theorem ne_mem {x y : Addr} {l : List Addr} (h : x ∉ l) (hy : y ∈ l) : y ≠ x := fun z => h (z ▸ hy)
structure DA where
  d : Addr
  dx : Addr
  lm : Addr
  lf : Addr
  lc : Addr
  lg : Addr
  lq : Addr
  qs : List Addr
def DA.fp (a : DA) : List Addr := a.lm :: a.lf :: a.lc :: a.lg :: a.qs
def DA.flds (a : DA) : List (Str × V) := [("asks", .bl false), ("makers", .ref a.lm), ("families", .ref a.lf), ("constructors", .ref a.lc), ("functions", .ref a.lg), ("questions", .ref a.lq)]
structure DfAt (C : Addr) (a : DA) (s : DS) (H : Hp) : Prop where
  ins : H a.d = some (.ins C a.dx a.flds)
  nd : a.fp.Nodup
  mak : ∃ vs, H a.lm = some (.lst vs) ∧ IsL H vs (s.ms.map mkP)
  fm : H a.lf = some (.lst (s.fm.map V.str))
  fo : ∀ z ∈ s.fm, sok z = true
  cn : ∃ vs, H a.lc = some (.lst vs) ∧ IsL H vs (s.cn.map cnR)
  fn : ∃ vs, H a.lg = some (.lst vs) ∧ FnL H vs a.qs s.fs
section
variable {C : Addr} {a : DA} {s : DS} {H H' : Hp}
theorem DfAt.lst (D : DfAt C a s H) : ∀ b ∈ a.fp, ∃ xs, H b = some (.lst xs) := fun b hb => by
  unfold DA.fp at hb
  simp only [List.mem_cons] at hb
  rcases hb with rfl | rfl | rfl | rfl | hb
  · obtain ⟨vs, e, _⟩ := D.mak; exact ⟨_, e⟩
  · exact ⟨_, D.fm⟩
  · obtain ⟨vs, e, _⟩ := D.cn; exact ⟨_, e⟩
  · obtain ⟨vs, e, _⟩ := D.fn; exact ⟨_, e⟩
  · obtain ⟨vs, _, f⟩ := D.fn; exact f.lst b hb
theorem DfAt.keep (D : DfAt C a s H) (t : Tk H H') (k : ∀ b u, b = a.d ∨ b ∈ a.fp → H b = some u → H' b = some u) : DfAt C a s H' := by
  obtain ⟨vm, em, im⟩ := D.mak
  obtain ⟨vc, ec, ic⟩ := D.cn
  obtain ⟨vg, eg, ig⟩ := D.fn
  exact ⟨k _ _ (.inl rfl) D.ins, D.nd, ⟨vm, k _ _ (.inr (by simp [DA.fp])) em, im.tk t⟩, k _ _ (.inr (by simp [DA.fp])) D.fm, D.fo, ⟨vc, k _ _ (.inr (by simp [DA.fp])) ec, ic.tk t⟩, vg, k _ _ (.inr (by simp [DA.fp])) eg, ig.keep t fun q hq u => k q u (.inr (by simp [DA.fp, hq]))⟩
theorem DfAt.same (D : DfAt C a s H) (x : Same H H') : DfAt C a s H' := D.keep (.of x) fun b u _ => x b u
theorem DfAt.lx {o : Addr} (D : DfAt C a s H) {C2 dx l : Addr} {n : Int} {i : Nat} {U : List (List Nat)} (L : LnAt C2 o dx l n i U H) (x : Lx o H H') (ne : o ≠ a.d) : DfAt C a s H' :=
  D.keep (L.tk x) fun b u hb h => x b u (fun e => by
    subst e
    rcases hb with e | hb
    · exact ne e
    · obtain ⟨xs, e⟩ := D.lst b hb
      rw [L.ins] at e; cases e) h
/-- a list of it is written -/
theorem wr_tk {b : Addr} {xs ys : List V} (e : H b = some (.lst xs)) : Tk H (upd H b (.lst ys)) := fun a us e2 => by rw [upd_ne (fun q => by rw [q, e] at e2; cases e2)]; exact e2
theorem DfAt.addM (D : DfAt C a s H) {vs : List V} {v : V} {m : Str × Nat} (e : H a.lm = some (.lst vs)) (i : Is H v (mkP m)) : DfAt C a { s with ms := s.ms ++ [m] } (upd H a.lm (.lst (vs ++ [v]))) := by
  have t := wr_tk (ys := vs ++ [v]) e
  obtain ⟨vm, em, im⟩ := D.mak
  rw [em] at e
  cases e
  obtain ⟨vc, ec, ic⟩ := D.cn
  obtain ⟨vg, eg, ig⟩ := D.fn
  have nd := D.nd
  unfold DA.fp at nd
  simp only [List.nodup_cons, List.mem_cons, not_or] at nd
  obtain ⟨⟨n1, n2, n3, n4⟩, _⟩ := nd
  refine ⟨by rw [upd_ne (fun q => by have := D.ins; rw [q, em] at this; cases this)]; exact D.ins, D.nd, ⟨_, upd_same, ?_⟩, by rw [upd_ne (Ne.symm n1)]; exact D.fm, D.fo, ⟨vc, by rw [upd_ne (Ne.symm n2)]; exact ec, ic.tk t⟩, vg, by rw [upd_ne (Ne.symm n3)]; exact eg, ig.keep t fun q hq u h => by rw [upd_ne (ne_mem n4 hq)]; exact h⟩
  rw [List.map_append]
  exact (im.tk t).append (.cons (i.tk t) .nil)
theorem DfAt.addF (D : DfAt C a s H) {z : Str} (oz : sok z = true) : DfAt C a { s with fm := s.fm ++ [z] } (upd H a.lf (.lst (s.fm.map V.str ++ [.str z]))) := by
  have t := wr_tk (ys := s.fm.map V.str ++ [.str z]) D.fm
  obtain ⟨vm, em, im⟩ := D.mak
  obtain ⟨vc, ec, ic⟩ := D.cn
  obtain ⟨vg, eg, ig⟩ := D.fn
  have nd := D.nd
  unfold DA.fp at nd
  simp only [List.nodup_cons, List.mem_cons, not_or] at nd
  obtain ⟨⟨n1, n2, n3, n4⟩, ⟨m1, m2, m3⟩, _⟩ := nd
  refine ⟨by rw [upd_ne (fun q => by have := D.ins; rw [q, D.fm] at this; cases this)]; exact D.ins, D.nd, ⟨_, by rw [upd_ne n1]; exact em, im.tk t⟩, by rw [upd_same, List.map_append]; rfl, fun x hx => ?_, ⟨vc, by rw [upd_ne (Ne.symm m1)]; exact ec, ic.tk t⟩, vg, by rw [upd_ne (Ne.symm m2)]; exact eg, ig.keep t fun q hq u h => by rw [upd_ne (ne_mem m3 hq)]; exact h⟩
  rcases List.mem_append.mp hx with h | h
  · exact D.fo x h
  · rw [List.mem_singleton.mp h]; exact oz
theorem DfAt.addC (D : DfAt C a s H) {vs : List V} {v : V} {c : Cn} (e : H a.lc = some (.lst vs)) (i : Is H v (cnR c)) : DfAt C a { s with cn := s.cn ++ [c] } (upd H a.lc (.lst (vs ++ [v]))) := by
  have t := wr_tk (ys := vs ++ [v]) e
  obtain ⟨vm, em, im⟩ := D.mak
  obtain ⟨vc, ec, ic⟩ := D.cn
  rw [ec] at e
  cases e
  obtain ⟨vg, eg, ig⟩ := D.fn
  have nd := D.nd
  unfold DA.fp at nd
  simp only [List.nodup_cons, List.mem_cons, not_or] at nd
  obtain ⟨⟨n1, n2, n3, n4⟩, ⟨m1, m2, m3⟩, ⟨k1, k2⟩, _⟩ := nd
  refine ⟨by rw [upd_ne (fun q => by have := D.ins; rw [q, ec] at this; cases this)]; exact D.ins, D.nd, ⟨_, by rw [upd_ne n2]; exact em, im.tk t⟩, by rw [upd_ne m1]; exact D.fm, D.fo, ⟨_, upd_same, ?_⟩, vg, by rw [upd_ne (Ne.symm k1)]; exact eg, ig.keep t fun q hq u h => by rw [upd_ne (ne_mem k2 hq)]; exact h⟩
  rw [List.map_append]
  exact (ic.tk t).append (.cons (i.tk t) .nil)
theorem DfAt.addG (D : DfAt C a s H) {vs : List V} {p q : Addr} {kv ix : V} {f : Fn} (e : H a.lg = some (.lst vs)) (ep : H p = some (.tup [.str f.w, kv, .str f.md.fam, ix, .int f.falls, .ref q])) (o1 : sok f.w = true) (o2 : sok f.md.fam = true) (ik : Is H kv (.tup (f.ps.map rawK))) (ii : Is H ix (raw f.md.tm))
    (eq : H q = some (.lst [])) (hc : f.cls = []) (nq : q ∉ a.fp) : DfAt C { a with qs := a.qs ++ [q] } { s with fs := s.fs ++ [f] } (upd H a.lg (.lst (vs ++ [.ref p]))) := by
  have t := wr_tk (ys := vs ++ [.ref p]) e
  obtain ⟨vm, em, im⟩ := D.mak
  obtain ⟨vc, ec, ic⟩ := D.cn
  obtain ⟨vg, eg, ig⟩ := D.fn
  rw [eg] at e
  cases e
  have nd := D.nd
  unfold DA.fp at nd nq
  simp only [List.nodup_cons, List.mem_cons, not_or] at nd nq
  obtain ⟨⟨n1, n2, n3, n4⟩, ⟨m1, m2, m3⟩, ⟨k1, k2⟩, j1, j2⟩ := nd
  obtain ⟨q1, q2, q3, q4, q5⟩ := nq
  refine ⟨by rw [upd_ne (fun q => by have := D.ins; rw [q, eg] at this; cases this)]; exact D.ins, ?_, ⟨_, by rw [upd_ne n3]; exact em, im.tk t⟩, by rw [upd_ne m2]; exact D.fm, D.fo, ⟨vc, by rw [upd_ne k1]; exact ec, ic.tk t⟩, _, upd_same, ?_⟩
  · unfold DA.fp
    simp only [List.nodup_cons, List.mem_cons, List.mem_append, List.not_mem_nil, or_false, not_or]
    refine ⟨⟨n1, n2, n3, n4, Ne.symm q1⟩, ⟨m1, m2, m3, Ne.symm q2⟩, ⟨k1, k2, Ne.symm q3⟩, ⟨j1, Ne.symm q4⟩, List.nodup_append.mpr ⟨j2, by simp, fun x hx y hy => ?_⟩⟩
    rw [List.mem_singleton.mp hy]
    exact fun z => q5 (z ▸ hx)
  · refine FnL.snoc (t _ _ ep) o1 o2 (ik.tk t) (ii.tk t) (us := []) (by rw [upd_ne q4]; exact eq) (by rw [hc]; exact .nil) (ig.keep t fun q hq u h => by rw [upd_ne (ne_mem j1 hq)]; exact h)
def addCl : List Fn → Cl → List Fn
  | [], _ => []
  | [f], c => [{ f with cls := f.cls ++ [c] }]
  | f :: g :: r, c => f :: addCl (g :: r) c
theorem addCl_snoc (f : Fn) (c : Cl) : ∀ fs : List Fn, addCl (fs ++ [f]) c = fs ++ [{ f with cls := f.cls ++ [c] }]
  | [] => rfl
  | [g] => rfl
  | g :: h :: r => by
    have := addCl_snoc f c (h :: r)
    simp only [List.cons_append] at this ⊢
    simp only [addCl, this]
theorem DfAt.addL (D : DfAt C a s H) {fs : List Fn} {f : Fn} {c : Cl} {q : Addr} {qs' : List Addr} {us : List V} {v : V} (hs : s.fs = fs ++ [f]) (hq : a.qs = qs' ++ [q]) (e : H q = some (.lst us)) (i : Is H v (clR c)) : DfAt C a { s with fs := fs ++ [{ f with cls := f.cls ++ [c] }] } (upd H q (.lst (us ++ [v]))) := by
  have t := wr_tk (ys := us ++ [v]) e
  obtain ⟨vm, em, im⟩ := D.mak
  obtain ⟨vc, ec, ic⟩ := D.cn
  obtain ⟨vg, eg, ig⟩ := D.fn
  rw [hs] at ig
  obtain ⟨vs', qs2, p, q', kv, ix, us', rfl, hq2, ih, ep, o1, o2, ik, ii, eq, il⟩ := ig.last
  rw [hq] at hq2
  obtain ⟨rfl, h2⟩ := List.append_inj' hq2 rfl
  cases h2
  rw [eq] at e
  cases e
  have nd := D.nd
  unfold DA.fp at nd
  rw [hq] at nd
  simp only [List.nodup_cons, List.mem_cons, List.mem_append, List.not_mem_nil, or_false, not_or] at nd
  obtain ⟨⟨n1, n2, n3, n4, n5⟩, ⟨m1, m2, m3, m4⟩, ⟨k1, k2, k3⟩, ⟨j1, j3⟩, j2⟩ := nd
  have jn := (List.nodup_append.mp j2).2.2
  refine ⟨by rw [upd_ne (fun z => by have := D.ins; rw [z, eq] at this; cases this)]; exact D.ins, D.nd, ⟨_, by rw [upd_ne n5]; exact em, im.tk t⟩, by rw [upd_ne m4]; exact D.fm, D.fo, ⟨vc, by rw [upd_ne k3]; exact ec, ic.tk t⟩, _, by rw [upd_ne j3]; exact eg, ?_⟩
  rw [hq]
  refine FnL.snoc (f := { f with cls := f.cls ++ [c] }) (t _ _ ep) o1 o2 (ik.tk t) (ii.tk t) upd_same ?_ (ih.keep t fun x hx u h => by rw [upd_ne (jn x hx q (by simp))]; exact h)
  rw [List.map_append]
  exact (il.tk t).append (.cons (i.tk t) .nil)
theorem LnAt.wr {C2 o dx l b : Addr} {n : Int} {i : Nat} {U : List (List Nat)} {xs ys : List V} (L : LnAt C2 o dx l n i U H) (e : H b = some (.lst xs)) (ne : b ≠ l) : LnAt C2 o dx l n i U (upd H b (.lst ys)) :=
  ⟨by rw [upd_ne (fun z => by have := L.ins; rw [z, e] at this; cases this)]; exact L.ins, by rw [upd_ne ne.symm]; exact L.lst, L.len, L.ok⟩
end
def spDInit (C : Addr) : Sp := fun vs H Q _ => ∃ (d dx : Addr), vs = [.ref d, .bl false] ∧ H d = some (.ins C dx []) ∧ ∀ a H', a.d = d → a.dx = dx → a.qs = [] → DfAt C a ⟨[], [], [], []⟩ H' → (∀ b ∈ a.fp, H b = none) → (∀ b u, b ≠ d → H b = some u → H' b = some u) → Q .non H'
theorem ok_Draft_init (T : Txt K mg)  : FnOk P w K mg base CX0 1 T.a_Draft_init T.d_Draft_init ["self", "asks"] (spDInit T.c_Draft) := by
  refine T.F_Draft_init.ok sc_Draft_init (fun vs H Q E h => ?_) (fun cdv A outer s H vs Q E hr h => ?_)
  · obtain ⟨d, dx, rfl, _⟩ := h; rfl
  · obtain ⟨d, dx, rfl, e, q⟩ := h
    refine ⟨_, (pss_cons (ps_fld (pv 0) (pv 1) rfl)
    (pss_cons (ps_fld (pv 0) (pe_lst pa_nil) rfl)
    (pss_cons (ps_fld (pv 0) (pe_lst pa_nil) rfl)
    (pss_cons (ps_fld (pv 0) (pe_lst pa_nil) rfl)
    (pss_cons (ps_fld (pv 0) (pe_lst pa_nil) rfl)
    (pss_one (ps_fld (pv 0) (pe_lst pa_nil) rfl))))))), ?_⟩
    refine ⟨_, rfl, _, rfl, d, T.c_Draft, dx, [], rfl, e, T.cl_Draft, T.no_Draft_asks, by decide, ?_⟩
    have x0 : Lx d H (upd H d (.ins T.c_Draft dx (putF "asks" (.bl false) []))) := fun b u nb h => by rw [upd_ne nb]; exact h
    have e0 : (upd H d (.ins T.c_Draft dx (putF "asks" (.bl false) []))) d = some (.ins T.c_Draft dx [("asks", .bl false)]) := upd_same
    generalize (upd H d (.ins T.c_Draft dx (putF "asks" (.bl false) []))) = H0 at x0 e0 ⊢
    have step : ∀ {H0 : Hp} {fs : List (Str × V)} {p : Addr} {z : Str}, H0 p = none → H0 d = some (.ins T.c_Draft dx fs) → Lx d H0 (upd (upd H0 p (.lst [])) d (.ins T.c_Draft dx (putF z (.ref p) fs))) ∧ (upd (upd H0 p (.lst [])) d (.ins T.c_Draft dx (putF z (.ref p) fs))) p = some (.lst []) ∧ (upd H0 p (.lst [])) d = some (.ins T.c_Draft dx fs) := fun {H0 fs p z} hp hd => by
      have np : p ≠ d := fun z => by rw [z, hd] at hp; cases hp
      refine ⟨fun b u nb h => ?_, ?_, ?_⟩
      · rw [upd_ne nb, upd_ne (ne_of_none h hp)]; exact h
      · rw [upd_ne np]; exact upd_same
      · rw [upd_ne np.symm]; exact hd
    have nf : ∀ {H1 : Hp} {p : Addr} {fs : List (Str × V)}, Lx d H H1 → H1 d = some (.ins T.c_Draft dx fs) → H1 p = none → H p = none ∧ p ≠ d := fun {H1 p fs} x ed hp => by
      have np : p ≠ d := fun z => by rw [z, ed] at hp; cases hp
      refine ⟨?_, np⟩
      cases e : H p with
      | none => rfl
      | some u => have := x _ _ np e; rw [hp] at this; cases this
    refine ⟨by decide, fun p1 hp1 => ?_⟩
    obtain ⟨x1, f1, g1⟩ := step (z := "makers") hp1 e0
    refine ⟨_, rfl, d, T.c_Draft, dx, _, rfl, g1, T.cl_Draft, T.no_Draft_makers, by show 1 < 1000; decide, ?_⟩
    have e1 : (upd (upd H0 p1 (.lst [])) d (.ins T.c_Draft dx (putF "makers" (.ref p1) [("asks", .bl false)]))) d = some (.ins T.c_Draft dx [("asks", .bl false), ("makers", .ref p1)]) := upd_same
    generalize (upd (upd H0 p1 (.lst [])) d (.ins T.c_Draft dx (putF "makers" (.ref p1) [("asks", .bl false)]))) = H1 at x1 f1 e1 ⊢
    refine ⟨by decide, fun p2 hp2 => ?_⟩
    obtain ⟨x2, f2, g2⟩ := step (z := "families") hp2 e1
    refine ⟨_, rfl, d, T.c_Draft, dx, _, rfl, g2, T.cl_Draft, T.no_Draft_families, by show 2 < 1000; decide, ?_⟩
    have e2 : (upd (upd H1 p2 (.lst [])) d (.ins T.c_Draft dx (putF "families" (.ref p2) [("asks", .bl false), ("makers", .ref p1)]))) d = some (.ins T.c_Draft dx [("asks", .bl false), ("makers", .ref p1), ("families", .ref p2)]) := upd_same
    generalize (upd (upd H1 p2 (.lst [])) d (.ins T.c_Draft dx (putF "families" (.ref p2) [("asks", .bl false), ("makers", .ref p1)]))) = H2 at x2 f2 e2 ⊢
    refine ⟨by decide, fun p3 hp3 => ?_⟩
    obtain ⟨x3, f3, g3⟩ := step (z := "constructors") hp3 e2
    refine ⟨_, rfl, d, T.c_Draft, dx, _, rfl, g3, T.cl_Draft, T.no_Draft_constructors, by show 3 < 1000; decide, ?_⟩
    have e3 : (upd (upd H2 p3 (.lst [])) d (.ins T.c_Draft dx (putF "constructors" (.ref p3) [("asks", .bl false), ("makers", .ref p1), ("families", .ref p2)]))) d = some (.ins T.c_Draft dx [("asks", .bl false), ("makers", .ref p1), ("families", .ref p2), ("constructors", .ref p3)]) := upd_same
    generalize (upd (upd H2 p3 (.lst [])) d (.ins T.c_Draft dx (putF "constructors" (.ref p3) [("asks", .bl false), ("makers", .ref p1), ("families", .ref p2)]))) = H3 at x3 f3 e3 ⊢
    refine ⟨by decide, fun p4 hp4 => ?_⟩
    obtain ⟨x4, f4, g4⟩ := step (z := "functions") hp4 e3
    refine ⟨_, rfl, d, T.c_Draft, dx, _, rfl, g4, T.cl_Draft, T.no_Draft_functions, by show 4 < 1000; decide, ?_⟩
    have e4 : (upd (upd H3 p4 (.lst [])) d (.ins T.c_Draft dx (putF "functions" (.ref p4) [("asks", .bl false), ("makers", .ref p1), ("families", .ref p2), ("constructors", .ref p3)]))) d = some (.ins T.c_Draft dx [("asks", .bl false), ("makers", .ref p1), ("families", .ref p2), ("constructors", .ref p3), ("functions", .ref p4)]) := upd_same
    generalize (upd (upd H3 p4 (.lst [])) d (.ins T.c_Draft dx (putF "functions" (.ref p4) [("asks", .bl false), ("makers", .ref p1), ("families", .ref p2), ("constructors", .ref p3)]))) = H4 at x4 f4 e4 ⊢
    refine ⟨by decide, fun p5 hp5 => ?_⟩
    obtain ⟨x5, f5, g5⟩ := step (z := "questions") hp5 e4
    refine ⟨_, rfl, d, T.c_Draft, dx, _, rfl, g5, T.cl_Draft, T.no_Draft_questions, by show 5 < 1000; decide, ?_⟩
    have n1 := nf x0 e0 hp1
    have n2 := nf (x0.trans x1) e1 hp2
    have n3 := nf ((x0.trans x1).trans x2) e2 hp3
    have n4 := nf (((x0.trans x1).trans x2).trans x3) e3 hp4
    have h12 := ne_of_none f1 hp2
    have k13 := x2 _ _ n1.2 f1
    have h13 := ne_of_none k13 hp3
    have h23 := ne_of_none f2 hp3
    have k14 := x3 _ _ n1.2 k13
    have k24 := x3 _ _ n2.2 f2
    have h14 := ne_of_none k14 hp4
    have h24 := ne_of_none k24 hp4
    have h34 := ne_of_none f3 hp4
    refine q ⟨d, dx, p1, p2, p3, p4, p5, []⟩ _ rfl rfl rfl ⟨upd_same, ?_, ⟨[], x5 _ _ n1.2 (x4 _ _ n1.2 k14), .nil⟩, x5 _ _ n2.2 (x4 _ _ n2.2 k24), by simp, ⟨[], x5 _ _ n3.2 (x4 _ _ n3.2 f3), .nil⟩, [], x5 _ _ n4.2 f4, .nil⟩ ?_ ?_
    · simp only [DA.fp, List.nodup_cons, List.mem_cons, List.not_mem_nil, or_false, not_or, not_false_eq_true, List.nodup_nil, and_true]
      exact ⟨⟨h12, h13, h14⟩, ⟨h23, h24⟩, h34⟩
    · intro b hb
      simp only [DA.fp, List.mem_cons, List.not_mem_nil, or_false] at hb
      rcases hb with rfl | rfl | rfl | rfl
      · exact n1.1
      · exact n2.1
      · exact n3.1
      · exact n4.1
    · exact ((((x0.trans x1).trans x2).trans x3).trans x4).trans x5
end
end Kx
namespace Kx
open PySem PySem.Spec PyProof.Rows L2
section
variable {P : Program} {w : World} {K : PySem.W.Frag} {mg : Str → Option Value} {base : Heap}
set_option pp.maxSteps 800
/-! ### lines taken -/
inductive Item where
  | m (x : Str × Nat)
  | f (z : Str)
  | c (x : Cn)
  | h (x : Fn)
  | l (w : Str) (x : Cl)
def stp (s : DS) : Item → DS
  | .m x => { s with ms := s.ms ++ [x] }
  | .f z => { s with fm := s.fm ++ [z] }
  | .c x => { s with cn := s.cn ++ [x] }
  | .h x => { s with fs := s.fs ++ [{ x with cls := [] }] }
  | .l _ x => { s with fs := addCl s.fs x }
def tokI : Item → List (List Nat)
  | .m x => tokM x
  | .f z => tokF z
  | .c x => tokC x
  | .h x => tokH x
  | .l w x => tokL w x
def CnW (w : Str) (ps : List Kd) (md : Kd) : Prop := WkB w ∧ sok w = true ∧ ps.length ≤ 3 ∧ (∀ k ∈ ps, KdW k) ∧ KdW md
def ItOk (s : DS) : Item → Prop
  | .m x => WkB x.1 ∧ sok x.1 = true ∧ x.2 < 100
  | .f z => WkB z ∧ sok z = true
  | .c x => CnW x.w x.ps x.md
  | .h x => CnW x.w x.ps x.md ∧ x.ps ≠ [] ∧ x.falls < 100
  | .l w x => WkB w ∧ sok w = true ∧ x.ps ≠ [] ∧ x.ps.length ≤ 3 ∧ (∀ p ∈ x.ps, TrW 45 p) ∧ TrW 45 x.b ∧ ∃ fs f, s.fs = fs ++ [f] ∧ f.w = w
def DsB (s : DS) : Prop := s.ms.length ≤ 100 ∧ s.fm.length ≤ 100 ∧ s.cn.length ≤ 100 ∧ s.fs.length ≤ 100 ∧ ∀ f ∈ s.fs, f.cls.length ≤ 100
/-- all but the line and the draft's lists stands -/
def Fx (o : Addr) (S : List Addr) (H H' : Hp) : Prop := ∀ b u, b ≠ o → b ∉ S → H b = some u → H' b = some u
theorem Lx.fx {o : Addr} {S : List Addr} {H H' : Hp} (x : Lx o H H') : Fx o S H H' := fun b u n _ h => x b u n h
theorem Fx.trans {o : Addr} {S : List Addr} {H H1 H2 : Hp} (x : Fx o S H H1) (y : Fx o S H1 H2) : Fx o S H H2 := fun b u n k h => y b u n k (x b u n k h)
theorem Fx.wr {o b : Addr} {S : List Addr} {H : Hp} {u : HO} (hb : b ∈ S) : Fx o S H (upd H b u) := fun c v _ k h => by rw [upd_ne (fun z => k (by rw [z]; exact hb))]; exact h
/-- what a taker of one line asks and promises -/
def spIt (CL CD : Addr) (i : Nat) (P : Item → Prop) (T : Item → List (List Nat)) : Sp := fun vs H Q _ => ∃ (a : DA) (s : DS) (it : Item) (o dx l : Addr) (n : Int) (U : List (List Nat)), P it ∧ vs = [.ref a.d, .ref o] ∧ DfAt CD a s H ∧ LnAt CL o dx l n i U H ∧ o ≠ a.d ∧ l ∉ a.fp ∧ U.drop i = T it ∧ ItOk s it ∧ DsB s ∧
  ∀ a' H', a'.d = a.d → DfAt CD a' (stp s it) H' → (a' = a ∨ ∃ q, a' = { a with qs := a.qs ++ [q] } ∧ H q = none) → LnAt CL o dx l n U.length U H' → Fx o a.fp H H' → Q .non H'
theorem drop_end {U X : List (List Nat)} {i : Nat} (h : U.drop i = X) (ne : X ≠ []) : U.length = i + X.length := by
  have := congrArg List.length h
  rw [List.length_drop] at this
  have : 0 < X.length := List.length_pos_iff.mpr ne
  omega
theorem ok_take_maker (T : Txt K mg) (G_Line_take_number : FnOk P w K mg base CX0 2 T.a_Line_take_number T.d_Line_take_number ["self"] (spTakeNum T.c_Line)) (G_Line_take_word : FnOk P w K mg base CX0 2 T.a_Line_take_word T.d_Line_take_word ["self"] (spTakeWord T.c_Line)) : FnOk P w K mg base CX0 3 T.a_take_maker T.d_take_maker ["draft", "line"] (spIt T.c_Line T.c_Draft 1 (fun it => ∃ x, it = .m x) (fun it => (tokI it).drop 1)) := by
  refine T.F_take_maker.ok sc_take_maker (fun vs H Q E h => ?_) (fun cdv A outer s H vs Q E hr h => ?_)
  · obtain ⟨a, s, it, o, dx, l, n, U, ⟨x, rfl⟩, rfl, _⟩ := h; rfl
  · obtain ⟨a, s, it, o, dx, l, n, U, ⟨x, rfl⟩, rfl, D, L, no, nl, hd, ⟨w1, w2, w3⟩, hB, q⟩ := h
    have hr_Line_take_word := hr
    have hr_Line_take_number := hr
    refine ⟨_, (pss_cons (ps_set (i := 2) sc_take_maker.nd rfl (Or.inl rfl) (pe_meth0 (pv 1) T.cl_Line T.me_Line_take_word G_Line_take_word hr_Line_take_word T.b_Line_take_word .nil pass0))
    (pss_one (ps_expr (pe_bm PySem.F.plainAttrs_list PySem.F.slot_list_append PySem.F.type_list_append mt_append (pe_fld (pv 0) rfl) (pa_cons (pe_tup (pa_cons (pv 2) (pa_cons (pe_meth0 (pv 1) T.cl_Line T.me_Line_take_number G_Line_take_number hr_Line_take_number T.b_Line_take_number .nil pass0) pa_nil))) pa_nil))))), ?_⟩
    have hd0 : U.drop 1 = [cs x.1, num x.2] := hd
    have hU := drop_end hd0 (by simp)
    obtain ⟨a1, a2, a3⟩ := get_drop hd0
    obtain ⟨b1, b2, b3⟩ := get_drop a2
    refine ⟨_, rfl, o, dx, _, rfl, L.ins, rfl, o, dx, l, n, 1, U, x.1, rfl, L, a1, w1, fun H1 x1 L1 => ?_⟩
    have D1 := D.lx L x1 no
    obtain ⟨vm, em, im⟩ := D1.mak
    refine ⟨_, rfl, a.d, _, a.dx, _, _, rfl, D1.ins, T.cl_Draft, T.no_Draft_makers, rfl, .inl ⟨rfl, _, SqL.of em⟩, _, rfl, _, rfl, o, dx, _, rfl, L1.ins, rfl, o, dx, l, n, 2, U, x.2, rfl, L1, b1, w3, fun H2 x2 L2 => ⟨(by show 2 ≤ sizeLine; decide), fun p hp => ?_⟩⟩
    have D2 := D1.lx L1 x2 no
    have s3 := same_upd hp (.tup [V.str x.1, V.int x.2])
    have D3 := D2.same s3
    have L3 := L2.same s3
    obtain ⟨vm3, em3, im3⟩ := D3.mak
    have hlen := im3.len
    rw [List.length_map] at hlen
    have i3 : Is (upd H2 p (.tup [V.str x.1, V.int x.2])) (.ref p) (mkP x) := .tup upd_same (.cons (.str _ w2) (.cons (.int _) .nil))
    refine ⟨a.lm, vm3, _, rfl, rfl, em3, small1000 (by have := hB.1; omega), ?_⟩
    refine q a _ rfl (D3.addM em3 i3) (.inl rfl) ?_ (((x1.trans x2).trans (.of s3)).fx.trans (.wr (by simp [DA.fp])))
    have := L3.wr (ys := vm3 ++ [V.ref p]) em3 (fun z => nl (by rw [← z]; simp [DA.fp]))
    rw [show U.length = 2 + 1 by rw [hU]; rfl]
    exact this
theorem ok_take_constructor (T : Txt K mg) (G_take_kind : FnOk P w K mg base CX0 94 T.a_take_kind T.d_take_kind ["line"] (spRKind T.c_Line)) (G_Line_skip : FnOk P w K mg base CX0 2 T.a_Line_skip T.d_Line_skip ["self", "token"] (spSkip T.c_Line)) (G_Line_comes : FnOk P w K mg base CX0 1 T.a_Line_comes T.d_Line_comes ["self", "token"] (spComes T.c_Line)) (G_take_kinds : FnOk P w K mg base CX0 95 T.a_take_kinds T.d_take_kinds ["line"] (spRKinds T.c_Line)) (G_Line_take_word : FnOk P w K mg base CX0 2 T.a_Line_take_word T.d_Line_take_word ["self"] (spTakeWord T.c_Line)) : FnOk P w K mg base CX0 96 T.a_take_constructor T.d_take_constructor ["draft", "line"] (spIt T.c_Line T.c_Draft 1 (fun it => ∃ x, it = .c x) (fun it => (tokI it).drop 1)) := by
  refine T.F_take_constructor.ok sc_take_constructor (fun vs H Q E h => ?_) (fun cdv A outer s H vs Q E hr h => ?_)
  · obtain ⟨a, s, it, o, dx, l, n, U, ⟨x, rfl⟩, rfl, _⟩ := h; rfl
  · obtain ⟨a, s, it, o, dx, l, n, U, ⟨x, rfl⟩, rfl, D, L, no, nl, hd, ⟨w1, w2, w3, w4, w5⟩, hB, q⟩ := h
    have hr_Line_take_word : Room 2 _ := hr.mono (by decide)
    have hr_Line_skip : Room 2 _ := hr.mono (by decide)
    have hr_Line_comes : Room 1 _ := hr.mono (by decide)
    have hr_take_kind : Room 94 _ := hr.mono (by decide)
    have hr_take_kinds : Room 95 _ := hr
    refine ⟨_, (pss_cons (ps_set (i := 2) sc_take_constructor.nd rfl (Or.inl rfl) (pe_meth0 (pv 1) T.cl_Line T.me_Line_take_word G_Line_take_word hr_Line_take_word T.b_Line_take_word .nil pass0))
    (pss_cons (ps_expr (pe_meth (pv 1) T.cl_Line T.me_Line_skip G_Line_skip hr_Line_skip T.b_Line_skip .nil pass0 (pa_cons pe_str pa_nil)))
    (Evl.pss_cut (ps_set (i := 3) sc_take_constructor.nd rfl (Or.inl rfl) (pe_ifExp (pt_val (pe_meth (pv 1) T.cl_Line T.me_Line_comes G_Line_comes hr_Line_comes T.b_Line_comes .nil pass0 (pa_cons pe_str pa_nil))) (pe_tup pa_nil) (pe_call G_take_kinds hr_take_kinds rfl T.m_take_kinds T.F_take_kinds.kp T.b_take_kinds .nil pass0 (pa_cons (pv 1) pa_nil))))
    (pss_cons (ps_expr (pe_meth (pv 1) T.cl_Line T.me_Line_skip G_Line_skip hr_Line_skip T.b_Line_skip .nil pass0 (pa_cons pe_str pa_nil)))
    (pss_cons (ps_asg (pe_call G_take_kind hr_take_kind rfl T.m_take_kind T.F_take_kind.kp T.b_take_kind .nil pass0 (pa_cons (pv 1) pa_nil)) (pg_tup rfl (pgs_cons (pg_name (i := 4) sc_take_constructor.nd rfl (Or.inl rfl)) (pgs_cons (pg_name (i := 5) sc_take_constructor.nd rfl (Or.inl rfl)) pgs_nil))))
    (pss_one (ps_expr (pe_bm PySem.F.plainAttrs_list PySem.F.slot_list_append PySem.F.type_list_append mt_append (pe_fld (pv 0) rfl) (pa_cons (pe_tup (pa_cons (pv 2) (pa_cons (pv 3) (pa_cons (pv 4) (pa_cons (pv 5) pa_nil))))) pa_nil))))))))), ?_⟩
    have hd0 : U.drop 1 = cs x.w :: [58] :: (sepT (x.ps.map tokK) ++ [45, 62] :: tokK x.md) := hd
    have hU := drop_end hd0 (by simp)
    obtain ⟨a1, a2, a3⟩ := get_drop hd0
    obtain ⟨b1, b2, b3⟩ := get_drop a2
    refine ⟨_, rfl, o, dx, _, rfl, L.ins, rfl, o, dx, l, n, 1, U, x.w, rfl, L, a1, w1, fun H1 x1 L1 => ?_⟩
    refine ⟨_, rfl, o, dx, _, rfl, L1.ins, rfl, o, dx, l, n, 2, U, ":", rfl, L1, b1, fun H2 x2 L2 => ?_⟩
    have hl3 : 3 ≤ U.length := by rw [hU]; simp only [List.length_cons, List.length_append]; omega
    have c2 : U.drop 3 = sepT (x.ps.map tokK) ++ [45, 62] :: tokK x.md := b2
    refine ⟨fun σ H4 => ∃ kp : Addr, σ = [some (V.ref a.d), some (.ref o), some (.str x.w), some (.ref kp), none, none] ∧ Is H4 (.ref kp) (.tup (x.ps.map rawK)) ∧ Lx o H H4 ∧ LnAt T.c_Line o dx l n (3 + (sepT (x.ps.map tokK)).length) U H4, ?_, ?_⟩
    · refine ⟨_, rfl, o, dx, _, rfl, L2.ins, rfl, o, dx, l, n, 3, U, "->", rfl, L2, hl3, by decide +kernel, fun H3 s3 => ⟨_, rfl, ?_⟩⟩
      have L3 := L2.same s3
      have x3 : Lx o H H3 := (x1.trans x2).trans (.of s3)
      have hh : U[3]? = (U.drop 3).head? := by rw [List.head?_drop]
      rw [hh, c2]
      by_cases hp : x.ps = []
      · rw [hp]
        rw [show decide (((sepT (([] : List Kd).map tokK)) ++ [45, 62] :: tokK x.md).head? = some (cs "->")) = true from decide_eq_true rfl]
        refine iteT ⟨(by show 0 ≤ sizeLine; decide), fun p hp => ⟨p, rfl, .tup upd_same .nil, x3.trans (.of (same_upd hp _)), L3.same (same_upd hp _)⟩⟩
      · obtain ⟨k0, r0, hk⟩ : ∃ k r, x.ps = k :: r := by cases e : x.ps with | nil => exact absurd e hp | cons k r => exact ⟨k, r, rfl⟩
        have h1 : ((sepT (x.ps.map tokK)) ++ [45, 62] :: tokK x.md).head? = some (cs k0.fam) := by
          rw [hk, sepK_rem]; simp [tokK]
        have nw : cs k0.fam ≠ cs "->" := fun e => by
          have h2 := (w4 k0 (by rw [hk]; simp)).1.2.2.2.1
          have h3 : k0.fam = "->" := cs_inj e
          rw [h3] at h2
          exact absurd h2 (by decide +kernel)
        rw [h1, show decide (some (cs k0.fam) = some (cs "->")) = false from decide_eq_false (fun e => nw (Option.some.inj e))]
        refine iteF ⟨_, rfl, o, dx, l, n, 3, U, [45, 62] :: tokK x.md, x.ps, rfl, L3, hp, w3, w4, c2, by simp, by simp, fun p vs H4 e4 i4 x4 L4 => ⟨p, rfl, .tup e4 i4, x3.trans x4, L4⟩⟩
    rintro σ H4 ⟨kp, rfl, i4, x4, L4⟩
    have d2 := drop_app c2
    obtain ⟨d3, d4, d5⟩ := get_drop d2
    refine ⟨_, rfl, o, dx, _, rfl, L4.ins, rfl, o, dx, l, n, _, U, "->", rfl, L4, d3, fun H5 x5 L5 => ?_⟩
    have d6 : U.drop (3 + (sepT (x.ps.map tokK)).length + 1) = tokK x.md ++ [] := by rw [d4, List.append_nil]
    refine ⟨_, rfl, o, dx, l, n, _, U, [], x.md, rfl, L5, w5, d6, fun v H6 iv x6 L6 => ?_⟩
    obtain ⟨pk, uk, rfl, ek, ik⟩ := iv.tup_inv
    obtain ⟨u0, u1, rfl, k0, k1⟩ := two_inv ik
    cases k0.str_inv
    refine ⟨pk, _, rfl, .inl (.inl ek), rfl, _, _, rfl, _, _, rfl, rfl, ?_⟩
    have x46 := (x4.trans x5).trans x6
    have D6 := D.lx L x46 no
    obtain ⟨vc, ec, ic⟩ := D6.cn
    refine ⟨_, rfl, a.d, _, a.dx, _, _, rfl, D6.ins, T.cl_Draft, T.no_Draft_constructors, rfl, .inl ⟨rfl, _, SqL.of ec⟩, _, rfl, _, rfl, _, rfl, _, rfl, (by show 4 ≤ sizeLine; decide), fun p hp => ?_⟩
    have s7 := same_upd hp (.tup [V.str x.w, .ref kp, V.str x.md.fam, u1])
    have D7 := D6.same s7
    have L7 := L6.same s7
    obtain ⟨vc7, ec7, ic7⟩ := D7.cn
    have hlen := ic7.len
    rw [List.length_map] at hlen
    have ikp := (((i4.tk (L4.tk x5)).tk (L5.tk x6)).same s7)
    have i7 : Is (upd H6 p (.tup [V.str x.w, .ref kp, V.str x.md.fam, u1])) (.ref p) (cnR x) := .tup upd_same (.cons (.str _ w2) (.cons ikp (.cons (k0.same s7) (.cons (k1.same s7) .nil))))
    refine ⟨a.lc, vc7, _, rfl, rfl, ec7, small1000 (by have := hB.2.2.1; omega), ?_⟩
    refine q a _ rfl (D7.addC ec7 i7) (.inl rfl) ?_ ((x46.trans (.of s7)).fx.trans (.wr (by simp [DA.fp])))
    have := L7.wr (ys := vc7 ++ [V.ref p]) ec7 (fun z => nl (by rw [← z]; simp [DA.fp]))
    rw [show U.length = 3 + (sepT (x.ps.map tokK)).length + 1 + (tokK x.md).length by rw [hU]; simp only [List.length_cons, List.length_append]; omega]
    exact this
theorem ok_take_function (T : Txt K mg) (G_take_kind : FnOk P w K mg base CX0 94 T.a_take_kind T.d_take_kind ["line"] (spRKind T.c_Line)) (G_Line_skip : FnOk P w K mg base CX0 2 T.a_Line_skip T.d_Line_skip ["self", "token"] (spSkip T.c_Line)) (G_take_kinds : FnOk P w K mg base CX0 95 T.a_take_kinds T.d_take_kinds ["line"] (spRKinds T.c_Line)) (G_Line_take_number : FnOk P w K mg base CX0 2 T.a_Line_take_number T.d_Line_take_number ["self"] (spTakeNum T.c_Line)) (G_Line_take_word : FnOk P w K mg base CX0 2 T.a_Line_take_word T.d_Line_take_word ["self"] (spTakeWord T.c_Line)) : FnOk P w K mg base CX0 96 T.a_take_function T.d_take_function ["draft", "line"] (spIt T.c_Line T.c_Draft 1 (fun it => ∃ x, it = .h x) (fun it => (tokI it).drop 1)) := by
  refine T.F_take_function.ok sc_take_function (fun vs H Q E h => ?_) (fun cdv A outer s H vs Q E hr h => ?_)
  · obtain ⟨a, s, it, o, dx, l, n, U, ⟨x, rfl⟩, rfl, _⟩ := h; rfl
  · obtain ⟨a, s, it, o, dx, l, n, U, ⟨x, rfl⟩, rfl, D, L, no, nl, hd, ⟨⟨w1, w2, w3, w4, w5⟩, w6, w7⟩, hB, q⟩ := h
    have hr_Line_take_word : Room 2 _ := hr.mono (by decide)
    have hr_Line_take_number : Room 2 _ := hr.mono (by decide)
    have hr_Line_skip : Room 2 _ := hr.mono (by decide)
    have hr_take_kind : Room 94 _ := hr.mono (by decide)
    have hr_take_kinds : Room 95 _ := hr
    refine ⟨_, (pss_cons (ps_set (i := 2) sc_take_function.nd rfl (Or.inl rfl) (pe_meth0 (pv 1) T.cl_Line T.me_Line_take_word G_Line_take_word hr_Line_take_word T.b_Line_take_word .nil pass0))
    (pss_cons (ps_expr (pe_meth (pv 1) T.cl_Line T.me_Line_skip G_Line_skip hr_Line_skip T.b_Line_skip .nil pass0 (pa_cons pe_str pa_nil)))
    (pss_cons (ps_set (i := 3) sc_take_function.nd rfl (Or.inl rfl) (pe_meth0 (pv 1) T.cl_Line T.me_Line_take_number G_Line_take_number hr_Line_take_number T.b_Line_take_number .nil pass0))
    (pss_cons (ps_expr (pe_meth (pv 1) T.cl_Line T.me_Line_skip G_Line_skip hr_Line_skip T.b_Line_skip .nil pass0 (pa_cons pe_str pa_nil)))
    (pss_cons (ps_set (i := 4) sc_take_function.nd rfl (Or.inl rfl) (pe_call G_take_kinds hr_take_kinds rfl T.m_take_kinds T.F_take_kinds.kp T.b_take_kinds .nil pass0 (pa_cons (pv 1) pa_nil)))
    (pss_cons (ps_expr (pe_meth (pv 1) T.cl_Line T.me_Line_skip G_Line_skip hr_Line_skip T.b_Line_skip .nil pass0 (pa_cons pe_str pa_nil)))
    (pss_cons (ps_asg (pe_call G_take_kind hr_take_kind rfl T.m_take_kind T.F_take_kind.kp T.b_take_kind .nil pass0 (pa_cons (pv 1) pa_nil)) (pg_tup rfl (pgs_cons (pg_name (i := 5) sc_take_function.nd rfl (Or.inl rfl)) (pgs_cons (pg_name (i := 6) sc_take_function.nd rfl (Or.inl rfl)) pgs_nil))))
    (pss_one (ps_expr (pe_bm PySem.F.plainAttrs_list PySem.F.slot_list_append PySem.F.type_list_append mt_append (pe_fld (pv 0) rfl) (pa_cons (pe_tup (pa_cons (pv 2) (pa_cons (pv 4) (pa_cons (pv 5) (pa_cons (pv 6) (pa_cons (pv 3) (pa_cons (pe_lst pa_nil) pa_nil))))))) pa_nil))))))))))), ?_⟩
    have hd0 : U.drop 1 = cs x.w :: cs "falls" :: num x.falls :: [58] :: (sepT (x.ps.map tokK) ++ [45, 62] :: tokK x.md) := hd
    have hU := drop_end hd0 (by simp)
    obtain ⟨a1, a2, a3⟩ := get_drop hd0
    obtain ⟨b1, b2, b3⟩ := get_drop a2
    obtain ⟨c1, c2, c3⟩ := get_drop b2
    obtain ⟨e1, e2, e3⟩ := get_drop c2
    refine ⟨_, rfl, o, dx, _, rfl, L.ins, rfl, o, dx, l, n, 1, U, x.w, rfl, L, a1, w1, fun H1 x1 L1 => ?_⟩
    refine ⟨_, rfl, o, dx, _, rfl, L1.ins, rfl, o, dx, l, n, 2, U, "falls", rfl, L1, b1, fun H2 x2 L2 => ?_⟩
    refine ⟨_, rfl, o, dx, _, rfl, L2.ins, rfl, o, dx, l, n, 3, U, x.falls, rfl, L2, c1, w7, fun H3 x3 L3 => ?_⟩
    refine ⟨_, rfl, o, dx, _, rfl, L3.ins, rfl, o, dx, l, n, 4, U, ":", rfl, L3, e1, fun H4 x4 L4 => ?_⟩
    have g2 : U.drop 5 = sepT (x.ps.map tokK) ++ [45, 62] :: tokK x.md := e2
    refine ⟨_, rfl, o, dx, l, n, 5, U, [45, 62] :: tokK x.md, x.ps, rfl, L4, w6, w3, w4, g2, by simp, by simp, fun kp vs H5 e5 i5 x5 L5 => ?_⟩
    have h5 : Is H5 (.ref kp) (.tup (x.ps.map rawK)) := .tup e5 i5
    have d2 := drop_app g2
    obtain ⟨d3, d4, d5⟩ := get_drop d2
    refine ⟨_, rfl, o, dx, _, rfl, L5.ins, rfl, o, dx, l, n, _, U, "->", rfl, L5, d3, fun H6 x6 L6 => ?_⟩
    have d6 : U.drop (5 + (sepT (x.ps.map tokK)).length + 1) = tokK x.md ++ [] := by rw [d4, List.append_nil]
    refine ⟨_, rfl, o, dx, l, n, _, U, [], x.md, rfl, L6, w5, d6, fun v H7 iv x7 L7 => ?_⟩
    obtain ⟨pk, uk, rfl, ek, ik⟩ := iv.tup_inv
    obtain ⟨u0, u1, rfl, k0, k1⟩ := two_inv ik
    have o2 : sok x.md.fam = true := w5.2.1
    cases k0.str_inv
    refine ⟨pk, _, rfl, .inl (.inl ek), rfl, _, _, rfl, _, _, rfl, rfl, ?_⟩
    have x07 := (((((x1.trans x2).trans x3).trans x4).trans x5).trans x6).trans x7
    have D7 := D.lx L x07 no
    obtain ⟨vg, eg, ig⟩ := D7.fn
    refine ⟨_, rfl, a.d, _, a.dx, _, _, rfl, D7.ins, T.cl_Draft, T.no_Draft_functions, rfl, .inl ⟨rfl, _, SqL.of eg⟩, _, rfl, _, rfl, _, rfl, _, rfl, _, rfl, by decide, fun cq hcq => ⟨(by show 6 ≤ sizeLine; decide), fun p hp => ?_⟩⟩
    have s8 := same_upd hcq (.lst [])
    have s9 := same_upd hp (.tup [V.str x.w, .ref kp, V.str x.md.fam, u1, V.int x.falls, .ref cq])
    have D9 := (D7.same s8).same s9
    have L9 := (L7.same s8).same s9
    have s89 := s8.trans s9
    have nq : cq ∉ a.fp := fun z => by
      obtain ⟨xs, e⟩ := D7.lst cq z
      rw [hcq] at e; cases e
    have nqo : cq ≠ o := fun z => by rw [z, L7.ins] at hcq; cases hcq
    have hq0 : H cq = none := by
      cases e : H cq with
      | none => rfl
      | some u => have := x07 _ _ nqo e; rw [hcq] at this; cases this
    have ekp := (((h5.tk (L5.tk x6)).tk (L6.tk x7)).same s89)
    have ek1 := k1.same s89
    have ecq : (upd (upd H7 cq (.lst [])) p (.tup [V.str x.w, .ref kp, V.str x.md.fam, u1, V.int x.falls, .ref cq])) cq = some (.lst []) := s9 _ _ upd_same
    have ep9 : (upd (upd H7 cq (.lst [])) p (.tup [V.str x.w, .ref kp, V.str x.md.fam, u1, V.int x.falls, .ref cq])) p = some (.tup [V.str x.w, .ref kp, V.str x.md.fam, u1, V.int x.falls, .ref cq]) := upd_same
    have xF : Fx o a.fp H (upd (upd H7 cq (.lst [])) p (.tup [V.str x.w, .ref kp, V.str x.md.fam, u1, V.int x.falls, .ref cq])) := (x07.trans (.of s89)).fx
    generalize (upd (upd H7 cq (.lst [])) p (.tup [V.str x.w, .ref kp, V.str x.md.fam, u1, V.int x.falls, .ref cq])) = H9 at D9 L9 ekp ek1 ecq ep9 xF ⊢
    obtain ⟨vg9, eg9, ig9⟩ := D9.fn
    have hlen := ig9.len
    refine ⟨a.lg, vg9, _, rfl, rfl, eg9, small1000 (by have := hB.2.2.2.1; omega), ?_⟩
    refine q { a with qs := a.qs ++ [cq] } _ rfl (D9.addG (f := { x with cls := [] }) eg9 ep9 w2 o2 ekp ek1 ecq rfl nq) (.inr ⟨cq, rfl, hq0⟩) ?_ (xF.trans (.wr (by simp [DA.fp])))
    have := L9.wr (ys := vg9 ++ [V.ref p]) eg9 (fun z => nl (by rw [← z]; simp [DA.fp]))
    rw [show U.length = 5 + (sepT (x.ps.map tokK)).length + 1 + (tokK x.md).length by rw [hU]; simp only [List.length_cons, List.length_append]; omega]
    exact this
theorem atI_end {vs : List V} {v : V} : atI (vs ++ [v]) (-1) = some v := atI_last vs v
theorem ok_take_clause (T : Txt K mg) (G_Line_take_tree : FnOk P w K mg base CX0 93 T.a_Line_take_tree T.d_Line_take_tree ["self"] (spRTree T.c_Line 45)) (G_Line_skip : FnOk P w K mg base CX0 2 T.a_Line_skip T.d_Line_skip ["self", "token"] (spSkip T.c_Line)) (G_Line_take_trees : FnOk P w K mg base CX0 94 T.a_Line_take_trees T.d_Line_take_trees ["self"] (spRTrees T.c_Line 45)) (G_Line_take_word : FnOk P w K mg base CX0 2 T.a_Line_take_word T.d_Line_take_word ["self"] (spTakeWord T.c_Line)) : FnOk P w K mg base CX0 95 T.a_take_clause T.d_take_clause ["draft", "line"] (spIt T.c_Line T.c_Draft 0 (fun it => ∃ w x, it = .l w x) tokI) := by
  refine T.F_take_clause.ok sc_take_clause (fun vs H Q E h => ?_) (fun cdv A outer s H vs Q E hr h => ?_)
  · obtain ⟨a, s, it, o, dx, l, n, U, ⟨w, x, rfl⟩, rfl, _⟩ := h; rfl
  · obtain ⟨a, s, it, o, dx, l, n, U, ⟨w, x, rfl⟩, rfl, D, L, no, nl, hd, ⟨w1, w2, w3, w4, w5, w6, fs0, f0, w7, w8⟩, hB, q⟩ := h
    have hr_Line_take_word : Room 2 _ := hr.mono (by decide)
    have hr_Line_skip : Room 2 _ := hr.mono (by decide)
    have hr_Line_take_tree : Room 93 _ := hr.mono (by decide)
    have hr_Line_take_trees : Room 94 _ := hr
    refine ⟨_, (pss_cons (ps_set (i := 2) sc_take_clause.nd rfl (Or.inl rfl) (pe_meth0 (pv 1) T.cl_Line T.me_Line_take_word G_Line_take_word hr_Line_take_word T.b_Line_take_word .nil pass0))
    (pss_cons (ps_if (PW.pt (pw_or (pt_not (pt_truth (pe_fld (pv 0) rfl) (by intro _; rfl))) (pw_or1 (pt_cmpR op_ne (pe_ix ix_tup (pe_ix ix_list (pe_fld (pv 0) rfl) (pe_un un_neg pe_int) (fun _ _ => rfl)) pe_int (fun _ _ => rfl)) (pv 2) (nomark _))))) (pss_one ps_never) pss_nil)
    (pss_cons (ps_set (i := 3) sc_take_clause.nd rfl (Or.inl rfl) (pe_meth0 (pv 1) T.cl_Line T.me_Line_take_trees G_Line_take_trees hr_Line_take_trees T.b_Line_take_trees .nil pass0))
    (pss_cons (ps_expr (pe_meth (pv 1) T.cl_Line T.me_Line_skip G_Line_skip hr_Line_skip T.b_Line_skip .nil pass0 (pa_cons pe_str pa_nil)))
    (pss_cons (ps_set (i := 4) sc_take_clause.nd rfl (Or.inl rfl) (pe_ix ix_tup (pe_ix ix_list (pe_fld (pv 0) rfl) (pe_un un_neg pe_int) (fun _ _ => rfl)) pe_int (fun _ _ => rfl)))
    (pss_one (ps_expr (pe_bm PySem.F.plainAttrs_list PySem.F.slot_list_append PySem.F.type_list_append mt_append (pv 4) (pa_cons (pe_tup (pa_cons (pv 3) (pa_cons (pe_meth0 (pv 1) T.cl_Line T.me_Line_take_tree G_Line_take_tree hr_Line_take_tree T.b_Line_take_tree .nil pass0) pa_nil))) pa_nil))))))))), ?_⟩
    have hd0 : U.drop 0 = cs w :: ([40] :: (sepT (x.ps.map tokT) ++ [41] :: ([61] :: tokT x.b))) := hd
    have hU := drop_end hd0 (by simp)
    obtain ⟨a1, a2, a3⟩ := get_drop hd0
    refine ⟨_, rfl, o, dx, _, rfl, L.ins, rfl, o, dx, l, n, 0, U, w, rfl, L, a1, w1, fun H1 x1 L1 => ?_⟩
    have D1 := D.lx L x1 no
    obtain ⟨vg, eg, ig⟩ := D1.fn
    rw [w7] at ig
    obtain ⟨vs', qs', pf, q0, kv, ix, us, hvg, hqs, ih, epf, o1, o2, ikv, iix, eq0, iq0⟩ := ig.last
    rw [w8] at epf
    refine ⟨_, rfl, a.d, _, a.dx, _, _, rfl, D1.ins, T.cl_Draft, T.no_Draft_functions, rfl, true, .inl ⟨vg, SqL.of eg, by rw [hvg]; simp⟩, iteF ?_⟩
    refine ⟨_, rfl, a.d, _, a.dx, _, _, rfl, D1.ins, T.cl_Draft, T.no_Draft_functions, rfl, _, rfl, a.lg, vg, _, _, rfl, rfl, SqL.of eg, by rw [hvg]; exact atI_end, pf, _, _, _, rfl, rfl, .inl (.inl epf), atI_nat (j := 0) rfl, _, rfl, rfl, _, rfl, ?_⟩
    rw [show (!decide (V.str w = V.str w)) = false by simp]
    refine iteF ?_
    refine ⟨_, rfl, o, dx, _, rfl, L1.ins, rfl, o, dx, l, n, 1, U, [61] :: tokT x.b, x.ps, rfl, L1, w3, w4, w5, a2, fun pp vp H2 e2 i2 x2 L2 => ?_⟩
    have b2 : U.drop (1 + (2 + (sepT (x.ps.map tokT)).length)) = [61] :: tokT x.b := by
      have h1 : U.drop 1 = ([40] :: (sepT (x.ps.map tokT) ++ [[41]])) ++ ([61] :: tokT x.b) := by rw [show U.drop 1 = U.drop (0 + 1) from rfl, a2]; simp
      have := drop_app h1
      rw [← this]
      congr 1
      simp only [List.length_cons, List.length_append, List.length_nil]; omega
    obtain ⟨c1, c2, c3⟩ := get_drop b2
    refine ⟨_, rfl, o, dx, _, rfl, L2.ins, rfl, o, dx, l, n, _, U, "=", rfl, L2, c1, fun H3 x3 L3 => ?_⟩
    have x13 := x2.trans x3
    have D3 := D1.lx L1 x13 no
    have tk13 := L1.tk x13
    obtain ⟨vg3, eg3, ig3⟩ := D3.fn
    rw [w7] at ig3
    obtain ⟨vs3, qs3, pf3, q3, kv3, ix3, us3, hvg3, hqs3, ih3, epf3, _, _, _, _, eq3, iq3⟩ := ig3.last
    refine ⟨_, rfl, a.d, _, a.dx, _, _, rfl, D3.ins, T.cl_Draft, T.no_Draft_functions, rfl, _, rfl, a.lg, vg3, _, _, rfl, rfl, SqL.of eg3, by rw [hvg3]; exact atI_end, pf3, _, _, _, rfl, rfl, .inl (.inl epf3), atI_nat (j := 5) rfl, ?_⟩
    refine ⟨_, rfl, .inl ⟨rfl, _, SqL.of eq3⟩, _, rfl, _, rfl, o, dx, _, rfl, L3.ins, rfl, o, dx, l, n, _, U, [], x.b, rfl, L3, w6, by rw [c2, List.append_nil], by simp, fun vb H4 ib x4 L4 => ⟨(by show 2 ≤ sizeLine; decide), fun p hp => ?_⟩⟩
    have x04 := (x1.trans x13).trans x4
    have D4 := D.lx L x04 no
    have s5 := same_upd hp (.tup [V.ref pp, vb])
    have D5 := D4.same s5
    have L5 := L4.same s5
    have q3fp : q3 ∈ a.fp := by rw [show a.fp = a.lm :: a.lf :: a.lc :: a.lg :: a.qs from rfl, hqs3]; simp
    have nq3o : q3 ≠ o := fun z => by rw [z, L3.ins] at eq3; cases eq3
    have eq5 := s5 _ _ (x4 _ _ nq3o eq3)
    have iq5 := (iq3.tk (L3.tk x4)).same s5
    have hlen := iq5.len
    rw [List.length_map] at hlen
    have lcl : f0.cls.length ≤ 100 := hB.2.2.2.2 f0 (by rw [w7]; simp)
    have ipp : Is (upd H4 p (.tup [V.ref pp, vb])) (.ref pp) (.tup (x.ps.map raw)) := (((Is.tup e2 i2).tk (L2.tk x3)).tk (L3.tk x4)).same s5
    have i5 : Is (upd H4 p (.tup [V.ref pp, vb])) (.ref p) (clR x) := .tup upd_same (.cons ipp (.cons (ib.same s5) .nil))
    refine ⟨q3, us3, _, rfl, rfl, eq5, small1000 (by omega), ?_⟩
    have fin := q a (upd (upd H4 p (.tup [V.ref pp, vb])) q3 (.lst (us3 ++ [.ref p]))) rfl ?_ (.inl rfl) ?_ ((x04.trans (.of s5)).fx.trans (.wr q3fp))
    · exact fin
    · have := D5.addL (c := x) w7 hqs3 eq5 i5
      show DfAt T.c_Draft a { s with fs := addCl s.fs x } _
      rw [w7, addCl_snoc]
      exact this
    · have := L5.wr (ys := us3 ++ [V.ref p]) eq5 (fun z => nl (by rw [← z]; exact q3fp))
      rw [show U.length = 1 + (2 + (sepT (x.ps.map tokT)).length) + 1 + (tokT x.b).length by rw [hU]; simp only [List.length_cons, List.length_append]; omega]
      exact this
end
end Kx
namespace Kx
open PySem PySem.Spec PyProof.Rows L2
section
variable {P : Program} {w : World} {K : PySem.W.Frag} {mg : Str → Option Value} {base : Heap}
set_option pp.maxSteps 800
theorem wk_ne {z : Str} (h : WkB z) : cs z ≠ [40] := fun e => by
  have h4 := h.2.2.2.1
  have : z = mkS [40] := by rw [← mk_cs z, e]
  rw [this] at h4
  exact absurd h4 (by decide +kernel)
theorem tok1_word {s : DS} {it : Item} (h : ItOk s it) : (∃ w x, it = .l w x) ∨ (∀ w x, it ≠ .l w x) ∧ ∃ z, (tokI it)[1]? = some (cs z) ∧ WkB z := by
  cases it with
  | m x => exact .inr ⟨by simp, x.1, rfl, h.1⟩
  | f z => exact .inr ⟨by simp, z, rfl, h.1⟩
  | c x => exact .inr ⟨by simp, x.w, rfl, h.1⟩
  | h x => exact .inr ⟨by simp, x.w, rfl, h.1.1⟩
  | l w x => exact .inl ⟨w, x, rfl⟩
theorem tok_two {s : DS} {it : Item} (h : ItOk s it) : 1 ≤ (tokI it).length := by
  cases it <;> simp [tokI, tokM, tokF, tokC, tokH, tokL]
theorem ok_take_line (T : Txt K mg) (G_take_maker : FnOk P w K mg base CX0 3 T.a_take_maker T.d_take_maker ["draft", "line"] (spIt T.c_Line T.c_Draft 1 (fun it => ∃ x, it = .m x) (fun it => (tokI it).drop 1))) (G_Line_take_word : FnOk P w K mg base CX0 2 T.a_Line_take_word T.d_Line_take_word ["self"] (spTakeWord T.c_Line)) (G_take_constructor : FnOk P w K mg base CX0 96 T.a_take_constructor T.d_take_constructor ["draft", "line"] (spIt T.c_Line T.c_Draft 1 (fun it => ∃ x, it = .c x) (fun it => (tokI it).drop 1))) (G_take_function : FnOk P w K mg base CX0 96 T.a_take_function T.d_take_function ["draft", "line"] (spIt T.c_Line T.c_Draft 1 (fun it => ∃ x, it = .h x) (fun it => (tokI it).drop 1))) (G_Line_take : FnOk P w K mg base CX0 1 T.a_Line_take T.d_Line_take ["self"] (spTake T.c_Line)) (G_take_clause : FnOk P w K mg base CX0 95 T.a_take_clause T.d_take_clause ["draft", "line"] (spIt T.c_Line T.c_Draft 0 (fun it => ∃ w x, it = .l w x) tokI)) : FnOk P w K mg base CX0 97 T.a_take_line T.d_take_line ["draft", "line"] (spIt T.c_Line T.c_Draft 0 (fun _ => True) tokI) := by
  refine T.F_take_line.ok sc_take_line (fun vs H Q E h => ?_) (fun cdv A outer s H vs Q E hr h => ?_)
  · obtain ⟨a, s, it, o, dx, l, n, U, _, rfl, _⟩ := h; rfl
  · obtain ⟨a, s, it, o, dx, l, n, U, _, rfl, D, L, no, nl, hd, hI, hB, q⟩ := h
    have hr_Line_take_word : Room 2 _ := hr.mono (by decide)
    have hr_Line_take : Room 1 _ := hr.mono (by decide)
    have hr_take_maker : Room 3 _ := hr.mono (by decide)
    have hr_take_constructor : Room 96 _ := hr
    have hr_take_function : Room 96 _ := hr
    have hr_take_clause : Room 95 _ := hr.mono (by decide)
    refine ⟨_, (pss_cons (ps_if (pt_cmpR (op_eqD (u64 hr)) (pe_slice sl_list (pe_fld (pv 1) rfl) (po_some pe_int) (po_some pe_int)) (pe_lst (pa_cons pe_str pa_nil)) (nomark _)) (pss_cons (ps_expr (pe_call G_take_clause hr_take_clause rfl T.m_take_clause T.F_take_clause.kp T.b_take_clause .nil pass0 (pa_cons (pv 0) (pa_cons (pv 1) pa_nil))))
    (pss_one ps_retN)) pss_nil)
    (pss_cons (ps_set (i := 2) sc_take_line.nd rfl (Or.inl rfl) (pe_meth0 (pv 1) T.cl_Line T.me_Line_take G_Line_take hr_Line_take T.b_Line_take .nil pass0))
    (pss_one (ps_if (pt_cmpR op_eq (pv 2) pe_str (nomark _)) (pss_one (ps_expr (pe_call G_take_maker hr_take_maker rfl T.m_take_maker T.F_take_maker.kp T.b_take_maker .nil pass0 (pa_cons (pv 0) (pa_cons (pv 1) pa_nil))))) (pss_one (ps_if (pt_cmpR op_eq (pv 2) pe_str (nomark _)) (pss_one (ps_expr (pe_bm PySem.F.plainAttrs_list PySem.F.slot_list_append PySem.F.type_list_append mt_append (pe_fld (pv 0) rfl) (pa_cons (pe_meth0 (pv 1) T.cl_Line T.me_Line_take_word G_Line_take_word hr_Line_take_word T.b_Line_take_word .nil pass0) pa_nil)))) (pss_one (ps_if (pt_cmpR op_eq (pv 2) pe_str (nomark _)) (pss_one (ps_expr (pe_call G_take_constructor hr_take_constructor rfl T.m_take_constructor T.F_take_constructor.kp T.b_take_constructor .nil pass0 (pa_cons (pv 0) (pa_cons (pv 1) pa_nil))))) (pss_one (ps_if (pt_cmpR op_eq (pv 2) pe_str (nomark _)) (pss_one (ps_expr (pe_call G_take_function hr_take_function rfl T.m_take_function T.F_take_function.kp T.b_take_function .nil pass0 (pa_cons (pv 0) (pa_cons (pv 1) pa_nil))))) (pss_one (ps_if (PW.pt (pw_and (pt_cmpR op_eq (pv 2) pe_str (nomark _)) (pw_and1 (pt_truth (pe_fld (pv 0) rfl) (by intro _; rfl))))) (pss_one ps_never) (pss_one ps_never))))))))))))), ?_⟩
    have hU : U = tokI it := hd
    subst hU
    have h1 := tok_two hI
    refine ⟨_, rfl, o, _, dx, _, _, rfl, L.ins, T.cl_Line, T.no_Line_tokens, rfl, _, rfl, _, rfl, l, _, rfl, SqL.of L.lst, fun p hp => ?_⟩
    have s1 := same_upd hp (.lst (cutV ((tokI it).map SV) (some 1) (some 2)))
    refine ⟨(by show 1 ≤ sizeLine; decide), fun p2 hp2 => ?_⟩
    have s2 := same_upd hp2 (.lst [V.str "("])
    have ecut : cutV ((tokI it).map SV) (some 1) (some 2) = (match (tokI it)[1]? with | some t => [SV t] | none => []) := cut_one (U := tokI it) (i := 1) h1
    have e1 := s2 _ _ (show upd H p (.lst (cutV ((tokI it).map SV) (some 1) (some 2))) p = some (.lst (match (tokI it)[1]? with | some t => [SV t] | none => [])) by rw [upd_same, ecut])
    have s12 := s1.trans s2
    have dz : Dp K (upd (upd H p (.lst (cutV ((tokI it).map SV) (some 1) (some 2)))) p2 (.lst [V.str "("])) (.ref p2) (.list [.str "("]) := .lst (SqL.of upd_same) (.cons (.str _) .nil)
    generalize upd (upd H p (.lst (cutV ((tokI it).map SV) (some 1) (some 2)))) p2 (.lst [V.str "("]) = H2 at *
    have L2 := L.same s12
    have D2 := D.same s12
    have key : ∀ {t : List Nat}, (tokI it)[1]? = some t → ∃ dd ee, Dp K H2 (.ref p) dd ∧ Dp K H2 (.ref p2) ee ∧ SeqAt.shaped dd = true ∧ SeqAt.shaped ee = true ∧ dd.eqv ee = decide (t = [40]) := fun {t} ht => by
      rw [ht] at e1
      refine ⟨.list [.str (mkS t)], .list [.str "("], .lst (SqL.of e1) (.cons (.str _) .nil), dz, one_shaped (sok_ok (L.ok t (List.mem_of_getElem? ht))), one_shaped (by decide +kernel), ?_⟩
      · rw [Bool.eq_iff_iff]
        simp only [PyData.eqv, PyData.eqvAll, Bool.and_true, beq_iff_eq, decide_eq_true_eq]
        constructor
        · intro h; have := congrArg cs h; rw [cs_mk] at this; exact this
        · intro h; rw [h]; rfl
    have fin : ∀ a' H', a'.d = a.d → DfAt T.c_Draft a' (stp s it) H' → (a' = a ∨ ∃ q, a' = { a with qs := a.qs ++ [q] } ∧ H2 q = none) → LnAt T.c_Line o dx l n (tokI it).length (tokI it) H' → Fx o a.fp H2 H' → Q .non H' := fun a' H' e1 e2 e3 e4 e5 => q a' H' e1 e2 (e3.imp id fun ⟨q, h1, h2⟩ => ⟨q, h1, s12.free h2⟩) e4 ((Lx.of s12).fx.trans e5)
    rcases tok1_word hI with ⟨w, x, rfl⟩ | ⟨nL, z, hz, wz⟩
    · have ht : (tokI (.l w x))[1]? = some [40] := rfl
      obtain ⟨dd, ee, k1, k2, k3, k4, k5⟩ := key ht
      refine ⟨dd, ee, k1, k2, k3, k4, _, rfl, ?_⟩
      rw [k5, decide_eq_true rfl]
      exact iteT ⟨_, rfl, _, rfl, a, s, .l w x, o, dx, l, n, _, ⟨w, x, rfl⟩, rfl, D2, L2, no, nl, rfl, hI, hB, fin⟩
    · obtain ⟨dd, ee, k1, k2, k3, k4, k5⟩ := key hz
      refine ⟨dd, ee, k1, k2, k3, k4, _, rfl, ?_⟩
      rw [k5, decide_eq_false (wk_ne wz)]
      obtain ⟨t0, ht0⟩ : ∃ t, (tokI it)[0]? = some t := ⟨_, List.getElem?_eq_getElem (by omega)⟩
      refine iteF ⟨_, rfl, o, dx, _, rfl, L2.ins, rfl, o, dx, l, n, 0, tokI it, t0, rfl, L2, ht0, fun H3 x3 L3 => ?_⟩
      have D3 := D2.lx L2 x3 no
      have fin3 : ∀ a' H', a'.d = a.d → DfAt T.c_Draft a' (stp s it) H' → (a' = a ∨ ∃ q, a' = { a with qs := a.qs ++ [q] } ∧ H3 q = none) → LnAt T.c_Line o dx l n (tokI it).length (tokI it) H' → Fx o a.fp H3 H' → Q .non H' := fun a' H' e1 e2 e3 e4 e5 => fin a' H' e1 e2 (e3.imp id fun ⟨q, h1, h2⟩ => ⟨q, h1, by
        cases e : H2 q with
        | none => rfl
        | some u =>
          by_cases hqo : q = o
          · rw [hqo, L3.ins] at h2; cases h2
          · have := x3 _ _ hqo e; rw [h2] at this; cases this⟩) e4 (x3.fx.trans e5)
      cases it with
      | l w x => exact absurd rfl (nL w x)
      | m x =>
        cases ht0
        refine ⟨_, rfl, rfl, _, rfl, ?_⟩
        rw [sv_lit, show decide (cs "maker" = cs "maker") = true from decide_eq_true rfl]
        exact iteT ⟨_, rfl, _, rfl, a, s, .m x, o, dx, l, n, _, ⟨x, rfl⟩, rfl, D3, L3, no, nl, rfl, hI, hB, fin3⟩
      | f z =>
        cases ht0
        refine ⟨_, rfl, rfl, _, rfl, ?_⟩
        rw [sv_lit, show decide (cs "family" = cs "maker") = false by decide]
        refine iteF ⟨_, rfl, rfl, _, rfl, ?_⟩
        rw [sv_lit, show decide (cs "family" = cs "family") = true from decide_eq_true rfl]
        refine iteT ⟨_, rfl, a.d, _, a.dx, _, _, rfl, D3.ins, T.cl_Draft, T.no_Draft_families, rfl, .inl ⟨rfl, _, SqL.of D3.fm⟩, _, rfl, o, dx, _, rfl, L3.ins, rfl, o, dx, l, n, 1, _, z, rfl, L3, rfl, hI.1, fun H4 x4 L4 => ?_⟩
        have D4 := D3.lx L3 x4 no
        refine ⟨a.lf, _, _, rfl, rfl, D4.fm, by rw [List.length_map]; exact small1000 (by have := hB.2.1; omega), ?_⟩
        exact fin3 a _ rfl (D4.addF hI.2) (.inl rfl) (L4.wr D4.fm (fun z => nl (by rw [← z]; simp [DA.fp]))) (x4.fx.trans (.wr (by simp [DA.fp])))
      | c x =>
        cases ht0
        refine ⟨_, rfl, rfl, _, rfl, ?_⟩
        rw [sv_lit, show decide (cs "con" = cs "maker") = false by decide]
        refine iteF ⟨_, rfl, rfl, _, rfl, ?_⟩
        rw [sv_lit, show decide (cs "con" = cs "family") = false by decide]
        refine iteF ⟨_, rfl, rfl, _, rfl, ?_⟩
        rw [sv_lit, show decide (cs "con" = cs "con") = true from decide_eq_true rfl]
        exact iteT ⟨_, rfl, _, rfl, a, s, .c x, o, dx, l, n, _, ⟨x, rfl⟩, rfl, D3, L3, no, nl, rfl, hI, hB, fin3⟩
      | h x =>
        cases ht0
        refine ⟨_, rfl, rfl, _, rfl, ?_⟩
        rw [sv_lit, show decide (cs "fun" = cs "maker") = false by decide]
        refine iteF ⟨_, rfl, rfl, _, rfl, ?_⟩
        rw [sv_lit, show decide (cs "fun" = cs "family") = false by decide]
        refine iteF ⟨_, rfl, rfl, _, rfl, ?_⟩
        rw [sv_lit, show decide (cs "fun" = cs "con") = false by decide]
        refine iteF ⟨_, rfl, rfl, _, rfl, ?_⟩
        rw [sv_lit, show decide (cs "fun" = cs "fun") = true from decide_eq_true rfl]
        exact iteT ⟨_, rfl, _, rfl, a, s, .h x, o, dx, l, n, _, ⟨x, rfl⟩, rfl, D3, L3, no, nl, rfl, hI, hB, fin3⟩
end
end Kx
namespace Kx
open PySem PySem.Spec PyProof.Rows L2
section
variable {P : Program} {w : World} {K : PySem.W.Frag} {mg : Str → Option Value} {base : Heap}
set_option pp.maxSteps 800
/-! ### all lines -/
def lineI : Item → List Nat
  | .m x => lineM x
  | .f z => lineF z
  | .c x => lineC x
  | .h x => lineH x
  | .l w x => lineL w x
def ItsOk : DS → List Item → Prop
  | _, [] => True
  | s, it :: r => ItOk s it ∧ DsB s ∧ ItsOk (stp s it) r
theorem ItsOk.at : ∀ {its : List Item} {s : DS}, ItsOk s its → ∀ {i : Nat} {it : Item}, its[i]? = some it → ItOk ((its.take i).foldl stp s) it ∧ DsB ((its.take i).foldl stp s)
  | a :: r, s, h, 0, it, e => by cases e; exact ⟨h.1, h.2.1⟩
  | a :: r, s, h, i + 1, it, e => by
    have := ItsOk.at h.2.2 (i := i) (by simpa using e)
    simpa using this
def s0 : DS := ⟨[], [], [], []⟩
theorem ends_nl {l : List Nat} : Txt.endswith (mkS (l ++ [10])) "\n" = true := by
  unfold Txt.endswith
  rw [StrLaws.subAt_eq, mk_len, show (mkS (l ++ [10])).cps.toList = l ++ [10] from cs_mk _, show ("\n" : Str).length = 1 from rfl, show ("\n" : Str).cps.toList = [10] from rfl]
  simp
theorem full_end (ls : List (List Nat)) (h : ls ≠ []) : ∃ l, fullT ls = l ++ [10] := by
  obtain ⟨a, b, rfl⟩ : ∃ a b, ls = a ++ [b] := ⟨_, _, (List.dropLast_concat_getLast h).symm⟩
  exact ⟨fullT a ++ b, by rw [full_app]; simp [fullT]⟩
theorem ItsOk.mid : ∀ {a : List Item} {s : DS} {it : Item} {b : List Item}, ItsOk s (a ++ it :: b) → ItOk (a.foldl stp s) it ∧ DsB (a.foldl stp s)
  | [], _, _, _, h => ⟨h.1, h.2.1⟩
  | x :: a, s, it, b, h => ItsOk.mid (a := a) (s := stp s x) h.2.2
/-- a row of a text: signs, a comment, the tokens, what they tell -/
structure Rw where
  x : List Nat
  cm : List Nat
  U : List (List Nat)
  it : Option Item
def Rw.full (r : Rw) : List Nat := r.x ++ r.cm
structure RwOk (r : Rw) : Prop where
  tk : Toks r.x r.U
  ok : Ok r.x
  cm : Cm r.cm
  len : r.full.length ≤ 6000
  op : NetOk r.U
  iu : r.U = match r.it with | none => [] | some it => tokI it
theorem RwOk.okr {r : Rw} (h : RwOk r) : OkR r.full := fun c hc => (List.mem_append.mp hc).elim (fun h1 => (h.ok c h1).r) (h.cm.1 c)
def itsR (rs : List Rw) : List Item := rs.filterMap Rw.it
theorem itsR_at {rs : List Rw} {i : Nat} {r : Rw} (h : rs[i]? = some r) : itsR (rs.take (i + 1)) = itsR (rs.take i) ++ r.it.toList ∧ ∃ b, itsR rs = itsR (rs.take i) ++ (r.it.toList ++ b) := by
  unfold itsR
  have e : rs.take (i + 1) = rs.take i ++ [r] := by rw [List.take_add_one, h]; rfl
  constructor
  · rw [e, List.filterMap_append]
    congr 1
  · refine ⟨(rs.drop (i + 1)).filterMap Rw.it, ?_⟩
    have h2 : rs = rs.take i ++ (r :: rs.drop (i + 1)) := by
      have hi := (List.getElem?_eq_some_iff.mp h)
      obtain ⟨hl, he⟩ := hi
      rw [← he, ← List.drop_eq_getElem_cons hl, List.take_append_drop]
    conv => lhs; rw [h2, List.filterMap_append, List.filterMap_cons]
    cases r.it <;> rfl
def spDrafted (CD : Addr) : Sp := fun vs H Q _ => ∃ rs : List Rw, vs = [SV (fullT (rs.map Rw.full)), .bl false] ∧ rs ≠ [] ∧ rs.length ≤ 1000 ∧ (fullT (rs.map Rw.full)).length ≤ 6000 ∧ (∀ r ∈ rs, RwOk r) ∧ ItsOk s0 (itsR rs) ∧
  ∀ a H', DfAt CD a ((itsR rs).foldl stp s0) H' → Same H H' → Q (.ref a.d) H'
theorem ok_drafted (T : Txt K mg) (G_Line_finish : FnOk P w K mg base CX0 1 T.a_Line_finish T.d_Line_finish ["self"] (spFinish T.c_Line)) (G_take_line : FnOk P w K mg base CX0 97 T.a_take_line T.d_take_line ["draft", "line"] (spIt T.c_Line T.c_Draft 0 (fun _ => True) tokI)) (G_Line_init : FnOk P w K mg base CX0 3 T.a_Line_init T.d_Line_init ["self", "row", "number"] (spLInit T.c_Line)) (G_Draft_init : FnOk P w K mg base CX0 1 T.a_Draft_init T.d_Draft_init ["self", "asks"] (spDInit T.c_Draft)) (G_rows_of : FnOk P w K mg base CX0 2 T.a_rows_of T.d_rows_of ["text"] spRowsOf) : FnOk P w K mg base CX0 98 T.a_drafted T.d_drafted ["text", "asks"] (spDrafted T.c_Draft) := by
  refine T.F_drafted.ok sc_drafted (fun vs H Q E h => ?_) (fun cdv A outer s H vs Q E hr h => ?_)
  · obtain ⟨rs, rfl, _⟩ := h; rfl
  · obtain ⟨rs, rfl, hne, h100, h6, hln, hok, q⟩ := h
    have hr_Line_finish : Room 1 _ := hr.mono (by decide)
    have hr_take_line : Room 97 _ := hr
    have hr_Line_init : Room 4 _ := hr.mono (by decide)
    have hr_Draft_init : Room 2 _ := hr.mono (by decide)
    have hr_rows_of : Room 2 _ := hr.mono (by decide)
    refine ⟨_, (pss_cons (ps_set (i := 2) sc_drafted.nd rfl (Or.inl rfl) (pe_call G_rows_of hr_rows_of rfl T.m_rows_of T.F_rows_of.kp T.b_rows_of .nil pass0 (pa_cons (pv 0) pa_nil)))
    (pss_cons (ps_set (i := 3) sc_drafted.nd rfl (Or.inl rfl) (pe_make T.mk_Draft G_Draft_init hr_Draft_init rfl T.mg_Draft T.b_Draft_init .nil pass0 (pa_cons (pv 1) pa_nil)))
    (pss_cons (ps_for PassesOwn.never rfl (pi_enumS (by rfl) T.z_enumerate (pa_cons (pv 2) pa_nil) (pk_cons pe_int pk_nil)) (pg_tup rfl (pgs_cons (pg_name (i := 4) sc_drafted.nd rfl (Or.inl rfl)) (pgs_cons (pg_name (i := 5) sc_drafted.nd rfl (Or.inl rfl)) pgs_nil)))
    (pss_cons (ps_set (i := 6) sc_drafted.nd rfl (Or.inl rfl) (pe_make T.mk_Line G_Line_init hr_Line_init rfl T.mg_Line T.b_Line_init .nil pass0 (pa_cons (pv 5) (pa_cons (pv 4) pa_nil))))
    (pss_one (ps_if (pt_truth (pe_fld (pv 6) rfl) (by intro _; rfl)) (pss_cons (ps_expr (pe_call G_take_line hr_take_line rfl T.m_take_line T.F_take_line.kp T.b_take_line .nil pass0 (pa_cons (pv 3) (pa_cons (pv 6) pa_nil))))
    (pss_one (ps_expr (pe_meth0 (pv 6) T.cl_Line T.me_Line_finish G_Line_finish hr_Line_finish T.b_Line_finish .nil pass0)))) pss_nil))))
    (pss_cons (ps_if (PW.pt (pw_and (pt_truth (pv 0) (by intro _; rfl)) (pw_and1 (pt_not (pt_val (pe_m1 PySem.F.slot_str_endswith PySem.F.type_str_endswith mt_endswith (pv 0) pe_str)))))) (pss_one ps_never) pss_nil)
    (pss_one (ps_ret (pv 3))))))), ?_⟩
    refine ⟨_, rfl, rs.map Rw.full, rfl, h6, fun l hl => by obtain ⟨r, h, rfl⟩ := List.mem_map.mp hl; exact (hln r h).okr, fun pr H1 s1 n1 e1 => ?_⟩
    refine ⟨_, rfl, fun d dx hd hdx ndx => ?_⟩
    refine ⟨d, dx, rfl, upd_same, fun a H2 ed edx eqs D2 hfp x2 => ⟨rfl, ?_⟩⟩
    have k12 : ∀ b u, H1 b = some u → H2 b = some u := fun b u h => x2 b u (ne_of_none h hd) (by rw [upd_ne (ne_of_none h hd), upd_ne (ne_of_none h hdx)]; exact h)
    have s12 : Same H H2 := fun b u h => k12 b u (s1 b u h)
    have fpn : ∀ b ∈ a.fp, H1 b = none := fun b hb => by
      have h := hfp b hb
      cases e : H1 b with
      | none => rfl
      | some u =>
        rw [upd_ne (ne_of_none e hd), upd_ne (ne_of_none e hdx), e] at h
        cases h
    have prd : pr ≠ d := ne_of_none e1 hd
    refine ⟨_, rfl, pr, _, rfl, SqL.of (k12 _ _ e1), ?_⟩
    refine for_enumS (K := K) (a := pr) (xs := (rs.map Rw.full).map SV) (fun i σ H' => ∃ (b : DA) (y4 y5 y6 : Option V), σ = [some (SV (fullT (rs.map Rw.full))), some (.bl false), some (.ref pr), some (.ref d), y4, y5, y6] ∧ b.d = d ∧ DfAt T.c_Draft b ((itsR (rs.take i)).foldl stp s0) H' ∧ H' pr = some (.lst ((rs.map Rw.full).map SV)) ∧ pr ∉ b.fp ∧ (∀ c ∈ b.fp, H c = none) ∧ Same H H') ?_ ?_ ?_ ?_
    · refine ⟨a, _, _, _, by rw [← ed]; rfl, ed, D2, k12 _ _ e1, fun z => ?_, fun c hc => s1.free (fpn c hc), s12⟩
      have := fpn pr z
      rw [e1] at this; cases this
    · exact fun i σ H' ⟨_, _, _, _, _, _, _, e, _⟩ => SqL.of e
    · rintro i x t σ H3 hx ⟨b, y4, y5, y6, rfl, eb, D3, e3, npr, hb, s3⟩ ht
      obtain ⟨z, hz, rfl⟩ := map_at hx
      obtain ⟨r, hit, rfl⟩ := map_at hz
      have ln := hln r (List.mem_of_getElem? hit)
      obtain ⟨tk, bb, eb2⟩ := itsR_at hit
      have st := same_upd ht (.tup [.int (1 + (i : Int)), SV r.full])
      refine ⟨t, _, rfl, .inl (.inl upd_same), rfl, _, _, rfl, _, _, rfl, rfl, ?_⟩
      refine ⟨_, rfl, _, rfl, fun o dx2 ho hdx2 ndx2 => ?_⟩
      refine ⟨o, dx2, 1 + (i : Int), r.x, r.cm, r.U, rfl, upd_same, ln.tk, ln.ok, ln.cm, ln.len, ln.op, fun l H4 nl x4 L4 => ⟨rfl, ?_⟩⟩
      have k34 : Same H3 H4 := fun c u h => by
        have h := st c u h
        exact x4 c u (ne_of_none h ho) (by rw [upd_ne (ne_of_none h ho), upd_ne (ne_of_none h hdx2)]; exact h)
      have D4 := D3.same k34
      have nod : o ≠ b.d := fun z => by
        have := st _ _ D3.ins
        rw [← z, ho] at this; cases this
      have nlf : l ∉ b.fp := fun z => by
        obtain ⟨xs, e⟩ := D3.lst l z
        have e2 := st _ _ e
        rw [upd_ne (ne_of_none e2 ho), upd_ne (ne_of_none e2 hdx2), e2] at nl
        cases nl
      have e4 := k34 _ _ e3
      have hpo : pr ≠ o := fun z => by rw [z, L4.ins] at e4; cases e4
      have s34 : Same H H4 := s3.trans k34
      cases hri : r.it with
      | none =>
        have hU : r.U = [] := by rw [ln.iu, hri]
        refine ⟨_, rfl, o, _, dx2, _, _, rfl, L4.ins, T.cl_Line, T.no_Line_tokens, rfl, false, .inl ⟨_, SqL.of L4.lst, by rw [hU]; rfl⟩, iteF ?_⟩
        rw [hri] at tk
        exact ⟨b, _, _, _, rfl, eb, by rw [tk]; simpa using D4, e4, npr, hb, s34⟩
      | some it =>
      rw [hri] at tk eb2
      have hU : r.U = tokI it := by rw [ln.iu, hri]
      rw [eb2] at hok
      obtain ⟨io, ib⟩ := hok.mid
      have tk2 := tok_two io
      refine ⟨_, rfl, o, _, dx2, _, _, rfl, L4.ins, T.cl_Line, T.no_Line_tokens, rfl, true, .inl ⟨_, SqL.of L4.lst, ?_⟩, iteT ?_⟩
      · rw [hU]
        cases e : tokI it with
        | nil => rw [e] at tk2; simp at tk2
        | cons a b => rfl
      rw [hU] at L4
      refine ⟨_, rfl, _, rfl, b, _, it, o, dx2, l, _, tokI it, trivial, by rw [eb]; rfl, D4, L4, nod, nlf, rfl, io, ib, fun b' H5 eb' D5 hor L5 x5 => ?_⟩
      refine ⟨_, rfl, o, dx2, _, rfl, L5.ins, rfl, o, dx2, l, _, tokI it, rfl, L5, ?_⟩
      have e5 := x5 pr _ hpo npr e4
      have s5 : Same H H5 := fun c u h => by
        have h3 := s3 c u h
        have h3t := st c u h3
        refine x5 c u (ne_of_none h3t ho) (fun z => ?_) (k34 c u h3)
        have := hb c z
        rw [h] at this; cases this
      refine ⟨b', _, _, _, rfl, by rw [eb', eb], by rw [tk, List.foldl_append]; exact D5, e5, ?_, ?_, s5⟩
      · rcases hor with rfl | ⟨q2, rfl, hq2⟩
        · exact npr
        · intro z
          have : pr ∈ b.fp ∨ pr = q2 := by
            unfold DA.fp at z ⊢
            simp only [List.mem_cons, List.mem_append, List.not_mem_nil, or_false] at z ⊢
            rcases z with h | h | h | h | h | h
            · exact .inl (.inl h)
            · exact .inl (.inr (.inl h))
            · exact .inl (.inr (.inr (.inl h)))
            · exact .inl (.inr (.inr (.inr (.inl h))))
            · exact .inl (.inr (.inr (.inr (.inr h))))
            · exact .inr h
          rcases this with h | h
          · exact npr h
          · rw [h] at e4; rw [hq2] at e4; cases e4
      · rcases hor with rfl | ⟨q2, rfl, hq2⟩
        · exact hb
        · intro c hc
          have : c ∈ b.fp ∨ c = q2 := by
            unfold DA.fp at hc ⊢
            simp only [List.mem_cons, List.mem_append, List.not_mem_nil, or_false] at hc ⊢
            rcases hc with h | h | h | h | h | h
            · exact .inl (.inl h)
            · exact .inl (.inr (.inl h))
            · exact .inl (.inr (.inr (.inl h)))
            · exact .inl (.inr (.inr (.inr (.inl h))))
            · exact .inl (.inr (.inr (.inr (.inr h))))
            · exact .inr h
          rcases this with h | h
          · exact hb c h
          · rw [h]; exact s3.free (k34.free hq2)
    · rintro σ H3 ⟨b, y4, y5, y6, rfl, eb, D3, e3, npr, hb, s3⟩
      obtain ⟨l, hl⟩ := full_end (rs.map Rw.full) (by simpa using hne)
      rw [List.length_map, List.length_map, List.take_length] at D3
      refine ⟨_, rfl, true, ⟨by rw [mk_len]; exact small7 (by omega), by rw [mk_len, hl, List.length_append, List.length_singleton]; exact (bne_iff_ne.mpr (by omega)).symm⟩, iteT ⟨_, rfl, ⟨_, rfl⟩, _, _, rfl, rfl, _, rfl, ?_⟩⟩
      rw [show Txt.endswith (mkS (fullT (rs.map Rw.full))) "\n" = true by rw [hl]; exact ends_nl]
      refine iteF ⟨_, rfl, ?_⟩
      have := q b H3 D3 s3
      rw [eb] at this
      exact this
end
end Kx
namespace Kx
open PySem PySem.Spec PyProof.Rows L2
section
variable {P : Program} {w : World} {K : PySem.W.Frag} {mg : Str → Option Value} {base : Heap}
set_option pp.maxSteps 1200
/-! ### what the declarations make of a draft -/
def HasD (H : Hp) (p : Addr) (ws : List Str) : Prop := ∃ kvs : List (Key × V), H p = some (.dK kvs) ∧ ∀ z : Str, (valV kvs (Sum.inr z)).isSome = decide (z ∈ ws)
theorem HasD.same {H H' : Hp} {p : Addr} {ws : List Str} (h : HasD H p ws) (s : Same H H') : HasD H' p ws := by
  obtain ⟨kvs, e, k⟩ := h
  exact ⟨kvs, s _ _ e, k⟩
def RwT : Nat → PV → Prop
  | 0, _ => False
  | _ + 1, .str _ => True
  | _ + 1, .int _ => False
  | _ + 1, .tup [] => False
  | _ + 1, .tup (.int _ :: _) => False
  | _ + 1, .tup (.tup _ :: _) => False
  | n + 1, .tup (.str _ :: r) => r.length ≤ 3 ∧ ∀ t ∈ r, RwT n t
theorem RwT.cases {n : Nat} : ∀ {t : PV}, RwT (n + 1) t → (∃ z, t = .str z) ∨ ∃ w r, t = .tup (.str w :: r) ∧ r.length ≤ 3 ∧ ∀ t ∈ r, RwT n t
  | .str z, _ => .inl ⟨z, rfl⟩
  | .tup (.str w :: r), h => .inr ⟨w, r, rfl, h.1, h.2⟩
theorem RwT.up : ∀ {n : Nat} {t : PV}, RwT n t → RwT (n + 1) t
  | n + 1, .str _, _ => trivial
  | n + 1, .tup (.str _ :: _), h => ⟨h.1, fun t ht => (h.2 t ht).up⟩
theorem Tr.rw {L N B : List Str} : ∀ {n : Nat} {t : PV}, Tr L N B n t → RwT (n + 1) (raw t) := by
  intro n
  induction n with
  | zero =>
    intro t h
    rcases h.cases with ⟨z, rfl, hz⟩ | ⟨w, rfl, hw⟩ | ⟨w, r, m, rfl, e, _⟩
    · trivial
    · simp only [raw, List.isEmpty_nil, if_true]; trivial
    · omega
  | succ n ih =>
    intro t h
    rcases h.cases with ⟨z, rfl, hz⟩ | ⟨w, rfl, hw⟩ | ⟨w, r, m, rfl, e, hr, hw, hl, ht⟩
    · trivial
    · simp only [raw, List.isEmpty_nil, if_true]; trivial
    · cases e
      have e2 : r.isEmpty = false := by cases r with | nil => exact absurd rfl hr | cons _ _ => rfl
      simp only [raw, e2, Bool.false_eq_true, if_false, rawL_map]
      refine ⟨by rw [List.length_map]; exact hl, fun x hx => ?_⟩
      obtain ⟨t, ht', rfl⟩ := List.mem_map.mp hx
      exact ih (ht t ht')
/-- the declarations give it back -/
def Dl (ws : List Str) (t : PV) : Prop := RwT 45 (raw t) ∧ dcl ws (raw t) = t
/-! #### expressions that make values -/
def VxE (σ : L2.St) (H0 : Hp) (te : TE) (t : PV) : Prop := ∀ (H : Hp) (Q : VK), Same H0 H → (∀ v H', Is H' v t → Same H H' → Q v H') → te σ H Q
def VsE (σ : L2.St) (H0 : Hp) (ta : TA) (ts : List PV) : Prop := ∀ (H : Hp) (Q : List V → Hp → Prop), Same H0 H → (∀ vs H', IsL H' vs ts → Same H H' → Q vs H') → ta σ H Q
def VlE (σ : L2.St) (H0 : Hp) (te : TE) (ts : List PV) : Prop := ∀ (H : Hp) (Q : VK), Same H0 H → (∀ D vs H', H D = none → H' D = some (.lst vs) → IsL H' vs ts → Same H H' → Q (.ref D) H') → te σ H Q
theorem vx_var {σ : L2.St} {H0 : Hp} {i : Nat} {v : V} {t : PV} (e : σ[i]? = some (some v)) (h : Is H0 v t) : VxE σ H0 (tVar i) t := fun H Q s q => ⟨_, e, q v H (h.same s) (.refl _)⟩
theorem vx_str {σ : L2.St} {H0 : Hp} {i : Nat} {z : Str} (e : σ[i]? = some (some (.str z))) (ok : sok z = true) : VxE σ H0 (tVar i) (.str z) := vx_var e (.str z ok)
theorem vx_int {σ : L2.St} {H0 : Hp} {i : Nat} {z : Int} (e : σ[i]? = some (some (.int z))) : VxE σ H0 (tVar i) (.int z) := vx_var e (.int z)
theorem vx_lit {σ : L2.St} {H0 : Hp} {z : Str} (ok : sok z = true) : VxE σ H0 (tC (.str z)) (.str z) := fun H Q s q => q _ H (.str z ok) (.refl _)
theorem vs_nil {σ : L2.St} {H0 : Hp} : VsE σ H0 tNil [] := fun H Q s q => q [] H .nil (.refl _)
theorem vs_cons {σ : L2.St} {H0 : Hp} {te : TE} {ta : TA} {t : PV} {ts : List PV} (a : VxE σ H0 te t) (b : VsE σ H0 ta ts) : VsE σ H0 (tCons te ta) (t :: ts) := fun H Q s q =>
  a H _ s fun v H1 i1 s1 => b H1 _ (s.trans s1) fun vs H2 i2 s2 => q (v :: vs) H2 (.cons (i1.same s2) i2) (s1.trans s2)
theorem vx_tup {σ : L2.St} {H0 : Hp} {ta : TA} {ts : List PV} (a : VsE σ H0 ta ts) (l : ts.length ≤ 1000) : VxE σ H0 (tTup ta) (.tup ts) := fun H Q s q =>
  a H _ s fun vs H1 i1 s1 => ⟨by rw [i1.len]; exact Nat.le_of_lt (small1000 l), fun p hp => q (.ref p) _ (.tup upd_same (i1.same (same_upd hp _))) (s1.trans (same_upd hp _))⟩
theorem go_vx {σ : L2.St} {H : Hp} {te : TE} {t : PV} {g : TG} {rest : TS} {D : Ends} (h : VxE σ H te t) (q : ∀ v H1, Is H1 v t → Same H H1 → g v σ H1 fun σ2 H2 => rest D σ2 H2) : tSeq (tAsg te g) rest D σ H := h H _ (.refl _) q
theorem VxE.go {σ : L2.St} {H : Hp} {te : TE} {t : PV} (h : VxE σ H te t) {Q : VK} (q : ∀ v H', Is H' v t → Same H H' → Q v H') : te σ H Q := h H Q (.refl _) q
theorem go_v1 {σ : L2.St} {H : Hp} {te : TE} {t : PV} {R : List V → Hp → Prop} (h : VxE σ H te t) (q : ∀ v H', Is H' v t → Same H H' → R [v] H') : tCons te tNil σ H R := h H _ (.refl _) q
theorem go_vl {σ : L2.St} {H : Hp} {te : TE} {ts : List PV} {g : TG} {rest : TS} {D : Ends} (h : VlE σ H te ts) (q : ∀ D1 vs H1, H D1 = none → H1 D1 = some (.lst vs) → IsL H1 vs ts → Same H H1 → g (.ref D1) σ H1 fun σ2 H2 => rest D σ2 H2) : tSeq (tAsg te g) rest D σ H := h H _ (.refl _) q
theorem go_retB {r : List V → Hp → VK → Prop} {ta : TA} {D : Ends} {σ : L2.St} {H : Hp} (h : ta σ H fun vs H1 => r vs H1 D.rt) : tRet (tCB r ta) D σ H := h
theorem go_vl1 {σ : L2.St} {H : Hp} {te : TE} {ts : List PV} {R : List V → Hp → Prop} (h : VlE σ H te ts) (q : ∀ D1 vs H1, H D1 = none → H1 D1 = some (.lst vs) → IsL H1 vs ts → Same H H1 → R [.ref D1] H1) : tCons te tNil σ H R := h H _ (.refl _) q
/-- a list of what is made of a tuple's items -/
theorem vl_lcT {K : PySem.W.Frag} {σ : L2.St} {H0 : Hp} {tl te : TE} {xs : List V} {L : List PV} {k : Nat} (ht : TlE K σ H0 tl xs) (hl : L.length = xs.length) (hb : xs.length ≤ 1000)
    (hs : ∀ (i : Nat) (x : V) (y : PV) (H' : Hp), xs[i]? = some x → L[i]? = some y → Same H0 H' → VxE ((σ.set k none).set k (some x)) H' te y) :
    VlE σ H0 (tLc (iTup K tl) (gName k) tYes te [k]) L := fun H Q s q => by
  refine ht H _ s fun a H1 s1 ha => ⟨a, rfl, ⟨xs, ha⟩, fun D hD => ?_⟩
  refine lc_tup (K := K) (a := a) (xs := xs) (fun i H4 => Same H1 H4 ∧ ∃ vs, H4 D = some (.lst vs) ∧ IsL H4 vs (L.take i)) ?_ ?_ ?_ ?_
  · exact ⟨same_upd hD _, [], upd_same, .nil⟩
  · exact fun i H' _ ⟨s, _⟩ => sqt_same s ha
  · rintro i x H4 hx ⟨s4, vs, e4, i4⟩
    have hi := (List.getElem?_eq_some_iff.mp hx).1
    have hy : L[i]? = some (L[i]'(by omega)) := List.getElem?_eq_getElem _
    refine ⟨by show ((σ.set k none).set k (some x)).set k none = σ.set k none; simp only [List.set_set], yes_if ?_⟩
    refine hs i x _ H4 hx hy ((s.trans s1).trans s4) H4 _ (.refl _) fun v H5 iv s5 => ⟨_, s5 _ _ e4, ?_, Kx.Same.own (s4.trans s5) hD _, vs ++ [v], upd_same, ?_⟩
    · rw [i4.len]; exact small1000 (by have : (L.take i).length ≤ i := List.length_take_le ..; omega)
    · rw [List.take_add_one, hy]
      exact IsL.over (s5 _ _ e4) ((i4.same s5).append (.cons iv .nil))
  · rintro H4 ⟨s4, vs, e4, i4⟩
    rw [← hl, List.take_length] at i4
    exact q D vs H4 (s1.free hD) e4 i4 (s1.trans s4)
/-- a list of what is made of a tuple's pairs -/
theorem vl_lcP {K : PySem.W.Frag} {σ : L2.St} {H0 : Hp} {tl te : TE} {xs : List V} {L : List PV} {i1 i2 : Nat} (ht : TlE K σ H0 tl xs) (hl : L.length = xs.length) (hb : xs.length ≤ 1000)
    (hw : ∀ u v, wipe (((wipe σ [i1, i2]).set i1 (some u)).set i2 (some v)) [i1, i2] = wipe σ [i1, i2])
    (hs : ∀ (i : Nat) (x : V) (y : PV) (H' : Hp), xs[i]? = some x → L[i]? = some y → Same H0 H' → ∃ p u v, x = .ref p ∧ SqT K H' p [u, v] ∧ VxE (((wipe σ [i1, i2]).set i1 (some u)).set i2 (some v)) H' te y) :
    VlE σ H0 (tLc (iTup K tl) (gTup K 2 (gCons (gName i1) (gCons (gName i2) gNil))) tYes te [i1, i2]) L := fun H Q s q => by
  refine ht H _ s fun a H1 s1 ha => ⟨a, rfl, ⟨xs, ha⟩, fun D hD => ?_⟩
  refine lc_tup (K := K) (a := a) (xs := xs) (fun i H4 => Same H1 H4 ∧ ∃ vs, H4 D = some (.lst vs) ∧ IsL H4 vs (L.take i)) ?_ ?_ ?_ ?_
  · exact ⟨same_upd hD _, [], upd_same, .nil⟩
  · exact fun i H' _ ⟨s, _⟩ => sqt_same s ha
  · rintro i x H4 hx ⟨s4, vs, e4, i4⟩
    have hi := (List.getElem?_eq_some_iff.mp hx).1
    have hy : L[i]? = some (L[i]'(by omega)) := List.getElem?_eq_getElem _
    obtain ⟨p, u, v, rfl, hp, htx⟩ := hs i x _ H4 hx hy ((s.trans s1).trans s4)
    refine ⟨p, _, rfl, hp, rfl, _, _, rfl, _, _, rfl, rfl, hw u v, yes_if ?_⟩
    refine htx H4 _ (.refl _) fun v H5 iv s5 => ⟨_, s5 _ _ e4, ?_, Kx.Same.own (s4.trans s5) hD _, vs ++ [v], upd_same, ?_⟩
    · rw [i4.len]; exact small1000 (by have : (L.take i).length ≤ i := List.length_take_le ..; omega)
    · rw [List.take_add_one, hy]
      exact IsL.over (s5 _ _ e4) ((i4.same s5).append (.cons iv .nil))
  · rintro H4 ⟨s4, vs, e4, i4⟩
    rw [← hl, List.take_length] at i4
    exact q D vs H4 (s1.free hD) e4 i4 (s1.trans s4)
def spDecl (n : Nat) : Sp := fun vs H Q _ => ∃ (v : V) (p : Addr) (t : PV) (ws : List Str), vs = [v, .ref p] ∧ Is H v t ∧ RwT n t ∧ HasD H p ws ∧ ∀ v' H', Is H' v' (dcl ws t) → Same H H' → Q v' H'
theorem ok_declared {n : Nat}(T : Txt K mg) (G_declared : FnOk P w K mg base CX0 (n+1) T.a_declared T.d_declared ["tree", "words"] (spDecl n)) : FnOk P w K mg base CX0 (n+2) T.a_declared T.d_declared ["tree", "words"] (spDecl (n+1)) := by
  refine T.F_declared.ok sc_declared (fun vs H Q E h => ?_) (fun cdv A outer s H vs Q E hr h => ?_)
  · obtain ⟨v, p, t, ws, rfl, _⟩ := h; rfl
  · obtain ⟨v, p, t, ws, rfl, hI, hT, hD, q⟩ := h
    have hu := hu_of hr
    have hr_declared := hr
    refine ⟨_, (pss_cons (ps_if (pt_val (pe_callB call_isi (by rfl) T.z_isinstance (by decide +kernel) (pa_cons (pv 0) (pa_cons (pe_bltn rfl T.z_str (by decide +kernel) (show RelV (V.ty "str") (Value.type "str") from rfl)) pa_nil)))) (pss_one (ps_ret (pe_ifExp (pt_cmp (pc_din hu (pv 0) (pv 1))) (pe_tup (pa_cons (pv 0) pa_nil)) (pv 0)))) pss_nil)
    (pss_cons (ps_set (i := 2) sc_declared.nd rfl (Or.inl rfl) (pe_lst (pa_cons (pe_ix ix_seq (pv 0) pe_int (fun _ _ => rfl)) pa_nil)))
    (pss_cons (ps_for PassesOwn.never rfl (pi_tup (pe_slice sl_tup (pv 0) (po_some pe_int) po_none)) (pg_name (i := 3) sc_declared.nd rfl (Or.inl rfl))
    (pss_one (ps_expr (pe_bm PySem.F.plainAttrs_list PySem.F.slot_list_append PySem.F.type_list_append mt_append (pv 2) (pa_cons (pe_call G_declared hr_declared rfl T.m_declared T.F_declared.kp T.b_declared .nil pass0 (pa_cons (pv 3) (pa_cons (pv 1) pa_nil))) pa_nil)))))
    (pss_one (ps_ret (pe_callTy call_tuple_of (by rfl) T.z_tuple (by decide +kernel) (pa_cons (pv 2) pa_nil))))))), ?_⟩
    obtain ⟨u, ty, kt⟩ := hI.ty (K := K)
    refine ⟨_, rfl, _, _, u, _, _, rfl, .ty _, ty, kit_str kt, _, rfl, ?_⟩
    rcases hT.cases with ⟨z, rfl⟩ | ⟨w, r, rfl, hl, ht⟩
    · have okz : sok z = true := by cases hI with | str _ k => exact k
      cases hI.str_inv
      obtain ⟨kvs, eP, hk⟩ := hD
      refine iteT ⟨_, rfl, _, rfl, p, _, rfl, DGet.k (k := Sum.inr z) eP, _, rfl, ?_⟩
      rw [hk z]
      by_cases hz : z ∈ ws
      · rw [decide_eq_true hz]
        refine iteT ⟨_, rfl, (by show 1 ≤ sizeLine; decide), fun p1 hp1 => q _ _ ?_ (same_upd hp1 _)⟩
        rw [dcl, if_pos hz]
        exact .tup upd_same (.cons (.str z okz) .nil)
      · rw [decide_eq_false hz]
        refine iteF ⟨_, rfl, q _ H ?_ (.refl _)⟩
        rw [dcl, if_neg hz]
        exact .str z okz
    · obtain ⟨a, vs, rfl, ea, il⟩ := hI.tup_inv
      cases il with
      | cons h0 h1 =>
      have okw : sok w = true := by cases h0 with | str _ k => exact k
      cases h0.str_inv
      rename_i us
      have hlen := h1.len
      refine iteF ⟨_, rfl, .inr (.inl ⟨a, _, _, _, rfl, rfl, .inl (.inl ea), atI_nat (j := 0) rfl, (by show 1 ≤ sizeLine; decide), fun tq htq => ?_⟩)⟩
      have s1 := same_upd htq (.lst [V.str w])
      refine ⟨_, rfl, 1, rfl, a, V.str w :: us, rfl, .inl (.inl (s1 _ _ ea)), slice1, fun pc hpc => ⟨pc, rfl, ⟨_, .inl (.inl upd_same)⟩, ?_⟩⟩
      have s2 := same_upd hpc (.tup (cutV (V.str w :: us) (some 1) none))
      rw [cut1] at s2 ⊢
      refine for_tup (K := K) (a := pc) (xs := us) (fun i σ H' => ∃ y3 vs', σ = [some (.ref a), some (.ref p), some (.ref tq), y3] ∧ Same H H' ∧ H' pc = some (.tup us) ∧ H' tq = some (.lst (V.str w :: vs')) ∧ IsL H' vs' ((r.take i).map (dcl ws))) ?_ ?_ ?_ ?_
      · exact ⟨_, [], rfl, s1.trans s2, upd_same, s2 _ _ upd_same, .nil⟩
      · exact fun i σ H' _ ⟨_, _, _, _, e, _⟩ => .inl (.inl e)
      · rintro i x σ H3 hx ⟨y3, vs', rfl, s3, e3, e4, i4⟩
        obtain ⟨t, ht', it⟩ := h1.get hx
        have hi := (List.getElem?_eq_some_iff.mp hx).1
        refine ⟨_, rfl, .inl ⟨rfl, _, SqL.of e4⟩, _, rfl, _, rfl, x, p, t, ws, rfl, it.same s3, ht t (List.mem_of_getElem? ht'), hD.same s3, fun v5 H5 i5 s5 => ⟨tq, _, _, rfl, rfl, s5 _ _ e4, ?_, _, vs' ++ [v5], rfl, Kx.Same.own (s3.trans s5) htq _, ?_, upd_same, ?_⟩⟩
        · rw [List.length_cons, i4.len, List.length_map]; exact small1000 (by have : (r.take i).length ≤ i := List.length_take_le ..; omega)
        · rw [upd_ne (fun e => by rw [← e, e3] at e4; cases e4)]; exact s5 _ _ e3
        · rw [List.take_add_one, ht', List.map_append]
          exact IsL.over (s5 _ _ e4) ((i4.same s5).append (.cons i5 .nil))
      · rintro σ H3 ⟨y3, vs', rfl, s3, e3, e4, i4⟩
        rw [hlen, List.take_length] at i4
        refine ⟨_, rfl, tq, _, rfl, .inl ⟨SqL.of e4, fun q2 hq2 => q _ _ ?_ (s3.trans (same_upd hq2 _))⟩⟩
        rw [dcl, dclL_map]
        exact .tup upd_same (.cons (.str w okw) (i4.same (same_upd hq2 _)))
theorem all_decl (T : Txt K mg) : ∀ n, FnOk P w K mg base CX0 (n + 1) T.a_declared T.d_declared ["tree", "words"] (spDecl n)
  | 0 => no_left fun vs H Q E ⟨_, _, _, _, _, _, h, _⟩ => h
  | n + 1 => ok_declared T (all_decl T n)
theorem vx_decl {σ : L2.St} {H0 : Hp} {i j : Nat} {v : V} {p : Addr} {t : PV} {ws : List Str} {E : XK} (e1 : σ[i]? = some (some v)) (e2 : σ[j]? = some (some (.ref p))) (h : Is H0 v (raw t)) (hD : HasD H0 p ws) (d : Dl ws t) :
    VxE σ H0 (tCall (spDecl 45) [] E (tCons (tVar i) (tCons (tVar j) tNil))) t := fun H Q s q => ⟨_, e1, _, e2, v, p, raw t, ws, rfl, h.same s, d.1, hD.same s, by rw [d.2]; exact q⟩
def spKinds : Sp := fun vs H Q _ => ∃ (v : V) (p : Addr) (ks : List Kd) (ws : List Str), vs = [v, .ref p] ∧ Is H v (.tup (ks.map rawK)) ∧ ks.length ≤ 3 ∧ (∀ k ∈ ks, Dl ws k.tm) ∧ HasD H p ws ∧ ∀ v' H', Is H' v' (.tup (ks.map kdP)) → Same H H' → Q v' H'
theorem ok_kinds (T : Txt K mg) (G_declared : FnOk P w K mg base CX0 46 T.a_declared T.d_declared ["tree", "words"] (spDecl 45)) : FnOk P w K mg base CX0 47 T.a_kinds T.d_kinds ["kinds", "makers"] spKinds := by
  refine T.F_kinds.ok sc_kinds (fun vs H Q E h => ?_) (fun cdv A outer s H vs Q E hr h => ?_)
  · obtain ⟨v, p, ks, ws, rfl, _⟩ := h; rfl
  · obtain ⟨v, p, ks, ws, rfl, hI, l3, hK, hD, q⟩ := h
    have hr_declared := hr
    refine ⟨_, (pss_one (ps_ret (pe_callTy call_tuple_of (by rfl) T.z_tuple (by decide +kernel) (pa_cons (pe_lc (own := [("family", 2), ("term", 3)]) (g := (gTup K 2 (gCons (gName 2) (gCons (gName 3) gNil)))) (tt := tYes) rfl sc_kinds.nd (pi_tup (pv 0)) (blkOk_by (own := [("family", 2), ("term", 3)]) (N := ["kinds", "makers", "family", "term"]) (sc := defScope s_kinds) (by decide +kernel)) (fun _ _ _ _ _ => (pg_tup rfl (pgs_cons (pg_name (i := 2) sc_kinds.nd rfl (Or.inl rfl)) (pgs_cons (pg_name (i := 3) sc_kinds.nd rfl (Or.inl rfl)) pgs_nil)))) (fun _ _ _ _ _ => pts_nil) (fun _ _ _ _ _ => (pe_tup (pa_cons (pv 2) (pa_cons (pe_call G_declared hr_declared rfl T.m_declared T.F_declared.kp T.b_declared .nil pass0 (pa_cons (pv 3) (pa_cons (pv 1) pa_nil))) pa_nil))))) pa_nil)))), ?_⟩
    obtain ⟨a, vs, rfl, ea, il⟩ := hI.tup_inv
    have hlen := il.len
    rw [List.length_map] at hlen
    refine go_retB ?_
    refine go_vl1 (vl_lcP (K := K) (L := ks.map kdP) (tl_var rfl (.inl (.inl ea))) (by rw [List.length_map, hlen]) (by omega) (fun u v => rfl) fun i x y H' hx hy s' => ?_) fun D vs' H1 hD1 e1 i1 s1 => ⟨D, vs', rfl, .inl ⟨SqL.of e1, fun q2 hq2 => q _ _ (.tup upd_same (i1.same (same_upd hq2 _))) (s1.trans (same_upd hq2 _))⟩⟩
    obtain ⟨u, hu2, iu⟩ := il.get hx
    obtain ⟨k, hk, rfl⟩ := map_at hu2
    obtain ⟨k2, hk2, rfl⟩ := map_at hy
    rw [hk] at hk2
    cases hk2
    obtain ⟨p1, us, rfl, ep, iu⟩ := (iu.same s').tup_inv
    obtain ⟨u0, u1, rfl, i0, i1⟩ := two_inv iu
    have ok0 : sok k.fam = true := by cases i0 with | str _ k => exact k
    cases i0.str_inv
    exact ⟨p1, _, u1, rfl, .inl (.inl ep), vx_tup (vs_cons (vx_str rfl ok0) (vs_cons (vx_decl rfl rfl i1 (hD.same s') (hK k (List.mem_of_getElem? hk))) vs_nil)) (by simp)⟩
def spClauses : Sp := fun vs H Q _ => ∃ (a p : Addr) (us : List V) (cls : List Cl) (ws : List Str), vs = [.ref a, .ref p] ∧ H a = some (.lst us) ∧ IsL H us (cls.map clR) ∧ cls.length ≤ 10 ∧ (∀ c ∈ cls, c.ps.length ≤ 3 ∧ (∀ p ∈ c.ps, Dl ws p) ∧ Dl ws c.b) ∧ HasD H p ws ∧ ∀ v' H', Is H' v' (.tup (cls.map clP)) → Same H H' → Q v' H'
theorem ok_clauses (T : Txt K mg) (G_declared : FnOk P w K mg base CX0 46 T.a_declared T.d_declared ["tree", "words"] (spDecl 45)) : FnOk P w K mg base CX0 47 T.a_clauses T.d_clauses ["clauses", "constructors"] spClauses := by
  refine T.F_clauses.ok sc_clauses (fun vs H Q E h => ?_) (fun cdv A outer s H vs Q E hr h => ?_)
  · obtain ⟨a, p, us, cls, ws, rfl, _⟩ := h; rfl
  · obtain ⟨a, p, us, cls, ws, rfl, ea, il, l10, hC, hD, q⟩ := h
    have hr_declared := hr
    refine ⟨_, (pss_cons (ps_set (i := 2) sc_clauses.nd rfl (Or.inl rfl) (pe_lst pa_nil))
    (pss_cons (ps_for PassesOwn.never rfl (pi_list (pv 0)) (pg_tup rfl (pgs_cons (pg_name (i := 3) sc_clauses.nd rfl (Or.inl rfl)) (pgs_cons (pg_name (i := 4) sc_clauses.nd rfl (Or.inl rfl)) pgs_nil)))
    (pss_cons (ps_setLc (i := 5) (own := [("pattern", 6)]) (g := (gName 6)) (tt := tYes) rfl sc_clauses.nd rfl rfl (sw_true rfl rfl rfl (by decide +kernel)) (pi_tup (pv 3)) (blkOk_by (own := [("pattern", 6)]) (N := ["clauses", "constructors", "found", "patterns", "body", "told", "pattern"]) (sc := defScope s_clauses) (by decide +kernel)) (fun _ _ _ _ _ => (pg_name (i := 6) sc_clauses.nd rfl (Or.inl rfl))) (fun _ _ _ _ _ => pts_nil) (fun _ _ _ _ _ => (pe_call G_declared hr_declared rfl T.m_declared T.F_declared.kp T.b_declared .nil pass0 (pa_cons (pv 6) (pa_cons (pv 1) pa_nil)))))
    (pss_one (ps_expr (pe_bm PySem.F.plainAttrs_list PySem.F.slot_list_append PySem.F.type_list_append mt_append (pv 2) (pa_cons (pe_tup (pa_cons (pe_callTy call_tuple_of (by rfl) T.z_tuple (by decide +kernel) (pa_cons (pv 5) pa_nil)) (pa_cons (pe_call G_declared hr_declared rfl T.m_declared T.F_declared.kp T.b_declared .nil pass0 (pa_cons (pv 4) (pa_cons (pv 1) pa_nil))) pa_nil))) pa_nil))))))
    (pss_one (ps_ret (pe_callTy call_tuple_of (by rfl) T.z_tuple (by decide +kernel) (pa_cons (pv 2) pa_nil)))))), ?_⟩
    have hlen := il.len
    rw [List.length_map] at hlen
    refine ⟨by decide, fun tq htq => ?_⟩
    have s1 := same_upd htq (.lst [])
    refine ⟨_, rfl, a, rfl, ⟨_, SqL.of (s1 _ _ ea)⟩, ?_⟩
    refine for_list (K := K) (a := a) (xs := us) (fun i σ H' => ∃ (y3 y4 y5 : Option V) (vs : List V), σ = [some (.ref a), some (.ref p), some (.ref tq), y3, y4, y5, none] ∧ Same H H' ∧ H' tq = some (.lst vs) ∧ IsL H' vs ((cls.take i).map clP)) ?_ ?_ ?_ ?_
    · exact ⟨_, _, _, [], rfl, s1, upd_same, .nil⟩
    · exact fun i σ H' _ ⟨_, _, _, _, _, s, _⟩ => SqL.of (s _ _ ea)
    · rintro i x σ H3 hx ⟨y3, y4, y5, vs, rfl, s3, e3, i3⟩
      obtain ⟨u, hu2, iu⟩ := il.get hx
      obtain ⟨c, hc, rfl⟩ := map_at hu2
      have hi := (List.getElem?_eq_some_iff.mp hx).1
      obtain ⟨h1, h2, h3⟩ := hC c (List.mem_of_getElem? hc)
      obtain ⟨pp, us2, rfl, ep, iu⟩ := (iu.same s3).tup_inv
      obtain ⟨u0, u1, rfl, i0, i1⟩ := two_inv iu
      obtain ⟨pq, us3, rfl, eq, i0⟩ := i0.tup_inv
      have hl3 := i0.len
      rw [List.length_map] at hl3
      refine ⟨pp, _, rfl, .inl (.inl ep), rfl, _, _, rfl, _, _, rfl, rfl, ?_⟩
      refine go_vl (vl_lcT (K := K) (L := c.ps) (k := 6) (tl_var rfl (.inl (.inl eq))) (by rw [hl3]) (by omega) fun j x y H' hx hy s' => ?_) fun D vs2 H4 nD e4 i4 s4 => ?_
      · obtain ⟨u, hu2, iu⟩ := i0.get hx
        obtain ⟨t, ht, rfl⟩ := map_at hu2
        rw [ht] at hy
        cases hy
        exact vx_decl rfl rfl (iu.same s') (hD.same (s3.trans s')) (h2 _ (List.mem_of_getElem? ht))
      refine ⟨_, rfl, .inl ⟨rfl, _, SqL.of (s4 _ _ e3)⟩, _, rfl, D, vs2, rfl, .inl ⟨SqL.of e4, fun q2 hq2 => ?_⟩⟩
      have s5 := s4.trans (same_upd hq2 (.tup vs2))
      have i5 := i4.same (same_upd hq2 (.tup vs2))
      refine ⟨_, rfl, _, rfl, u1, p, raw c.b, ws, rfl, i1.same s5, h3.1, hD.same (s3.trans s5), fun v6 H6 i6 s6 => ⟨(by show 2 ≤ sizeLine; decide), fun p7 hp7 => ?_⟩⟩
      have s7 := s6.trans (same_upd hp7 (.tup [.ref q2, v6]))
      rw [h3.2] at i6
      have s57 := s5.trans s7
      refine ⟨tq, _, _, rfl, rfl, s57 _ _ e3, by rw [i3.len, List.length_map]; exact small1000 (by have : (cls.take i).length ≤ i := List.length_take_le ..; omega), _, _, _, vs ++ [.ref p7], rfl, Kx.Same.own (s3.trans s57) htq _, upd_same, ?_⟩
      rw [List.take_add_one, hc, List.map_append]
      exact IsL.over (s57 _ _ e3) ((i3.same s57).append (.cons (.tup upd_same (.cons (.tup (s7 _ _ upd_same) (i5.same s7)) (.cons (i6.same (same_upd hp7 _)) .nil))) .nil))
    · rintro σ H3 ⟨y3, y4, y5, vs, rfl, s3, e3, i3⟩
      rw [hlen, List.take_length] at i3
      exact ⟨_, rfl, tq, _, rfl, .inl ⟨SqL.of e3, fun q2 hq2 => q _ _ (.tup upd_same (i3.same (same_upd hq2 _))) (s3.trans (same_upd hq2 _))⟩⟩
end
end Kx
namespace Kx
open PySem PySem.Spec PyProof.Rows L2
section
variable {P : Program} {w : World} {K : PySem.W.Frag} {mg : Str → Option Value} {base : Heap}
set_option pp.maxSteps 1200
/-! ### the table and the program of a draft -/
theorem merge_has : ∀ (kvs : List (Key × V)) (acc : List (Key × V)) (k : Key), (valV (mergeK acc kvs) k).isSome = true ↔ (valV acc k).isSome = true ∨ k ∈ kvs.map Prod.fst
  | [], acc, k => by simp [mergeK]
  | kv :: r, acc, k => by
    show (valV (mergeK (putK acc kv.1 kv.2) r) k).isSome = true ↔ _
    rw [merge_has r, valV_put]
    by_cases h : k = kv.1
    · simp [h]
    · simp [h]
theorem put_len (c : List (Key × V)) (k : Key) (x : V) : (putK c k x).length ≤ c.length + 1 := by
  unfold putK
  split
  · rw [List.length_map]; omega
  · rw [List.length_append]; exact Nat.le_refl _
def kvM (m : Str × Nat) : Key × V := (Sum.inr m.1, .int m.2)
theorem mk_refs {K : PySem.W.Frag} {H : Hp} : ∀ {ms : List (Str × Nat)} {vs : List V}, IsL H vs (ms.map mkP) → ∃ ps : List Addr, vs = ps.map V.ref ∧ Paired (fun p kv => SqT K H p [kV kv.1, kv.2]) ps (ms.map kvM)
  | [], _, .nil => ⟨[], rfl, .nil⟩
  | m :: r, _, .cons h t => by
    obtain ⟨ps, e, pp⟩ := mk_refs (K := K) t
    obtain ⟨p, us, rfl, ep, iu⟩ := h.tup_inv
    obtain ⟨u0, u1, rfl, i0, i1⟩ := two_inv iu
    cases i0.str_inv
    cases i1
    subst e
    exact ⟨p :: ps, rfl, .cons (.inl (.inl ep)) pp⟩
theorem mem_inr {ms : List (Str × Nat)} {z : Str} : (Sum.inr z : Key) ∈ (ms.map kvM).map Prod.fst ↔ z ∈ ms.map (·.1) := by
  rw [List.map_map]
  constructor
  · intro h
    obtain ⟨m, hm, e⟩ := List.mem_map.mp h
    exact List.mem_map.mpr ⟨m, hm, Sum.inr.inj e⟩
  · intro h
    obtain ⟨m, hm, e⟩ := List.mem_map.mp h
    exact List.mem_map.mpr ⟨m, hm, by rw [← e]; rfl⟩
theorem mk_has {H : Hp} {p : Addr} {ms : List (Str × Nat)} (e : H p = some (.dK (mergeK [] (ms.map kvM)))) : HasD H p (ms.map (·.1)) := ⟨_, e, fun z => by
  rw [Bool.eq_iff_iff, merge_has, valV_nil, mem_inr]
  simp⟩
/-- a dict comprehension over a list -/
theorem dc_list {K : PySem.W.Frag} {a : Addr} {xs : List V} {g : TG} {tt : TT} {tk tv : TE} {vs : List Nat} {σ : L2.St} {H1 : Hp} {D : Addr} {Qd : Hp → Prop} (Pv : Nat → Hp → Prop) (h0 : Pv 0 (upd H1 D (.dK []))) (hl : ∀ i H, i ≤ xs.length → Pv i H → SqL K H a xs)
    (hs : ∀ i x H, xs[i]? = some x → Pv i H → g x (wipe σ vs) H fun σ2 H2 => wipe σ2 vs = wipe σ vs ∧ tt σ2 H2 fun b H3 =>
      if b = true then tk σ2 H3 fun y H4 => tv σ2 H4 fun z H5 => ∃ kvs k, y = kV k ∧ H5 D = some (.dK kvs) ∧ kvs.length < sizeLine ∧ Pv (i + 1) (upd H5 D (.dK (putK kvs k z))) else Pv (i + 1) H3) (hd : ∀ H, Pv xs.length H → Qd H) :
    ∃ W : Nat → Nat → Hp → Prop, (∃ m, W 0 m (upd H1 D (.dK []))) ∧ ∀ i m H, W i m H →
      ((Itl K a).stop i H ∧ Qd H) ∨ ((Itl K a).go i H ∧ ∃ Nx : Hp → Prop, (∀ H', Nx H' → ∃ m', m' < m ∧ W (i + 1) m' H') ∧ ∀ x H', (Itl K a).yld i H x H' → g x (wipe σ vs) H' fun σ2 H2 => wipe σ2 vs = wipe σ vs ∧ tt σ2 H2 fun b H3 =>
        if b = true then tk σ2 H3 fun y H4 => tv σ2 H4 fun z H5 => ∃ kvs k, y = kV k ∧ H5 D = some (.dK kvs) ∧ kvs.length < sizeLine ∧ Nx (upd H5 D (.dK (putK kvs k z))) else Nx H3) := by
  refine ⟨fun i left H => left = xs.length - i ∧ i ≤ xs.length ∧ Pv i H, ⟨_, rfl, Nat.zero_le _, h0⟩, fun i left H w => ?_⟩
  obtain ⟨rfl, le, pv⟩ := w
  have sq := hl i H le pv
  rcases Nat.lt_or_ge i xs.length with lt | ge
  · refine .inr ⟨⟨xs, xs[i], sq, List.getElem?_eq_getElem lt⟩, Pv (i + 1), fun H' pv' => ⟨xs.length - (i + 1), by omega, rfl, lt, pv'⟩, ?_⟩
    rintro x H' ⟨rfl, yl⟩
    exact hs i x _ (yl xs sq) pv
  · have e : i = xs.length := Nat.le_antisymm le ge
    exact .inl ⟨⟨xs, sq, ge⟩, hd H (e ▸ pv)⟩
theorem go_ret {te : TE} {t : PV} {D : Ends} {σ : L2.St} {H : Hp} (h : VxE σ H te t) (q : ∀ v H', Is H' v t → Same H H' → D.rt v H') : tRet te D σ H := h H _ (.refl _) q
theorem cnR_inv {H : Hp} {v : V} {c : Cn} (h : Is H v (cnR c)) : ∃ (p : Addr) (u i : V), v = .ref p ∧ H p = some (.tup [.str c.w, u, .str c.md.fam, i]) ∧ Is H u (.tup (c.ps.map rawK)) ∧ Is H i (raw c.md.tm) ∧ sok c.w = true ∧ sok c.md.fam = true := by
  obtain ⟨p, us, rfl, ep, iu⟩ := h.tup_inv
  cases iu with
  | cons h0 iu =>
  cases iu with
  | cons h1 iu =>
  obtain ⟨v2, v3, rfl, h2, h3⟩ := two_inv iu
  have o1 : sok c.w = true := by cases h0 with | str _ k => exact k
  have o2 : sok c.md.fam = true := by cases h2 with | str _ k => exact k
  cases h0.str_inv
  cases h2.str_inv
  exact ⟨p, _, v3, rfl, ep, h1, h3, o1, o2⟩
theorem FnL.get {H : Hp} : ∀ {vs : List V} {qs : List Addr} {fs : List Fn}, FnL H vs qs fs → ∀ {i : Nat} {x : V}, vs[i]? = some x → ∃ p q kv ix us f, fs[i]? = some f ∧ x = .ref p ∧ H p = some (.tup [.str f.w, kv, .str f.md.fam, ix, .int f.falls, .ref q]) ∧ sok f.w = true ∧ sok f.md.fam = true ∧ Is H kv (.tup (f.ps.map rawK)) ∧ Is H ix (raw f.md.tm) ∧ H q = some (.lst us) ∧ IsL H us (f.cls.map clR)
  | _, _, _, .nil, i, x, h => by simp at h
  | _, _, _, .cons e o1 o2 ik ii eq il r, 0, x, h => by cases h; exact ⟨_, _, _, _, _, _, rfl, rfl, e, o1, o2, ik, ii, eq, il⟩
  | _, _, _, .cons e o1 o2 ik ii eq il r, i + 1, x, h => r.get (by simpa using h)
def spCw (C : Addr) : Sp := fun vs H Q _ => ∃ (a : DA) (s : DS), vs = [.ref a.d] ∧ DfAt C a s H ∧ s.cn.length ≤ 100 ∧ ∀ p H', HasD H' p (s.cn.map (·.w)) → Same H H' → Q (.ref p) H'
theorem ok_constructor_words (T : Txt K mg)  : FnOk P w K mg base CX0 1 T.a_constructor_words T.d_constructor_words ["draft"] (spCw T.c_Draft) := by
  refine T.F_constructor_words.ok sc_constructor_words (fun vs H Q E h => ?_) (fun cdv A outer s H vs Q E hr h => ?_)
  · obtain ⟨a, s, rfl, _⟩ := h; rfl
  · obtain ⟨a, s, rfl, D, l100, q⟩ := h
    refine ⟨_, (pss_one (ps_ret (pe_dc (own := [("row", 1)]) (g := gName 1) (tt := tYes) rfl sc_constructor_words.nd (pi_list (pe_fld (pv 0) rfl)) (blkOk_by (own := [("row", 1)]) (N := ["draft", "row"]) (sc := defScope s_constructor_words) (by decide +kernel)) (fun _ _ _ _ _ => pg_name (i := 1) sc_constructor_words.nd rfl (Or.inl rfl)) (fun _ _ _ _ _ => pts_nil) (fun _ _ _ _ _ => (pe_ix (ixTK (K := K)) (pv 1) pe_int (fun _ _ => rfl))) (fun _ _ _ _ _ => pe_bl)))), ?_⟩
    obtain ⟨vc, ec, ic⟩ := D.cn
    have hlen := ic.len
    rw [List.length_map] at hlen
    refine ⟨_, rfl, a.d, _, a.dx, _, _, rfl, D.ins, T.cl_Draft, T.no_Draft_constructors, rfl, a.lc, rfl, ⟨_, SqL.of ec⟩, fun P hP => ?_⟩
    refine dc_list (K := K) (a := a.lc) (xs := vc) (fun i H4 => Same H H4 ∧ ∃ kvs : List (Key × V), H4 P = some (.dK kvs) ∧ kvs.length ≤ i ∧ ∀ z : Str, (valV kvs (Sum.inr z)).isSome = decide (z ∈ (s.cn.take i).map (·.w))) ?_ ?_ ?_ ?_
    · exact ⟨same_upd hP _, [], upd_same, Nat.le_refl _, fun z => rfl⟩
    · exact fun i H' _ ⟨s, _⟩ => SqL.of (s _ _ ec)
    · rintro i x H4 hx ⟨s4, kvs, e4, l4, k4⟩
      obtain ⟨u, hu2, iu⟩ := ic.get hx
      obtain ⟨c, hc, rfl⟩ := map_at hu2
      have hi := (List.getElem?_eq_some_iff.mp hx).1
      obtain ⟨p, u, ii, rfl, ep, iu1, iu2, o1, o2⟩ := cnR_inv (iu.same s4)
      refine ⟨rfl, yes_if ⟨_, rfl, p, _, _, _, rfl, rfl, .inl (.inl ep), atI_nat (j := 0) rfl, ?_⟩⟩
      refine ⟨kvs, Sum.inr c.w, rfl, e4, small1000 (by omega), Kx.Same.own s4 hP _, _, upd_same, Nat.le_trans (put_len _ _ _) (Nat.succ_le_succ l4), fun z => ?_⟩
      rw [valV_put, List.take_add_one, hc]
      by_cases hz : z = c.w
      · simp [hz]
      · have : (Sum.inr z : Key) ≠ Sum.inr c.w := fun e => hz (Sum.inr.inj e)
        rw [if_neg this, k4]
        simp [hz]
    · rintro H4 ⟨s4, kvs, e4, l4, k4⟩
      rw [hlen, List.take_length] at k4
      exact q P H4 ⟨kvs, e4, k4⟩ s4
/-- what a draft tells, as the declarations make it -/
structure DsOk (s : DS) : Prop where
  l1 : s.ms.length ≤ 10
  l2 : s.fm.length ≤ 10
  l3 : s.cn.length ≤ 10
  l4 : s.fs.length ≤ 10
  cn : ∀ c ∈ s.cn, c.ps.length ≤ 3 ∧ (∀ k ∈ c.ps, Dl (s.ms.map (·.1)) k.tm) ∧ Dl (s.ms.map (·.1)) c.md.tm
  fn : ∀ f ∈ s.fs, f.ps.length ≤ 3 ∧ (∀ k ∈ f.ps, Dl (s.ms.map (·.1)) k.tm) ∧ Dl (s.ms.map (·.1)) f.md.tm ∧ f.cls.length ≤ 10 ∧ ∀ c ∈ f.cls, c.ps.length ≤ 3 ∧ (∀ p ∈ c.ps, Dl (s.cn.map (·.w)) p) ∧ Dl (s.cn.map (·.w)) c.b
def spRTable (C : Addr) : Sp := fun vs H Q _ => ∃ (a : DA) (s : DS), vs = [.ref a.d] ∧ DfAt C a s H ∧ DsOk s ∧ ∀ v H', Is H' v (tabP ⟨s.ms, s.fm, s.cn⟩) → Same H H' → Q v H'
theorem ok_table (T : Txt K mg) (G_declared : FnOk P w K mg base CX0 46 T.a_declared T.d_declared ["tree", "words"] (spDecl 45)) (G_kinds : FnOk P w K mg base CX0 47 T.a_kinds T.d_kinds ["kinds", "makers"] spKinds) : FnOk P w K mg base CX0 48 T.a_table T.d_table ["draft"] (spRTable T.c_Draft) := by
  refine T.F_table.ok sc_table (fun vs H Q E h => ?_) (fun cdv A outer s H vs Q E hr h => ?_)
  · obtain ⟨a, s, rfl, _⟩ := h; rfl
  · obtain ⟨a, s, rfl, D, ok, q⟩ := h
    have hr_declared : Room 46 _ := hr.mono (by decide)
    have hr_kinds : Room 47 _ := hr
    refine ⟨_, (pss_cons (ps_set (i := 1) sc_table.nd rfl (Or.inl rfl) (pe_callTy (call_dictP rfl) (by rfl) T.z_dict (by decide +kernel) (pa_cons (pe_fld (pv 0) rfl) pa_nil)))
    (pss_cons (ps_set (i := 2) sc_table.nd rfl (Or.inl rfl) (pe_lst pa_nil))
    (pss_cons (ps_for PassesOwn.never rfl (pi_list (pe_fld (pv 0) rfl)) (pg_tup rfl (pgs_cons (pg_name (i := 3) sc_table.nd rfl (Or.inl rfl)) (pgs_cons (pg_name (i := 4) sc_table.nd rfl (Or.inl rfl)) (pgs_cons (pg_name (i := 5) sc_table.nd rfl (Or.inl rfl)) (pgs_cons (pg_name (i := 6) sc_table.nd rfl (Or.inl rfl)) pgs_nil)))))
    (pss_one (ps_expr (pe_bm PySem.F.plainAttrs_list PySem.F.slot_list_append PySem.F.type_list_append mt_append (pv 2) (pa_cons (pe_tup (pa_cons (pv 3) (pa_cons (pe_call G_kinds hr_kinds rfl T.m_kinds T.F_kinds.kp T.b_kinds .nil pass0 (pa_cons (pv 4) (pa_cons (pv 1) pa_nil))) (pa_cons (pv 5) (pa_cons (pe_call G_declared hr_declared rfl T.m_declared T.F_declared.kp T.b_declared .nil pass0 (pa_cons (pv 6) (pa_cons (pv 1) pa_nil))) pa_nil))))) pa_nil)))))
    (pss_one (ps_ret (pe_tup (pa_cons pe_str (pa_cons (pe_callTy call_tuple_of (by rfl) T.z_tuple (by decide +kernel) (pa_cons (pe_fld (pv 0) rfl) pa_nil)) (pa_cons (pe_callTy call_tuple_of (by rfl) T.z_tuple (by decide +kernel) (pa_cons (pe_fld (pv 0) rfl) pa_nil)) (pa_cons (pe_callTy call_tuple_of (by rfl) T.z_tuple (by decide +kernel) (pa_cons (pv 2) pa_nil)) pa_nil)))))))))), ?_⟩
    obtain ⟨vm, em, im⟩ := D.mak
    obtain ⟨vc, ec, ic⟩ := D.cn
    have hlen := ic.len
    rw [List.length_map] at hlen
    obtain ⟨ps, e, pp⟩ := mk_refs (K := K) im
    refine ⟨_, rfl, a.d, _, a.dx, _, _, rfl, D.ins, T.cl_Draft, T.no_Draft_makers, rfl, a.lm, ps, s.ms.map kvM, rfl, SqL.of (by rw [← e]; exact em), pp, fun pm hpm => ?_⟩
    have s1 := same_upd hpm (.dK (mergeK [] (s.ms.map kvM)))
    have M1 : HasD (upd H pm (.dK (mergeK [] (s.ms.map kvM)))) pm (s.ms.map (·.1)) := mk_has upd_same
    refine ⟨by decide, fun tq htq => ?_⟩
    have s2 := s1.trans (same_upd htq (.lst []))
    have M2 := M1.same (same_upd htq (.lst []))
    have D2 := D.same s2
    refine ⟨_, rfl, a.d, _, a.dx, _, _, rfl, D2.ins, T.cl_Draft, T.no_Draft_constructors, rfl, a.lc, rfl, ⟨_, SqL.of (s2 _ _ ec)⟩, ?_⟩
    have hq0 : H tq = none := s1.free htq
    refine for_list (K := K) (a := a.lc) (xs := vc) (fun i σ H' => ∃ (y3 y4 y5 y6 : Option V) (vs : List V), σ = [some (.ref a.d), some (.ref pm), some (.ref tq), y3, y4, y5, y6] ∧ Same (upd H pm (.dK (mergeK [] (s.ms.map kvM)))) H' ∧ H' tq = some (.lst vs) ∧ IsL H' vs ((s.cn.take i).map cnP)) ?_ ?_ ?_ ?_
    · exact ⟨_, _, _, _, [], rfl, same_upd htq _, upd_same, .nil⟩
    · exact fun i σ H' _ ⟨_, _, _, _, _, _, s, _⟩ => SqL.of (s _ _ (s1 _ _ ec))
    · rintro i x σ H3 hx ⟨y3, y4, y5, y6, vs, rfl, s3, e3, i3⟩
      obtain ⟨u, hu2, iu⟩ := ic.get hx
      obtain ⟨c, hc, rfl⟩ := map_at hu2
      have hi := (List.getElem?_eq_some_iff.mp hx).1
      obtain ⟨c3, ck, cm⟩ := ok.cn c (List.mem_of_getElem? hc)
      obtain ⟨p, u, ii, rfl, ep, iu1, iu2, o1, o2⟩ := cnR_inv (iu.same (s1.trans s3))
      have M3 := M1.same s3
      refine ⟨p, _, rfl, .inl (.inl ep), rfl, _, _, rfl, _, _, rfl, _, _, rfl, _, _, rfl, rfl, ?_⟩
      refine ⟨_, rfl, .inl ⟨rfl, _, SqL.of e3⟩, ?_⟩
      refine go_v1 (t := cnP c) (vx_tup (vs_cons (vx_str rfl o1) (vs_cons (t := .tup (c.ps.map kdP)) (fun H5 Q5 s5 q5 => ⟨_, rfl, _, rfl, u, pm, c.ps, _, rfl, iu1.same s5, c3, ck, M3.same s5, q5⟩) (vs_cons (vx_str rfl o2) (vs_cons (vx_decl rfl rfl iu2 M3 cm) vs_nil)))) (by simp)) fun v H4 i4 s4 => ?_
      refine ⟨tq, _, _, rfl, rfl, s4 _ _ e3, by rw [i3.len, List.length_map]; exact small1000 (by have : (s.cn.take i).length ≤ i := List.length_take_le ..; have := ok.l3; omega), _, _, _, _, vs ++ [v], rfl, ?_, upd_same, ?_⟩
      · exact Kx.Same.own (s3.trans s4) htq _
      · rw [List.take_add_one, hc, List.map_append]
        exact IsL.over (s4 _ _ e3) ((i3.same s4).append (.cons i4 .nil))
    · rintro σ H3 ⟨y3, y4, y5, y6, vs, rfl, s3, e3, i3⟩
      rw [hlen, List.take_length] at i3
      have s13 := s1.trans s3
      have D3 := D.same s13
      refine nx_of (go_ret (t := tabP ⟨s.ms, s.fm, s.cn⟩) (vx_tup (vs_cons (vx_lit (by decide +kernel)) (vs_cons (t := .tup (s.ms.map mkP)) (fun H5 Q5 s5 q5 => ?_) (vs_cons (t := .tup (s.fm.map PV.str)) (fun H5 Q5 s5 q5 => ?_) (vs_cons (t := .tup (s.cn.map cnP)) (fun H5 Q5 s5 q5 => ?_) vs_nil)))) (by simp)) ?_)
      rotate_right
      · exact fun v H' iv s' => q v H' iv (s13.trans s')
      · exact ⟨_, rfl, a.d, _, a.dx, _, _, rfl, s5 _ _ D3.ins, T.cl_Draft, T.no_Draft_makers, rfl, a.lm, vm, rfl, .inl ⟨SqL.of (s5 _ _ (s13 _ _ em)), fun l hl => q5 _ _ (.tup upd_same ((im.same (s13.trans s5)).same (same_upd hl _))) (same_upd hl _)⟩⟩
      · exact ⟨_, rfl, a.d, _, a.dx, _, _, rfl, s5 _ _ D3.ins, T.cl_Draft, T.no_Draft_families, rfl, a.lf, _, rfl, .inl ⟨SqL.of (s5 _ _ D3.fm), fun l hl => q5 _ _ (.tup upd_same (strsL D3.fo)) (same_upd hl _)⟩⟩
      · exact ⟨_, rfl, tq, _, rfl, .inl ⟨SqL.of (s5 _ _ e3), fun l hl => q5 _ _ (.tup upd_same ((i3.same s5).same (same_upd hl _))) (same_upd hl _)⟩⟩
def spRProg (C : Addr) : Sp := fun vs H Q _ => ∃ (a : DA) (s : DS), vs = [.ref a.d] ∧ DfAt C a s H ∧ DsOk s ∧ ∀ v H', Is H' v (prgP s.fs) → Same H H' → Q v H'
theorem ok_program (T : Txt K mg) (G_declared : FnOk P w K mg base CX0 46 T.a_declared T.d_declared ["tree", "words"] (spDecl 45)) (G_kinds : FnOk P w K mg base CX0 47 T.a_kinds T.d_kinds ["kinds", "makers"] spKinds) (G_clauses : FnOk P w K mg base CX0 47 T.a_clauses T.d_clauses ["clauses", "constructors"] spClauses) (G_constructor_words : FnOk P w K mg base CX0 1 T.a_constructor_words T.d_constructor_words ["draft"] (spCw T.c_Draft)) : FnOk P w K mg base CX0 48 T.a_program T.d_program ["draft"] (spRProg T.c_Draft) := by
  refine T.F_program.ok sc_program (fun vs H Q E h => ?_) (fun cdv A outer s H vs Q E hr h => ?_)
  · obtain ⟨a, s, rfl, _⟩ := h; rfl
  · obtain ⟨a, s, rfl, D, ok, q⟩ := h
    have hr_declared : Room 46 _ := hr.mono (by decide)
    have hr_constructor_words : Room 1 _ := hr.mono (by decide)
    have hr_kinds : Room 47 _ := hr
    have hr_clauses : Room 47 _ := hr
    refine ⟨_, (pss_cons (ps_set (i := 1) sc_program.nd rfl (Or.inl rfl) (pe_callTy (call_dictP rfl) (by rfl) T.z_dict (by decide +kernel) (pa_cons (pe_fld (pv 0) rfl) pa_nil)))
    (pss_cons (ps_set (i := 2) sc_program.nd rfl (Or.inl rfl) (pe_call G_constructor_words hr_constructor_words rfl T.m_constructor_words T.F_constructor_words.kp T.b_constructor_words .nil pass0 (pa_cons (pv 0) pa_nil)))
    (pss_cons (ps_set (i := 3) sc_program.nd rfl (Or.inl rfl) (pe_lst pa_nil))
    (pss_cons (ps_for PassesOwn.never rfl (pi_list (pe_fld (pv 0) rfl)) (pg_tup rfl (pgs_cons (pg_name (i := 4) sc_program.nd rfl (Or.inl rfl)) (pgs_cons (pg_name (i := 5) sc_program.nd rfl (Or.inl rfl)) (pgs_cons (pg_name (i := 6) sc_program.nd rfl (Or.inl rfl)) (pgs_cons (pg_name (i := 7) sc_program.nd rfl (Or.inl rfl)) (pgs_cons (pg_name (i := 8) sc_program.nd rfl (Or.inl rfl)) (pgs_cons (pg_name (i := 9) sc_program.nd rfl (Or.inl rfl)) pgs_nil)))))))
    (pss_cons (ps_set (i := 10) sc_program.nd rfl (Or.inl rfl) (pe_tup (pa_cons (pv 4) (pa_cons (pe_call G_kinds hr_kinds rfl T.m_kinds T.F_kinds.kp T.b_kinds .nil pass0 (pa_cons (pv 5) (pa_cons (pv 1) pa_nil))) (pa_cons (pv 6) (pa_cons (pe_call G_declared hr_declared rfl T.m_declared T.F_declared.kp T.b_declared .nil pass0 (pa_cons (pv 7) (pa_cons (pv 1) pa_nil))) (pa_cons (pv 8) pa_nil)))))))
    (pss_one (ps_expr (pe_bm PySem.F.plainAttrs_list PySem.F.slot_list_append PySem.F.type_list_append mt_append (pv 3) (pa_cons (pe_op op_catT (pv 10) (pe_tup (pa_cons (pe_call G_clauses hr_clauses rfl T.m_clauses T.F_clauses.kp T.b_clauses .nil pass0 (pa_cons (pv 9) (pa_cons (pv 2) pa_nil))) pa_nil))) pa_nil))))))
    (pss_one (ps_ret (pe_tup (pa_cons pe_str (pa_cons (pe_callTy call_tuple_of (by rfl) T.z_tuple (by decide +kernel) (pa_cons (pv 3) pa_nil)) pa_nil))))))))), ?_⟩
    obtain ⟨vm, em, im⟩ := D.mak
    obtain ⟨vg, eg, ig⟩ := D.fn
    have hlen := ig.len
    obtain ⟨ps, e, pp⟩ := mk_refs (K := K) im
    refine ⟨_, rfl, a.d, _, a.dx, _, _, rfl, D.ins, T.cl_Draft, T.no_Draft_makers, rfl, a.lm, ps, s.ms.map kvM, rfl, SqL.of (by rw [← e]; exact em), pp, fun pm hpm => ?_⟩
    have s1 := same_upd hpm (.dK (mergeK [] (s.ms.map kvM)))
    have M1 : HasD (upd H pm (.dK (mergeK [] (s.ms.map kvM)))) pm (s.ms.map (·.1)) := mk_has upd_same
    generalize (upd H pm (.dK (mergeK [] (s.ms.map kvM)))) = H1 at s1 M1 ⊢
    refine ⟨_, rfl, a, s, rfl, D.same s1, by have := ok.l3; omega, fun pc H2 C2 s2 => ?_⟩
    have s12 := s1.trans s2
    have M2 := M1.same s2
    refine ⟨by decide, fun tq htq => ?_⟩
    have s3 := same_upd htq (.lst [])
    have D3 := D.same (s12.trans s3)
    refine ⟨_, rfl, a.d, _, a.dx, _, _, rfl, D3.ins, T.cl_Draft, T.no_Draft_functions, rfl, a.lg, rfl, ⟨_, SqL.of (s3 _ _ (s12 _ _ eg))⟩, ?_⟩
    refine for_list (K := K) (a := a.lg) (xs := vg) (fun i σ H' => ∃ (y4 y5 y6 y7 y8 y9 y10 : Option V) (vs : List V), σ = [some (.ref a.d), some (.ref pm), some (.ref pc), some (.ref tq), y4, y5, y6, y7, y8, y9, y10] ∧ Same H2 H' ∧ H' tq = some (.lst vs) ∧ IsL H' vs ((s.fs.take i).map fnP)) ?_ ?_ ?_ ?_
    · exact ⟨_, _, _, _, _, _, _, [], rfl, s3, upd_same, .nil⟩
    · exact fun i σ H' _ ⟨_, _, _, _, _, _, _, _, _, s, _⟩ => SqL.of (s _ _ (s12 _ _ eg))
    · rintro i x σ H4 hx ⟨y4, y5, y6, y7, y8, y9, y10, vs, rfl, s4, e4, i4⟩
      have s14 := s12.trans s4
      have M4 := M2.same s4
      have C4 := C2.same s4
      obtain ⟨p, qq, kv, ix, us, f, hf, rfl, ep, o1, o2, ik, ii, eq, il⟩ := (ig.keep (.of s14) fun b _ u h => s14 _ _ h).get hx
      have hi := (List.getElem?_eq_some_iff.mp hx).1
      obtain ⟨c3, ck, cm, cl10, cc⟩ := ok.fn f (List.mem_of_getElem? hf)
      refine ⟨p, _, rfl, .inl (.inl ep), rfl, _, _, rfl, _, _, rfl, _, _, rfl, _, _, rfl, _, _, rfl, _, _, rfl, rfl, ?_⟩
      refine go_vx (t := .tup [.str f.w, .tup (f.ps.map kdP), .str f.md.fam, f.md.tm, .int f.falls]) (vx_tup (vs_cons (vx_str rfl o1) (vs_cons (t := .tup (f.ps.map kdP)) (fun H5 Q5 s5 q5 => ⟨_, rfl, _, rfl, kv, pm, f.ps, _, rfl, ik.same s5, c3, ck, M4.same s5, q5⟩) (vs_cons (vx_str rfl o2) (vs_cons (vx_decl rfl rfl ii M4 cm) (vs_cons (vx_int rfl) vs_nil))))) (by simp)) fun v H5 i5 s5 => ?_
      obtain ⟨ph, uh, rfl, eh, ih⟩ := i5.tup_inv
      have lh := ih.len
      refine ⟨_, rfl, .inl ⟨rfl, _, SqL.of (s5 _ _ e4)⟩, _, rfl, _, rfl, _, rfl, qq, pc, us, f.cls, _, rfl, s5 _ _ eq, il.same s5, cl10, cc, C4.same s5, fun v6 H6 i6 s6 => ⟨(by show 1 ≤ sizeLine; decide), fun p7 hp7 => ?_⟩⟩
      have s7 := s6.trans (same_upd hp7 (.tup [v6]))
      refine ⟨ph, p7, _, _, rfl, rfl, .inl (.inl (s7 _ _ eh)), .inl (.inl upd_same), fun e => (by rw [e] at lh; simp at lh), ?_, fun e => ?_, fun _ p8 hp8 => ?_⟩
      · rw [lh]; exact Nat.le_of_lt (small1000 (by simp))
      · cases e
      have s8 := s7.trans (same_upd hp8 (.tup (uh ++ [v6])))
      have s58 := s5.trans s8
      refine ⟨tq, _, _, rfl, rfl, s58 _ _ e4, by rw [i4.len, List.length_map]; exact small1000 (by have : (s.fs.take i).length ≤ i := List.length_take_le ..; have := ok.l4; omega), _, _, _, _, _, _, _, vs ++ [.ref p8], rfl, Kx.Same.own (s4.trans s58) htq _, upd_same, ?_⟩
      rw [List.take_add_one, hf, List.map_append]
      refine IsL.over (s58 _ _ e4) ((i4.same s58).append (.cons ?_ .nil))
      exact .tup upd_same (((ih.same s7).same (same_upd hp8 _)).append (.cons ((i6.same (same_upd hp7 _)).same (same_upd hp8 _)) .nil))
    · rintro σ H4 ⟨y4, y5, y6, y7, y8, y9, y10, vs, rfl, s4, e4, i4⟩
      rw [hlen, List.take_length] at i4
      refine nx_of (go_ret (t := prgP s.fs) (vx_tup (vs_cons (vx_lit (by decide +kernel)) (vs_cons (t := .tup (s.fs.map fnP)) (fun H5 Q5 s5 q5 => ?_) vs_nil)) (by simp)) ?_)
      rotate_right
      · exact fun v H' iv s' => q v H' iv ((s12.trans s4).trans s')
      exact ⟨_, rfl, tq, _, rfl, .inl ⟨SqL.of (s5 _ _ e4), fun l hl => q5 _ _ (.tup upd_same ((i4.same s5).same (same_upd hl _))) (same_upd hl _)⟩⟩
end
end Kx
namespace Kx
open PySem PySem.Spec PyProof.Rows L2
section
variable {P : Program} {w : World} {K : PySem.W.Frag} {mg : Str → Option Value} {base : Heap}
set_option pp.maxSteps 1200
/-! ### bad lines: what is raised -/
def Bad (B : Addr) (n : Int) (R : Hp → Prop) (E : XK) : Prop := ∀ d H', H' d = some (lineD (.int n)) → R H' → E (.ref B) (some d) H'
theorem Bad.imp {B : Addr} {n : Int} {R S : Hp → Prop} {E : XK} (h : Bad B n R E) (k : ∀ H', S H' → R H') : Bad B n S E := fun d H' e s => h d H' e (k H' s)
theorem FnOk.wide {f : Addr} {fd : FuncData} {ps : List Str} {k : Nat} {sp : Sp} {CX : CXT} (F : FnOk P w K mg base CX0 k f fd ps sp) : FnOk P w K mg base CX k f fd ps sp :=
  ⟨F.len, fun A outer s H args us vs Q E hr he hb hv hs => codeAny_mono (F.run A outer s H args us vs Q E hr he hb hv hs) fun r s' z => by
    rcases r with e | v
    · exact absurd z id
    · cases v <;> exact z⟩
theorem FnOk.or {f : Addr} {fd : FuncData} {ps : List Str} {k : Nat} {s1 s2 : Sp} {CX : CXT} (F : FnOk P w K mg base CX k f fd ps s1) (G : FnOk P w K mg base CX k f fd ps s2) : FnOk P w K mg base CX k f fd ps (fun vs H Q E => s1 vs H Q E ∨ s2 vs H Q E) :=
  ⟨fun vs H Q E h => h.elim (F.len vs H Q E) (G.len vs H Q E), fun A outer s H args us vs Q E hr he hb hv hs => hs.elim (F.run A outer s H args us vs Q E hr he hb hv) (G.run A outer s H args us vs Q E hr he hb hv)⟩
def spRefuse (C B : Addr) : Sp := fun vs H Q E => ∃ (o dx : Addr) (fs : List (Str × V)) (n : Int), vs = [.ref o] ∧ H o = some (.ins C dx fs) ∧ fs.lookup ("number" : Str) = some (V.int n) ∧ Bad B n (Same H) E
theorem okx_Line_refuse (T : Txt K mg)  : FnOk P w K mg base (L2.CX P w) 3 T.a_Line_refuse T.d_Line_refuse ["self"] (spRefuse T.c_Line T.c_BadText) := by
  refine T.F_Line_refuse.okX sc_Line_refuse (fun vs H Q E h => ?_) (fun cdv A outer s H vs Q E hr h => ?_)
  · obtain ⟨o, dx, fs, n, rfl, _⟩ := h; rfl
  · obtain ⟨o, dx, fs, n, rfl, e, l, q⟩ := h
    refine ⟨_, (pss_one (ps_raiseB rfl T.low_BadText hr (takes_of rfl rfl rfl rfl) (pa_cons (pe_fld (pv 0) rfl) pa_nil))), ?_⟩
    exact ⟨_, rfl, o, _, dx, _, _, rfl, e, T.cl_Line, T.no_Line_number, l, _, rfl, fun d hd => q d _ upd_same (same_upd hd _)⟩
def spWordB : Sp := fun vs H Q _ => ∃ z : Str, vs = [.str z] ∧ z.length = 13 ∧ Q (.bl false) H
theorem okb_is_word (T : Txt K mg) : FnOk P w K mg base CX0 1 T.a_is_word T.d_is_word ["value"] spWordB := by
  refine T.F_is_word.ok sc_is_word (fun vs H Q E h => ?_) (fun cdv A outer s H vs Q E hr h => ?_)
  · obtain ⟨z, rfl, _⟩ := h; rfl
  · obtain ⟨z, rfl, hl, q⟩ := h
    refine ⟨_, (pss_cons (ps_if (PW.pt (pw_or (pt_not (pt_val (pe_callB call_isi (by rfl) T.z_isinstance (by decide +kernel) (pa_cons (pv 0) (pa_cons (pe_bltn rfl T.z_str (by decide +kernel) (show RelV (V.ty "str") (Value.type "str") from rfl)) pa_nil))))) (pw_or1 (pt_not (pt_chain op_le op_le pe_int (pe_callB call_len_str (by rfl) T.z_len (by decide +kernel) (pa_cons (pv 0) pa_nil)) (pe_glob (by rfl) T.g_MOST_NAME (show RelV (V.int 12) (.int 12 T.t_MOST_NAME) from ⟨_, rfl⟩)) (by with_unfolding_all rfl)))))) (pss_one (ps_ret pe_bl)) pss_nil)
    (pss_one (ps_ret (pe_and (pe_bm0 PySem.F.plainAttrs_str PySem.F.slot_str_isascii PySem.F.type_str_isascii mt_isascii (pv 0)) (pe_and (pe_m0 PySem.F.slot_str_isalnum PySem.F.type_str_isalnum mt_isalnum (pv 0)) (pe_one (pe_m0 PySem.F.slot_str_isalpha PySem.F.type_str_isalpha mt_isalpha (pe_ix ix_str (pv 0) pe_int (fun _ _ => rfl))))))))), ?_⟩
    refine ⟨_, rfl, _, _, .type "str", _, true, rfl, .ty _, .base (.str z), kit_ty (show kitB "str" "str" = some true by decide +kernel), _, rfl, iteF ?_⟩
    refine ⟨_, rfl, z, rfl, small7 (by omega), _, _, rfl, rfl, _, rfl, ?_⟩
    rw [show decide ((1 : Int) ≤ (z.length : Int)) = true from decide_eq_true (by omega)]
    refine iteT ⟨_, _, rfl, rfl, _, rfl, ?_⟩
    rw [show decide ((z.length : Int) ≤ 12) = false from decide_eq_false (by omega)]
    exact iteT q
def spTakeWordB (C B : Addr) : Sp := fun vs H Q E => ∃ (o dx l : Addr) (n : Int) (i : Nat) (U : List (List Nat)) (z : Str), vs = [.ref o] ∧ LnAt C o dx l n i U H ∧ U[i]? = some (cs z) ∧ z.length = 13 ∧ Bad B n (Lx o H) E
theorem okx_Line_take_word (T : Txt K mg) (G_is_word : FnOk P w K mg base CX0 1 T.a_is_word T.d_is_word ["value"] spWordB) (G_Line_take : FnOk P w K mg base CX0 1 T.a_Line_take T.d_Line_take ["self"] (spTake T.c_Line)) (G_Line_refuse : FnOk P w K mg base (L2.CX P w) 3 T.a_Line_refuse T.d_Line_refuse ["self"] (spRefuse T.c_Line T.c_BadText)) : FnOk P w K mg base (L2.CX P w) 4 T.a_Line_take_word T.d_Line_take_word ["self"] (spTakeWordB T.c_Line T.c_BadText) := by
  refine T.F_Line_take_word.okX sc_Line_take_word (fun vs H Q E h => ?_) (fun cdv A outer s H vs Q E hr h => ?_)
  · obtain ⟨o, dx, l, n, i, U, z, rfl, _⟩ := h; rfl
  · obtain ⟨o, dx, l, n, i, U, z, rfl, L, hi, hz, q⟩ := h
    have hr_Line_take : Room 1 _ := hr.mono (by decide)
    have hr_is_word : Room 1 _ := hr.mono (by decide)
    have hr_Line_refuse : Room 3 _ := hr
    refine ⟨_, (pss_cons (ps_set (i := 1) sc_Line_take_word.nd rfl (Or.inl rfl) (pe_meth0 (pv 0) T.cl_Line T.me_Line_take G_Line_take hr_Line_take T.b_Line_take .nil pass0))
    (pss_cons (ps_if (pt_not (pt_val (pe_call G_is_word hr_is_word rfl T.m_is_word T.F_is_word.kp T.b_is_word .nil pass0 (pa_cons (pv 1) pa_nil)))) (pss_one (ps_expr (pe_meth0 (pv 0) T.cl_Line T.me_Line_refuse G_Line_refuse hr_Line_refuse T.b_Line_refuse .nil (passes_call (takes_of rfl rfl rfl rfl) fun _ _ _ _ h => h)))) pss_nil)
    (pss_one (ps_ret (pv 1))))), ?_⟩
    refine ⟨_, rfl, o, dx, _, rfl, L.ins, rfl, o, dx, l, n, i, U, cs z, rfl, L, hi, fun H1 x1 L1 => ?_⟩
    rw [show SV (cs z) = V.str z by unfold SV; rw [mk_cs]]
    exact ⟨_, rfl, z, rfl, hz, _, rfl, iteT ⟨_, rfl, o, dx, _, rfl, L1.ins, rfl, o, dx, _, n, rfl, L1.ins, rfl, q.imp fun H' s' => x1.trans (.of s')⟩⟩
def spWordX (C B : Addr) : Sp := fun vs H Q E => spTakeWord C vs H Q E ∨ spTakeWordB C B vs H Q E
theorem okx_word (T : Txt K mg) : FnOk P w K mg base (L2.CX P w) 4 T.a_Line_take_word T.d_Line_take_word ["self"] (spWordX T.c_Line T.c_BadText) :=
  FnOk.or (FnOk.wide (FnOk.mono (ok_Line_take_word T (ok_is_word T) (ok_Line_take T)) (by decide))) (okx_Line_take_word T (okb_is_word T) (ok_Line_take T) (okx_Line_refuse T))
def spKindB (C B : Addr) : Sp := spTakeWordB C B
theorem okx_take_kind (T : Txt K mg) (G_Line_skip : FnOk P w K mg base CX0 2 T.a_Line_skip T.d_Line_skip ["self", "token"] (spSkip T.c_Line)) (G_Line_take_word : FnOk P w K mg base (L2.CX P w) 4 T.a_Line_take_word T.d_Line_take_word ["self"] (spTakeWordB T.c_Line T.c_BadText)) (G_Line_take_tree : FnOk P w K mg base CX0 93 T.a_Line_take_tree T.d_Line_take_tree ["self"] (spRTree T.c_Line 45)) : FnOk P w K mg base (L2.CX P w) 94 T.a_take_kind T.d_take_kind ["line"] (spTakeWordB T.c_Line T.c_BadText) := by
  refine T.F_take_kind.okX sc_take_kind (fun vs H Q E h => ?_) (fun cdv A outer s H vs Q E hr h => ?_)
  · obtain ⟨o, dx, l, n, i, U, z, rfl, _⟩ := h; rfl
  · obtain ⟨o, dx, l, n, i, U, z, rfl, L, hi, hz, q⟩ := h
    have hr_Line_skip : Room 2 _ := hr.mono (by decide)
    have hr_Line_take_word : Room 4 _ := hr.mono (by decide)
    have hr_Line_take_tree : Room 93 _ := hr
    refine ⟨_, (pss_cons (ps_set (i := 1) sc_take_kind.nd rfl (Or.inl rfl) (pe_meth0 (pv 0) T.cl_Line T.me_Line_take_word G_Line_take_word hr_Line_take_word T.b_Line_take_word .nil (passes_call (takes_of rfl rfl rfl rfl) fun _ _ _ _ h => h)))
    (pss_cons (ps_expr (pe_meth (pv 0) T.cl_Line T.me_Line_skip G_Line_skip hr_Line_skip T.b_Line_skip .nil pass0 (pa_cons pe_str pa_nil)))
    (pss_cons (ps_set (i := 2) sc_take_kind.nd rfl (Or.inl rfl) (pe_meth0 (pv 0) T.cl_Line T.me_Line_take_tree G_Line_take_tree hr_Line_take_tree T.b_Line_take_tree .nil pass0))
    (pss_cons (ps_expr (pe_meth (pv 0) T.cl_Line T.me_Line_skip G_Line_skip hr_Line_skip T.b_Line_skip .nil pass0 (pa_cons pe_str pa_nil)))
    (pss_one (ps_ret (pe_tup (pa_cons (pv 1) (pa_cons (pv 2) pa_nil))))))))), ?_⟩
    exact ⟨_, rfl, o, dx, _, rfl, L.ins, rfl, o, dx, l, n, i, U, z, rfl, L, hi, hz, q⟩
theorem okx_take_kinds (T : Txt K mg) (G_take_kind : FnOk P w K mg base (L2.CX P w) 94 T.a_take_kind T.d_take_kind ["line"] (spTakeWordB T.c_Line T.c_BadText)) (G_Line_skip : FnOk P w K mg base CX0 2 T.a_Line_skip T.d_Line_skip ["self", "token"] (spSkip T.c_Line)) (G_Line_comes : FnOk P w K mg base CX0 1 T.a_Line_comes T.d_Line_comes ["self", "token"] (spComes T.c_Line)) : FnOk P w K mg base (L2.CX P w) 95 T.a_take_kinds T.d_take_kinds ["line"] (spTakeWordB T.c_Line T.c_BadText) := by
  refine T.F_take_kinds.okX sc_take_kinds (fun vs H Q E h => ?_) (fun cdv A outer s H vs Q E hr h => ?_)
  · obtain ⟨o, dx, l, n, i, U, z, rfl, _⟩ := h; rfl
  · obtain ⟨o, dx, l, n, i, U, z, rfl, L, hi, hz, q⟩ := h
    have hr_Line_skip : Room 2 _ := hr.mono (by decide)
    have hr_Line_comes : Room 1 _ := hr.mono (by decide)
    have hr_take_kind : Room 94 _ := hr
    refine ⟨_, (pss_cons (ps_set (i := 1) sc_take_kinds.nd rfl (Or.inl rfl) (pe_lst (pa_cons (pe_call G_take_kind hr_take_kind rfl T.m_take_kind T.F_take_kind.kp T.b_take_kind .nil (passes_call (takes_of rfl rfl rfl rfl) fun _ _ _ _ h => h) (pa_cons (pv 0) pa_nil)) pa_nil)))
    (pss_cons (ps_while (passes_of rfl) (pt_val (pe_meth (pv 0) T.cl_Line T.me_Line_comes G_Line_comes hr_Line_comes T.b_Line_comes .nil pass0 (pa_cons pe_str pa_nil)))
    (pss_cons (ps_expr (pe_meth (pv 0) T.cl_Line T.me_Line_skip G_Line_skip hr_Line_skip T.b_Line_skip .nil pass0 (pa_cons pe_str pa_nil)))
    (pss_one (ps_expr (pe_bm PySem.F.plainAttrs_list PySem.F.slot_list_append PySem.F.type_list_append mt_append (pv 1) (pa_cons (pe_call G_take_kind hr_take_kind rfl T.m_take_kind T.F_take_kind.kp T.b_take_kind .nil (passes_call (takes_of rfl rfl rfl rfl) fun _ _ _ _ h => h) (pa_cons (pv 0) pa_nil)) pa_nil))))))
    (pss_one (ps_ret (pe_callTy call_tuple_of (by rfl) T.z_tuple (by decide +kernel) (pa_cons (pv 1) pa_nil)))))), ?_⟩
    exact ⟨_, rfl, o, dx, l, n, i, U, z, rfl, L, hi, hz, q⟩
/-- a line with a word of 13 signs -/
def BlC (U : List (List Nat)) : Prop := ∃ (w z : Str) (R : List (List Nat)), U = cs "con" :: cs w :: [58] :: cs z :: R ∧ WkB w ∧ z.length = 13
def BlF (U : List (List Nat)) : Prop := ∃ z : Str, U = [cs "family", cs z] ∧ z.length = 13
def spItB (CL CD B : Addr) (i : Nat) (P : List (List Nat) → Prop) : Sp := fun vs H Q E => ∃ (a : DA) (s : DS) (o dx l : Addr) (n : Int) (U : List (List Nat)), vs = [.ref a.d, .ref o] ∧ DfAt CD a s H ∧ LnAt CL o dx l n i U H ∧ o ≠ a.d ∧ P U ∧ Bad B n (Lx o H) E
theorem ne13 {z : Str} (h : z.length = 13) : cs z ≠ cs "->" := fun e => by
  have := congrArg List.length e
  rw [cs_len, cs_len, h] at this
  exact absurd this (by decide)
theorem okx_take_constructor (T : Txt K mg) (G_take_kind : FnOk P w K mg base (L2.CX P w) 94 T.a_take_kind T.d_take_kind ["line"] (spTakeWordB T.c_Line T.c_BadText)) (G_Line_skip : FnOk P w K mg base CX0 2 T.a_Line_skip T.d_Line_skip ["self", "token"] (spSkip T.c_Line)) (G_Line_comes : FnOk P w K mg base CX0 1 T.a_Line_comes T.d_Line_comes ["self", "token"] (spComes T.c_Line)) (G_take_kinds : FnOk P w K mg base (L2.CX P w) 95 T.a_take_kinds T.d_take_kinds ["line"] (spTakeWordB T.c_Line T.c_BadText)) (G_Line_take_word : FnOk P w K mg base (L2.CX P w) 4 T.a_Line_take_word T.d_Line_take_word ["self"] (spWordX T.c_Line T.c_BadText)) : FnOk P w K mg base (L2.CX P w) 96 T.a_take_constructor T.d_take_constructor ["draft", "line"] (spItB T.c_Line T.c_Draft T.c_BadText 1 BlC) := by
  refine T.F_take_constructor.okX sc_take_constructor (fun vs H Q E h => ?_) (fun cdv A outer s H vs Q E hr h => ?_)
  · obtain ⟨a, s, o, dx, l, n, U, rfl, _⟩ := h; rfl
  · obtain ⟨a, s, o, dx, l, n, U, rfl, D, L, no, ⟨w, z, R, rfl, hw, hz⟩, q⟩ := h
    have hr_Line_skip : Room 2 _ := hr.mono (by decide)
    have hr_Line_comes : Room 1 _ := hr.mono (by decide)
    have hr_Line_take_word : Room 4 _ := hr.mono (by decide)
    have hr_take_kind : Room 94 _ := hr.mono (by decide)
    have hr_take_kinds : Room 95 _ := hr
    refine ⟨_, (pss_cons (ps_set (i := 2) sc_take_constructor.nd rfl (Or.inl rfl) (pe_meth0 (pv 1) T.cl_Line T.me_Line_take_word G_Line_take_word hr_Line_take_word T.b_Line_take_word .nil (passes_call (takes_of rfl rfl rfl rfl) fun _ _ _ _ h => h)))
    (pss_cons (ps_expr (pe_meth (pv 1) T.cl_Line T.me_Line_skip G_Line_skip hr_Line_skip T.b_Line_skip .nil pass0 (pa_cons pe_str pa_nil)))
    (Evl.pss_cut (ps_set (i := 3) sc_take_constructor.nd rfl (Or.inl rfl) (pe_ifExp (pt_val (pe_meth (pv 1) T.cl_Line T.me_Line_comes G_Line_comes hr_Line_comes T.b_Line_comes .nil pass0 (pa_cons pe_str pa_nil))) (pe_tup pa_nil) (pe_call G_take_kinds hr_take_kinds rfl T.m_take_kinds T.F_take_kinds.kp T.b_take_kinds .nil (passes_call (takes_of rfl rfl rfl rfl) fun _ _ _ _ h => h) (pa_cons (pv 1) pa_nil))))
    (pss_cons (ps_expr (pe_meth (pv 1) T.cl_Line T.me_Line_skip G_Line_skip hr_Line_skip T.b_Line_skip .nil pass0 (pa_cons pe_str pa_nil)))
    (pss_cons (ps_asg (pe_call G_take_kind hr_take_kind rfl T.m_take_kind T.F_take_kind.kp T.b_take_kind .nil (passes_call (takes_of rfl rfl rfl rfl) fun _ _ _ _ h => h) (pa_cons (pv 1) pa_nil)) (pg_tup rfl (pgs_cons (pg_name (i := 4) sc_take_constructor.nd rfl (Or.inl rfl)) (pgs_cons (pg_name (i := 5) sc_take_constructor.nd rfl (Or.inl rfl)) pgs_nil))))
    (pss_one (ps_expr (pe_bm PySem.F.plainAttrs_list PySem.F.slot_list_append PySem.F.type_list_append mt_append (pe_fld (pv 0) rfl) (pa_cons (pe_tup (pa_cons (pv 2) (pa_cons (pv 3) (pa_cons (pv 4) (pa_cons (pv 5) pa_nil))))) pa_nil))))))))), ?_⟩
    refine ⟨_, rfl, o, dx, _, rfl, L.ins, rfl, .inl ⟨o, dx, l, n, 1, _, w, rfl, L, rfl, hw, fun H1 x1 L1 => ?_⟩⟩
    refine ⟨_, rfl, o, dx, _, rfl, L1.ins, rfl, o, dx, l, n, 2, _, ":", rfl, L1, rfl, fun H2 x2 L2 => ?_⟩
    refine ⟨fun _ _ => False, ?_, fun _ _ h => h.elim⟩
    refine ⟨_, rfl, o, dx, _, rfl, L2.ins, rfl, o, dx, l, n, 3, _, "->", rfl, L2, by simp, by decide +kernel, fun H3 s3 => ⟨_, rfl, ?_⟩⟩
    have L3 := L2.same s3
    rw [show decide ((cs "con" :: cs w :: [58] :: cs z :: R)[3]? = some (cs "->")) = false from decide_eq_false (fun e => ne13 hz (Option.some.inj e))]
    exact iteF ⟨_, rfl, o, dx, l, n, 3, _, z, rfl, L3, rfl, hz, q.imp fun H' x' => ((x1.trans x2).trans (.of s3)).trans x'⟩
end
end Kx
namespace Kx
open PySem PySem.Spec PyProof.Rows L2
section
variable {P : Program} {w : World} {K : PySem.W.Frag} {mg : Str → Option Value} {base : Heap}
set_option pp.maxSteps 1200
theorem bl_ne {w : Str} (h : WkB w ∨ w.length = 13) : cs w ≠ [40] := fun e => by
  rcases h with h | h
  · exact wk_ne h e
  · have := congrArg List.length e
    rw [cs_len, h] at this
    exact absurd this (by decide)
theorem okx_take_line (T : Txt K mg) (G_take_maker : FnOk P w K mg base CX0 3 T.a_take_maker T.d_take_maker ["draft", "line"] (spIt T.c_Line T.c_Draft 1 (fun it => ∃ x, it = .m x) (fun it => (tokI it).drop 1))) (G_Line_take_word : FnOk P w K mg base (L2.CX P w) 4 T.a_Line_take_word T.d_Line_take_word ["self"] (spTakeWordB T.c_Line T.c_BadText)) (G_take_constructor : FnOk P w K mg base (L2.CX P w) 96 T.a_take_constructor T.d_take_constructor ["draft", "line"] (spItB T.c_Line T.c_Draft T.c_BadText 1 BlC)) (G_take_function : FnOk P w K mg base CX0 96 T.a_take_function T.d_take_function ["draft", "line"] (spIt T.c_Line T.c_Draft 1 (fun it => ∃ x, it = .h x) (fun it => (tokI it).drop 1))) (G_Line_take : FnOk P w K mg base CX0 1 T.a_Line_take T.d_Line_take ["self"] (spTake T.c_Line)) (G_take_clause : FnOk P w K mg base CX0 95 T.a_take_clause T.d_take_clause ["draft", "line"] (spIt T.c_Line T.c_Draft 0 (fun it => ∃ w x, it = .l w x) tokI)) (G_Line_refuse : FnOk P w K mg base (L2.CX P w) 3 T.a_Line_refuse T.d_Line_refuse ["self"] (spRefuse T.c_Line T.c_BadText)) : FnOk P w K mg base (L2.CX P w) 97 T.a_take_line T.d_take_line ["draft", "line"] (spItB T.c_Line T.c_Draft T.c_BadText 0 (fun U => BlC U ∨ BlF U)) := by
  refine T.F_take_line.okX sc_take_line (fun vs H Q E h => ?_) (fun cdv A outer s H vs Q E hr h => ?_)
  · obtain ⟨a, s, o, dx, l, n, U, rfl, _⟩ := h; rfl
  · obtain ⟨a, s, o, dx, l, n, U, rfl, D, L, no, hB, q⟩ := h
    have hr_Line_take_word : Room 4 _ := hr.mono (by decide)
    have hr_Line_take : Room 1 _ := hr.mono (by decide)
    have hr_take_maker : Room 3 _ := hr.mono (by decide)
    have hr_Line_refuse : Room 3 _ := hr.mono (by decide)
    have hr_take_constructor : Room 96 _ := hr
    have hr_take_function : Room 96 _ := hr
    have hr_take_clause : Room 95 _ := hr.mono (by decide)
    refine ⟨_, (pss_cons (ps_if (pt_cmpR (op_eqD (u64 hr)) (pe_slice sl_list (pe_fld (pv 1) rfl) (po_some pe_int) (po_some pe_int)) (pe_lst (pa_cons pe_str pa_nil)) (nomark _)) (pss_cons (ps_expr (pe_call G_take_clause hr_take_clause rfl T.m_take_clause T.F_take_clause.kp T.b_take_clause .nil pass0 (pa_cons (pv 0) (pa_cons (pv 1) pa_nil))))
    (pss_one ps_retN)) pss_nil)
    (pss_cons (ps_set (i := 2) sc_take_line.nd rfl (Or.inl rfl) (pe_meth0 (pv 1) T.cl_Line T.me_Line_take G_Line_take hr_Line_take T.b_Line_take .nil pass0))
    (pss_one (ps_if (pt_cmpR op_eq (pv 2) pe_str (nomark _)) (pss_one (ps_expr (pe_call G_take_maker hr_take_maker rfl T.m_take_maker T.F_take_maker.kp T.b_take_maker .nil pass0 (pa_cons (pv 0) (pa_cons (pv 1) pa_nil))))) (pss_one (ps_if (pt_cmpR op_eq (pv 2) pe_str (nomark _)) (pss_one (ps_expr (pe_bm PySem.F.plainAttrs_list PySem.F.slot_list_append PySem.F.type_list_append mt_append (pe_fld (pv 0) rfl) (pa_cons (pe_meth0 (pv 1) T.cl_Line T.me_Line_take_word G_Line_take_word hr_Line_take_word T.b_Line_take_word .nil (passes_call (takes_of rfl rfl rfl rfl) fun _ _ _ _ h => h)) pa_nil)))) (pss_one (ps_if (pt_cmpR op_eq (pv 2) pe_str (nomark _)) (pss_one (ps_expr (pe_call G_take_constructor hr_take_constructor rfl T.m_take_constructor T.F_take_constructor.kp T.b_take_constructor .nil (passes_call (takes_of rfl rfl rfl rfl) fun _ _ _ _ h => h) (pa_cons (pv 0) (pa_cons (pv 1) pa_nil))))) (pss_one (ps_if (pt_cmpR op_eq (pv 2) pe_str (nomark _)) (pss_one (ps_expr (pe_call G_take_function hr_take_function rfl T.m_take_function T.F_take_function.kp T.b_take_function .nil pass0 (pa_cons (pv 0) (pa_cons (pv 1) pa_nil))))) (pss_one (ps_if (PW.pt (pw_and (pt_cmpR op_eq (pv 2) pe_str (nomark _)) (pw_and1 (pt_truth (pe_fld (pv 0) rfl) (by intro _; rfl))))) (pss_one ps_never) (pss_one (ps_expr (pe_meth0 (pv 1) T.cl_Line T.me_Line_refuse G_Line_refuse hr_Line_refuse T.b_Line_refuse .nil (passes_call (takes_of rfl rfl rfl rfl) fun _ _ _ _ h => h)))))))))))))))), ?_⟩
    obtain ⟨z, hz1, hz2, h1⟩ : ∃ z, U[1]? = some (cs z) ∧ cs z ≠ [40] ∧ 1 ≤ U.length := by
      rcases hB with ⟨w, z, R, rfl, hw, hz⟩ | ⟨z, rfl, hz⟩
      · exact ⟨w, rfl, bl_ne (.inl hw), by simp⟩
      · exact ⟨z, rfl, bl_ne (.inr hz), by simp⟩
    refine ⟨_, rfl, o, _, dx, _, _, rfl, L.ins, T.cl_Line, T.no_Line_tokens, rfl, _, rfl, _, rfl, l, _, rfl, SqL.of L.lst, fun p hp => ?_⟩
    have s1 := same_upd hp (.lst (cutV ((U).map SV) (some 1) (some 2)))
    refine ⟨(by show 1 ≤ sizeLine; decide), fun p2 hp2 => ?_⟩
    have s2 := same_upd hp2 (.lst [V.str "("])
    have ecut : cutV ((U).map SV) (some 1) (some 2) = (match (U)[1]? with | some t => [SV t] | none => []) := cut_one (U := U) (i := 1) h1
    have e1 := s2 _ _ (show upd H p (.lst (cutV ((U).map SV) (some 1) (some 2))) p = some (.lst (match (U)[1]? with | some t => [SV t] | none => [])) by rw [upd_same, ecut])
    have s12 := s1.trans s2
    have dz : Dp K (upd (upd H p (.lst (cutV ((U).map SV) (some 1) (some 2)))) p2 (.lst [V.str "("])) (.ref p2) (.list [.str "("]) := .lst (SqL.of upd_same) (.cons (.str _) .nil)
    generalize upd (upd H p (.lst (cutV ((U).map SV) (some 1) (some 2)))) p2 (.lst [V.str "("]) = H2 at *
    have L2 := L.same s12
    have D2 := D.same s12
    rw [hz1] at e1
    have k5 : (PyData.list [.str (mkS (cs z))]).eqv (.list [.str "("]) = false := by
      rw [Bool.eq_false_iff]
      intro h
      simp only [PyData.eqv, PyData.eqvAll, Bool.and_true, beq_iff_eq] at h
      exact hz2 (by have := congrArg cs h; rw [cs_mk] at this; exact this)
    refine ⟨.list [.str (mkS (cs z))], .list [.str "("], .lst (SqL.of e1) (.cons (.str _) .nil), dz, one_shaped (sok_ok (L.ok _ (List.mem_of_getElem? hz1))), one_shaped (by decide +kernel), _, rfl, ?_⟩
    rw [k5]
    obtain ⟨t0, ht0⟩ : ∃ t, U[0]? = some t := ⟨_, List.getElem?_eq_getElem (by omega)⟩
    refine iteF ⟨_, rfl, o, dx, _, rfl, L2.ins, rfl, o, dx, l, n, 0, U, t0, rfl, L2, ht0, fun H3 x3 L3 => ?_⟩
    have D3 := D2.lx L2 x3 no
    have x13 : Lx o H H3 := (Lx.of s12).trans x3
    rcases hB with ⟨w, z, R, rfl, hw, hz⟩ | ⟨z, rfl, hz⟩
    · cases ht0
      refine ⟨_, rfl, rfl, _, rfl, ?_⟩
      rw [sv_lit, show decide (cs "con" = cs "maker") = false by decide]
      refine iteF ⟨_, rfl, rfl, _, rfl, ?_⟩
      rw [sv_lit, show decide (cs "con" = cs "family") = false by decide]
      refine iteF ⟨_, rfl, rfl, _, rfl, ?_⟩
      rw [sv_lit, show decide (cs "con" = cs "con") = true from decide_eq_true rfl]
      exact iteT ⟨_, rfl, _, rfl, a, s, o, dx, l, n, _, rfl, D3, L3, no, ⟨w, z, R, rfl, hw, hz⟩, q.imp fun H' x' => x13.trans x'⟩
    · cases ht0
      refine ⟨_, rfl, rfl, _, rfl, ?_⟩
      rw [sv_lit, show decide (cs "family" = cs "maker") = false by decide]
      refine iteF ⟨_, rfl, rfl, _, rfl, ?_⟩
      rw [sv_lit, show decide (cs "family" = cs "family") = true from decide_eq_true rfl]
      exact iteT ⟨_, rfl, a.d, _, a.dx, _, _, rfl, D3.ins, T.cl_Draft, T.no_Draft_families, rfl, .inl ⟨rfl, _, SqL.of D3.fm⟩, _, rfl, o, dx, _, rfl, L3.ins, rfl, o, dx, l, n, 1, _, z, rfl, L3, rfl, hz, q.imp fun H' x' => x13.trans x'⟩
end
end Kx
namespace Kx
open PySem PySem.Spec PyProof.Rows L2
section
variable {P : Program} {w : World} {K : PySem.W.Frag} {mg : Str → Option Value} {base : Heap}
set_option pp.maxSteps 1200
/-! ### more than 40 open; a text that is too long -/
def Opn (U : List (List Nat)) : Prop := ∃ i, i ≤ U.length ∧ 40 < net (U.take i)
def spLInitB (C B : Addr) : Sp := fun vs H Q E => ∃ (o dx : Addr) (n : Int) (x cm : List Nat) (U : List (List Nat)), vs = [.ref o, SV (x ++ cm), .int n] ∧ H o = some (.ins C dx []) ∧ Toks x U ∧ Ok x ∧ Cm cm ∧ (x ++ cm).length ≤ 6000 ∧ Opn U ∧ Bad B n (Lx o H) E
theorem okx_Line_init (T : Txt K mg) (G_most_open : FnOk P w K mg base CX0 1 T.a_most_open T.d_most_open ["tokens"] spMost) (G_tokens_of : FnOk P w K mg base CX0 2 T.a_tokens_of T.d_tokens_of ["row"] spTokens) (G_Line_refuse : FnOk P w K mg base (L2.CX P w) 3 T.a_Line_refuse T.d_Line_refuse ["self"] (spRefuse T.c_Line T.c_BadText)) : FnOk P w K mg base (L2.CX P w) 4 T.a_Line_init T.d_Line_init ["self", "row", "number"] (spLInitB T.c_Line T.c_BadText) := by
  refine T.F_Line_init.okX sc_Line_init (fun vs H Q E h => ?_) (fun cdv A outer s H vs Q E hr h => ?_)
  · obtain ⟨o, dx, n, x, cm, U, rfl, _⟩ := h; rfl
  · obtain ⟨o, dx, n, x, cm, U, rfl, e, hT, hO, hC, hl, ⟨io, il, ig⟩, q⟩ := h
    rw [List.length_append] at hl
    have hr_tokens_of : Room 2 _ := hr.mono (by decide)
    have hr_most_open : Room 1 _ := hr.mono (by decide)
    have hr_Line_refuse : Room 3 _ := hr
    refine ⟨_, (pss_cons (ps_fld (pv 0) (pv 2) rfl)
    (pss_cons (ps_fld (pv 0) pe_int rfl)
    (pss_cons (ps_fld (pv 0) (pe_call G_tokens_of hr_tokens_of rfl T.m_tokens_of T.F_tokens_of.kp T.b_tokens_of .nil pass0 (pa_cons (pe_ix ix_tup (pe_partition (pv 1) pe_str) pe_int (fun _ _ => rfl)) pa_nil)) rfl)
    (pss_one (ps_if (pt_cmpR op_gt (pe_call G_most_open hr_most_open rfl T.m_most_open T.F_most_open.kp T.b_most_open .nil pass0 (pa_cons (pe_fld (pv 0) rfl) pa_nil)) (pe_glob (by rfl) T.g_MOST_OPEN (show RelV (V.int 40) (.int 40 T.t_MOST_OPEN) from ⟨_, rfl⟩)) (nomark _)) (pss_one (ps_expr (pe_meth0 (pv 0) T.cl_Line T.me_Line_refuse G_Line_refuse hr_Line_refuse T.b_Line_refuse .nil (passes_call (takes_of rfl rfl rfl rfl) fun _ _ _ _ h => h)))) pss_nil))))), ?_⟩
    refine ⟨_, rfl, _, rfl, o, T.c_Line, dx, [], rfl, e, T.cl_Line, T.no_Line_number, by decide, ?_⟩
    refine ⟨_, rfl, o, T.c_Line, dx, _, rfl, upd_same, T.cl_Line, T.no_Line_at, by show 1 < 1000; decide, ?_⟩
    have x1 : Lx o H (upd (upd H o (.ins T.c_Line dx (putF "number" (.int n) []))) o (.ins T.c_Line dx (putF "at" (.int 0) (putF "number" (.int n) [])))) := fun b u nb h => by rw [upd_ne nb, upd_ne nb]; exact h
    have e1 : (upd (upd H o (.ins T.c_Line dx (putF "number" (.int n) []))) o (.ins T.c_Line dx (putF "at" (.int 0) (putF "number" (.int n) [])))) o = some (.ins T.c_Line dx [("number", .int n), ("at", .int 0)]) := upd_same
    generalize (upd (upd H o (.ins T.c_Line dx (putF "number" (.int n) []))) o (.ins T.c_Line dx (putF "at" (.int 0) (putF "number" (.int n) [])))) = H1 at x1 e1 ⊢
    have h35 : 35 ∉ x := fun hm => by have := (hO 35 hm).2.2.2; omega
    refine ⟨_, rfl, ⟨_, rfl⟩, mkS (x ++ cm), _, rfl, rfl, rfl, by rw [mk_len, List.length_append]; exact small7 (by omega), fun p hp => ⟨p, _, _, _, rfl, rfl, .inl (.inl upd_same), atI_nat (j := 0) rfl, x, U, by rw [part_cm h35 hC]; rfl, hT, by omega, fun l H2 nl s2 el lU => ?_⟩⟩
    have s1 := same_upd hp (.tup [.str (Txt.partition (mkS (x ++ cm)) "#").1, .str (Txt.partition (mkS (x ++ cm)) "#").2.1, .str (Txt.partition (mkS (x ++ cm)) "#").2.2])
    have e2 := s2 _ _ (s1 _ _ e1)
    have x2 : Lx o H H2 := (x1.trans (.of s1)).trans (.of s2)
    have nlo : l ≠ o := fun z => by rw [z, e2] at el; cases el
    refine ⟨_, rfl, o, T.c_Line, dx, _, rfl, e2, T.cl_Line, T.no_Line_tokens, by show 2 < 1000; decide, ?_⟩
    have L : LnAt T.c_Line o dx l n 0 U (upd H2 o (.ins T.c_Line dx (lnD n 0 l))) := ⟨upd_same, by rw [upd_ne nlo]; exact el, lU, toks_ok hT hO⟩
    have xl : Lx o H (upd H2 o (.ins T.c_Line dx (lnD n 0 l))) := x2.trans fun b u nb h => by rw [upd_ne nb]; exact h
    rw [show putF "tokens" (.ref l) [("number", V.int n), ("at", V.int 0)] = lnD n 0 l from rfl]
    refine ⟨_, rfl, o, _, dx, _, _, rfl, L.ins, T.cl_Line, T.no_Line_tokens, rfl, l, U, rfl, L.lst, fun m hm _ => ⟨_, _, rfl, rfl, _, rfl, ?_⟩⟩
    have hm := hm io il
    rw [show decide ((40 : Int) < m) = true from decide_eq_true (by omega)]
    exact iteT ⟨_, rfl, o, dx, _, rfl, L.ins, rfl, o, dx, _, n, rfl, L.ins, rfl, q.imp fun H' s' => xl.trans (.of s')⟩
def spRowsB (B : Addr) : Sp := fun vs H Q E => ∃ z : Str, vs = [.str z] ∧ 6000 < z.length ∧ z.length ≤ 20000 ∧ Bad B 0 (Same H) E
theorem okx_rows_of (T : Txt K mg) (G_is_allowed : FnOk P w K mg base CX0 1 T.a_is_allowed T.d_is_allowed ["sign"] spAllowed) : FnOk P w K mg base (L2.CX P w) 3 T.a_rows_of T.d_rows_of ["text"] (spRowsB T.c_BadText) := by
  refine T.F_rows_of.okX sc_rows_of (fun vs H Q E h => ?_) (fun cdv A outer s H vs Q E hr h => ?_)
  · obtain ⟨z, rfl, _⟩ := h; rfl
  · obtain ⟨z, rfl, h1, h2, q⟩ := h
    have hr_is_allowed : Room 1 _ := hr.mono (by decide)
    refine ⟨_, (pss_cons (ps_if (PW.pt (pw_or (pt_not (pt_val (pe_callB call_isi (by rfl) T.z_isinstance (by decide +kernel) (pa_cons (pv 0) (pa_cons (pe_bltn rfl T.z_str (by decide +kernel) (show RelV (V.ty "str") (Value.type "str") from rfl)) pa_nil))))) (pw_or1 (pt_cmpR op_gt (pe_callB call_len_str (by rfl) T.z_len (by decide +kernel) (pa_cons (pv 0) pa_nil)) (pe_glob (by rfl) T.g_MOST_TEXT (show RelV (V.int 6000) (.int 6000 T.t_MOST_TEXT) from ⟨_, rfl⟩)) (nomark _))))) (pss_one (ps_raiseB rfl T.low_BadText hr (takes_of rfl rfl rfl rfl) (pa_cons pe_int pa_nil))) pss_nil)
    (pss_cons (ps_for (passes_of rfl) rfl (pi_str (pv 0)) (pg_name (i := 1) sc_rows_of.nd rfl (Or.inl rfl))
    (pss_one (ps_if (pt_not (pt_val (pe_call G_is_allowed hr_is_allowed rfl T.m_is_allowed T.F_is_allowed.kp T.b_is_allowed .nil pass0 (pa_cons (pv 1) pa_nil)))) (pss_one (ps_raiseB rfl T.low_BadText hr (takes_of rfl rfl rfl rfl) (pa_cons pe_int pa_nil))) pss_nil)))
    (pss_one (ps_ret (pe_slice sl_list (pe_split (pv 0) pe_str) po_none (po_some (pe_un un_neg pe_int))))))), ?_⟩
    refine ⟨_, rfl, _, _, .type "str", _, true, rfl, .ty _, .base (.str _), kit_ty (show kitB "str" "str" = some true by decide +kernel), _, rfl, iteF ?_⟩
    refine ⟨_, rfl, _, rfl, small7 (by omega), _, _, rfl, rfl, _, rfl, ?_⟩
    rw [show decide ((6000 : Int) < (z.length : Int)) = true from decide_eq_true (by omega)]
    exact iteT ⟨_, rfl, fun d hd => q d _ upd_same (same_upd hd _)⟩
def spRowsX (B : Addr) : Sp := fun vs H Q E => spRowsOf vs H Q E ∨ spRowsB B vs H Q E
theorem okx_rows (T : Txt K mg) : FnOk P w K mg base (L2.CX P w) 3 T.a_rows_of T.d_rows_of ["text"] (spRowsX T.c_BadText) :=
  FnOk.or (FnOk.wide (FnOk.mono (ok_rows_of T (ok_is_allowed T)) (by decide))) (okx_rows_of T (ok_is_allowed T))
def spLInitX (C B : Addr) : Sp := fun vs H Q E => spLInit C vs H Q E ∨ spLInitB C B vs H Q E
theorem okx_init (T : Txt K mg) : FnOk P w K mg base (L2.CX P w) 4 T.a_Line_init T.d_Line_init ["self", "row", "number"] (spLInitX T.c_Line T.c_BadText) :=
  have to := ok_tokens_of (P := P) (w := w) (base := base) T (ok_token_end T)
  FnOk.or (FnOk.wide (FnOk.mono (ok_Line_init T (ok_most_open T) to) (by decide))) (okx_Line_init T (ok_most_open T) to (okx_Line_refuse T))
def BlX (U : List (List Nat)) : Prop := BlC U ∨ BlF U
def spItX (CL CD B : Addr) : Sp := fun vs H Q E => spIt CL CD 0 (fun _ => True) tokI vs H Q E ∨ spItB CL CD B 0 BlX vs H Q E
/-- a row that is refused -/
structure BadRw (r : Rw) : Prop where
  tk : Toks r.x r.U
  ok : Ok r.x
  cm : Cm r.cm
  len : r.full.length ≤ 6000
  bad : Opn r.U ∨ (NetOk r.U ∧ BlX r.U)
theorem BadRw.okr {r : Rw} (h : BadRw r) : OkR r.full := fun c hc => (List.mem_append.mp hc).elim (fun h1 => (h.ok c h1).r) (h.cm.1 c)
theorem BlX.two {U : List (List Nat)} (h : BlX U) : ∃ a b r, U = a :: b :: r := by
  rcases h with ⟨w, z, R, rfl, _⟩ | ⟨z, rfl, _⟩ <;> exact ⟨_, _, _, rfl⟩
def spDraftedB (CD B : Addr) : Sp := fun vs H Q E => ∃ (rs : List Rw) (b : Rw), vs = [SV (fullT ((rs ++ [b]).map Rw.full)), .bl false] ∧ rs.length ≤ 900 ∧ (fullT ((rs ++ [b]).map Rw.full)).length ≤ 6000 ∧ (∀ r ∈ rs, RwOk r) ∧ ItsOk s0 (itsR rs) ∧ BadRw b ∧ Bad B ((rs.length : Int) + 1) (Same H) E
def spDraftedL (B : Addr) : Sp := fun vs H Q E => ∃ z : Str, vs = [.str z, .bl false] ∧ 6000 < z.length ∧ z.length ≤ 20000 ∧ Bad B 0 (Same H) E
theorem okx_drafted_long (T : Txt K mg) (G_Line_finish : FnOk P w K mg base CX0 1 T.a_Line_finish T.d_Line_finish ["self"] (spFinish T.c_Line)) (G_take_line : FnOk P w K mg base (L2.CX P w) 97 T.a_take_line T.d_take_line ["draft", "line"] (spItX T.c_Line T.c_Draft T.c_BadText)) (G_Line_init : FnOk P w K mg base (L2.CX P w) 4 T.a_Line_init T.d_Line_init ["self", "row", "number"] (spLInitX T.c_Line T.c_BadText)) (G_Draft_init : FnOk P w K mg base CX0 1 T.a_Draft_init T.d_Draft_init ["self", "asks"] (spDInit T.c_Draft)) (G_rows_of : FnOk P w K mg base (L2.CX P w) 3 T.a_rows_of T.d_rows_of ["text"] (spRowsX T.c_BadText)) : FnOk P w K mg base (L2.CX P w) 98 T.a_drafted T.d_drafted ["text", "asks"] (spDraftedL T.c_BadText) := by
  refine T.F_drafted.okX sc_drafted (fun vs H Q E h => ?_) (fun cdv A outer s H vs Q E hr h => ?_)
  · obtain ⟨z, rfl, _⟩ := h; rfl
  · obtain ⟨z, rfl, h1, h2, q⟩ := h
    have hr_Line_finish : Room 1 _ := hr.mono (by decide)
    have hr_take_line : Room 97 _ := hr
    have hr_Line_init : Room 5 _ := hr.mono (by decide)
    have hr_Draft_init : Room 2 _ := hr.mono (by decide)
    have hr_rows_of : Room 3 _ := hr.mono (by decide)
    refine ⟨_, (pss_cons (ps_set (i := 2) sc_drafted.nd rfl (Or.inl rfl) (pe_call G_rows_of hr_rows_of rfl T.m_rows_of T.F_rows_of.kp T.b_rows_of .nil (passes_call (takes_of rfl rfl rfl rfl) fun _ _ _ _ h => h) (pa_cons (pv 0) pa_nil)))
    (pss_cons (ps_set (i := 3) sc_drafted.nd rfl (Or.inl rfl) (pe_make T.mk_Draft G_Draft_init hr_Draft_init rfl T.mg_Draft T.b_Draft_init .nil pass0 (pa_cons (pv 1) pa_nil)))
    (pss_cons (ps_for (passes_of rfl) rfl (pi_enumS (by rfl) T.z_enumerate (pa_cons (pv 2) pa_nil) (pk_cons pe_int pk_nil)) (pg_tup rfl (pgs_cons (pg_name (i := 4) sc_drafted.nd rfl (Or.inl rfl)) (pgs_cons (pg_name (i := 5) sc_drafted.nd rfl (Or.inl rfl)) pgs_nil)))
    (pss_cons (ps_set (i := 6) sc_drafted.nd rfl (Or.inl rfl) (pe_make T.mk_Line G_Line_init hr_Line_init rfl T.mg_Line T.b_Line_init .nil (passes_call (takes_of rfl rfl rfl rfl) fun _ _ _ _ h => h) (pa_cons (pv 5) (pa_cons (pv 4) pa_nil))))
    (pss_one (ps_if (pt_truth (pe_fld (pv 6) rfl) (by intro _; rfl)) (pss_cons (ps_expr (pe_call G_take_line hr_take_line rfl T.m_take_line T.F_take_line.kp T.b_take_line .nil (passes_call (takes_of rfl rfl rfl rfl) fun _ _ _ _ h => h) (pa_cons (pv 3) (pa_cons (pv 6) pa_nil))))
    (pss_one (ps_expr (pe_meth0 (pv 6) T.cl_Line T.me_Line_finish G_Line_finish hr_Line_finish T.b_Line_finish .nil pass0)))) pss_nil))))
    (pss_cons (ps_if (PW.pt (pw_and (pt_truth (pv 0) (by intro _; rfl)) (pw_and1 (pt_not (pt_val (pe_m1 PySem.F.slot_str_endswith PySem.F.type_str_endswith mt_endswith (pv 0) pe_str)))))) (pss_one (ps_raiseB rfl T.low_BadText hr (takes_of rfl rfl rfl rfl) (pa_cons (pe_op op_add (pe_callB call_len_seq (by rfl) T.z_len (by decide +kernel) (pa_cons (pv 2) pa_nil)) pe_int) pa_nil))) pss_nil)
    (pss_one (ps_ret (pv 3))))))), ?_⟩
    exact ⟨_, rfl, .inr ⟨z, rfl, h1, h2, q⟩⟩
end
end Kx
namespace Kx
open PySem PySem.Spec PyProof.Rows L2
section
variable {P : Program} {w : World} {K : PySem.W.Frag} {mg : Str → Option Value} {base : Heap}
set_option pp.maxSteps 800
theorem okx_drafted (T : Txt K mg) (G_Line_finish : FnOk P w K mg base CX0 1 T.a_Line_finish T.d_Line_finish ["self"] (spFinish T.c_Line)) (G_take_line : FnOk P w K mg base (L2.CX P w) 97 T.a_take_line T.d_take_line ["draft", "line"] (spItX T.c_Line T.c_Draft T.c_BadText)) (G_Line_init : FnOk P w K mg base (L2.CX P w) 4 T.a_Line_init T.d_Line_init ["self", "row", "number"] (spLInitX T.c_Line T.c_BadText)) (G_Draft_init : FnOk P w K mg base CX0 1 T.a_Draft_init T.d_Draft_init ["self", "asks"] (spDInit T.c_Draft)) (G_rows_of : FnOk P w K mg base (L2.CX P w) 3 T.a_rows_of T.d_rows_of ["text"] (spRowsX T.c_BadText)) : FnOk P w K mg base (L2.CX P w) 98 T.a_drafted T.d_drafted ["text", "asks"] (spDraftedB T.c_Draft T.c_BadText) := by
  refine T.F_drafted.okX sc_drafted (fun vs H Q E h => ?_) (fun cdv A outer s H vs Q E hr h => ?_)
  · obtain ⟨rs, bad, rfl, _⟩ := h; rfl
  · obtain ⟨rs, bad, rfl, h100, h6, hln, hok, hbad, q⟩ := h
    have hr_Line_finish : Room 1 _ := hr.mono (by decide)
    have hr_take_line : Room 97 _ := hr
    have hr_Line_init : Room 5 _ := hr.mono (by decide)
    have hr_Draft_init : Room 2 _ := hr.mono (by decide)
    have hr_rows_of : Room 3 _ := hr.mono (by decide)
    refine ⟨_, (pss_cons (ps_set (i := 2) sc_drafted.nd rfl (Or.inl rfl) (pe_call G_rows_of hr_rows_of rfl T.m_rows_of T.F_rows_of.kp T.b_rows_of .nil (passes_call (takes_of rfl rfl rfl rfl) fun _ _ _ _ h => h) (pa_cons (pv 0) pa_nil)))
    (pss_cons (ps_set (i := 3) sc_drafted.nd rfl (Or.inl rfl) (pe_make T.mk_Draft G_Draft_init hr_Draft_init rfl T.mg_Draft T.b_Draft_init .nil pass0 (pa_cons (pv 1) pa_nil)))
    (pss_cons (ps_for (passes_of rfl) rfl (pi_enumS (by rfl) T.z_enumerate (pa_cons (pv 2) pa_nil) (pk_cons pe_int pk_nil)) (pg_tup rfl (pgs_cons (pg_name (i := 4) sc_drafted.nd rfl (Or.inl rfl)) (pgs_cons (pg_name (i := 5) sc_drafted.nd rfl (Or.inl rfl)) pgs_nil)))
    (pss_cons (ps_set (i := 6) sc_drafted.nd rfl (Or.inl rfl) (pe_make T.mk_Line G_Line_init hr_Line_init rfl T.mg_Line T.b_Line_init .nil (passes_call (takes_of rfl rfl rfl rfl) fun _ _ _ _ h => h) (pa_cons (pv 5) (pa_cons (pv 4) pa_nil))))
    (pss_one (ps_if (pt_truth (pe_fld (pv 6) rfl) (by intro _; rfl)) (pss_cons (ps_expr (pe_call G_take_line hr_take_line rfl T.m_take_line T.F_take_line.kp T.b_take_line .nil (passes_call (takes_of rfl rfl rfl rfl) fun _ _ _ _ h => h) (pa_cons (pv 3) (pa_cons (pv 6) pa_nil))))
    (pss_one (ps_expr (pe_meth0 (pv 6) T.cl_Line T.me_Line_finish G_Line_finish hr_Line_finish T.b_Line_finish .nil pass0)))) pss_nil))))
    (pss_cons (ps_if (PW.pt (pw_and (pt_truth (pv 0) (by intro _; rfl)) (pw_and1 (pt_not (pt_val (pe_m1 PySem.F.slot_str_endswith PySem.F.type_str_endswith mt_endswith (pv 0) pe_str)))))) (pss_one (ps_raiseB rfl T.low_BadText hr (takes_of rfl rfl rfl rfl) (pa_cons (pe_op op_add (pe_callB call_len_seq (by rfl) T.z_len (by decide +kernel) (pa_cons (pv 2) pa_nil)) pe_int) pa_nil))) pss_nil)
    (pss_one (ps_ret (pv 3))))))), ?_⟩
    have hokr : ∀ l ∈ (rs ++ [bad]).map Rw.full, OkR l := fun l hl => by
      obtain ⟨r, h, rfl⟩ := List.mem_map.mp hl
      rcases List.mem_append.mp h with h | h
      · exact (hln r h).okr
      · rw [List.mem_singleton.mp h]; exact hbad.okr
    refine ⟨_, rfl, .inl ⟨(rs ++ [bad]).map Rw.full, rfl, h6, hokr, fun pr H1 s1 n1 e1 => ?_⟩⟩
    refine ⟨_, rfl, fun d dx hd hdx ndx => ?_⟩
    refine ⟨d, dx, rfl, upd_same, fun a H2 ed edx eqs D2 hfp x2 => ⟨rfl, ?_⟩⟩
    have k12 : ∀ b u, H1 b = some u → H2 b = some u := fun b u h => x2 b u (ne_of_none h hd) (by rw [upd_ne (ne_of_none h hd), upd_ne (ne_of_none h hdx)]; exact h)
    have s12 : Same H H2 := fun b u h => k12 b u (s1 b u h)
    have fpn : ∀ b ∈ a.fp, H1 b = none := fun b hb => by
      have h := hfp b hb
      cases e : H1 b with
      | none => rfl
      | some u =>
        rw [upd_ne (ne_of_none e hd), upd_ne (ne_of_none e hdx), e] at h
        cases h
    have prd : pr ≠ d := ne_of_none e1 hd
    refine ⟨_, rfl, pr, _, rfl, SqL.of (k12 _ _ e1), ?_⟩
    refine for_enumS (K := K) (a := pr) (xs := ((rs ++ [bad]).map Rw.full).map SV) (fun i σ H' => i ≤ rs.length ∧ ∃ (b : DA) (y4 y5 y6 : Option V), σ = [some (SV (fullT ((rs ++ [bad]).map Rw.full))), some (.bl false), some (.ref pr), some (.ref d), y4, y5, y6] ∧ b.d = d ∧ DfAt T.c_Draft b ((itsR (rs.take i)).foldl stp s0) H' ∧ H' pr = some (.lst (((rs ++ [bad]).map Rw.full).map SV)) ∧ pr ∉ b.fp ∧ (∀ c ∈ b.fp, H c = none) ∧ Same H H') ?_ ?_ ?_ ?_
    · refine ⟨Nat.zero_le _, a, _, _, _, by rw [← ed]; rfl, ed, D2, k12 _ _ e1, fun z => ?_, fun c hc => s1.free (fpn c hc), s12⟩
      have := fpn pr z
      rw [e1] at this; cases this
    · exact fun i σ H' ⟨_, _, _, _, _, _, _, _, e, _⟩ => SqL.of e
    · rintro i x t σ H3 hx ⟨hi, b, y4, y5, y6, rfl, eb, D3, e3, npr, hb, s3⟩ ht
      obtain ⟨z, hz, rfl⟩ := map_at hx
      obtain ⟨r, hit, rfl⟩ := map_at hz
      have st := same_upd ht (.tup [.int (1 + (i : Int)), SV r.full])
      refine ⟨t, _, rfl, .inl (.inl upd_same), rfl, _, _, rfl, _, _, rfl, rfl, ?_⟩
      refine ⟨_, rfl, _, rfl, fun o dx2 ho hdx2 ndx2 => ?_⟩
      have so : ∀ {H4 : Hp}, Lx o (upd (upd (upd H3 t (.tup [.int (1 + (i : Int)), SV r.full])) dx2 (.own o)) o (.ins T.c_Line dx2 [])) H4 → Same (upd H3 t (.tup [.int (1 + (i : Int)), SV r.full])) H4 := fun {H4} x4 c u h =>
        x4 c u (ne_of_none h ho) (by rw [upd_ne (ne_of_none h ho), upd_ne (ne_of_none h hdx2)]; exact h)
      rcases Nat.lt_or_ge i rs.length with hlt | hge
      rotate_left
      · have ei : i = rs.length := by omega
        subst ei
        have hr2 : r = bad := by
          rw [List.getElem?_append_right (Nat.le_refl _), Nat.sub_self] at hit
          exact (Option.some.inj hit).symm
        subst hr2
        have e1n : (1 + (rs.length : Int)) = (rs.length : Int) + 1 := by omega
        have q1 : Bad T.c_BadText (1 + (rs.length : Int)) (Same H) E := by rw [e1n]; exact q
        rcases hbad.bad with hop | ⟨hno, hbl⟩
        · exact .inr ⟨o, dx2, 1 + (rs.length : Int), r.x, r.cm, r.U, rfl, upd_same, hbad.tk, hbad.ok, hbad.cm, hbad.len, hop, q1.imp fun H' x' => s3.trans (st.trans (so x'))⟩
        refine .inl ⟨o, dx2, 1 + (rs.length : Int), r.x, r.cm, r.U, rfl, upd_same, hbad.tk, hbad.ok, hbad.cm, hbad.len, hno, fun l H4 nl x4 L4 => ⟨rfl, ?_⟩⟩
        have k34 : Same H3 H4 := st.trans (so x4)
        have D4 := D3.same k34
        have nod : o ≠ b.d := fun z => by
          have := st _ _ D3.ins
          rw [← z, ho] at this; cases this
        refine ⟨_, rfl, o, _, dx2, _, _, rfl, L4.ins, T.cl_Line, T.no_Line_tokens, rfl, true, .inl ⟨_, SqL.of L4.lst, ?_⟩, iteT ?_⟩
        · obtain ⟨a', b', r', e'⟩ := hbl.two
          rw [e']; rfl
        refine ⟨_, rfl, _, rfl, .inr ⟨b, _, o, dx2, l, _, r.U, by rw [eb]; rfl, D4, L4, nod, hbl, q1.imp fun H' x' c u h => x' c u (fun z => (by
          have := st c u (s3 c u h)
          rw [z, ho] at this; cases this)) (k34 c u (s3 c u h))⟩⟩
      have hit : rs[i]? = some r := by rwa [List.getElem?_append_left hlt] at hit
      have ln := hln r (List.mem_of_getElem? hit)
      obtain ⟨tk, bb, eb2⟩ := itsR_at hit
      refine .inl ⟨o, dx2, 1 + (i : Int), r.x, r.cm, r.U, rfl, upd_same, ln.tk, ln.ok, ln.cm, ln.len, ln.op, fun l H4 nl x4 L4 => ⟨rfl, ?_⟩⟩
      have k34 : Same H3 H4 := fun c u h => by
        have h := st c u h
        exact x4 c u (ne_of_none h ho) (by rw [upd_ne (ne_of_none h ho), upd_ne (ne_of_none h hdx2)]; exact h)
      have D4 := D3.same k34
      have nod : o ≠ b.d := fun z => by
        have := st _ _ D3.ins
        rw [← z, ho] at this; cases this
      have nlf : l ∉ b.fp := fun z => by
        obtain ⟨xs, e⟩ := D3.lst l z
        have e2 := st _ _ e
        rw [upd_ne (ne_of_none e2 ho), upd_ne (ne_of_none e2 hdx2), e2] at nl
        cases nl
      have e4 := k34 _ _ e3
      have hpo : pr ≠ o := fun z => by rw [z, L4.ins] at e4; cases e4
      have s34 : Same H H4 := s3.trans k34
      cases hri : r.it with
      | none =>
        have hU : r.U = [] := by rw [ln.iu, hri]
        refine ⟨_, rfl, o, _, dx2, _, _, rfl, L4.ins, T.cl_Line, T.no_Line_tokens, rfl, false, .inl ⟨_, SqL.of L4.lst, by rw [hU]; rfl⟩, iteF ?_⟩
        rw [hri] at tk
        exact ⟨hlt, b, _, _, _, rfl, eb, by rw [tk]; simpa using D4, e4, npr, hb, s34⟩
      | some it =>
      rw [hri] at tk eb2
      have hU : r.U = tokI it := by rw [ln.iu, hri]
      rw [eb2] at hok
      obtain ⟨io, ib⟩ := hok.mid
      have tk2 := tok_two io
      refine ⟨_, rfl, o, _, dx2, _, _, rfl, L4.ins, T.cl_Line, T.no_Line_tokens, rfl, true, .inl ⟨_, SqL.of L4.lst, ?_⟩, iteT ?_⟩
      · rw [hU]
        cases e : tokI it with
        | nil => rw [e] at tk2; simp at tk2
        | cons a b => rfl
      rw [hU] at L4
      refine ⟨_, rfl, _, rfl, .inl ⟨b, _, it, o, dx2, l, _, tokI it, trivial, by rw [eb]; rfl, D4, L4, nod, nlf, rfl, io, ib, fun b' H5 eb' D5 hor L5 x5 => ?_⟩⟩
      refine ⟨_, rfl, o, dx2, _, rfl, L5.ins, rfl, o, dx2, l, _, tokI it, rfl, L5, ?_⟩
      have e5 := x5 pr _ hpo npr e4
      have s5 : Same H H5 := fun c u h => by
        have h3 := s3 c u h
        have h3t := st c u h3
        refine x5 c u (ne_of_none h3t ho) (fun z => ?_) (k34 c u h3)
        have := hb c z
        rw [h] at this; cases this
      refine ⟨hlt, b', _, _, _, rfl, by rw [eb', eb], by rw [tk, List.foldl_append]; exact D5, e5, ?_, ?_, s5⟩
      · rcases hor with rfl | ⟨q2, rfl, hq2⟩
        · exact npr
        · intro z
          have : pr ∈ b.fp ∨ pr = q2 := by
            unfold DA.fp at z ⊢
            simp only [List.mem_cons, List.mem_append, List.not_mem_nil, or_false] at z ⊢
            rcases z with h | h | h | h | h | h
            · exact .inl (.inl h)
            · exact .inl (.inr (.inl h))
            · exact .inl (.inr (.inr (.inl h)))
            · exact .inl (.inr (.inr (.inr (.inl h))))
            · exact .inl (.inr (.inr (.inr (.inr h))))
            · exact .inr h
          rcases this with h | h
          · exact npr h
          · rw [h] at e4; rw [hq2] at e4; cases e4
      · rcases hor with rfl | ⟨q2, rfl, hq2⟩
        · exact hb
        · intro c hc
          have : c ∈ b.fp ∨ c = q2 := by
            unfold DA.fp at hc ⊢
            simp only [List.mem_cons, List.mem_append, List.not_mem_nil, or_false] at hc ⊢
            rcases hc with h | h | h | h | h | h
            · exact .inl (.inl h)
            · exact .inl (.inr (.inl h))
            · exact .inl (.inr (.inr (.inl h)))
            · exact .inl (.inr (.inr (.inr (.inl h))))
            · exact .inl (.inr (.inr (.inr (.inr h))))
            · exact .inr h
          rcases this with h | h
          · exact hb c h
          · rw [h]; exact s3.free (k34.free hq2)
    · rintro σ H3 ⟨hi, _⟩
      rw [List.length_map, List.length_map, List.length_append, List.length_singleton] at hi
      omega
/-! ### read -/
def spDraftedX (CD B : Addr) : Sp := fun vs H Q E => spDraftedB CD B vs H Q E ∨ spDraftedL B vs H Q E
def spReadG : Sp := fun vs H Q _ => ∃ rs : List Rw, vs = [SV (fullT (rs.map Rw.full))] ∧ rs ≠ [] ∧ rs.length ≤ 1000 ∧ (fullT (rs.map Rw.full)).length ≤ 6000 ∧ (∀ r ∈ rs, RwOk r) ∧ ItsOk s0 (itsR rs) ∧ DsOk ((itsR rs).foldl stp s0) ∧ ∀ v H', Same H H' → Q v H'
theorem go_nm {i : Nat} {v : V} {σ : L2.St} {H : Hp} {k : L2.St → Hp → Prop} (h : k (σ.set i (some v)) H) : gName i v σ H k := h
theorem ok_read (T : Txt K mg) (G_drafted : FnOk P w K mg base CX0 98 T.a_drafted T.d_drafted ["text", "asks"] (spDrafted T.c_Draft)) (G_table : FnOk P w K mg base CX0 48 T.a_table T.d_table ["draft"] (spRTable T.c_Draft)) (G_program : FnOk P w K mg base CX0 48 T.a_program T.d_program ["draft"] (spRProg T.c_Draft)) : FnOk P w K mg base CX0 99 T.a_read T.d_read ["text"] spReadG := by
  refine T.F_read.ok sc_read (fun vs H Q E h => ?_) (fun cdv A outer s H vs Q E hr h => ?_)
  · obtain ⟨rs, rfl, _⟩ := h; rfl
  · obtain ⟨rs, rfl, hne, hl, h6, hok, hit, hds, q⟩ := h
    have hr_drafted : Room 98 _ := hr
    have hr_table : Room 48 _ := hr.mono (by decide)
    have hr_program : Room 48 _ := hr.mono (by decide)
    refine ⟨_, (pss_cons (ps_set (i := 1) sc_read.nd rfl (Or.inl rfl) (pe_call G_drafted hr_drafted rfl T.m_drafted T.F_drafted.kp T.b_drafted .nil pass0 (pa_cons (pv 0) (pa_cons pe_bl pa_nil))))
    (pss_one (ps_ret (pe_tup (pa_cons (pe_call G_table hr_table rfl T.m_table T.F_table.kp T.b_table .nil pass0 (pa_cons (pv 1) pa_nil)) (pa_cons (pe_call G_program hr_program rfl T.m_program T.F_program.kp T.b_program .nil pass0 (pa_cons (pv 1) pa_nil)) pa_nil)))))), ?_⟩
    refine ⟨_, rfl, rs, rfl, hne, hl, h6, hok, hit, fun a H1 D1 s1 => ?_⟩
    generalize (itsR rs).foldl stp s0 = s at hds D1
    refine go_nm (nx_of (go_ret (t := .tup [tabP ⟨s.ms, s.fm, s.cn⟩, prgP s.fs]) (vx_tup (vs_cons (t := tabP ⟨s.ms, s.fm, s.cn⟩) (fun H5 Q5 s5 q5 => ⟨_, rfl, a, s, rfl, D1.same s5, hds, q5⟩) (vs_cons (t := prgP s.fs) (fun H5 Q5 s5 q5 => ⟨_, rfl, a, s, rfl, D1.same s5, hds, q5⟩) vs_nil)) (by simp)) ?_))
    exact fun v H' iv s' => q v H' (s1.trans s')
def spReadB (B : Addr) : Sp := fun vs H Q E => ∃ (z : Str) (n : Int), vs = [.str z] ∧ Bad B n (Same H) E ∧ ((n = 0 ∧ 6000 < z.length ∧ z.length ≤ 20000) ∨ ∃ (rs : List Rw) (b : Rw), z = mkS (fullT ((rs ++ [b]).map Rw.full)) ∧ n = (rs.length : Int) + 1 ∧ rs.length ≤ 900 ∧ (fullT ((rs ++ [b]).map Rw.full)).length ≤ 6000 ∧ (∀ r ∈ rs, RwOk r) ∧ ItsOk s0 (itsR rs) ∧ BadRw b)
theorem okx_read (T : Txt K mg) (G_drafted : FnOk P w K mg base (L2.CX P w) 98 T.a_drafted T.d_drafted ["text", "asks"] (spDraftedX T.c_Draft T.c_BadText)) (G_table : FnOk P w K mg base CX0 48 T.a_table T.d_table ["draft"] (spRTable T.c_Draft)) (G_program : FnOk P w K mg base CX0 48 T.a_program T.d_program ["draft"] (spRProg T.c_Draft)) : FnOk P w K mg base (L2.CX P w) 99 T.a_read T.d_read ["text"] (spReadB T.c_BadText) := by
  refine T.F_read.okX sc_read (fun vs H Q E h => ?_) (fun cdv A outer s H vs Q E hr h => ?_)
  · obtain ⟨z, n, rfl, _⟩ := h; rfl
  · obtain ⟨z, n, rfl, q, hor⟩ := h
    have hr_drafted : Room 98 _ := hr
    have hr_table : Room 48 _ := hr.mono (by decide)
    have hr_program : Room 48 _ := hr.mono (by decide)
    refine ⟨_, (pss_cons (ps_set (i := 1) sc_read.nd rfl (Or.inl rfl) (pe_call G_drafted hr_drafted rfl T.m_drafted T.F_drafted.kp T.b_drafted .nil (passes_call (takes_of rfl rfl rfl rfl) fun _ _ _ _ h => h) (pa_cons (pv 0) (pa_cons pe_bl pa_nil))))
    (pss_one (ps_ret (pe_tup (pa_cons (pe_call G_table hr_table rfl T.m_table T.F_table.kp T.b_table .nil pass0 (pa_cons (pv 1) pa_nil)) (pa_cons (pe_call G_program hr_program rfl T.m_program T.F_program.kp T.b_program .nil pass0 (pa_cons (pv 1) pa_nil)) pa_nil)))))), ?_⟩
    rcases hor with ⟨rfl, h1, h2⟩ | ⟨rs, b, rfl, rfl, h3, h4, h5, h6, h7⟩
    · exact ⟨_, rfl, .inr ⟨z, rfl, h1, h2, q⟩⟩
    · exact ⟨_, rfl, .inl ⟨rs, b, rfl, h3, h4, h5, h6, h7, q⟩⟩
def spReadX (B : Addr) : Sp := fun vs H Q E => spReadG vs H Q E ∨ spReadB B vs H Q E
end
end Kx
/-! Read as data; != of the same data. -/
namespace Kx
open PySem PySem.Spec PyProof.Rows L2
mutual
def toD : PV → PyData
  | .str z => .str z
  | .int i => .int i
  | .tup l => .tuple (toDL l)
def toDL : List PV → List PyData
  | [] => []
  | t :: r => toD t :: toDL r
end
mutual
theorem eqvD : ∀ a : PV, PyData.eqv (toD a) (toD a) = true
  | .str x => by simp [toD, PyData.eqv]
  | .int x => by simp [toD, PyData.eqv]
  | .tup xs => by simp only [toD, PyData.eqv]; exact eqvDL xs
theorem eqvDL : ∀ a : List PV, PyData.eqvAll (toDL a) (toDL a) = true
  | [] => by simp [toDL, PyData.eqvAll]
  | x :: r => by simp only [toDL, PyData.eqvAll, eqvD x, eqvDL r, Bool.and_self]
end
mutual
theorem deepD : ∀ t : PV, (toD t).depth ≤ dep t
  | .str _ => by simp [toD, PyData.depth]
  | .int _ => by simp [toD, PyData.depth]
  | .tup ts => by
    have := deepDL ts
    simp only [toD, PyData.depth, dep]; omega
theorem deepDL : ∀ l : List PV, PyData.depthAll (toDL l) ≤ depL l
  | [] => by simp [toDL, PyData.depthAll]
  | t :: r => by
    have a := deepD t
    have b := deepDL r
    simp only [toDL, PyData.depthAll, depL]; omega
end
mutual
theorem Is.lay {H : Hp} : ∀ {v : V} {t : PV}, Is H v t → (toD t).canLay0 = true
  | _, _, .str z k => by simp only [toD, PyData.canLay0]; exact k
  | _, _, .int _ => rfl
  | _, _, .tup e h => by simp only [toD, PyData.canLay0]; exact IsL.lay h
theorem IsL.lay {H : Hp} : ∀ {v : List V} {t : List PV}, IsL H v t → PyData.canLayAll0 (toDL t) = true
  | _, _, .nil => by simp [toDL, PyData.canLayAll0]
  | _, _, .cons h r => by simp only [toDL, PyData.canLayAll0, Is.lay h, IsL.lay r, Bool.and_self]
end
mutual
theorem Is.dp {K : PySem.W.Frag} {H : Hp} : ∀ {v : V} {t : PV}, Is H v t → Dp K H v (toD t)
  | _, _, .str z k => by simp only [toD]; exact .str z
  | _, _, .int i => by simp only [toD]; exact .int i
  | _, _, .tup e i => by simp only [toD]; exact .tup (.inl (.inl e)) (IsL.dp i)
theorem IsL.dp {K : PySem.W.Frag} {H : Hp} : ∀ {v : List V} {t : List PV}, IsL H v t → DpAll K H v (toDL t)
  | _, _, .nil => by simp only [toDL]; exact .nil
  | _, _, .cons a r => by simp only [toDL]; exact .cons (Is.dp a) (IsL.dp r)
end
section
variable {X : Cx}
theorem u200 {A : Around} {k : Nat} (r : Room k A) : A.units + 200 < cLine := by have := r.un; omega
def rNeP (K : PySem.W.Frag) : R2 := fun x y H Q => ∃ d e, Dp K H x d ∧ Dp K H y e ∧ d.canLay0 = true ∧ e.canLay0 = true ∧ d.depth ≤ 190 ∧ Q (.bl (!PyData.eqv d e)) H
theorem neP {K : PySem.W.Frag} (hu : X.A.units + 200 < cLine) (hK : X.K = K := by rfl) : OpR X (compareOp .NotEq) (rNeP K) := by
  subst hK
  intro pins s σ H x y v u Q I rx ry h
  obtain ⟨d, e, hd, he, sd, se, l, q⟩ := h
  obtain ⟨as, r1⟩ := Dp.reads I d x v hd rx
  obtain ⟨bs, r2⟩ := Dp.reads I e y u he ry
  exact SeqAt.compareNe_reads r1 r2 sd se (by omega) ⟨.bl _, H, I, rfl, q⟩
def rEqP (K : PySem.W.Frag) : R2 := fun x y H Q => ∃ d e, Dp K H x d ∧ Dp K H y e ∧ d.canLay0 = true ∧ e.canLay0 = true ∧ d.depth ≤ 190 ∧ Q (.bl (PyData.eqv d e)) H
theorem eqP {K : PySem.W.Frag} (hu : X.A.units + 200 < cLine) (hK : X.K = K := by rfl) : OpR X (compareOp .Eq) (rEqP K) := by
  subst hK
  intro pins s σ H x y v u Q I rx ry h
  obtain ⟨d, e, hd, he, sd, se, l, q⟩ := h
  obtain ⟨as, r1⟩ := Dp.reads I d x v hd rx
  obtain ⟨bs, r2⟩ := Dp.reads I e y u he ry
  exact SeqAt.compareEq_reads r1 r2 sd se (by omega) ⟨.bl _, H, I, rfl, q⟩
end
/-- the same data on both sides -/
theorem ne_same {K : PySem.W.Frag} {H : Hp} {v u : V} {t : PV} {Q : VK} (a : Is H v t) (b : Is H u t) (d : dep t ≤ 190) (q : Q (.bl false) H) : rNeP K v u H Q :=
  ⟨_, _, a.dp, b.dp, a.lay, b.lay, Nat.le_trans (deepD t) d, by rw [eqvD]; exact q⟩
theorem strs_is {H : Hp} : ∀ {zs : List Str}, (∀ z ∈ zs, sok z = true) → IsL H (zs.map V.str) (zs.map PV.str)
  | [], _ => .nil
  | z :: r, h => .cons (.str z (h z (List.mem_cons_self ..))) (strs_is fun x hx => h x (List.mem_cons_of_mem _ hx))
/-- a list of data on both sides -/
theorem ne_lists {K : PySem.W.Frag} {H : Hp} {a b : Addr} {vs us : List V} {ts : List PV} {Q : VK} (e1 : SqL K H a vs) (e2 : SqL K H b us) (i1 : IsL H vs ts) (i2 : IsL H us ts) (d : depL ts ≤ 180) (q : Q (.bl false) H) : rNeP K (.ref a) (.ref b) H Q :=
  ⟨.list (toDL ts), .list (toDL ts), .lst e1 i1.dp, .lst e2 i2.dp, by simp only [PyData.canLay0]; exact i1.lay, by simp only [PyData.canLay0]; exact i2.lay, by have := deepDL ts; simp only [PyData.depth]; omega, by
    simp only [PyData.eqv, eqvDL]; exact q⟩
/-- equal lists of data -/
theorem eq_lists {K : PySem.W.Frag} {H : Hp} {a b : Addr} {vs us : List V} {ts : List PV} {Q : VK} (e1 : SqL K H a vs) (e2 : SqL K H b us) (i1 : IsL H vs ts) (i2 : IsL H us ts) (d : depL ts ≤ 180) (q : Q (.bl true) H) : rEqP K (.ref a) (.ref b) H Q :=
  ⟨.list (toDL ts), .list (toDL ts), .lst e1 i1.dp, .lst e2 i2.dp, by simp only [PyData.canLay0]; exact i1.lay, by simp only [PyData.canLay0]; exact i2.lay, by have := deepDL ts; simp only [PyData.depth]; omega, by
    simp only [PyData.eqv, eqvDL]; exact q⟩
end Kx
set_option maxHeartbeats 2000000
/-! Tuples without a dict of their own: displays, slices, sums, tuple(xs). -/
namespace Kx
open PySem PySem.Spec PyProof.Rows L2
/-- a tuple, with nothing beside its items -/
def TupF (H : Hp) (a : Addr) (vs : List V) : Prop := ∃ o : Obj, H a = some (.frz o (.tup vs)) ∧ o.dict = none
theorem TupF.sq {K : PySem.W.Frag} {H : Hp} {a : Addr} {vs : List V} (h : TupF H a vs) : SqT K H a vs := by
  obtain ⟨o, e, _⟩ := h
  exact .inl (.inr ⟨o, e⟩)
theorem TupF.same {H H' : Hp} {a : Addr} {vs : List V} (s : Same H H') (h : TupF H a vs) : TupF H' a vs := by
  obtain ⟨o, e, d⟩ := h
  exact ⟨o, s _ _ e, d⟩
theorem TupF.det {H : Hp} {a : Addr} {vs us : List V} (h : TupF H a vs) (g : TupF H a us) : vs = us := by
  obtain ⟨o, e, _⟩ := h
  obtain ⟨o2, e2, _⟩ := g
  rw [e] at e2
  cases e2
  rfl
theorem TupF.ne {H : Hp} {a : Addr} {vs : List V} {o : HO} (h : TupF H a vs) (e : H a = some o) (n : ∀ p u, o ≠ .frz p u) : False := by
  obtain ⟨o2, e2, _⟩ := h
  rw [e] at e2
  exact n _ _ (Option.some.inj e2)
theorem upd_fresh {H : Hp} {p : Addr} (h : H p = none) (o : HO) : Same H (upd H p o) := fun b u e => by rw [upd_ne (ne_of_none e h)]; exact e
section
variable {X : Cx}
def tTupG (t : TA) : TE := fun σ H Q => t σ H fun vs H1 => vs.length ≤ sizeLine ∧ ∀ l H', H1 l = none → Same H1 H' → TupF H' l vs → Q (.ref l) H'
theorem pe_tupG {es : List Expr} {t : TA} {pos : Pos} {x1 : Nat} (ha : PA X es t) : PE X (.Tuple es x1 pos) (tTupG t) := by
  refine ⟨fun pins s σ H Q I h => ?_⟩
  refine wpAny_Tuple (thn (ha.run pos pins s σ H _ I h) fun us s1 ⟨vs, H1, J, r, len, fin⟩ => ?_)
  have l2 : us.length = vs.length := (Paired.length r).symm
  have l3 : us.length ≤ sizeLine := by omega
  have fr := J.hok.fresh (Nat.le_refl _)
  exact ⟨l3, .ref _, _, J.laid (t' := s1.toks) (o := .frz { cls := .type "tuple", data := .seq us.toArray } (.tup vs)) (fun b ob q => Heap.get?_push_of_some _ q) (Nat.le_refl _) ⟨Heap.get?_push_size _ rfl, len, us, r, IsTup.new _ _⟩, rfl, fin _ _ fr (upd_fresh fr _) ⟨_, upd_same, rfl⟩⟩
def rTupleG (K : PySem.W.Frag) : List V → Hp → VK → Prop := fun xs H Q => ∃ p ys, xs = [.ref p] ∧ SqL K H p ys ∧ ∀ l H', H l = none → Same H H' → TupF H' l ys → Q (.ref l) H'
theorem call_tupleG : CallR X (.type "tuple") (rTupleG X.K) := by
  intro pins s σ H xs us Q I r hyp
  obtain ⟨p, ys, rfl, hq, fin⟩ := hyp
  obtain ⟨u, rfl, rx⟩ := vals1 r
  cases rx
  obtain ⟨its, r', pl, hz⟩ := I.list hq
  have w1 : its.length = ys.length := r'.length.symm
  refine call_tuple_list pl.isList (fun h' kp => ?_) (by rw [List.size_toArray, w1]; exact hz)
  have J : Inv X pins σ H { s with heap := h' } := I.kept (t' := s.toks) kp
  have J2 : Inv X pins σ (upd H h'.objs.size (.frz { cls := .type "tuple", data := .seq its.toArray } (.tup ys))) { s with heap := h'.push { cls := .type "tuple", data := .seq its.toArray } } :=
    J.laid (t' := s.toks) (fun b o e => Heap.get?_push_of_some _ e) (Nat.le_refl _) ⟨Heap.get?_push_size _ rfl, hz, its, r', IsTup.new _ _⟩
  have fr := J.hok.fresh (Nat.le_refl _)
  exact ⟨.ref h'.objs.size, _, J2, rfl, fin _ _ fr (upd_fresh fr _) ⟨_, upd_same, rfl⟩⟩
theorem tupleGK {K : PySem.W.Frag} (h : X.K = K := by rfl) : CallR X (.type "tuple") (rTupleG K) := by subst h; exact call_tupleG
def rSlG : V → Option Int → Option Int → Hp → VK → Prop := fun x lo hi H Q => ∃ a xs, x = .ref a ∧ TupF H a xs ∧ ∀ p H', Same H H' → TupF H' p (cutV xs lo hi) → Q (.ref p) H'
theorem cut_whole {xs : List V} {lo hi : Option Int} (w : HT.sIx xs.length 0 lo = 0 ∧ HT.sIx xs.length xs.length hi = xs.length) : cutV xs lo hi = xs := by
  unfold cutV
  rw [w.1, w.2, List.drop_zero, Nat.sub_zero, List.take_length]
theorem sl_tupG : SlR X rSlG := by
  intro pins s σ H x v vl vu lo hi sl Q I rx hs pl pu h
  obtain ⟨a, xs, rfl, e, q⟩ := h
  cases (show v = Value.ref a from rx)
  obtain ⟨its, r, ht, hz⟩ := I.tuple (TupF.sq e)
  have ln : its.toArray.size = xs.length := by rw [List.size_toArray]; exact r.length.symm
  by_cases w : HT.sIx xs.length 0 lo = 0 ∧ HT.sIx xs.length xs.length hi = xs.length
  · refine ⟨"tuple", _, PyProof.Rows.slot_tuple_getitem.lookup, ht.typeIs, getItem_tuple_whole ht hs pl pu (by rw [ln]; exact w) ⟨.ref a, H, I, rfl, q a H (.refl _) (by rw [cut_whole w]; exact e)⟩⟩
  · refine ⟨"tuple", _, PyProof.Rows.slot_tuple_getitem.lookup, ht.typeIs, HT.getItem_tuple_cut ht hs pl pu (by rw [ln]; exact w) ?_ (by rw [ln]; exact hz)⟩
    rw [ln]
    have fr := I.hok.fresh (Nat.le_refl _)
    refine ⟨.ref s.heap.objs.size, _, I.laid (t' := s.toks) (o := .frz { cls := .type "tuple", data := .seq ((its.drop (HT.sIx xs.length 0 lo)).take (HT.sIx xs.length xs.length hi - HT.sIx xs.length 0 lo)).toArray } (.tup (cutV xs lo hi))) (fun b ob q => Heap.get?_push_of_some _ q) (Nat.le_refl _) ?_, rfl, q _ _ (upd_fresh fr _) ⟨_, upd_same, rfl⟩⟩
    exact ⟨Heap.get?_push_size _ rfl, Nat.le_trans (cutV_length xs lo hi) hz, _, (r.drop (HT.sIx xs.length 0 lo)).take (HT.sIx xs.length xs.length hi - HT.sIx xs.length 0 lo), IsTup.new _ _⟩
def rCatG : R2 := fun x y H Q => ∃ a b xs ys, x = .ref a ∧ y = .ref b ∧ TupF H a xs ∧ TupF H b ys ∧ xs.length + ys.length ≤ sizeLine ∧ ∀ p H', Same H H' → TupF H' p (xs ++ ys) → Q (.ref p) H'
theorem op_catG : OpR X (binaryOp .Add) rCatG := by
  intro pins s σ H x y v u Q I rx ry h
  obtain ⟨a, b, xs, ys, rfl, rfl, ha, hb, hz, q⟩ := h
  cases (show v = Value.ref a from rx)
  cases (show u = Value.ref b from ry)
  obtain ⟨its, r1, p1, _⟩ := I.tuple (TupF.sq ha)
  obtain ⟨its2, r2, p2, _⟩ := I.tuple (TupF.sq hb)
  have n1 := r1.length
  have n2 := r2.length
  by_cases hx : xs = []
  · subst hx
    have hv : its = [] := by cases its with | nil => rfl | cons _ _ => simp at n1
    subst hv
    obtain ⟨⟨cls, dd, data, sl⟩, ho, hc, n, hd⟩ := id p1
    obtain ⟨⟨cls2, dd2, data2, sl2⟩, ho2, hc2, m, hd2⟩ := id p2
    simp only at hc hd hc2 hd2
    subst hc hd hc2 hd2
    exact concat_meets ⟨_, ho, rfl⟩ ⟨_, ho2, rfl⟩ noFill_tuple_add seq_tuple_add F.slot_tuple_add F.entry_tuple_add (F.args_tuple_add_2 _ _) (tuple_addW0 a b _ _ n m dd dd2 sl sl2 rfl) ⟨ho, ho2, .ref b, H, I, rfl, q b H (.refl _) hb⟩
  · refine HT.cat_tup p1 p2 (fun z => hx ((Vals.nil_iff r1).mp z)) (fun z => ?_) (fun z => ?_) (by omega)
    · have : ys = [] := (Vals.nil_iff r2).mp z
      exact ⟨.ref a, H, I, rfl, q a H (.refl _) (by rw [this, List.append_nil]; exact ha)⟩
    · have fr := I.hok.fresh (Nat.le_refl _)
      exact ⟨.ref s.heap.objs.size, _, I.laid (t' := s.toks) (o := .frz { cls := .type "tuple", data := .seq (its ++ its2).toArray } (.tup (xs ++ ys))) (fun b ob q => Heap.get?_push_of_some _ q) (Nat.le_refl _) ⟨Heap.get?_push_size _ rfl, by rw [List.length_append]; exact hz, _, r1.append r2, IsTup.new _ _⟩, rfl, q _ _ (upd_fresh fr _) ⟨_, upd_same, rfl⟩⟩
end
end Kx
namespace Kx
open PySem PySem.Spec PyProof.Rows L2
section
variable {P : Program} {w : World} {K : PySem.W.Frag} {mg : Str → Option Value} {base : Heap}
set_option maxHeartbeats 4000000
set_option pp.maxSteps 600
/-! ### data that is written down -/
def MkE (σ : L2.St) (H0 : Hp) (te : TE) (t : PV) : Prop := ∀ (H : Hp) (Q : VK), Same H0 H → (∀ v H', Same H H' → Is H' v t → Q v H') → te σ H Q
def MkA (σ : L2.St) (H0 : Hp) (ta : TA) (ts : List PV) : Prop := ∀ (H : Hp) (Q : List V → Hp → Prop), Same H0 H → (∀ vs H', Same H H' → IsL H' vs ts → Q vs H') → ta σ H Q
theorem mk_var {σ : L2.St} {H0 : Hp} {i : Nat} {v : V} {t : PV} (e : σ[i]? = some (some v)) (h : Is H0 v t) : MkE σ H0 (tVar i) t := fun H Q s q => ⟨v, e, q v H (.refl _) (h.same s)⟩
theorem mk_str {σ : L2.St} {H0 : Hp} {z : Str} (h : sok z = true) : MkE σ H0 (tC (.str z)) (.str z) := fun H Q s q => q _ H (.refl _) (.str z h)
theorem mk_nil {σ : L2.St} {H0 : Hp} : MkA σ H0 tNil [] := fun H Q s q => q [] H (.refl _) .nil
theorem mk_cons {σ : L2.St} {H0 : Hp} {te : TE} {ta : TA} {t : PV} {ts : List PV} (a : MkE σ H0 te t) (b : MkA σ H0 ta ts) : MkA σ H0 (tCons te ta) (t :: ts) := fun H Q s q =>
  a H _ s fun v H1 s1 i1 => b H1 _ (s.trans s1) fun vs H2 s2 i2 => q _ H2 (s1.trans s2) (.cons (i1.same s2) i2)
theorem mk_tup {σ : L2.St} {H0 : Hp} {ta : TA} {ts : List PV} (a : MkA σ H0 ta ts) (hl : ts.length ≤ 1000) : MkE σ H0 (tTup ta) (.tup ts) := fun H Q s q =>
  a H _ s fun vs H1 s1 i1 => ⟨Nat.le_of_lt (small1000 (by rw [i1.len]; exact hl)), fun p hp => q _ _ (s1.trans (same_upd hp _)) (.tup upd_same (i1.same (same_upd hp _)))⟩
theorem mk_go {σ : L2.St} {H : Hp} {te : TE} {t : PV} {Q : VK} (m : MkE σ H te t) (q : ∀ v H', Same H H' → Is H' v t → Q v H') : te σ H Q := m H Q (.refl _) q
theorem go_asg {σ : L2.St} {H : Hp} {te : TE} {t : PV} {g : TG} {rest : TS} {D : Ends} (m : MkE σ H te t) (q : ∀ v H1, Same H H1 → Is H1 v t → g v σ H1 fun σ2 H2 => rest D σ2 H2) : tSeq (tAsg te g) rest D σ H := m H _ (.refl _) q
theorem go_kind {σ : L2.St} {H : Hp} {te : TE} {rest : TS} {D : Ends} {k j : Int} (e : σ[0]? = some (some (.int k))) (y : k = j → te σ H D.rt) (n : k ≠ j → rest D σ H) : tSeq (tIfS (tTest (tOp rEq (tVar 0) (tC (.int j)))) (tRet te) tNext) rest D σ H := by
  refine ⟨_, e, rfl, _, rfl, ?_⟩
  rw [dec_int]
  by_cases h : k = j
  · have : (k == j) = true := by simpa using h
    rw [this]; exact iteT (y h)
  · have : (k == j) = false := by simpa using h
    rw [this]; exact iteF (n h)
theorem go_kindB {σ : L2.St} {H : Hp} {body rest : TS} {D : Ends} {k j : Int} (e : σ[0]? = some (some (.int k))) (y : k = j → body { D with nx := rest D } σ H) (n : k ≠ j → rest D σ H) : tSeq (tIfS (tTest (tOp rEq (tVar 0) (tC (.int j)))) body tNext) rest D σ H := by
  refine ⟨_, e, rfl, _, rfl, ?_⟩
  rw [dec_int]
  by_cases h : k = j
  · have : (k == j) = true := by simpa using h
    rw [this]; exact iteT (y h)
  · have : (k == j) = false := by simpa using h
    rw [this]; exact iteF (n h)
theorem mk_list {σ : L2.St} {H0 H : Hp} {ta : TA} {ts : List PV} {Q : VK} (a : MkA σ H0 ta ts) (s : Same H0 H) (hl : ts.length ≤ 1000) (q : ∀ l vs H', H l = none → Same H H' → H' l = some (.lst vs) → IsL H' vs ts → Q (.ref l) H') : tLst ta σ H Q :=
  a H _ s fun vs H1 s1 i1 => ⟨Nat.le_of_lt (small1000 (by rw [i1.len]; exact hl)), fun p hp => q p vs _ (s1.free hp) (s1.trans (same_upd hp _)) upd_same (i1.same (same_upd hp _))⟩
/-! ### the table -/
structure Row where
  ps : List (Str × PV)
  ix : PV
def prPV (p : Str × PV) : PV := .tup [.str p.1, p.2]
def rowPV (r : Row) : PV := .tup [.tup (r.ps.map prPV), r.ix]
/-- the four makers, and how many parts each has -/
def MK : List (Str × Int) := [("z", 0), ("s", 1), ("p", 2), ("o", 0)]
def mkQ (m : Str × Int) : PV := .tup [.str m.1, .int m.2]
structure RowG (F : List Str) (r : Row) : Prop where
  ps : ∀ p ∈ r.ps, p.1 ∈ F ∧ dep p.2 ≤ 3
  len : r.ps.length ≤ 3
  ix : dep r.ix ≤ 3
def tz : PV := .tup [.str "z"]
def ts_ : PV := .tup [.str "s", .str "n"]
def tp_ : PV := .tup [.str "p", .str "n", .str "m"]
def nn : PV := .str "n"
/-- the rows of each kind -/
def shape (k : Int) (own other third : Str) : List Row :=
  if k = 0 then [⟨[], tz⟩, ⟨[(own, nn)], ts_⟩] else
  if k = 1 then [⟨[], tz⟩] else
  if k = 2 then [⟨[(other, nn)], ts_⟩] else
  if k = 3 then [⟨[(other, nn)], ts_⟩, ⟨[(own, nn)], ts_⟩] else
  if k = 4 then [⟨[], tz⟩, ⟨[(other, tz), (own, nn)], ts_⟩] else
  if k = 5 then [⟨[], tz⟩, ⟨[(other, nn)], ts_⟩] else
  if k = 6 then [⟨[(other, ts_)], nn⟩] else
  if k = 7 then [⟨[(other, nn), (third, nn)], ts_⟩] else
  if k = 8 then [⟨[(other, nn), (third, nn)], tz⟩] else
  if k = 9 then [⟨[(own, nn)], ts_⟩] else
  if k = 10 then [⟨[], tz⟩, ⟨[(other, nn)], ts_⟩, ⟨[(third, nn)], ts_⟩] else
  if k = 11 then [⟨[], tz⟩, ⟨[(own, nn), (other, .str "m")], tp_⟩, ⟨[(own, tp_)], nn⟩] else
  if k = 12 then [⟨[], tz⟩, ⟨[(own, nn)], ts_⟩, ⟨[(own, ts_)], nn⟩] else
  if k = 13 then [⟨[], .tup [.str "o"]⟩, ⟨[(other, nn)], ts_⟩] else
  if k = 15 then [⟨[], tz⟩, ⟨[(own, nn), (other, .str "m"), (third, .str "m")], ts_⟩] else
  [⟨[], tz⟩, ⟨[(own, nn), (other, .str "m")], ts_⟩]
def ShG (F : List Str) (l : List Row) : Prop := (∀ r ∈ l, RowG F r) ∧ 1 ≤ l.length ∧ l.length ≤ 3
theorem shape_ok {F : List Str} {k : Int} {own other third : Str} (h1 : own ∈ F) (h2 : other ∈ F) (h3 : third ∈ F) : ShG F (shape k own other third) := by
  have base : ∀ r : Row, (∀ p ∈ r.ps, p.1 = own ∨ p.1 = other ∨ p.1 = third) → (∀ p ∈ r.ps, p.2 = tz ∨ p.2 = nn ∨ p.2 = ts_ ∨ p.2 = tp_ ∨ p.2 = .str "m") → r.ps.length ≤ 3 → dep r.ix ≤ 3 → RowG F r := by
    intro r a b c d
    refine ⟨fun p hp => ⟨?_, ?_⟩, c, d⟩
    · rcases a p hp with q | q | q <;> rw [q] <;> assumption
    · rcases b p hp with q | q | q | q | q <;> rw [q] <;> simp [tz, nn, ts_, tp_, dep, depL]
  have all : ∀ l : List Row, 1 ≤ l.length → l.length ≤ 3 → (∀ r ∈ l, RowG F r) → ShG F l := fun l c a b => ⟨b, c, a⟩
  have one : ∀ r : Row, RowG F r → ∀ x ∈ [r], RowG F x := fun r h x hx => by rw [List.mem_singleton.mp hx]; exact h
  have more : ∀ (r : Row) (l : List Row), RowG F r → (∀ x ∈ l, RowG F x) → ∀ x ∈ r :: l, RowG F x := fun r l h g x hx => by
    rcases List.mem_cons.mp hx with q | q
    · rw [q]; exact h
    · exact g x q
  have key : ∀ (c : Prop) [Decidable c] (a b : List Row), ShG F a → ShG F b → ShG F (if c then a else b) := fun c _ a b x y => by split <;> assumption
  unfold shape
  repeat' refine key _ _ _ ?_ ?_
  all_goals refine all _ ?_ ?_ ?_
  all_goals try exact Nat.le_of_ble_eq_true rfl
  all_goals repeat' (first | refine one _ ?_ | refine more _ _ ?_ ?_)
  all_goals refine base _ ?_ ?_ ?_ ?_
  all_goals first
    | (show dep _ ≤ 3; decide)
    | (simp; done)
    | (simp [tz, nn, ts_, tp_, dep, depL]; done)
def spShape : Sp := fun vs H Q _ => ∃ (k : Int) (own other third : Str), vs = [.int k, .str own, .str other, .str third] ∧ sok own = true ∧ sok other = true ∧ sok third = true ∧
  ∀ l us H', H l = none → Same H H' → H' l = some (.lst us) → IsL H' us ((shape k own other third).map rowPV) → Q (.ref l) H'
theorem scal_int (a b : Int) : scal (.int a) (.int b) = true := rfl
theorem ok_law_shape (T : Txt K mg)  : FnOk P w K mg base CX0 1 T.a_law_shape T.d_law_shape ["kind", "own", "other", "third"] spShape := by
  refine T.F_law_shape.ok sc_law_shape (fun vs H Q E h => ?_) (fun cdv A outer s H vs Q E hr h => ?_)
  · obtain ⟨k, own, other, third, rfl, _⟩ := h; rfl
  · obtain ⟨k, own, other, third, rfl, o1, o2, o3, q⟩ := h
    refine ⟨_, (pss_cons (ps_asg (pe_tup (pa_cons (pe_tup (pa_cons pe_str pa_nil)) (pa_cons (pe_tup (pa_cons pe_str (pa_cons pe_str pa_nil))) pa_nil))) (pg_tup rfl (pgs_cons (pg_name (i := 4) sc_law_shape.nd rfl (Or.inl rfl)) (pgs_cons (pg_name (i := 5) sc_law_shape.nd rfl (Or.inl rfl)) pgs_nil))))
    (pss_cons (ps_set (i := 6) sc_law_shape.nd rfl (Or.inl rfl) (pe_tup (pa_cons (pe_tup (pa_cons (pv 2) (pa_cons pe_str pa_nil))) pa_nil)))
    (pss_cons (ps_if (pt_cmpR op_eq (pv 0) pe_int (nomark _)) (pss_one (ps_ret (pe_lst (pa_cons (pe_tup (pa_cons (pe_tup pa_nil) (pa_cons (pv 4) pa_nil))) (pa_cons (pe_tup (pa_cons (pe_tup (pa_cons (pe_tup (pa_cons (pv 1) (pa_cons pe_str pa_nil))) pa_nil)) (pa_cons (pv 5) pa_nil))) pa_nil))))) pss_nil)
    (pss_cons (ps_if (pt_cmpR op_eq (pv 0) pe_int (nomark _)) (pss_one (ps_ret (pe_lst (pa_cons (pe_tup (pa_cons (pe_tup pa_nil) (pa_cons (pv 4) pa_nil))) pa_nil)))) pss_nil)
    (pss_cons (ps_if (pt_cmpR op_eq (pv 0) pe_int (nomark _)) (pss_one (ps_ret (pe_lst (pa_cons (pe_tup (pa_cons (pv 6) (pa_cons (pv 5) pa_nil))) pa_nil)))) pss_nil)
    (pss_cons (ps_if (pt_cmpR op_eq (pv 0) pe_int (nomark _)) (pss_one (ps_ret (pe_lst (pa_cons (pe_tup (pa_cons (pv 6) (pa_cons (pv 5) pa_nil))) (pa_cons (pe_tup (pa_cons (pe_tup (pa_cons (pe_tup (pa_cons (pv 1) (pa_cons pe_str pa_nil))) pa_nil)) (pa_cons (pv 5) pa_nil))) pa_nil))))) pss_nil)
    (pss_cons (ps_if (pt_cmpR op_eq (pv 0) pe_int (nomark _)) (pss_one (ps_ret (pe_lst (pa_cons (pe_tup (pa_cons (pe_tup pa_nil) (pa_cons (pv 4) pa_nil))) (pa_cons (pe_tup (pa_cons (pe_tup (pa_cons (pe_tup (pa_cons (pv 2) (pa_cons (pv 4) pa_nil))) (pa_cons (pe_tup (pa_cons (pv 1) (pa_cons pe_str pa_nil))) pa_nil))) (pa_cons (pv 5) pa_nil))) pa_nil))))) pss_nil)
    (pss_cons (ps_if (pt_cmpR op_eq (pv 0) pe_int (nomark _)) (pss_one (ps_ret (pe_lst (pa_cons (pe_tup (pa_cons (pe_tup pa_nil) (pa_cons (pv 4) pa_nil))) (pa_cons (pe_tup (pa_cons (pv 6) (pa_cons (pv 5) pa_nil))) pa_nil))))) pss_nil)
    (pss_cons (ps_if (pt_cmpR op_eq (pv 0) pe_int (nomark _)) (pss_one (ps_ret (pe_lst (pa_cons (pe_tup (pa_cons (pe_tup (pa_cons (pe_tup (pa_cons (pv 2) (pa_cons (pv 5) pa_nil))) pa_nil)) (pa_cons pe_str pa_nil))) pa_nil)))) pss_nil)
    (pss_cons (ps_if (pt_cmpR op_eq (pv 0) pe_int (nomark _)) (pss_one (ps_ret (pe_lst (pa_cons (pe_tup (pa_cons (pe_tup (pa_cons (pe_tup (pa_cons (pv 2) (pa_cons pe_str pa_nil))) (pa_cons (pe_tup (pa_cons (pv 3) (pa_cons pe_str pa_nil))) pa_nil))) (pa_cons (pv 5) pa_nil))) pa_nil)))) pss_nil)
    (pss_cons (ps_if (pt_cmpR op_eq (pv 0) pe_int (nomark _)) (pss_one (ps_ret (pe_lst (pa_cons (pe_tup (pa_cons (pe_tup (pa_cons (pe_tup (pa_cons (pv 2) (pa_cons pe_str pa_nil))) (pa_cons (pe_tup (pa_cons (pv 3) (pa_cons pe_str pa_nil))) pa_nil))) (pa_cons (pv 4) pa_nil))) pa_nil)))) pss_nil)
    (pss_cons (ps_if (pt_cmpR op_eq (pv 0) pe_int (nomark _)) (pss_one (ps_ret (pe_lst (pa_cons (pe_tup (pa_cons (pe_tup (pa_cons (pe_tup (pa_cons (pv 1) (pa_cons pe_str pa_nil))) pa_nil)) (pa_cons (pv 5) pa_nil))) pa_nil)))) pss_nil)
    (pss_cons (ps_if (pt_cmpR op_eq (pv 0) pe_int (nomark _)) (pss_one (ps_ret (pe_lst (pa_cons (pe_tup (pa_cons (pe_tup pa_nil) (pa_cons (pv 4) pa_nil))) (pa_cons (pe_tup (pa_cons (pv 6) (pa_cons (pv 5) pa_nil))) (pa_cons (pe_tup (pa_cons (pe_tup (pa_cons (pe_tup (pa_cons (pv 3) (pa_cons pe_str pa_nil))) pa_nil)) (pa_cons (pv 5) pa_nil))) pa_nil)))))) pss_nil)
    (pss_cons (ps_if (pt_cmpR op_eq (pv 0) pe_int (nomark _)) (pss_cons (ps_set (i := 7) sc_law_shape.nd rfl (Or.inl rfl) (pe_tup (pa_cons pe_str (pa_cons pe_str (pa_cons pe_str pa_nil)))))
    (pss_one (ps_ret (pe_lst (pa_cons (pe_tup (pa_cons (pe_tup pa_nil) (pa_cons (pv 4) pa_nil))) (pa_cons (pe_tup (pa_cons (pe_tup (pa_cons (pe_tup (pa_cons (pv 1) (pa_cons pe_str pa_nil))) (pa_cons (pe_tup (pa_cons (pv 2) (pa_cons pe_str pa_nil))) pa_nil))) (pa_cons (pv 7) pa_nil))) (pa_cons (pe_tup (pa_cons (pe_tup (pa_cons (pe_tup (pa_cons (pv 1) (pa_cons (pv 7) pa_nil))) pa_nil)) (pa_cons pe_str pa_nil))) pa_nil))))))) pss_nil)
    (pss_cons (ps_if (pt_cmpR op_eq (pv 0) pe_int (nomark _)) (pss_one (ps_ret (pe_lst (pa_cons (pe_tup (pa_cons (pe_tup pa_nil) (pa_cons (pv 4) pa_nil))) (pa_cons (pe_tup (pa_cons (pe_tup (pa_cons (pe_tup (pa_cons (pv 1) (pa_cons pe_str pa_nil))) pa_nil)) (pa_cons (pv 5) pa_nil))) (pa_cons (pe_tup (pa_cons (pe_tup (pa_cons (pe_tup (pa_cons (pv 1) (pa_cons (pv 5) pa_nil))) pa_nil)) (pa_cons pe_str pa_nil))) pa_nil)))))) pss_nil)
    (pss_cons (ps_if (pt_cmpR op_eq (pv 0) pe_int (nomark _)) (pss_one (ps_ret (pe_lst (pa_cons (pe_tup (pa_cons (pe_tup pa_nil) (pa_cons (pe_tup (pa_cons pe_str pa_nil)) pa_nil))) (pa_cons (pe_tup (pa_cons (pv 6) (pa_cons (pv 5) pa_nil))) pa_nil))))) pss_nil)
    (pss_cons (ps_if (pt_cmpR op_eq (pv 0) pe_int (nomark _)) (pss_one (ps_ret (pe_lst (pa_cons (pe_tup (pa_cons (pe_tup pa_nil) (pa_cons (pv 4) pa_nil))) (pa_cons (pe_tup (pa_cons (pe_tup (pa_cons (pe_tup (pa_cons (pv 1) (pa_cons pe_str pa_nil))) (pa_cons (pe_tup (pa_cons (pv 2) (pa_cons pe_str pa_nil))) (pa_cons (pe_tup (pa_cons (pv 3) (pa_cons pe_str pa_nil))) pa_nil)))) (pa_cons (pv 5) pa_nil))) pa_nil))))) pss_nil)
    (pss_one (ps_ret (pe_lst (pa_cons (pe_tup (pa_cons (pe_tup pa_nil) (pa_cons (pv 4) pa_nil))) (pa_cons (pe_tup (pa_cons (pe_tup (pa_cons (pe_tup (pa_cons (pv 1) (pa_cons pe_str pa_nil))) (pa_cons (pe_tup (pa_cons (pv 2) (pa_cons pe_str pa_nil))) pa_nil))) (pa_cons (pv 5) pa_nil))) pa_nil)))))))))))))))))))))), ?_⟩
    have v1 : Is H (.str own) (.str own) := .str _ o1
    have v2 : Is H (.str other) (.str other) := .str _ o2
    have v3 : Is H (.str third) (.str third) := .str _ o3
    refine go_asg (t := .tup [tz, ts_]) ?_ fun v H1 s1 i1 => ?_
    · (repeat (first | exact mk_nil | refine mk_cons ?_ ?_ | refine mk_tup ?_ (by simp) | exact mk_str (by decide +kernel) | (refine mk_var rfl ?_; assumption)))
    obtain ⟨a, vs, rfl, ea, hL⟩ := i1.tup_inv
    cases hL with
    | @cons vz _ _ _ iz hL =>
    cases hL with
    | @cons vn _ _ _ inn hL =>
    cases hL
    refine ⟨a, _, rfl, .inl (.inl ea), rfl, vz, _, rfl, vn, _, rfl, rfl, ?_⟩
    have v1 := v1.same s1
    have v2 := v2.same s1
    have v3 := v3.same s1
    refine go_asg (t := .tup [prPV (other, nn)]) ?_ fun vg H2 s2 ig => ?_
    · (repeat (first | exact mk_nil | refine mk_cons ?_ ?_ | refine mk_tup ?_ (by simp) | exact mk_str (by decide +kernel) | (refine mk_var rfl ?_; assumption)))
    have v1 := v1.same s2
    have v2 := v2.same s2
    have v3 := v3.same s2
    have iz := iz.same s2
    have inn := inn.same s2
    have s12 := s1.trans s2
    have fin : ∀ {ta : TA} {rows : List Row} {σ : L2.St}, shape k own other third = rows → rows.length ≤ 3 → MkA σ H2 ta (rows.map rowPV) → tLst ta σ H2 Q := fun {ta rows σ} e hl m =>
      mk_list m (.refl _) (by rw [List.length_map]; omega) fun l us H' l0 s' el il => q l us H' (s12.free l0) (s12.trans s') el (by rw [e]; exact il)
    have nm := fun (j : Int) (l r : List Row) (h : k = j) => (if_pos h : (if k = j then l else r) = l)
    refine go_kind rfl (fun h0 => fin (rows := [⟨[], tz⟩, ⟨[(own, nn)], ts_⟩]) (by subst h0; rfl) (Nat.le_of_ble_eq_true rfl) ?_) fun h0 => ?_
    · (repeat (first | exact mk_nil | refine mk_cons ?_ ?_ | refine mk_tup ?_ (by simp) | exact mk_str (by decide +kernel) | (refine mk_var rfl ?_; assumption)))
    refine go_kind rfl (fun h1 => fin (rows := [⟨[], tz⟩]) (by subst h1; rfl) (Nat.le_of_ble_eq_true rfl) ?_) fun h1 => ?_
    · (repeat (first | exact mk_nil | refine mk_cons ?_ ?_ | refine mk_tup ?_ (by simp) | exact mk_str (by decide +kernel) | (refine mk_var rfl ?_; assumption)))
    refine go_kind rfl (fun h2 => fin (rows := [⟨[(other, nn)], ts_⟩]) (by subst h2; rfl) (Nat.le_of_ble_eq_true rfl) ?_) fun h2 => ?_
    · (repeat (first | exact mk_nil | refine mk_cons ?_ ?_ | refine mk_tup ?_ (by simp) | exact mk_str (by decide +kernel) | (refine mk_var rfl ?_; assumption)))
    refine go_kind rfl (fun h3 => fin (rows := [⟨[(other, nn)], ts_⟩, ⟨[(own, nn)], ts_⟩]) (by subst h3; rfl) (Nat.le_of_ble_eq_true rfl) ?_) fun h3 => ?_
    · (repeat (first | exact mk_nil | refine mk_cons ?_ ?_ | refine mk_tup ?_ (by simp) | exact mk_str (by decide +kernel) | (refine mk_var rfl ?_; assumption)))
    refine go_kind rfl (fun h4 => fin (rows := [⟨[], tz⟩, ⟨[(other, tz), (own, nn)], ts_⟩]) (by subst h4; rfl) (Nat.le_of_ble_eq_true rfl) ?_) fun h4 => ?_
    · (repeat (first | exact mk_nil | refine mk_cons ?_ ?_ | refine mk_tup ?_ (by simp) | exact mk_str (by decide +kernel) | (refine mk_var rfl ?_; assumption)))
    refine go_kind rfl (fun h5 => fin (rows := [⟨[], tz⟩, ⟨[(other, nn)], ts_⟩]) (by subst h5; rfl) (Nat.le_of_ble_eq_true rfl) ?_) fun h5 => ?_
    · (repeat (first | exact mk_nil | refine mk_cons ?_ ?_ | refine mk_tup ?_ (by simp) | exact mk_str (by decide +kernel) | (refine mk_var rfl ?_; assumption)))
    refine go_kind rfl (fun h6 => fin (rows := [⟨[(other, ts_)], nn⟩]) (by subst h6; rfl) (Nat.le_of_ble_eq_true rfl) ?_) fun h6 => ?_
    · (repeat (first | exact mk_nil | refine mk_cons ?_ ?_ | refine mk_tup ?_ (by simp) | exact mk_str (by decide +kernel) | (refine mk_var rfl ?_; assumption)))
    refine go_kind rfl (fun h7 => fin (rows := [⟨[(other, nn), (third, nn)], ts_⟩]) (by subst h7; rfl) (Nat.le_of_ble_eq_true rfl) ?_) fun h7 => ?_
    · (repeat (first | exact mk_nil | refine mk_cons ?_ ?_ | refine mk_tup ?_ (by simp) | exact mk_str (by decide +kernel) | (refine mk_var rfl ?_; assumption)))
    refine go_kind rfl (fun h8 => fin (rows := [⟨[(other, nn), (third, nn)], tz⟩]) (by subst h8; rfl) (Nat.le_of_ble_eq_true rfl) ?_) fun h8 => ?_
    · (repeat (first | exact mk_nil | refine mk_cons ?_ ?_ | refine mk_tup ?_ (by simp) | exact mk_str (by decide +kernel) | (refine mk_var rfl ?_; assumption)))
    refine go_kind rfl (fun h9 => fin (rows := [⟨[(own, nn)], ts_⟩]) (by subst h9; rfl) (Nat.le_of_ble_eq_true rfl) ?_) fun h9 => ?_
    · (repeat (first | exact mk_nil | refine mk_cons ?_ ?_ | refine mk_tup ?_ (by simp) | exact mk_str (by decide +kernel) | (refine mk_var rfl ?_; assumption)))
    refine go_kind rfl (fun h10 => fin (rows := [⟨[], tz⟩, ⟨[(other, nn)], ts_⟩, ⟨[(third, nn)], ts_⟩]) (by subst h10; rfl) (Nat.le_of_ble_eq_true rfl) ?_) fun h10 => ?_
    · (repeat (first | exact mk_nil | refine mk_cons ?_ ?_ | refine mk_tup ?_ (by simp) | exact mk_str (by decide +kernel) | (refine mk_var rfl ?_; assumption)))
    refine go_kindB rfl (fun h11 => ?_) fun h11 => ?_
    · refine go_asg (t := tp_) ?_ fun vp H3 s3 ip => ?_
      · (repeat (first | exact mk_nil | refine mk_cons ?_ ?_ | refine mk_tup ?_ (by simp) | exact mk_str (by decide +kernel) | (refine mk_var rfl ?_; assumption)))
      have v1 := v1.same s3
      have v2 := v2.same s3
      have iz := iz.same s3
      have inn := inn.same s3
      refine mk_list (ts := [⟨[], tz⟩, ⟨[(own, nn), (other, .str "m")], tp_⟩, ⟨[(own, tp_)], nn⟩].map rowPV) ?_ (.refl _) (by rw [List.length_map]; exact Nat.le_of_ble_eq_true rfl) fun l us H' l0 s' el il => q l us H' ((s12.trans s3).free l0) ((s12.trans s3).trans s') el (by rw [show shape k own other third = _ from by subst h11; rfl]; exact il)
      (repeat (first | exact mk_nil | refine mk_cons ?_ ?_ | refine mk_tup ?_ (by simp) | exact mk_str (by decide +kernel) | (refine mk_var rfl ?_; assumption)))
    refine go_kind rfl (fun h12 => fin (rows := [⟨[], tz⟩, ⟨[(own, nn)], ts_⟩, ⟨[(own, ts_)], nn⟩]) (by subst h12; rfl) (Nat.le_of_ble_eq_true rfl) ?_) fun h12 => ?_
    · (repeat (first | exact mk_nil | refine mk_cons ?_ ?_ | refine mk_tup ?_ (by simp) | exact mk_str (by decide +kernel) | (refine mk_var rfl ?_; assumption)))
    refine go_kind rfl (fun h13 => fin (rows := [⟨[], .tup [.str "o"]⟩, ⟨[(other, nn)], ts_⟩]) (by subst h13; rfl) (Nat.le_of_ble_eq_true rfl) ?_) fun h13 => ?_
    · (repeat (first | exact mk_nil | refine mk_cons ?_ ?_ | refine mk_tup ?_ (by simp) | exact mk_str (by decide +kernel) | (refine mk_var rfl ?_; assumption)))
    refine go_kind rfl (fun h15 => fin (rows := [⟨[], tz⟩, ⟨[(own, nn), (other, .str "m"), (third, .str "m")], ts_⟩]) (by subst h15; rfl) (Nat.le_of_ble_eq_true rfl) ?_) fun h15 => ?_
    · (repeat (first | exact mk_nil | refine mk_cons ?_ ?_ | refine mk_tup ?_ (by simp) | exact mk_str (by decide +kernel) | (refine mk_var rfl ?_; assumption)))
    refine fin (rows := [⟨[], tz⟩, ⟨[(own, nn), (other, .str "m")], ts_⟩]) ?_ (Nat.le_of_ble_eq_true rfl) ?_
    · unfold shape
      simp only [h0, h1, h2, h3, h4, h5, h6, h7, h8, h9, h10, h11, h12, h13, h15, if_false]
    · (repeat (first | exact mk_nil | refine mk_cons ?_ ?_ | refine mk_tup ?_ (by simp) | exact mk_str (by decide +kernel) | (refine mk_var rfl ?_; assumption)))
end
end Kx
namespace Kx
open PySem PySem.Spec PyProof.Rows L2
section
variable {P : Program} {w : World} {K : PySem.W.Frag} {mg : Str → Option Value} {base : Heap}
set_option maxHeartbeats 4000000
set_option pp.maxSteps 600
theorem cut_to (xs : List V) {k : Nat} (h : k ≤ xs.length) : cutV xs none (some (k : Int)) = xs.take k := by
  unfold cutV
  rw [HT.sIx_nat, HT.sIx_none, Nat.min_eq_left h]
  rfl
structure Con where
  w : Str
  ps : List (Str × PV)
  fam : Str
  ix : PV
def conPV (c : Con) : PV := .tup [.str c.w, .tup (c.ps.map prPV), .str c.fam, c.ix]
def tabPV (mk : List PV) (F : List Str) (cs : List Con) : PV := .tup [.str "table", .tup mk, .tup (F.map PV.str), .tup (cs.map conPV)]
def kw (i : Nat) : Str := ("K" : Str) ++ (toString ((i : Nat) : Int))
def fams : List Str := ["Fa", "Fb", "Fc", "Fd"]
structure ConsG (F : List Str) (cs : List Con) : Prop where
  word : ∀ i c, cs[i]? = some c → c.w = kw i
  row : ∀ c ∈ cs, RowG F ⟨c.ps, c.ix⟩ ∧ c.fam ∈ F
structure TabG (F : List Str) (cs : List Con) : Prop where
  cons : ConsG F cs
  len : 1 ≤ cs.length ∧ cs.length ≤ 12
  fl : 2 ≤ F.length ∧ F.length ≤ 4
  ok : ∀ z ∈ F, z ∈ fams
theorem kw_ok : ∀ i, i < 12 → sok (kw i) = true := by decide +kernel
theorem kw_inj : ∀ i, i < 12 → ∀ j, j < 12 → kw i = kw j → i = j := by decide +kernel
theorem fams_ok : ∀ z ∈ fams, sok z = true := by decide +kernel
theorem Is.wr {H : Hp} {l : Addr} {xs ys : List V} (e : H l = some (.lst xs)) {v : V} {t : PV} (i : Is H v t) : Is (upd H l (.lst ys)) v t := i.tk (wr_tk e)
theorem IsL.wr {H : Hp} {l : Addr} {xs ys : List V} (e : H l = some (.lst xs)) {v : List V} {t : List PV} (i : IsL H v t) : IsL (upd H l (.lst ys)) v t := i.tk (wr_tk e)
theorem mk_int {σ : L2.St} {H0 : Hp} (i : Int) : MkE σ H0 (tC (.int i)) (.int i) := fun H Q s q => q _ H (.refl _) (.int i)
theorem go_slG {σ : L2.St} {H : Hp} {ta : TA} {tl th : TO} {ts : List PV} {g : TG} {D : Ends} (m : MkA σ H ta ts) (hl : ts.length ≤ 1000) (q : ∀ vs l H1, Same H H1 → TupF H1 l vs → IsL H1 vs ts → tl σ H1 fun lo H2 => th σ H2 fun hi H3 => rSlG (.ref l) lo hi H3 fun x H4 => g x σ H4 D.nx) : tAsg (tSl rSlG (tTupG ta) tl th) g D σ H :=
  m H _ (.refl _) fun vs H1 s1 i1 => ⟨Nat.le_of_lt (small1000 (by rw [i1.len]; exact hl)), fun l H' _ s' e => q vs l H' (s1.trans s') e (i1.same s')⟩
theorem go_sl {σ : L2.St} {H : Hp} {te : TE} {tl th : TO} {r : V → Option Int → Option Int → Hp → VK → Prop} {t : PV} {g : TG} {D : Ends} (m : MkE σ H te t) (q : ∀ v H1, Same H H1 → Is H1 v t → tl σ H1 fun lo H2 => th σ H2 fun hi H3 => r v lo hi H3 fun x H4 => g x σ H4 D.nx) : tAsg (tSl r te tl th) g D σ H := m H _ (.refl _) q
theorem Ex.free {d c l : Addr} {H H' : Hp} (x : Ex d c H H') (h : Dr H' d c) (e : H' l = none) : H l = none := by
  obtain ⟨n1, n2⟩ := h.free e
  cases q : H l with
  | none => rfl
  | some o => have := x.but l o n1 n2 q; rw [e] at this; cases this
theorem num_log : ∀ n : Nat, n < 12 → ((n : Nat) : Int).natAbs.log2 < 1920 := by decide +kernel
theorem num_lenK : ∀ n : Nat, n < 12 → ("K" : Str).length + (toString ((n : Nat) : Int) : Str).length ≤ sizeLine := by decide +kernel
def MkOk (mk : List PV) : Prop := ∃ k, k ≤ 4 ∧ mk = (MK.take k).map mkQ
theorem TupF.ex {d c : Addr} {H H' : Hp} (x : Ex d c H H') (h : Dr H d c) {a : Addr} {vs : List V} (e : TupF H a vs) : TupF H' a vs := e.elim fun o z => ⟨o, x.keep h z.1 (fun xs q => by cases q), z.2⟩
def MbAt (H : Hp) (mb : Addr) (mk : List PV) : Prop := ∃ vs, TupF H mb vs ∧ IsL H vs mk
theorem MbAt.same {H H' : Hp} {mb : Addr} {mk : List PV} (h : MbAt H mb mk) (s : Same H H') : MbAt H' mb mk := h.elim fun vs ⟨e, i⟩ => ⟨vs, e.same s, i.same s⟩
theorem MbAt.ex {d c : Addr} {H H' : Hp} {mb : Addr} {mk : List PV} (h : MbAt H mb mk) (x : Ex d c H H') (D : Dr H d c) : MbAt H' mb mk := h.elim fun vs ⟨e, i⟩ => ⟨vs, e.ex x D, i.ex x D⟩
theorem MbAt.wr {H : Hp} {l mb : Addr} {xs ys : List V} {mk : List PV} (h : MbAt H mb mk) (e : H l = some (.lst xs)) : MbAt (upd H l (.lst ys)) mb mk := h.elim fun vs ⟨⟨o, z, y⟩, i⟩ => ⟨vs, ⟨o, by rw [upd_ne (fun q => by rw [q, e] at z; cases z)]; exact z, y⟩, i.wr e⟩
/-- a table as it stands -/
structure TabH (H : Hp) (a m f k : Addr) (vk : List V) (mk : List PV) (F : List Str) (cs : List Con) : Prop where
  ea : H a = some (.tup [.str "table", .ref m, .ref f, .ref k])
  em : MbAt H m mk
  ef : H f = some (.tup (F.map V.str))
  ek : H k = some (.tup vk)
  ik : IsL H vk (cs.map conPV)
theorem TabH.same {H H' : Hp} {a m f k : Addr} {vk : List V} {mk : List PV} {F : List Str} {cs : List Con} (h : TabH H a m f k vk mk F cs) (s : Same H H') : TabH H' a m f k vk mk F cs :=
  ⟨s _ _ h.ea, h.em.same s, s _ _ h.ef, s _ _ h.ek, h.ik.same s⟩
def spTable : Sp := fun vs H Q _ => ∃ (d c : Addr), vs = [.ref d] ∧ Dr H d c ∧ ∀ a m f k vk H' mk F cs, TabH H' a m f k vk mk F cs → MkOk mk → TabG F cs → Ex d c H H' → Dr H' d c → Q (.ref a) H'
theorem ok_law_table (T : Txt K mg) (G_law_draw : FnOk P w K mg base CX0 1 T.a_law_draw T.d_law_draw ["state", "many"] spDraw) (G_law_pick : FnOk P w K mg base CX0 2 T.a_law_pick T.d_law_pick ["state", "row"] (spPick K)) (G_law_shape : FnOk P w K mg base CX0 1 T.a_law_shape T.d_law_shape ["kind", "own", "other", "third"] spShape) : FnOk P w K mg base CX0 3 T.a_law_table T.d_law_table ["state"] spTable := by
  refine T.F_law_table.ok sc_law_table (fun vs H Q E h => ?_) (fun cdv A outer s H vs Q E hr h => ?_)
  · obtain ⟨d, c, rfl, _⟩ := h; rfl
  · obtain ⟨d, c, rfl, hD, q⟩ := h
    have hr_law_draw : Room 1 _ := hr.mono (by decide)
    have hr_law_pick := hr
    have hr_law_shape : Room 1 _ := hr.mono (by decide)
    refine ⟨_, (Evl.pss_cut (ps_set (i := 1) sc_law_table.nd rfl (Or.inl rfl) (pe_slice sl_tupG (pe_tupG (pa_cons (pe_tup (pa_cons pe_str (pa_cons pe_int pa_nil))) (pa_cons (pe_tup (pa_cons pe_str (pa_cons pe_int pa_nil))) (pa_cons (pe_tup (pa_cons pe_str (pa_cons pe_int pa_nil))) (pa_cons (pe_tup (pa_cons pe_str (pa_cons pe_int pa_nil))) pa_nil))))) po_none (po_some (pe_ix ix_list (pe_lst (pa_cons pe_int (pa_cons pe_int (pa_cons pe_int pa_nil)))) (pe_call G_law_draw hr_law_draw rfl T.m_law_draw T.F_law_draw.kp T.b_law_draw .nil pass0 (pa_cons (pv 0) (pa_cons pe_int pa_nil))) (fun _ _ => rfl)))))
    (Evl.pss_cut (ps_set (i := 2) sc_law_table.nd rfl (Or.inl rfl) (pe_slice sl_list (pe_lst (pa_cons pe_str (pa_cons pe_str (pa_cons pe_str (pa_cons pe_str pa_nil))))) po_none (po_some (pe_op op_add pe_int (pe_call G_law_draw hr_law_draw rfl T.m_law_draw T.F_law_draw.kp T.b_law_draw .nil pass0 (pa_cons (pv 0) (pa_cons pe_int pa_nil)))))))
    (pss_cons (ps_set (i := 3) sc_law_table.nd rfl (Or.inl rfl) (pe_lst pa_nil))
    (Evl.pss_cut (ps_for PassesOwn.never rfl (pi_list (pv 2)) (pg_name (i := 4) sc_law_table.nd rfl (Or.inl rfl))
    (pss_cons (ps_set (i := 5) sc_law_table.nd rfl (Or.inl rfl) (pe_call G_law_draw hr_law_draw rfl T.m_law_draw T.F_law_draw.kp T.b_law_draw .nil pass0 (pa_cons (pv 0) (pa_cons pe_int pa_nil))))
    (Evl.pss_cut (ps_if (PW.pt (pw_and (pt_cmpR op_lt (pe_callB call_len_seq (by rfl) T.z_len (by decide +kernel) (pa_cons (pv 1) pa_nil)) pe_int (nomark _)) (pw_and1 (pt_cmpR op_in_seq (pv 5) (pe_tup (pa_cons pe_int (pa_cons pe_int pa_nil))) (by rfl))))) (pss_one (ps_set (i := 5) sc_law_table.nd rfl (Or.inl rfl) pe_int)) pss_nil)
    (pss_one (ps_for PassesOwn.never rfl (pi_list (pe_call G_law_shape hr_law_shape rfl T.m_law_shape T.F_law_shape.kp T.b_law_shape .nil pass0 (pa_cons (pv 5) (pa_cons (pv 4) (pa_cons (pe_call G_law_pick hr_law_pick rfl T.m_law_pick T.F_law_pick.kp T.b_law_pick .nil pass0 (pa_cons (pv 0) (pa_cons (pv 2) pa_nil))) (pa_cons (pe_call G_law_pick hr_law_pick rfl T.m_law_pick T.F_law_pick.kp T.b_law_pick .nil pass0 (pa_cons (pv 0) (pa_cons (pv 2) pa_nil))) pa_nil)))))) (pg_tup rfl (pgs_cons (pg_name (i := 6) sc_law_table.nd rfl (Or.inl rfl)) (pgs_cons (pg_name (i := 7) sc_law_table.nd rfl (Or.inl rfl)) pgs_nil)))
    (pss_one (ps_expr (pe_bm PySem.F.plainAttrs_list PySem.F.slot_list_append PySem.F.type_list_append mt_append (pv 3) (pa_cons (pe_tup (pa_cons (pe_op op_add_str pe_str (pe_callTy call_str_int (by rfl) T.z_str (by decide +kernel) (pa_cons (pe_callB call_len_seq (by rfl) T.z_len (by decide +kernel) (pa_cons (pv 3) pa_nil)) pa_nil))) (pa_cons (pv 6) (pa_cons (pv 4) (pa_cons (pv 7) pa_nil))))) pa_nil)))))))))
    (pss_one (ps_ret (pe_tup (pa_cons pe_str (pa_cons (pv 1) (pa_cons (pe_callTy call_tuple_of (by rfl) T.z_tuple (by decide +kernel) (pa_cons (pv 2) pa_nil)) (pa_cons (pe_callTy call_tuple_of (by rfl) T.z_tuple (by decide +kernel) (pa_cons (pv 3) pa_nil)) pa_nil))))))))))), ?_⟩
    refine ⟨fun σ H' => ∃ (mb : Addr) (mk : List PV), σ = [some (.ref d), some (.ref mb), none, none, none, none, none, none] ∧ MbAt H' mb mk ∧ MkOk mk ∧ Dr H' d c ∧ Ex d c H H', ?_, ?_⟩
    · refine go_slG (ts := MK.map mkQ) ?_ (by decide) fun mvs ma H1 s1 em imL => ?_
      · (repeat (first | exact mk_nil | refine mk_cons ?_ ?_ | refine mk_tup ?_ (by simp) | exact mk_str (by decide +kernel) | exact mk_int _))
      refine ⟨(by show 3 ≤ sizeLine; decide), fun nl hnl => ?_⟩
      have s2 := same_upd hnl (.lst [.int 2, .int 2, .int 4])
      have nlf : H nl = none := s1.free hnl
      obtain ⟨nd1, nc1⟩ := hD.free nlf
      have D2 := (hD.same s1).same s2
      refine ⟨_, rfl, d, c, 3, rfl, D2, by omega, by omega, fun r H3 r0 r1 x3 hD3 => ?_⟩
      have el3 : H3 nl = some (.lst [.int 2, .int 2, .int 4]) := x3.but _ _ nd1 nc1 upd_same
      have em3 : TupF H3 ma mvs := TupF.ex x3 D2 (em.same s2)
      have imL3 := (imL.same s2).ex x3 D2
      have xx : Ex d c H H3 := (Ex.of (s1.trans s2)).trans x3
      have at3 : ∃ k : Nat, atI [V.int 2, V.int 2, V.int 4] r = some (.int (k : Int)) ∧ k ≤ 4 := by
        rcases (show r = 0 ∨ r = 1 ∨ r = 2 by omega) with rfl | rfl | rfl
        · exact ⟨2, rfl, by decide⟩
        · exact ⟨2, rfl, by decide⟩
        · exact ⟨4, rfl, by decide⟩
      obtain ⟨k, atk, hk⟩ := at3
      refine ⟨nl, _, _, _, rfl, rfl, SqL.of el3, atk, _, rfl, ma, mvs, rfl, em3, fun p H4 s4 e4 => ?_⟩
      have lm := imL3.len
      have ic := (imL3.same s4).take k
      rw [cut_to mvs (by rw [lm]; exact hk)] at e4
      exact ⟨p, _, rfl, ⟨_, e4, ic⟩, ⟨k, hk, by rw [List.map_take]⟩, hD3.same s4, xx.trans (.of s4)⟩
    · rintro σ H1 ⟨mb, mk, rfl, imk, hmk, hD1, x1⟩
      refine ⟨fun σ H' => ∃ (fl : Addr) (F : List Str), σ = [some (.ref d), some (.ref mb), some (.ref fl), none, none, none, none, none] ∧ MbAt H' mb mk ∧ Dr H' d c ∧ Ex d c H H' ∧ H' fl = some (.lst (F.map V.str)) ∧ H fl = none ∧ 2 ≤ F.length ∧ F.length ≤ 4 ∧ (∀ z ∈ F, z ∈ fams), ?_, ?_⟩
      · refine ⟨(by show 4 ≤ sizeLine; decide), fun l0 hl0 => ?_⟩
        have s2 := same_upd hl0 (.lst (fams.map V.str))
        have D2 := hD1.same s2
        obtain ⟨nd1, nc1⟩ := hD1.free hl0
        refine ⟨_, rfl, d, c, 3, rfl, D2, by omega, by omega, fun r H3 r0 r1 x3 hD3 => ⟨_, _, rfl, rfl, _, rfl, l0, fams.map V.str, rfl, SqL.of (x3.but _ _ nd1 nc1 upd_same), fun fl hfl => ?_⟩⟩
        have s4 := same_upd hfl (.lst (cutV (fams.map V.str) none (some (2 + r))))
        have ek : (2 + r : Int) = ((2 + r.toNat : Nat) : Int) := by omega
        have hk : 2 + r.toNat ≤ fams.length := by show _ ≤ 4; omega
        have xx : Ex d c H (upd H3 fl (.lst (cutV (fams.map V.str) none (some (2 + r))))) := ((x1.trans (.of s2)).trans x3).trans (.of s4)
        refine ⟨fl, fams.take (2 + r.toNat), rfl, ((imk.same s2).ex x3 D2).same s4, hD3.same s4, xx, ?_, ?_, ?_, ?_, fun z hz => List.mem_of_mem_take hz⟩
        · rw [upd_same, ek, cut_to _ (by rw [List.length_map]; exact hk), List.map_take]
        · exact ((x1.trans (.of s2)).trans x3).free hD3 hfl
        · rw [List.length_take, Nat.min_eq_left hk]; omega
        · rw [List.length_take, Nat.min_eq_left hk]; omega
      · rintro σ H2 ⟨fl, F, rfl, imk2, hD2, x2, ef, ff, F2, F4, Ffm⟩
        have Fok : ∀ z ∈ F, sok z = true := fun z hz => fams_ok z (Ffm z hz)
        obtain ⟨nfd, nfc⟩ : fl ≠ d ∧ fl ≠ c := by
          obtain ⟨h1, h2⟩ := hD.free ff
          exact ⟨h1, h2⟩
        refine ⟨by decide, fun cl hcl => ?_⟩
        have s3 := same_upd hcl (.lst [])
        obtain ⟨ncd, ncc⟩ := hD2.free hcl
        have nfl : cl ≠ fl := (ne_of_none ef hcl).symm
        have cfree : H cl = none := x2.free hD2 hcl
        refine ⟨fun σ H' => ∃ (y4 y5 y6 y7 : Option V) (vs : List V) (cs : List Con), σ = [some (.ref d), some (.ref mb), some (.ref fl), some (.ref cl), y4, y5, y6, y7] ∧ MbAt H' mb mk ∧ Dr H' d c ∧ Ex d c H H' ∧ H' fl = some (.lst (F.map V.str)) ∧ H' cl = some (.lst vs) ∧ IsL H' vs (cs.map conPV) ∧ ConsG F cs ∧ 1 ≤ cs.length ∧ cs.length ≤ 12, ?_, ?_⟩
        · refine ⟨_, rfl, fl, rfl, ⟨_, SqL.of (s3 _ _ ef)⟩, ?_⟩
          refine for_list (K := K) (a := fl) (xs := F.map V.str) (fun i σ H' => ∃ (y4 y5 y6 y7 : Option V) (vs : List V) (cs : List Con), σ = [some (.ref d), some (.ref mb), some (.ref fl), some (.ref cl), y4, y5, y6, y7] ∧ MbAt H' mb mk ∧ Dr H' d c ∧ Ex d c H H' ∧ H' fl = some (.lst (F.map V.str)) ∧ H' cl = some (.lst vs) ∧ IsL H' vs (cs.map conPV) ∧ ConsG F cs ∧ i ≤ cs.length ∧ cs.length ≤ 3 * i) ?_ ?_ ?_ ?_
          · exact ⟨_, _, _, _, [], [], rfl, imk2.same s3, hD2.same s3, x2.trans (.of s3), s3 _ _ ef, upd_same, .nil, ⟨fun i c e => by simp at e, fun c h => by cases h⟩, by simp, by simp⟩
          · exact fun i σ H' _ ⟨_, _, _, _, _, _, _, _, _, _, e, _⟩ => SqL.of e
          · rintro i x σ H3 hx ⟨y4, y5, y6, y7, vs, cs, rfl, imk3, hD3, x3, ef3, ec3, ic3, G, c1, c3⟩
            have hi := (List.getElem?_eq_some_iff.mp hx).1
            rw [List.length_map] at hi
            obtain ⟨own, hown, rfl⟩ := List.mem_map.mp (List.mem_of_getElem? hx)
            refine ⟨_, rfl, d, c, 16, rfl, hD3, by omega, by omega, fun r H4 r0 r1 x4 hD4 => ?_⟩
            have ef4 := x4.but _ _ nfd nfc ef3
            have ec4 := x4.but _ _ ncd ncc ec3
            refine ⟨fun σ H' => ∃ k : Int, σ = [some (.ref d), some (.ref mb), some (.ref fl), some (.ref cl), some (.str own), some (.int k), y6, y7] ∧ Same H4 H', ?_, ?_⟩
            · obtain ⟨mvs, em, iml⟩ := imk3.ex x4 hD3
              refine ⟨_, rfl, mb, mvs, rfl, .inr em.sq, _, _, rfl, rfl, _, rfl, ite2 (fun _ => ?_) (fun _ => iteF ⟨_, rfl, .refl _⟩)⟩
              refine ⟨_, rfl, (by show 2 ≤ sizeLine; decide), fun p hp => ⟨p, _, rfl, .inr (.inl (.inl upd_same)), rfl, rfl, _, rfl, ite2 (fun _ => ⟨0, rfl, same_upd hp _⟩) (fun _ => ⟨_, rfl, same_upd hp _⟩)⟩⟩
            · rintro σ H5 ⟨k, rfl, s5⟩
              have hD5 := hD4.same s5
              have ok1 := Fok own hown
              refine ⟨_, rfl, _, rfl, _, rfl, _, rfl, d, c, fl, F.map V.str, rfl, hD5, .inl (s5 _ _ ef4), nfd, nfc, by rw [List.length_map]; omega, by rw [List.length_map]; omega, fun w1 H6 hw1 x6 hD6 => ?_⟩
              obtain ⟨other, ho, rfl⟩ := List.mem_map.mp hw1
              have ef6 := x6.but _ _ nfd nfc (s5 _ _ ef4)
              refine ⟨_, rfl, _, rfl, d, c, fl, F.map V.str, rfl, hD6, .inl ef6, nfd, nfc, by rw [List.length_map]; omega, by rw [List.length_map]; omega, fun w2 H7 hw2 x7 hD7 => ?_⟩
              obtain ⟨third, ht, rfl⟩ := List.mem_map.mp hw2
              refine ⟨k, own, other, third, rfl, ok1, Fok _ ho, Fok _ ht, fun l us H8 l0 s8 el il => ?_⟩
              have ef8 := s8 _ _ (x7.but _ _ nfd nfc ef6)
              have ec8 := s8 _ _ (x7.but _ _ ncd ncc (x6.but _ _ ncd ncc (s5 _ _ ec4)))
              have ic8 := ((((ic3.ex x4 hD3).same s5).ex x6 hD5).ex x7 hD6).same s8
              have im8 := ((((imk3.ex x4 hD3).same s5).ex x6 hD5).ex x7 hD6).same s8
              have x8 := ((((x3.trans x4).trans (.of s5)).trans x6).trans x7).trans (.of s8)
              have hD8 := hD7.same s8
              obtain ⟨sg, sl1, sl3⟩ := shape_ok (k := k) hown ho ht
              obtain ⟨nld, nlc⟩ := hD7.free l0
              have nlcl : l ≠ cl := (ne_of_none (x7.but _ _ ncd ncc (x6.but _ _ ncd ncc (s5 _ _ ec4))) l0).symm
              have nlfl : fl ≠ cl := nfl.symm
              generalize hrows : shape k own other third = rows at il sg sl1 sl3
              refine ⟨l, rfl, ⟨_, SqL.of el⟩, ?_⟩
              have cl3 : cs.length ≤ 9 := by omega
              have ulen := il.len
              rw [List.length_map] at ulen
              refine for_list (K := K) (a := l) (xs := us) (fun j σ H' => ∃ (y6 y7 : Option V) (vs' : List V) (cs' : List Con), σ = [some (.ref d), some (.ref mb), some (.ref fl), some (.ref cl), some (.str own), some (.int k), y6, y7] ∧ MbAt H' mb mk ∧ Dr H' d c ∧ Ex d c H H' ∧ H' fl = some (.lst (F.map V.str)) ∧ H' cl = some (.lst vs') ∧ H' l = some (.lst us) ∧ IsL H' us (rows.map rowPV) ∧ IsL H' vs' (cs'.map conPV) ∧ ConsG F cs' ∧ cs'.length = cs.length + j) ?_ ?_ ?_ ?_
              · exact ⟨_, _, vs, cs, rfl, im8, hD8, x8, ef8, ec8, el, il, ic8, G, rfl⟩
              · exact fun j σ H' _ ⟨_, _, _, _, _, _, _, _, _, _, e, _⟩ => SqL.of e
              · rintro j x σ H9 hxj ⟨y6, y7, vs', cs', rfl, im9, hD9, x9, ef9, ec9, el9, il9, ic9, G9, len9⟩
                obtain ⟨y, ey, iy⟩ := il9.get hxj
                have hj := (List.getElem?_eq_some_iff.mp hxj).1
                have hj3 : j < 3 := by omega
                obtain ⟨row, hrow, rfl⟩ := List.mem_map.mp (List.mem_of_getElem? ey)
                obtain ⟨a, rvs, rfl, ea, iL⟩ := iy.tup_inv
                cases iL with
                | @cons pv_ _ _ _ ip iL =>
                cases iL with
                | @cons iv _ _ _ ii iL =>
                cases iL
                have vlen := ic9.len
                rw [List.length_map] at vlen
                have l12 : vs'.length < 12 := by omega
                refine ⟨a, _, rfl, .inl (.inl ea), rfl, pv_, _, rfl, iv, _, rfl, rfl, ?_⟩
                refine ⟨_, rfl, .inl ⟨rfl, _, SqL.of ec9⟩, _, rfl, cl, vs', rfl, .inl (SqL.of ec9), _, rfl, num_log _ l12, _, _, rfl, rfl, num_lenK _ l12, _, rfl, _, rfl, _, rfl, (by show 4 ≤ sizeLine; decide), fun p hp => ?_⟩
                have sp := same_upd hp (.tup [.str (kw vs'.length), pv_, .str own, iv])
                have ecp := sp _ _ ec9
                refine ⟨cl, vs', _, rfl, rfl, ecp, small1000 (by omega), _, _, vs' ++ [.ref p], cs' ++ [⟨kw vs'.length, row.ps, own, row.ix⟩], rfl, (im9.same sp).wr ecp, (hD9.same sp).own ncd ncc, (x9.trans (.of sp)).own cfree _, by rw [upd_ne nlfl]; exact sp _ _ ef9, upd_same, by rw [upd_ne nlcl]; exact sp _ _ el9, (il9.same sp).wr ecp, ?_, ?_, by rw [List.length_append, len9]; rfl⟩
                · rw [List.map_append]
                  refine ((ic9.same sp).wr ecp).append (.cons ?_ .nil)
                  refine Is.wr ecp (.tup upd_same (.cons (.str _ (kw_ok _ l12)) (.cons (ip.same sp) (.cons (.str _ ok1) (.cons (ii.same sp) .nil)))))
                · refine ⟨fun i c hc => ?_, fun c hc => ?_⟩
                  · rcases Nat.lt_or_ge i cs'.length with h | h
                    · rw [List.getElem?_append_left h] at hc
                      exact G9.word i c hc
                    · rw [List.getElem?_append_right h] at hc
                      have : i - cs'.length = 0 := by
                        have := (List.getElem?_eq_some_iff.mp hc).1
                        simpa using this
                      rw [this] at hc
                      cases (Option.some.inj hc)
                      show kw vs'.length = kw i
                      rw [vlen]
                      congr 1
                      omega
                  · rcases List.mem_append.mp hc with h | h
                    · exact G9.row c h
                    · rw [List.mem_singleton.mp h]
                      exact ⟨sg row hrow, hown⟩
              · rintro σ H9 ⟨y6, y7, vs', cs', rfl, im9, hD9, x9, ef9, ec9, el9, il9, ic9, G9, len9⟩
                exact ⟨_, _, _, _, vs', cs', rfl, im9, hD9, x9, ef9, ec9, ic9, G9, by omega, by omega⟩
          · rintro σ H3 ⟨y4, y5, y6, y7, vs, cs, rfl, imk3, hD3, x3, ef3, ec3, ic3, G, c1, c3⟩
            rw [List.length_map] at c1 c3
            exact ⟨_, _, _, _, vs, cs, rfl, imk3, hD3, x3, ef3, ec3, ic3, G, by omega, by omega⟩
        · rintro σ H3 ⟨y4, y5, y6, y7, vs, cs, rfl, imk3, hD3, x3, ef3, ec3, ic3, G, c1, c12⟩
          refine ⟨_, rfl, _, rfl, fl, _, rfl, .inl ⟨SqL.of ef3, fun ft hft => ?_⟩⟩
          have s4 := same_upd hft (.tup (F.map V.str))
          refine ⟨_, rfl, cl, _, rfl, .inl ⟨SqL.of (s4 _ _ ec3), fun ct hct => ?_⟩⟩
          have s5 := same_upd hct (.tup vs)
          refine ⟨(by show 4 ≤ sizeLine; decide), fun tt htt => ?_⟩
          have s6 := same_upd htt (.tup [.str "table", .ref mb, .ref ft, .ref ct])
          have s456 := (s4.trans s5).trans s6
          exact q tt mb ft ct vs _ mk F cs ⟨upd_same, imk3.same s456, (s5.trans s6) _ _ upd_same, s6 _ _ upd_same, ic3.same s456⟩ hmk ⟨G, ⟨c1, c12⟩, ⟨F2, F4⟩, Ffm⟩ (x3.trans (.of s456)) (hD3.same s456)
end
end Kx
namespace Kx
open PySem PySem.Spec PyProof.Rows L2
section
variable {P : Program} {w : World} {K : PySem.W.Frag} {mg : Str → Option Value} {base : Heap}
set_option pp.maxSteps 900
set_option maxHeartbeats 2000000
/-! ### the parts of a table -/
def conOf (cs : List Con) (z : Str) : Option Con := cs.find? fun c => c.w == z
def kvQ (m : Str × Int) : Key × V := (Sum.inr m.1, V.int m.2)
def mkn (n : Nat) : List Str := (MK.take n).map (·.1)
theorem con_at {H : Hp} {vk : List V} {cs : List Con} (h : IsL H vk (cs.map conPV)) {i : Nat} {x : V} (hx : vk[i]? = some x) : ∃ c p u v, cs[i]? = some c ∧ x = .ref p ∧ H p = some (.tup [.str c.w, u, .str c.fam, v]) ∧ Is H (.ref p) (conPV c) := by
  obtain ⟨t, ht, it⟩ := h.get hx
  obtain ⟨c, hc, rfl⟩ := map_at ht
  obtain ⟨p, us, rfl, ep, iu⟩ := id it.tup_inv
  cases iu with
  | cons h0 iu =>
  cases iu with
  | cons h1 iu =>
  obtain ⟨v2, v3, rfl, h2, h3⟩ := two_inv iu
  cases h0.str_inv
  cases h2.str_inv
  exact ⟨c, p, _, v3, hc, rfl, ep, it⟩
theorem mk_at {H : Hp} {vs : List V} {L : List (Str × Int)} (h : IsL H vs (L.map mkQ)) {i : Nat} {x : V} (hx : vs[i]? = some x) : ∃ m p, L[i]? = some m ∧ x = .ref p ∧ H p = some (.tup [.str m.1, .int m.2]) := by
  obtain ⟨t, ht, it⟩ := h.get hx
  obtain ⟨m, hm, rfl⟩ := map_at ht
  obtain ⟨p, us, rfl, ep, iu⟩ := it.tup_inv
  obtain ⟨u0, u1, rfl, h0, h1⟩ := two_inv iu
  cases h0.str_inv
  cases h1
  exact ⟨m, p, hm, rfl, ep⟩
theorem mkq_refs {K : PySem.W.Frag} {H : Hp} : ∀ {L : List (Str × Int)} {vs : List V}, IsL H vs (L.map mkQ) → ∃ ps : List Addr, vs = ps.map V.ref ∧ Paired (fun p kv => SqT K H p [kV kv.1, kv.2]) ps (L.map kvQ)
  | [], _, .nil => ⟨[], rfl, .nil⟩
  | m :: r, _, .cons h t => by
    obtain ⟨ps, e, pp⟩ := mkq_refs (K := K) t
    obtain ⟨p, us, rfl, ep, iu⟩ := h.tup_inv
    obtain ⟨u0, u1, rfl, h0, h1⟩ := two_inv iu
    cases h0.str_inv
    cases h1
    subst e
    exact ⟨p :: ps, rfl, .cons (.inl (.inl ep)) pp⟩
theorem mk_val : ∀ n, n ≤ 4 → ∀ m ∈ MK.take n, valV (mergeK [] ((MK.take n).map kvQ)) (Sum.inr m.1) = some (V.int m.2) := by decide +kernel
def spPartsOf : Sp := fun vs H Q _ => ∃ (a m f k : Addr) (vk : List V) (F : List Str) (cs : List Con) (n : Nat) (w : Str) (i : Int), vs = [.ref a, .str w] ∧ TabH H a m f k vk ((MK.take n).map mkQ) F cs ∧ n ≤ 4 ∧ (w, i) ∈ MK.take n ∧ ∀ H', Same H H' → Q (.int i) H'
theorem ok_parts_of (T : Txt K mg)  : FnOk P w K mg base CX0 1 T.a_parts_of T.d_parts_of ["table", "maker"] spPartsOf := by
  refine T.F_parts_of.ok sc_parts_of (fun vs H Q E h => ?_) (fun cdv A outer s H vs Q E hr h => ?_)
  · obtain ⟨a, m, f, k, vk, F, cs, n, w, i, rfl, _⟩ := h; rfl
  · obtain ⟨a, m, f, k, vk, F, cs, n, w, i, rfl, T1, n4, hm, q⟩ := h
    have hu := hu_of hr
    refine ⟨_, (pss_one (ps_ret (pe_dget1 hu (pe_callTy (call_dictT rfl) (by rfl) T.z_dict (by decide +kernel) (pa_cons (pe_ix ix_tup (pv 0) pe_int (fun _ _ => rfl)) pa_nil)) (pv 1) ⟨rfl, rfl, rfl, rfl⟩))), ?_⟩
    obtain ⟨vm, ⟨o, em, od⟩, im⟩ := T1.em
    obtain ⟨ps, e, pp⟩ := mkq_refs (K := K) im
    subst e
    refine ⟨_, rfl, a, _, _, _, rfl, rfl, .inl (.inl T1.ea), atI_nat (j := 1) rfl, m, o, ps, (MK.take n).map kvQ, rfl, em, od, pp, fun p hp => ?_⟩
    refine ⟨p, rfl, .inl ⟨_, .inl upd_same⟩, _, rfl, _, DGet.k (k := Sum.inr w) upd_same, ?_⟩
    rw [mk_val n n4 _ hm]
    exact q _ (same_upd hp _)
def spConOf : Sp := fun vs H Q _ => ∃ (a m f k : Addr) (vk : List V) (mk : List PV) (F : List Str) (cs : List Con) (z : Str), vs = [.ref a, .str z] ∧ TabH H a m f k vk mk F cs ∧ ∀ v', (∀ c, conOf cs z = some c → Is H v' (conPV c)) → (conOf cs z = none → v' = .non) → Q v' H
theorem ok_constructor_of (T : Txt K mg)  : FnOk P w K mg base CX0 1 T.a_constructor_of T.d_constructor_of ["table", "word"] spConOf := by
  refine T.F_constructor_of.ok sc_constructor_of (fun vs H Q E h => ?_) (fun cdv A outer s H vs Q E hr h => ?_)
  · obtain ⟨a, m, f, k, vk, mk, F, cs, z, rfl, _⟩ := h; rfl
  · obtain ⟨a, m, f, k, vk, mk, F, cs, z, rfl, T1, q⟩ := h
    refine ⟨_, (pss_cons (ps_for PassesOwn.never rfl (pi_tup (pe_ix ix_tup (pv 0) pe_int (fun _ _ => rfl))) (pg_name (i := 2) sc_constructor_of.nd rfl (Or.inl rfl))
    (pss_one (ps_if (pt_cmpR op_eq (pe_ix ix_tup (pv 2) pe_int (fun _ _ => rfl)) (pv 1) (nomark _)) (pss_one (ps_ret (pv 2))) pss_nil)))
    (pss_one (ps_ret pe_non))), ?_⟩
    have hlen := T1.ik.len
    rw [List.length_map] at hlen
    refine ⟨_, rfl, a, _, _, _, rfl, rfl, .inl (.inl T1.ea), atI_nat (j := 3) rfl, k, rfl, ⟨_, .inl (.inl T1.ek)⟩, ?_⟩
    refine for_tup (K := K) (a := k) (xs := vk) (fun i σ H2 => ∃ y2, σ = [some (.ref a), some (.str z), y2] ∧ H2 = H ∧ (cs.take i).find? (fun c => c.w == z) = none) ?_ ?_ ?_ ?_
    · exact ⟨none, rfl, rfl, rfl⟩
    · rintro i σ H2 _ ⟨_, _, rfl, _⟩
      exact .inl (.inl T1.ek)
    · rintro i x σ H2 hx ⟨y2, rfl, rfl, hn⟩
      obtain ⟨c, p, u, v, hc, rfl, ep, it⟩ := con_at T1.ik hx
      obtain ⟨hi, eg⟩ := List.getElem?_eq_some_iff.mp hc
      have tk : cs = cs.take i ++ c :: cs.drop (i + 1) := by
        rw [← eg, ← List.drop_eq_getElem_cons hi, List.take_append_drop]
      have tk1 : cs.take (i + 1) = cs.take i ++ [c] := by rw [List.take_succ_eq_append_getElem hi, eg]
      refine ⟨_, rfl, p, _, _, _, rfl, rfl, .inl (.inl ep), atI_nat (j := 0) rfl, _, rfl, rfl, _, rfl, ite2 (fun b => ?_) (fun b => ?_)⟩
      · have e : c.w = z := V.str.inj (of_decide_eq_true b)
        have fd : conOf cs z = some c := by
          rw [conOf, tk, List.find?_append, hn]
          simp [e]
        refine ⟨_, rfl, q _ (fun g hg => ?_) (fun hg => ?_)⟩
        · rw [fd] at hg; cases hg; exact it
        · rw [fd] at hg; cases hg
      · have e : ¬ c.w = z := fun e => b (by rw [e]; exact decide_eq_true rfl)
        refine ⟨_, rfl, rfl, ?_⟩
        rw [tk1, List.find?_append, hn]
        simp [e]
    · rintro σ H2 ⟨y2, rfl, rfl, hn⟩
      rw [hlen, List.take_length] at hn
      refine q _ (fun g hg => ?_) (fun _ => rfl)
      rw [conOf, hn] at hg
      cases hg
def ofFam (cs : List Con) (z : Str) : List Con := cs.filter fun c => c.fam == z
theorem of_snoc {cs : List Con} {i : Nat} {c : Con} (h : cs[i]? = some c) (z : Str) : ofFam (cs.take (i + 1)) z = ofFam (cs.take i) z ++ if c.fam == z then [c] else [] := by
  obtain ⟨hi, eg⟩ := List.getElem?_eq_some_iff.mp h
  rw [List.take_succ_eq_append_getElem hi, eg]
  unfold ofFam
  rw [List.filter_append]
  congr 1
  by_cases e : c.fam == z <;> simp [e]
/-- those of one family, in a comprehension -/
theorem fam_lc {K : PySem.W.Frag} {σ : L2.St} {H : Hp} {a m f k : Addr} {vk : List V} {mk : List PV} {F : List Str} {cs : List Con} {z : Str} {i j : Nat} {Q : VK} (T1 : TabH H a m f k vk mk F cs) (c12 : cs.length ≤ 12)
    (e0 : σ[0]? = some (some (.ref a))) (ej : ∀ x, ((σ.set i none).set i (some x))[j]? = some (some (.str z))) (ei : ∀ x, ((σ.set i none).set i (some x))[i]? = some (some x))
    (q : ∀ D vs H', H D = none → Same H H' → H' D = some (.lst vs) → IsL H' vs ((ofFam cs z).map conPV) → Q (.ref D) H') :
    tLc (iTup K (tOp (rIxT K) (tVar 0) (tC (.int 3)))) (gName i) (tTest (tOp rEq (tOp (rIxT K) (tVar i) (tC (.int 2))) (tVar j))) (tVar i) [i] σ H Q := by
  have hlen := T1.ik.len
  rw [List.length_map] at hlen
  refine ⟨_, e0, a, _, _, _, rfl, rfl, .inl (.inl T1.ea), atI_nat (j := 3) rfl, k, rfl, ⟨_, .inl (.inl T1.ek)⟩, fun D hD => ?_⟩
  refine lc_tup (K := K) (a := k) (xs := vk) (fun n H' => Same H H' ∧ ∃ vs, H' D = some (.lst vs) ∧ IsL H' vs ((ofFam (cs.take n) z).map conPV)) ?_ ?_ ?_ ?_
  · exact ⟨same_upd hD _, [], upd_same, .nil⟩
  · exact fun n H' _ ⟨s, _⟩ => .inl (.inl (s _ _ T1.ek))
  · rintro n x H' hx ⟨s, vs, eD, iv⟩
    obtain ⟨c, p, u, v, hc, rfl, ep, it⟩ := con_at (T1.ik.same s) hx
    have hn := (List.getElem?_eq_some_iff.mp hx).1
    refine ⟨by show ((σ.set i none).set i (some (V.ref p))).set i none = σ.set i none; simp only [List.set_set], ?_⟩
    refine ⟨_, ei _, p, _, _, _, rfl, rfl, .inl (.inl ep), atI_nat (j := 2) rfl, _, ej _, rfl, _, rfl, ?_⟩
    rw [of_snoc hc z]
    by_cases e : c.fam = z
    · rw [show decide (V.str c.fam = V.str z) = true by rw [e]; exact decide_eq_true rfl, show (c.fam == z) = true by rw [e]; exact beq_self_eq_true z]
      have hl := iv.len
      rw [List.length_map] at hl
      refine iteT ⟨_, ei _, vs, eD, small1000 (by rw [hl]; have : (ofFam (cs.take n) z).length ≤ (cs.take n).length := List.length_filter_le ..; have : (cs.take n).length ≤ n := List.length_take_le ..; omega), Kx.Same.own s hD _, vs ++ [.ref p], upd_same, ?_⟩
      rw [if_pos rfl, List.map_append]
      exact IsL.over eD (iv.append (.cons it .nil))
    · rw [show decide (V.str c.fam = V.str z) = false from decide_eq_false fun h => e (V.str.inj h), show (c.fam == z) = false from beq_eq_false_iff_ne.mpr e]
      refine iteF ⟨s, vs, eD, ?_⟩
      rw [if_neg (by decide), List.append_nil]
      exact iv
  · rintro H' ⟨s, vs, eD, iv⟩
    rw [hlen, List.take_length] at iv
    exact q D vs H' hD s eD iv
def spConsOf : Sp := fun vs H Q _ => ∃ (a m f k : Addr) (vk : List V) (mk : List PV) (F : List Str) (cs : List Con) (z : Str), vs = [.ref a, .str z] ∧ TabH H a m f k vk mk F cs ∧ cs.length ≤ 12 ∧ ∀ v' H', Same H H' → Is H' v' (.tup ((ofFam cs z).map conPV)) → Q v' H'
theorem ok_constructors_of (T : Txt K mg)  : FnOk P w K mg base CX0 1 T.a_constructors_of T.d_constructors_of ["table", "family"] spConsOf := by
  refine T.F_constructors_of.ok sc_constructors_of (fun vs H Q E h => ?_) (fun cdv A outer s H vs Q E hr h => ?_)
  · obtain ⟨a, m, f, k, vk, mk, F, cs, z, rfl, _⟩ := h; rfl
  · obtain ⟨a, m, f, k, vk, mk, F, cs, z, rfl, T1, c12, q⟩ := h
    refine ⟨_, (pss_one (ps_ret (pe_callTy call_tuple_of (by rfl) T.z_tuple (by decide +kernel) (pa_cons (pe_lc (own := [("constructor", 2)]) (g := (gName 2)) rfl sc_constructors_of.nd (pi_tup (pe_ix ix_tup (pv 0) pe_int (fun _ _ => rfl))) (blkOk_by (own := [("constructor", 2)]) (N := ["table", "family", "constructor"]) (sc := defScope s_constructors_of) (by decide +kernel)) (fun _ _ _ _ _ => (pg_name (i := 2) sc_constructors_of.nd rfl (Or.inl rfl))) (fun _ _ _ _ _ => pts_one (pt_cmpR op_eq (pe_ix (ixTK (K := K)) (pv 2) pe_int (fun _ _ => rfl)) (pv 1) (nomark _))) (fun _ _ _ _ _ => (pv 2))) pa_nil)))), ?_⟩
    refine go_retB (fam_lc T1 c12 rfl (fun _ => rfl) (fun _ => rfl) fun D vs H' nD s e iv => ⟨D, vs, rfl, .inl ⟨SqL.of e, fun l hl => q _ _ (s.trans (same_upd hl _)) (.tup upd_same (iv.same (same_upd hl _)))⟩⟩)
end
end Kx
namespace Kx
open PySem PySem.Spec PyProof.Rows L2
section
variable {P : Program} {w : World} {K : PySem.W.Frag} {mg : Str → Option Value} {base : Heap}
set_option pp.maxSteps 900
set_option maxHeartbeats 2000000
/-! ### the words of a table, its integers, what the law asks of it -/
theorem go_forL {K : PySem.W.Frag} {σ : L2.St} {H : Hp} {te : TE} {ls : List (List Nat)} {g : TG} {tb rest : TS} {D : Ends} (h : LxE σ H te ls) (q : ∀ p H1, Same H H1 → H1 p = some (.lst (ls.map SV)) → tFor (fun _ H R => R (Itl K p) H) g tb { D with nx := rest D } σ H1) : tSeq (tFor (iList K te) g tb) rest D σ H :=
  h H _ (.refl _) fun p H1 s e => ⟨p, rfl, ⟨_, SqL.of e⟩, q p H1 s e⟩
theorem lx_listT {K : PySem.W.Frag} {σ : L2.St} {H0 : Hp} {te : TE} {xs : List V} {ls : List (List Nat)} (h : TlE K σ H0 te xs) (e : xs = ls.map SV) : LxE σ H0 (tCB (fun xs H Q => ∃ p ys, xs = [.ref p] ∧ (SqL K H p ys ∨ SqT K H p ys) ∧ ∀ l, H l = none → Q (.ref l) (upd H l (.lst ys))) (tCons te tNil)) ls := fun H Q s q =>
  h H _ s fun a H1 s1 ha => ⟨a, xs, rfl, .inr ha, fun l hl => q l _ (s1.trans (same_upd hl _)) (by rw [upd_same, e])⟩
theorem sv_cs (z : Str) : SV (cs z) = V.str z := by unfold SV; rw [mk_cs]
theorem sv_map (l : List Str) : (l.map cs).map SV = l.map V.str := by rw [List.map_map]; exact List.map_congr_left fun z _ => sv_cs z
/-- the first parts of rows -/
theorem fst_lc {K : PySem.W.Frag} {σ : L2.St} {H0 : Hp} {tl : TE} {xs : List V} {L : List Str} {k : Nat} (ht : TlE K σ H0 tl xs) (hl : L.length = xs.length) (hb : xs.length ≤ 1000) (hk : ∀ x, ((σ.set k none).set k (some x))[k]? = some (some x))
    (hs : ∀ (i : Nat) (x : V) (z : Str), xs[i]? = some x → L[i]? = some z → ∃ p us, x = .ref p ∧ H0 p = some (.tup (.str z :: us))) :
    LxE σ H0 (tLc (iTup K tl) (gName k) tYes (tOp (rIxT K) (tVar k) (tC (.int 0))) [k]) (L.map cs) := by
  refine lx_lcT ht (by rw [List.length_map]; exact hl) hb fun i x y H' hx hy s => ?_
  obtain ⟨z, hz, rfl⟩ := map_at hy
  obtain ⟨p, us, rfl, ep⟩ := hs i x z hx hz
  exact tx_ixT (hk _) (.inl (.inl (s _ _ ep))) rfl
section
variable {H : Hp} {a m f k : Addr} {vk : List V} {F : List Str} {cc : List Con} {n : Nat}
theorem TabH.mkw {K : PySem.W.Frag} {σ : L2.St} {i : Nat} (T1 : TabH H a m f k vk ((MK.take n).map mkQ) F cc) (e0 : σ[0]? = some (some (.ref a))) (hk : ∀ x, ((σ.set i none).set i (some x))[i]? = some (some x)) :
    LxE σ H (tLc (iTup K (tOp (rIxT K) (tVar 0) (tC (.int 1)))) (gName i) tYes (tOp (rIxT K) (tVar i) (tC (.int 0))) [i]) ((mkn n).map cs) := by
  obtain ⟨vm, tf, im⟩ := T1.em
  have hlen := im.len
  rw [List.length_map] at hlen
  have h4 : vm.length ≤ 4 := by rw [hlen]; exact List.length_take_le' ..
  refine fst_lc (tl_ixT e0 (.inl (.inl T1.ea)) rfl tf.sq) (by rw [mkn, List.length_map, hlen]) (by omega) hk fun j x z hx hz => ?_
  obtain ⟨q, p, hq, rfl, ep⟩ := mk_at im hx
  rw [mkn, List.getElem?_map, hq] at hz
  cases hz
  exact ⟨p, _, rfl, ep⟩
theorem TabH.cnw {K : PySem.W.Frag} {σ : L2.St} {mk : List PV} {i : Nat} (T1 : TabH H a m f k vk mk F cc) (c12 : cc.length ≤ 12) (e0 : σ[0]? = some (some (.ref a))) (hk : ∀ x, ((σ.set i none).set i (some x))[i]? = some (some x)) :
    LxE σ H (tLc (iTup K (tOp (rIxT K) (tVar 0) (tC (.int 3)))) (gName i) tYes (tOp (rIxT K) (tVar i) (tC (.int 0))) [i]) ((cc.map (·.w)).map cs) := by
  have hlen := T1.ik.len
  rw [List.length_map] at hlen
  refine fst_lc (tl_ixT e0 (.inl (.inl T1.ea)) rfl (.inl (.inl T1.ek))) (by rw [List.length_map, hlen]) (by omega) hk fun j x z hx hz => ?_
  obtain ⟨c, p, u, v, hc, rfl, ep, _⟩ := con_at T1.ik hx
  rw [List.getElem?_map, hc] at hz
  cases hz
  exact ⟨p, _, rfl, ep⟩
theorem TabH.fmw {K : PySem.W.Frag} {σ : L2.St} {mk : List PV} (T1 : TabH H a m f k vk mk F cc) (e0 : σ[0]? = some (some (.ref a))) :
    LxE σ H (tCB (fun xs H Q => ∃ p ys, xs = [.ref p] ∧ (SqL K H p ys ∨ SqT K H p ys) ∧ ∀ l, H l = none → Q (.ref l) (upd H l (.lst ys))) (tCons (tOp (rIxT K) (tVar 0) (tC (.int 2))) tNil)) (F.map cs) :=
  lx_listT (tl_ixT e0 (.inl (.inl T1.ea)) rfl (.inl (.inl T1.ef))) (sv_map F).symm
theorem mkn_len (n : Nat) : (mkn n).length ≤ 4 := by rw [mkn, List.length_map]; exact List.length_take_le' ..
end
theorem go_ret2 {σ : L2.St} {H : Hp} {te : TE} {ls : List (List Nat)} {D : Ends} (h : LxE σ H te ls) (q : ∀ p H1, Same H H1 → H1 p = some (.lst (ls.map SV)) → D.rt (.ref p) H1) : tRet te D σ H := h H _ (.refl _) q
def wordsT (n : Nat) (F : List Str) (cc : List Con) : List Str := mkn n ++ F ++ cc.map (·.w)
def spWordsOf : Sp := fun vs H Q _ => ∃ (a m f k : Addr) (vk : List V) (F : List Str) (cc : List Con) (n : Nat), vs = [.ref a] ∧ TabH H a m f k vk ((MK.take n).map mkQ) F cc ∧ F.length ≤ 4 ∧ cc.length ≤ 12 ∧ ∀ p H', Same H H' → H' p = some (.lst ((wordsT n F cc).map V.str)) → Q (.ref p) H'
theorem ok_words_of (T : Txt K mg)  : FnOk P w K mg base CX0 1 T.a_words_of T.d_words_of ["table"] spWordsOf := by
  refine T.F_words_of.ok sc_words_of (fun vs H Q E h => ?_) (fun cdv A outer s H vs Q E hr h => ?_)
  · obtain ⟨a, m, f, k, vk, F, cc, n, rfl, _⟩ := h; rfl
  · obtain ⟨a, m, f, k, vk, F, cc, n, rfl, T1, F4, c12, q⟩ := h
    refine ⟨_, (pss_cons (ps_setLc (i := 1) (own := [("maker", 3)]) (g := (gName 3)) (tt := tYes) rfl sc_words_of.nd rfl rfl (sw_true rfl rfl rfl (by decide +kernel)) (pi_tup (pe_ix ix_tup (pv 0) pe_int (fun _ _ => rfl))) (blkOk_by (own := [("maker", 3)]) (N := ["table", "makers", "constructors", "maker", "constructor"]) (sc := defScope s_words_of) (by decide +kernel)) (fun _ _ _ _ _ => (pg_name (i := 3) sc_words_of.nd rfl (Or.inl rfl))) (fun _ _ _ _ _ => pts_nil) (fun _ _ _ _ _ => (pe_ix (ixTK (K := K)) (pv 3) pe_int (fun _ _ => rfl))))
    (pss_cons (ps_setLc (i := 2) (own := [("constructor", 4)]) (g := (gName 4)) (tt := tYes) rfl sc_words_of.nd rfl rfl (sw_true rfl rfl rfl (by decide +kernel)) (pi_tup (pe_ix ix_tup (pv 0) pe_int (fun _ _ => rfl))) (blkOk_by (own := [("constructor", 4)]) (N := ["table", "makers", "constructors", "maker", "constructor"]) (sc := defScope s_words_of) (by decide +kernel)) (fun _ _ _ _ _ => (pg_name (i := 4) sc_words_of.nd rfl (Or.inl rfl))) (fun _ _ _ _ _ => pts_nil) (fun _ _ _ _ _ => (pe_ix (ixTK (K := K)) (pv 4) pe_int (fun _ _ => rfl))))
    (pss_one (ps_ret (pe_op op_cat (pe_op op_cat (pv 1) (pe_callTy call_list_of (by rfl) T.z_list (by decide +kernel) (pa_cons (pe_ix ix_tup (pv 0) pe_int (fun _ _ => rfl)) pa_nil))) (pv 2)))))), ?_⟩
    have hn := mkn_len n
    refine go_lx (T1.mkw rfl fun _ => rfl) fun p1 H1 s1 e1 => ?_
    have T2 := T1.same s1
    refine go_lx (T2.cnw c12 rfl fun _ => rfl) fun p2 H2 s2 e2 => ?_
    have T3 := T2.same s2
    refine go_ret2 (lx_cat (lx_cat (lx_var (ls := (mkn n).map cs) rfl (s2 _ _ e1)) (T3.fmw rfl) (by rw [List.length_map, List.length_map]; omega)) (lx_var (ls := (cc.map (·.w)).map cs) rfl e2) (by rw [List.length_append, List.length_map, List.length_map, List.length_map, List.length_map]; omega)) fun p3 H3 s3 e3 => ?_
    refine q p3 H3 ((s1.trans s2).trans s3) ?_
    rw [e3, wordsT, List.map_append, List.map_append, sv_map, sv_map, sv_map, List.map_append, List.map_append]
end
end Kx
namespace Kx
open PySem PySem.Spec PyProof.Rows L2
section
variable {P : Program} {w : World} {K : PySem.W.Frag} {mg : Str → Option Value} {base : Heap}
set_option pp.maxSteps 900
set_option maxHeartbeats 2000000
/-! ### the integers; what the law asks of a table -/
def LI : List Int := [12, 5, 4, 16, 3, 4, 4, 12, 12, 6, 30, 6000, 40]
def spInts : Sp := fun vs H Q _ => vs = [] ∧ ∀ p H', Same H H' → H' p = some (.lst (LI.map V.int)) → Q (.ref p) H'
theorem ok_law_integers (T : Txt K mg)  : FnOk P w K mg base CX0 1 T.a_law_integers T.d_law_integers [] spInts := by
  refine T.F_law_integers.ok sc_law_integers (fun vs H Q E h => ?_) (fun cdv A outer s H vs Q E hr h => ?_)
  · obtain ⟨rfl, _⟩ := h; rfl
  · obtain ⟨rfl, q⟩ := h
    refine ⟨_, (pss_cons (ps_set (i := 0) sc_law_integers.nd rfl (Or.inl rfl) (pe_lst (pa_cons (pe_glob (by rfl) T.g_MOST_NAME (show RelV (V.int 12) (.int 12 T.t_MOST_NAME) from ⟨_, rfl⟩)) (pa_cons (pe_glob (by rfl) T.g_MOST_MAKERS (show RelV (V.int 5) (.int 5 T.t_MOST_MAKERS) from ⟨_, rfl⟩)) (pa_cons (pe_glob (by rfl) T.g_MOST_FAMILIES (show RelV (V.int 4) (.int 4 T.t_MOST_FAMILIES) from ⟨_, rfl⟩)) (pa_cons (pe_glob (by rfl) T.g_MOST_CONSTRUCTORS (show RelV (V.int 16) (.int 16 T.t_MOST_CONSTRUCTORS) from ⟨_, rfl⟩)) (pa_cons (pe_glob (by rfl) T.g_MOST_PARTS (show RelV (V.int 3) (.int 3 T.t_MOST_PARTS) from ⟨_, rfl⟩)) (pa_cons (pe_glob (by rfl) T.g_MOST_NAMES (show RelV (V.int 4) (.int 4 T.t_MOST_NAMES) from ⟨_, rfl⟩)) (pa_cons (pe_glob (by rfl) T.g_MOST_DEEP (show RelV (V.int 4) (.int 4 T.t_MOST_DEEP) from ⟨_, rfl⟩)) pa_nil)))))))))
    (pss_one (ps_ret (pe_op op_cat (pv 0) (pe_lst (pa_cons (pe_glob (by rfl) T.g_MOST_FUNCTIONS (show RelV (V.int 12) (.int 12 T.t_MOST_FUNCTIONS) from ⟨_, rfl⟩)) (pa_cons (pe_glob (by rfl) T.g_MOST_CLAUSES (show RelV (V.int 12) (.int 12 T.t_MOST_CLAUSES) from ⟨_, rfl⟩)) (pa_cons (pe_glob (by rfl) T.g_MOST_PATTERN (show RelV (V.int 6) (.int 6 T.t_MOST_PATTERN) from ⟨_, rfl⟩)) (pa_cons (pe_glob (by rfl) T.g_MOST_BODY (show RelV (V.int 30) (.int 30 T.t_MOST_BODY) from ⟨_, rfl⟩)) (pa_cons (pe_glob (by rfl) T.g_MOST_TEXT (show RelV (V.int 6000) (.int 6000 T.t_MOST_TEXT) from ⟨_, rfl⟩)) (pa_cons (pe_glob (by rfl) T.g_MOST_OPEN (show RelV (V.int 40) (.int 40 T.t_MOST_OPEN) from ⟨_, rfl⟩)) pa_nil))))))))))), ?_⟩
    refine ⟨(by show 7 ≤ sizeLine; decide), fun p hp => ⟨_, rfl, (by show 6 ≤ sizeLine; decide), fun p2 hp2 => ?_⟩⟩
    have s1 := same_upd hp (.lst [.int 12, .int 5, .int 4, .int 16, .int 3, .int 4, .int 4])
    have s2 := same_upd hp2 (.lst [.int 12, .int 12, .int 6, .int 30, .int 6000, .int 40])
    refine ⟨p, p2, _, _, rfl, rfl, s2 _ _ upd_same, upd_same, (by show 7 + 6 ≤ sizeLine; decide), fun p3 hp3 => ?_⟩
    exact q p3 _ ((s1.trans s2).trans (same_upd hp3 _)) upd_same
theorem ints_is {H : Hp} : ∀ ns : List Int, IsL H (ns.map V.int) (ns.map PV.int)
  | [] => .nil
  | n :: r => .cons (.int n) (ints_is r)
theorem ints_dep : ∀ ns : List Int, depL (ns.map PV.int) ≤ 1
  | [] => by simp [depL]
  | n :: r => by have := ints_dep r; simp only [List.map_cons, depL, dep]; omega
theorem strs_dep : ∀ ns : List Str, depL (ns.map PV.str) ≤ 1
  | [] => by simp [depL]
  | n :: r => by have := strs_dep r; simp only [List.map_cons, depL, dep]; omega
theorem con_dep {F : List Str} {c : Con} (h : RowG F ⟨c.ps, c.ix⟩) : dep (conPV c) ≤ 10 := by
  have h1 : depL (c.ps.map prPV) ≤ 5 := depL_le fun t ht => by
    obtain ⟨p, hp, rfl⟩ := List.mem_map.mp ht
    have := (h.ps p hp).2
    simp only [prPV, dep, depL]
    omega
  have h2 : dep c.ix ≤ 3 := h.ix
  simp only [conPV, dep, depL]
  omega
theorem con_word {F : List Str} {cc : List Con} (G : ConsG F cc) (l : cc.length ≤ 12) {c : Con} (h : c ∈ cc) : ∃ j, j < 12 ∧ cc[j]? = some c ∧ c.w = kw j := by
  obtain ⟨j, hj⟩ := List.getElem?_of_mem h
  have := (List.getElem?_eq_some_iff.mp hj).1
  exact ⟨j, by omega, hj, G.word j c hj⟩
theorem conOf_self {F : List Str} {cc : List Con} (G : ConsG F cc) (l : cc.length ≤ 12) {c : Con} (h : c ∈ cc) : conOf cc c.w = some c := by
  cases e : conOf cc c.w with
  | none =>
    have := List.find?_eq_none.mp e c h
    simp at this
  | some d =>
    have h1 := List.find?_some e
    have h2 := List.mem_of_find?_eq_some e
    have h3 : d.w = c.w := of_decide_eq_true (by simpa using h1)
    obtain ⟨i, hi, ei, wi⟩ := con_word G l h
    obtain ⟨j, hj, ej, wj⟩ := con_word G l h2
    have : i = j := kw_inj i hi j hj (by rw [← wi, ← wj, h3])
    subst this
    rw [ei] at ej
    cases ej; rfl
def MW4 : List Str := ["z", "s", "p", "o"]
def EW2 : List Str := ["n", "K99"]
theorem kw_not : ∀ j, j < 12 → ∀ z ∈ MW4 ++ fams ++ EW2, kw j ≠ z := by decide +kernel
theorem mkn_sub : ∀ n, n ≤ 4 → ∀ z ∈ mkn n, z ∈ MW4 := by decide +kernel
theorem mkn_ok : ∀ n, n ≤ 4 → ∀ z ∈ mkn n, sok z = true := by decide +kernel
theorem conOf_none {F : List Str} {cc : List Con} (G : ConsG F cc) (l : cc.length ≤ 12) {z : Str} (h : z ∈ MW4 ++ fams ++ EW2) : conOf cc z = none :=
  List.find?_eq_none.mpr fun c hc => by
    obtain ⟨j, hj, _, wj⟩ := con_word G l hc
    have := kw_not j hj z h
    rw [← wj] at this
    simpa using this
theorem MkOk.at {mk : List PV} (h : MkOk mk) : ∃ n, n ≤ 4 ∧ mk = (MK.take n).map mkQ := h
theorem go_c2 {r : List V → Hp → VK → Prop} {te : TE} {σ : L2.St} {H : Hp} {Q : VK} (h : te σ H fun v H1 => r [v] H1 Q) : tCB r (tCons te tNil) σ H Q := h
theorem go_op2 {σ : L2.St} {H : Hp} {te : TE} {ls : List (List Nat)} {Q : VK} (h : LxE σ H te ls) (q : ∀ p H1, Same H H1 → H1 p = some (.lst (ls.map SV)) → Q (.ref p) H1) : te σ H Q := h H _ (.refl _) q
def spTold : Sp := fun vs H Q _ => ∃ (a m f k : Addr) (vk : List V) (mk : List PV) (F : List Str) (cc : List Con), vs = [.ref a] ∧ TabH H a m f k vk mk F cc ∧ MkOk mk ∧ TabG F cc ∧ ∀ H', Same H H' → Q (.bl true) H'
theorem ok_law_table_told (T : Txt K mg) (G_words_of : FnOk P w K mg base CX0 1 T.a_words_of T.d_words_of ["table"] spWordsOf) (G_constructors_of : FnOk P w K mg base CX0 1 T.a_constructors_of T.d_constructors_of ["table", "family"] spConsOf) (G_constructor_of : FnOk P w K mg base CX0 1 T.a_constructor_of T.d_constructor_of ["table", "word"] spConOf) (G_parts_of : FnOk P w K mg base CX0 1 T.a_parts_of T.d_parts_of ["table", "maker"] spPartsOf) : FnOk P w K mg base CX0 2 T.a_law_table_told T.d_law_table_told ["table"] spTold := by
  refine T.F_law_table_told.ok sc_law_table_told (fun vs H Q E h => ?_) (fun cdv A outer s H vs Q E hr h => ?_)
  · obtain ⟨a, m, f, k, vk, mk, F, cc, rfl, _⟩ := h; rfl
  · obtain ⟨a, m, f, k, vk, mk, F, cc, rfl, T1, ⟨n, n4, rfl⟩, G, q⟩ := h
    have hr_words_of : Room 1 _ := hr
    have hr_constructors_of : Room 1 _ := hr
    have hr_constructor_of : Room 1 _ := hr
    have hr_parts_of : Room 1 _ := hr
    refine ⟨_, (pss_cons (ps_for PassesOwn.never rfl (pi_tup (pe_ix ix_tup (pv 0) pe_int (fun _ _ => rfl))) (pg_tup rfl (pgs_cons (pg_name (i := 1) sc_law_table_told.nd rfl (Or.inl rfl)) (pgs_cons (pg_name (i := 2) sc_law_table_told.nd rfl (Or.inl rfl)) pgs_nil)))
    (pss_one (ps_if (pt_cmpR op_ne (pe_call G_parts_of hr_parts_of rfl T.m_parts_of T.F_parts_of.kp T.b_parts_of .nil pass0 (pa_cons (pv 0) (pa_cons (pv 1) pa_nil))) (pv 2) (nomark _)) (pss_one (ps_ret pe_bl)) pss_nil)))
    (pss_cons (ps_for PassesOwn.never rfl (pi_tup (pe_ix ix_tup (pv 0) pe_int (fun _ _ => rfl))) (pg_name (i := 3) sc_law_table_told.nd rfl (Or.inl rfl))
    (pss_one (ps_if (pt_cmpR (neP (u200 hr)) (pe_call G_constructor_of hr_constructor_of rfl T.m_constructor_of T.F_constructor_of.kp T.b_constructor_of .nil pass0 (pa_cons (pv 0) (pa_cons (pe_ix ix_tup (pv 3) pe_int (fun _ _ => rfl)) pa_nil))) (pv 3) (nomark _)) (pss_one (ps_ret pe_bl)) pss_nil)))
    (pss_cons (ps_for PassesOwn.never rfl (pi_list (pe_op op_cat (pe_op op_cat (pe_lc (own := [("maker", 5)]) (g := (gName 5)) (tt := tYes) rfl sc_law_table_told.nd (pi_tup (pe_ix ix_tup (pv 0) pe_int (fun _ _ => rfl))) (blkOk_by (own := [("maker", 5)]) (N := ["table", "word", "parts", "row", "family", "maker"]) (sc := defScope s_law_table_told) (by decide +kernel)) (fun _ _ _ _ _ => (pg_name (i := 5) sc_law_table_told.nd rfl (Or.inl rfl))) (fun _ _ _ _ _ => pts_nil) (fun _ _ _ _ _ => (pe_ix (ixTK (K := K)) (pv 5) pe_int (fun _ _ => rfl)))) (pe_callTy call_list_of (by rfl) T.z_list (by decide +kernel) (pa_cons (pe_ix ix_tup (pv 0) pe_int (fun _ _ => rfl)) pa_nil))) (pe_lst (pa_cons pe_str (pa_cons pe_str pa_nil))))) (pg_name (i := 1) sc_law_table_told.nd rfl (Or.inl rfl))
    (pss_one (ps_if (pt_cmpR op_notN (pe_call G_constructor_of hr_constructor_of rfl T.m_constructor_of T.F_constructor_of.kp T.b_constructor_of .nil pass0 (pa_cons (pv 0) (pa_cons (pv 1) pa_nil))) pe_non (nomark _)) (pss_one (ps_ret pe_bl)) pss_nil)))
    (pss_cons (ps_for PassesOwn.never rfl (pi_tup (pe_ix ix_tup (pv 0) pe_int (fun _ _ => rfl))) (pg_name (i := 4) sc_law_table_told.nd rfl (Or.inr rfl))
    (pss_one (ps_if (pt_cmpR (neP (u200 hr)) (pe_call G_constructors_of hr_constructors_of rfl T.m_constructors_of T.F_constructors_of.kp T.b_constructors_of .nil pass0 (pa_cons (pv 0) (pa_cons (pv 4) pa_nil))) (pe_callTy call_tuple_of (by rfl) T.z_tuple (by decide +kernel) (pa_cons (pe_lc (own := [("row", 3)]) (g := (gName 3)) rfl sc_law_table_told.nd (pi_tup (pe_ix ix_tup (pv 0) pe_int (fun _ _ => rfl))) (blkOk_by (own := [("row", 3)]) (N := ["table", "word", "parts", "row", "family", "maker"]) (sc := defScope s_law_table_told) (by decide +kernel)) (fun _ _ _ _ _ => (pg_name (i := 3) sc_law_table_told.nd rfl (Or.inl rfl))) (fun _ _ _ _ _ => pts_one (pt_cmpR op_eq (pe_ix (ixTK (K := K)) (pv 3) pe_int (fun _ _ => rfl)) (pv 4) (nomark _))) (fun _ _ _ _ _ => (pv 3))) pa_nil)) (nomark _)) (pss_one (ps_ret pe_bl)) pss_nil)))
    (pss_one (ps_ret (pe_cmpR (eqP (u200 hr)) (pe_call G_words_of hr_words_of rfl T.m_words_of T.F_words_of.kp T.b_words_of .nil pass0 (pa_cons (pv 0) pa_nil)) (pe_op op_cat (pe_op op_cat (pe_lc (own := [("row", 3)]) (g := (gName 3)) (tt := tYes) rfl sc_law_table_told.nd (pi_tup (pe_ix ix_tup (pv 0) pe_int (fun _ _ => rfl))) (blkOk_by (own := [("row", 3)]) (N := ["table", "word", "parts", "row", "family", "maker"]) (sc := defScope s_law_table_told) (by decide +kernel)) (fun _ _ _ _ _ => (pg_name (i := 3) sc_law_table_told.nd rfl (Or.inl rfl))) (fun _ _ _ _ _ => pts_nil) (fun _ _ _ _ _ => (pe_ix (ixTK (K := K)) (pv 3) pe_int (fun _ _ => rfl)))) (pe_callTy call_list_of (by rfl) T.z_list (by decide +kernel) (pa_cons (pe_ix ix_tup (pv 0) pe_int (fun _ _ => rfl)) pa_nil))) (pe_lc (own := [("row", 3)]) (g := (gName 3)) (tt := tYes) rfl sc_law_table_told.nd (pi_tup (pe_ix ix_tup (pv 0) pe_int (fun _ _ => rfl))) (blkOk_by (own := [("row", 3)]) (N := ["table", "word", "parts", "row", "family", "maker"]) (sc := defScope s_law_table_told) (by decide +kernel)) (fun _ _ _ _ _ => (pg_name (i := 3) sc_law_table_told.nd rfl (Or.inl rfl))) (fun _ _ _ _ _ => pts_nil) (fun _ _ _ _ _ => (pe_ix (ixTK (K := K)) (pv 3) pe_int (fun _ _ => rfl))))) (nomark _)))))))), ?_⟩
    have c12 := G.len.2
    have hlen := T1.ik.len
    rw [List.length_map] at hlen
    obtain ⟨vm, tf, im⟩ := T1.em
    -- the makers
    refine ⟨_, rfl, a, _, _, _, rfl, rfl, .inl (.inl T1.ea), atI_nat (j := 1) rfl, m, rfl, ⟨_, tf.sq⟩, ?_⟩
    refine for_tup (K := K) (a := m) (xs := vm) (fun i σ H' => ∃ y1 y2, σ = [some (.ref a), y1, y2, none, none, none] ∧ Same H H') ?_ ?_ ?_ ?_
    · exact ⟨_, _, rfl, .refl _⟩
    · exact fun i σ H' _ ⟨_, _, _, s⟩ => (tf.same s).sq
    · rintro i x σ H' hx ⟨y1, y2, rfl, s⟩
      obtain ⟨q1, p, hq, rfl, ep⟩ := mk_at (im.same s) hx
      refine ⟨p, _, rfl, .inl (.inl ep), rfl, _, _, rfl, _, _, rfl, rfl, ?_⟩
      refine ⟨_, rfl, _, rfl, a, m, f, k, vk, F, cc, n, q1.1, q1.2, rfl, T1.same s, n4, List.mem_of_getElem? hq, fun H2 s2 => ?_⟩
      refine ⟨_, rfl, rfl, _, rfl, ?_⟩
      rw [show (!decide (V.int q1.2 = V.int q1.2)) = false by simp]
      exact iteF ⟨_, _, rfl, s.trans s2⟩
    rintro σ H1 ⟨y1, y2, rfl, s1⟩
    -- the constructors
    refine ⟨_, rfl, a, _, _, _, rfl, rfl, .inl (.inl (s1 _ _ T1.ea)), atI_nat (j := 3) rfl, k, rfl, ⟨_, .inl (.inl (s1 _ _ T1.ek))⟩, ?_⟩
    refine for_tup (K := K) (a := k) (xs := vk) (fun i σ H' => ∃ y3, σ = [some (.ref a), y1, y2, y3, none, none] ∧ Same H H') ?_ ?_ ?_ ?_
    · exact ⟨_, rfl, s1⟩
    · exact fun i σ H' _ ⟨_, _, s⟩ => .inl (.inl (s _ _ T1.ek))
    · rintro i x σ H' hx ⟨y3, rfl, s⟩
      obtain ⟨c, p, u, v, hc, rfl, ep, it⟩ := con_at (T1.ik.same s) hx
      have hm := List.mem_of_getElem? hc
      refine ⟨_, rfl, _, rfl, p, _, _, _, rfl, rfl, .inl (.inl ep), atI_nat (j := 0) rfl, a, m, f, k, vk, _, F, cc, c.w, rfl, T1.same s, fun v' h1 _ => ?_⟩
      refine ⟨_, rfl, ne_same (h1 c (conOf_self G.cons c12 hm)) it (Nat.le_trans (con_dep (G.cons.row c hm).1) (by decide)) ⟨_, rfl, iteF ⟨_, rfl, s⟩⟩⟩
    rintro σ H2 ⟨y3, rfl, s2⟩
    -- no constructors
    have T2 := T1.same s2
    refine go_forL (lx_cat (lx_cat (T2.mkw rfl fun _ => rfl) (T2.fmw rfl) (by rw [List.length_map, List.length_map]; have := mkn_len n; have := G.fl.2; omega)) (lx_lst (ls := EW2.map cs) (ts_cons tx_lit (ts_cons tx_lit ts_nil)) (by decide)) (by rw [List.length_append, List.length_map, List.length_map, List.length_map]; have := mkn_len n; have := G.fl.2; have : EW2.length = 2 := rfl; omega)) fun pw H3 s3 e3 => ?_
    have ew : ((mkn n).map cs ++ F.map cs ++ EW2.map cs).map SV = (mkn n ++ F ++ EW2).map V.str := by rw [List.map_append, List.map_append, sv_map, sv_map, sv_map, List.map_append, List.map_append]
    rw [ew] at e3
    refine for_list (K := K) (a := pw) (xs := (mkn n ++ F ++ EW2).map V.str) (fun i σ H' => ∃ y1, σ = [some (.ref a), y1, y2, y3, none, none] ∧ Same H3 H') ?_ ?_ ?_ ?_
    · exact ⟨_, rfl, .refl _⟩
    · exact fun i σ H' _ ⟨_, _, s⟩ => SqL.of (s _ _ e3)
    · rintro i x σ H' hx ⟨y1, rfl, s⟩
      obtain ⟨z, hz, rfl⟩ := lit_get hx
      have hm : z ∈ MW4 ++ fams ++ EW2 := by
        rcases List.mem_append.mp (List.mem_of_getElem? hz) with h | h
        · rcases List.mem_append.mp h with h | h
          · exact List.mem_append_left _ (List.mem_append_left _ (mkn_sub n n4 z h))
          · exact List.mem_append_left _ (List.mem_append_right _ (G.ok z h))
        · exact List.mem_append_right _ h
      refine ⟨_, rfl, _, rfl, a, m, f, k, vk, _, F, cc, z, rfl, T2.same (s3.trans s), fun v' _ h2 => ?_⟩
      rw [h2 (conOf_none G.cons c12 hm)]
      exact ⟨rfl, _, rfl, iteF ⟨_, rfl, s⟩⟩
    rintro σ H4 ⟨y1, rfl, s4⟩
    have T4 := T2.same (s3.trans s4)
    -- those of a family
    refine ⟨_, rfl, a, _, _, _, rfl, rfl, .inl (.inl T4.ea), atI_nat (j := 2) rfl, f, rfl, ⟨_, .inl (.inl T4.ef)⟩, ?_⟩
    refine for_tup (K := K) (a := f) (xs := F.map V.str) (fun i σ H' => ∃ y4, σ = [some (.ref a), y1, y2, y3, y4, none] ∧ Same H4 H') ?_ ?_ ?_ ?_
    · exact ⟨_, rfl, .refl _⟩
    · exact fun i σ H' _ ⟨_, _, s⟩ => .inl (.inl (s _ _ T4.ef))
    · rintro i x σ H' hx ⟨y4, rfl, s⟩
      obtain ⟨z, hz, rfl⟩ := lit_get hx
      refine ⟨_, rfl, _, rfl, a, m, f, k, vk, _, F, cc, z, rfl, T4.same s, c12, fun v' H5 s5 i5 => ?_⟩
      refine go_c2 (fam_lc (T4.same (s.trans s5)) c12 rfl (fun _ => rfl) (fun _ => rfl) fun D vs H6 nD s6 e6 i6 => ⟨D, vs, rfl, .inl ⟨SqL.of e6, fun l hl => ?_⟩⟩)
      have s7 := s6.trans (same_upd hl (.tup vs))
      refine ne_same (i5.same s7) (.tup upd_same (i6.same (same_upd hl _))) ?_ ⟨_, rfl, iteF ⟨_, rfl, (s.trans s5).trans s7⟩⟩
      have : depL ((ofFam cc z).map conPV) ≤ 10 := depL_le fun t ht => by
        obtain ⟨c, hc, rfl⟩ := List.mem_map.mp ht
        exact con_dep (G.cons.row c (List.mem_filter.mp hc).1).1
      simp only [dep]; omega
    rintro σ H5 ⟨y4, rfl, s5⟩
    have T5 := T4.same s5
    have s25 := ((s2.trans s3).trans s4).trans s5
    refine ⟨_, rfl, a, m, f, k, vk, F, cc, n, rfl, T5, G.fl.2, c12, fun p6 H6 s6 e6 => ?_⟩
    have T6 := T5.same s6
    refine go_op2 (lx_cat (lx_cat (T6.mkw rfl fun _ => rfl) (T6.fmw rfl) (by rw [List.length_map, List.length_map]; have := mkn_len n; have := G.fl.2; omega)) (T6.cnw c12 rfl fun _ => rfl) (by rw [List.length_append, List.length_map, List.length_map, List.length_map, List.length_map]; have := mkn_len n; have := G.fl.2; omega)) fun p7 H7 s7 e7 => ?_
    have oks : ∀ z ∈ wordsT n F cc, sok z = true := fun z hz => by
      rcases List.mem_append.mp hz with h | h
      · rcases List.mem_append.mp h with h | h
        · exact mkn_ok n n4 z h
        · exact fams_ok z (G.ok z h)
      · obtain ⟨c, hc, rfl⟩ := List.mem_map.mp h
        obtain ⟨j, hj, _, wj⟩ := con_word G.cons c12 hc
        rw [wj]; exact kw_ok j hj
    have e7' : H7 p7 = some (.lst ((wordsT n F cc).map V.str)) := by
      rw [e7, wordsT, List.map_append, List.map_append, sv_map, sv_map, sv_map, List.map_append, List.map_append]
    exact eq_lists (SqL.of (s7 _ _ e6)) (SqL.of e7') (strs_is oks) (strs_is oks) (by have := strs_dep (wordsT n F cc); omega) (q H7 (s25.trans (s6.trans s7)))
end
end Kx
namespace Kx
open PySem PySem.Spec PyProof.Rows L2
section
variable {P : Program} {w : World} {K : PySem.W.Frag} {mg : Str → Option Value} {base : Heap}
set_option pp.maxSteps 900
/-! ### what a text is told to be -/
def GoodT (z : Str) : Prop := ∃ rs : List Rw, z = mkS (fullT (rs.map Rw.full)) ∧ rs ≠ [] ∧ rs.length ≤ 1000 ∧ (fullT (rs.map Rw.full)).length ≤ 6000 ∧ (∀ r ∈ rs, RwOk r) ∧ ItsOk s0 (itsR rs) ∧ DsOk ((itsR rs).foldl stp s0)
def BadT (z : Str) (n : Int) : Prop := (n = 0 ∧ 6000 < z.length ∧ z.length ≤ 20000) ∨ ∃ (rs : List Rw) (b : Rw), z = mkS (fullT ((rs ++ [b]).map Rw.full)) ∧ n = (rs.length : Int) + 1 ∧ rs.length ≤ 900 ∧ (fullT ((rs ++ [b]).map Rw.full)).length ≤ 6000 ∧ (∀ r ∈ rs, RwOk r) ∧ ItsOk s0 (itsR rs) ∧ BadRw b
/-- read answers so: no fault, or a fault at that line -/
def Due (z : Str) (n : Int) : Prop := (n = -1 ∧ GoodT z) ∨ BadT z n
def spLine : Sp := fun vs H Q _ => ∃ (z : Str) (n : Int), vs = [.str z] ∧ Due z n ∧ ∀ H', Same H H' → Q (.int n) H'
theorem ok_law_line (T : Txt K mg) (G_read : FnOk P w K mg base (L2.CX P w) 99 T.a_read T.d_read ["text"] (spReadX T.c_BadText)) : FnOk P w K mg base CX0 100 T.a_law_line T.d_law_line ["text"] spLine := by
  refine T.F_law_line.ok sc_law_line (fun vs H Q E h => ?_) (fun cdv A outer s H vs Q E hr h => ?_)
  · obtain ⟨z, n, rfl, _⟩ := h; rfl
  · obtain ⟨z, n, rfl, hD, q⟩ := h
    refine ⟨_, pss_cons (ps_try_as (i := 1) (c := .ref T.c_BadText) rfl rfl sc_law_line.nd rfl rfl ⟨rfl, by decide, .inl T.low_BadText.name⟩ takes0
      (fun W pn xe tk _ => pss_one (ps_expr (pe_callS G_read hr rfl T.m_read T.F_read.kp T.b_read (fun σ => passAt tk σ) (pa_cons (pv 0) pa_nil))))
      (fun a oe cls d pn hz hf => pss_one (ps_ret (pe_lineOf T.low_BadText hz hf (pv 1))))) (pss_one (ps_ret (pe_un un_neg pe_int))), ?_⟩
    rcases hD with ⟨rfl, rs, rfl, h1, h2, h3, h4, h5, h6⟩ | hB
    · refine ⟨_, rfl, .inl ⟨rs, rfl, h1, h2, h3, h4, h5, h6, fun v H' s' => ?_⟩⟩
      exact ⟨1, rfl, q _ s'⟩
    · refine ⟨_, rfl, .inr ⟨z, n, rfl, fun d H' ed s' => ?_, hB⟩⟩
      exact ⟨true, T.low_BadText.caught, fun _ a ha => ⟨_, rfl, rfl, rfl, d, _, rfl, ed, q _ s'⟩, fun z => Bool.noConfusion z⟩
theorem okx_read' (T : Txt K mg) (dg : FnOk P w K mg base CX0 98 T.a_drafted T.d_drafted ["text", "asks"] (spDrafted T.c_Draft)) (db : FnOk P w K mg base (L2.CX P w) 98 T.a_drafted T.d_drafted ["text", "asks"] (spDraftedX T.c_Draft T.c_BadText))
    (tb : FnOk P w K mg base CX0 48 T.a_table T.d_table ["draft"] (spRTable T.c_Draft)) (pg : FnOk P w K mg base CX0 48 T.a_program T.d_program ["draft"] (spRProg T.c_Draft)) : FnOk P w K mg base (L2.CX P w) 99 T.a_read T.d_read ["text"] (spReadX T.c_BadText) :=
  FnOk.or (FnOk.wide (ok_read T dg tb pg)) (okx_read T db tb pg)
end
end Kx
set_option maxHeartbeats 2000000
/-! a text * n -/
namespace Kx
open PySem PySem.Spec PyProof.Rows L2
def repL (n : Nat) (l : List Nat) : List Nat := (List.replicate n l).flatten
theorem repL_len (n : Nat) (l : List Nat) : (repL n l).length = n * l.length := by
  unfold repL
  rw [List.length_flatten, List.map_replicate, List.sum_replicate_nat]
def rMulT : R2 := fun x y H Q => ∃ (l : List Nat) (n : Nat), x = SV l ∧ y = .int n ∧ l ≠ [] ∧ n ≤ 10000 ∧ n * l.length ≤ 10000 ∧ Q (SV (repL n l)) H
theorem rep_eq (l : List Nat) (n : Nat) : (⟨List.foldl (fun x y => x ++ y) #[] (List.replicate n (mkS l).cps)⟩ : Str) = mkS (repL n l) := cs_inj (by
  rw [cs_mk]
  show (List.foldl (fun x y => x ++ y) #[] (List.replicate n (mkS l).cps)).toList = _
  rw [fold_app]
  show [] ++ (List.replicate n (cs (mkS l))).flatten = _
  rw [List.nil_append, cs_mk]; rfl)
theorem op_mulT {X : Cx} : OpR X (binaryOp .Mult) rMulT := by
  intro pins s σ H x y v u Q I rx ry h
  obtain ⟨l, n, rfl, rfl, ne, h1k, h10k, q⟩ := h
  have hl : (mkS l).length = l.length := mk_len l
  have l1 : 1 ≤ l.length := List.length_pos_iff.mpr ne
  obtain ⟨t, rfl⟩ := (show ∃ t, v = Value.str (mkS l) t from rx)
  obtain ⟨t2, rfl⟩ := (show ∃ t, u = Value.int n t from ry)
  refine wpAny_binaryOp_repeat (T := "str") (U := "int") (by decide) (fun s' => typeIs_str s' (mkS l) t) (fun s' => typeIs_int s' _ t2) noFill_str_mul F.fills_int_mul F.slot_int_rmul repeat_str F.slot_int_index.lookup
    (call_gives F.slot_int_rmul (typeIs_int s _ t2) F.entry_int_rmul (F.args_int_rmul_2 _ _) (AutoIntG1.int___rmul___int_str_0 _ t2 (mkS l) t) ⟨rfl, ?_⟩)
  refine call_gives F.slot_str_mul (typeIs_str s (mkS l) t) F.entry_str_mul (F.args_str_mul_2 _ _) (gives_str_mul (mkS l) n t t2 ?_ ?_ ?_) ?_
  · have h1 : decide ((n : Int) < -2 ^ 63) = false := decide_eq_false (by omega)
    have h3 : decide ((n : Int) ≥ 2 ^ 63) = false := decide_eq_false (by omega)
    rw [h1, h3]; rfl
  · intro hh _
    have hn : 1 ≤ n := by omega
    have : ((mkS l).length : Int) ≤ (2 ^ 63 - 1) / (n : Int) := by
      apply (Int.le_ediv_iff_mul_le (by omega)).mpr
      rw [hl]
      have : (l.length : Int) * (n : Int) ≤ 10000 := by
        have h := h10k
        rw [Nat.mul_comm] at h
        exact_mod_cast h
      omega
    show ¬ ((mkS l).length : Int) > (2 ^ 63 - 1) / (n : Int)
    omega
  · intro _ _
    show decide ((mkS l).length * ((n : Int)).toNat > sizeLine) = false
    rw [hl, Int.toNat_natCast]
    exact decide_eq_false (by rw [sizeLine_eq, Nat.mul_comm]; omega)
  · have hr : (repL n l).length ≤ sizeLine := by rw [repL_len, sizeLine_eq]; omega
    by_cases c1 : (n : Int) < 1
    · rw [if_pos c1]
      have : n = 0 := by omega
      subst this
      exact ⟨by show 0 ≤ sizeLine; exact Nat.zero_le _, .str (mkS (repL 0 l)), H, Inv.tok I _, ⟨_, rfl⟩, q⟩
    · rw [if_neg c1]
      by_cases c2 : (((n : Int) == 1) || ((mkS l).length == 0)) = true
      · rw [if_pos c2]
        have h2 : (n : Int) = 1 := by
          have e : ((mkS l).length == 0) = false := by rw [hl]; exact beq_eq_false_iff_ne.mpr (by omega)
          rw [e, Bool.or_false] at c2
          simpa using c2
        have : n = 1 := by omega
        subst this
        have e1 : repL 1 l = l := by simp [repL]
        rw [e1] at q
        exact ⟨.str (mkS l), H, Inv.tok I _, ⟨_, rfl⟩, q⟩
      · rw [if_neg c2, Int.toNat_natCast, rep_eq]
        refine ⟨?_, .str (mkS (repL n l)), H, Inv.tok I _, ⟨_, rfl⟩, q⟩
        show (mkS (repL n l)).length ≤ sizeLine
        rw [mk_len]; exact hr
end Kx
set_option maxHeartbeats 2000000
set_option pp.maxSteps 600
/-! The mathematics of the texts that the law writes. -/
namespace Kx
open PySem PySem.Spec PyProof.Rows L2
/-! ### a tree of one branch -/
def nest : Nat → PV
  | 0 => .str "m"
  | k + 1 => .tup [.str "n", nest k]
theorem repL_succ (k : Nat) (l : List Nat) : repL (k + 1) l = l ++ repL k l := by unfold repL; rw [List.replicate_succ, List.flatten_cons]
theorem repL_back (k : Nat) (l : List Nat) : repL (k + 1) l = repL k l ++ l := by unfold repL; rw [List.replicate_succ', List.flatten_append]; simp
theorem txt_nest : ∀ k, txt (nest k) = repL k [110, 40] ++ [109] ++ repL k [41]
  | 0 => by show cs "m" = _; decide
  | k + 1 => by
    have e : txt (nest (k + 1)) = [110, 40] ++ (txt (nest k) ++ [41]) := by
      simp only [nest, txt, txtL, List.isEmpty_cons, Bool.false_eq_true, if_false, sepJ]
      rfl
    rw [e, txt_nest k, repL_succ, repL_back k [41]]
    simp only [List.append_assoc]
def opT : Nat → List (List Nat)
  | 0 => []
  | k + 1 => [110] :: [40] :: opT k
theorem tok_nest : ∀ k, tokT (nest k) = opT k ++ ([109] :: List.replicate k [41])
  | 0 => by show [cs "m"] = _; decide
  | k + 1 => by
    have e : tokT (nest (k + 1)) = [110] :: [40] :: (tokT (nest k) ++ [[41]]) := by
      simp only [nest, tokT, tokTL, List.isEmpty_cons, Bool.false_eq_true, if_false, sepT]
      rfl
    rw [e, tok_nest k, opT, List.replicate_succ']
    simp only [List.append_assoc, List.cons_append]
theorem wd_n : WdP (cs "n") := by decide +kernel
theorem pc_nest : ∀ k, Pc (txt (nest k)) (tokT (nest k)) ∧ Ok (txt (nest k))
  | 0 => ⟨Pc.wd (by decide +kernel), (by decide +kernel : WdP (cs "m")).2.2⟩
  | k + 1 => by
    obtain ⟨h1, h2⟩ := pc_nest k
    have e : tokT (nest (k + 1)) = cs "n" :: [40] :: (tokT (nest k) ++ [[41]]) := by
      simp only [nest, tokT, tokTL, List.isEmpty_cons, Bool.false_eq_true, if_false, sepT]
    have e2 : txt (nest (k + 1)) = cs "n" ++ 40 :: (txt (nest k) ++ [41]) := by
      simp only [nest, txt, txtL, List.isEmpty_cons, Bool.false_eq_true, if_false, sepJ]
    rw [e, e2]
    exact ⟨Pc.par wd_n h1, .app wd_n.2.2 (.cons (by decide) (.app h2 (.cons (by decide) .nil)))⟩
theorem raw_nest : ∀ k, raw (nest k) = nest k
  | 0 => rfl
  | k + 1 => by
    have := raw_nest k
    simp only [nest, raw, rawL, List.isEmpty_cons, Bool.false_eq_true, if_false, this]
theorem dcl_nest {ws : List Str} (h : ("m" : Str) ∉ ws) : ∀ k, dcl ws (nest k) = nest k
  | 0 => by simp [nest, dcl, h]
  | k + 1 => by
    have := dcl_nest h k
    simp only [nest, dcl, dclL, this]
theorem rwt_nest : ∀ k n, k < n → RwT n (nest k)
  | 0, n + 1, _ => trivial
  | k + 1, n + 1, h => ⟨by simp, fun t ht => by rw [List.mem_singleton.mp ht]; exact rwt_nest k n (by omega)⟩
theorem dl_nest {ws : List Str} (h : ("m" : Str) ∉ ws) {k : Nat} (l : k < 45) : Dl ws (nest k) := by
  unfold Dl
  rw [raw_nest]
  exact ⟨rwt_nest k 45 l, dcl_nest h k⟩
theorem tr_nest : ∀ k, Tr [] ["m"] ["n"] k (nest k)
  | 0 => by show ("m" : Str) ∈ _; decide
  | k + 1 => .inr ⟨by simp, by decide, by simp, fun t ht => by rw [List.mem_singleton.mp ht]; exact tr_nest k⟩
theorem trw_nest {k : Nat} (l : k < 45) : TrW 45 (nest k) :=
  ⟨[], ["m"], ["n"], k, l, tr_nest k, fun z h => (by cases h), fun z h => (by rw [List.mem_singleton.mp h]; exact ⟨wkb_of (by decide +kernel), by decide +kernel⟩), fun z h => (by rw [List.mem_singleton.mp h]; exact ⟨wkb_of (by decide +kernel), by decide +kernel⟩)⟩
/-! ### what stands open -/
def Nb (c : Int) (U : List (List Nat)) : Prop := ∀ i, c + net (U.take i) ≤ 40
theorem net_app (a b : List (List Nat)) : net (a ++ b) = net a + net b := by
  unfold net
  rw [List.count_append, List.count_append]
  omega
theorem Nb.app {c : Int} {a b : List (List Nat)} (h : Nb c a) (k : Nb (c + net a) b) : Nb c (a ++ b) := fun i => by
  rw [List.take_append]
  rcases Nat.le_total i a.length with l | l
  · rw [show i - a.length = 0 by omega, List.take_zero, List.append_nil]
    exact h i
  · rw [List.take_of_length_le l, net_app]
    have := k (i - a.length)
    omega
theorem net_le (U : List (List Nat)) (i : Nat) : net (U.take i) ≤ (opn U : Int) := by
  have h1 : opn U = opn (U.take i) + opn (U.drop i) := by rw [← opn_app, List.take_append_drop]
  unfold net
  unfold opn at h1 ⊢
  omega
theorem Nb.of {c : Int} {U : List (List Nat)} (h : c + (opn U : Int) ≤ 40) : Nb c U := fun i => by have := net_le U i; omega
theorem Nb.ok {U : List (List Nat)} (h : Nb 0 U) : NetOk U := fun i => by have := h i; omega
theorem opT_cnt : ∀ k, (opT k).count [40] = k ∧ (opT k).count [41] = 0
  | 0 => ⟨rfl, rfl⟩
  | k + 1 => by
    obtain ⟨h1, h2⟩ := opT_cnt k
    simp [opT, h1, h2]
theorem opn_nest (k : Nat) : opn (tokT (nest k)) = k := by
  rw [tok_nest]
  unfold opn
  rw [List.count_append, (opT_cnt k).1, List.count_cons, List.count_replicate]
  simp
theorem net_nest (k : Nat) : net (tokT (nest k)) = 0 := by
  rw [tok_nest]
  unfold net
  rw [List.count_append, List.count_append, (opT_cnt k).1, (opT_cnt k).2, List.count_cons, List.count_cons, List.count_replicate, List.count_replicate]
  simp
theorem net_opT (k : Nat) : net (opT k) = k := by
  unfold net
  rw [(opT_cnt k).1, (opT_cnt k).2]
  omega
theorem opn_nest_bad {A R : List (List Nat)} (h : net A = 1) : Opn (A ++ (tokT (nest 40) ++ R)) := by
  refine ⟨(A ++ opT 40).length, ?_, ?_⟩
  · rw [tok_nest]; simp only [List.length_append, List.length_cons]; omega
  · rw [tok_nest, List.append_assoc, ← List.append_assoc A, List.take_left' rfl, net_app, h, net_opT]
    decide
/-! ### lines -/
structure KdL (k : Kd) : Prop where
  fam : WdP (cs k.fam)
  pc : Pc (txt k.tm) (tokT k.tm)
  ok : Ok (txt k.tm)
theorem KdL.p {k : Kd} (h : KdL k) : Pc (kdT k) (tokK k) := Pc.par h.fam h.pc
theorem KdL.o {k : Kd} (h : KdL k) : Ok (kdT k) := .app h.fam.2.2 (.cons (by decide) (.app h.ok (.cons (by decide) .nil)))
theorem ar_toksL {ps : List Kd} {md : Kd} (h : ∀ k ∈ ps, KdL k) (hm : KdL md) : Toks (arT ps md) (arTok ps md) := by
  have h1 : Toks (45 :: 62 :: 32 :: kdT md) ([45, 62] :: tokK md) := .arrow (.sp (toks_end hm.p))
  unfold arT arTok
  cases ps with
  | nil => exact h1
  | cons a r =>
    have pr : ∀ {r : List Kd}, (∀ k ∈ r, KdL k) → Paired Pc (r.map kdT) (r.map tokK) := by
      intro r
      induction r with
      | nil => intro _; exact .nil
      | cons a r ih => intro h; exact .cons (h a (List.mem_cons_self ..)).p (ih fun k hk => h k (List.mem_cons_of_mem _ hk))
    have := Pc.sep (pr h) (32 :: (45 :: 62 :: 32 :: kdT md)) ([45, 62] :: tokK md) (stp_cons al_32) (.sp h1)
    simpa only [List.isEmpty_cons, Bool.false_eq_true, if_false, List.append_assoc, List.cons_append, List.nil_append] using this
theorem ar_okL {ps : List Kd} {md : Kd} (h : ∀ k ∈ ps, KdL k) (hm : KdL md) : Ok (arT ps md) := by
  have h1 : Ok (45 :: 62 :: 32 :: kdT md) := .cons (by decide) (.cons (by decide) (.cons (by decide) hm.o))
  have h2 : Ok (sepJ (ps.map kdT)) := .sep fun x hx => by obtain ⟨k, hk, rfl⟩ := List.mem_map.mp hx; exact (h k hk).o
  unfold arT
  split
  · exact h1
  · exact .app (.app h2 (.cons (by decide) .nil)) h1
theorem lnCL {c : Cn} (w : WdP (cs c.w)) (h : ∀ k ∈ c.ps, KdL k) (hm : KdL c.md) : Toks (lineC c) (tokC c) ∧ Ok (lineC c) :=
  ⟨Toks.wd wd_con (stp_cons al_32) (.sp (Toks.wd w (stp_cons al_32) (.sp (.c58 (.sp (ar_toksL h hm)))))),
   .app wd_con.2.2 (.cons (by decide) (.app w.2.2 (.cons (by decide) (.cons (by decide) (.cons (by decide) (ar_okL h hm))))))⟩
theorem lnHL {f : Fn} (w : WdP (cs f.w)) (n : WdP (num f.falls)) (h : ∀ k ∈ f.ps, KdL k) (hm : KdL f.md) : Toks (lineH f) (tokH f) ∧ Ok (lineH f) :=
  ⟨Toks.wd wd_fun (stp_cons al_32) (.sp (Toks.wd w (stp_cons al_32) (.sp (Toks.wd wd_falls (stp_cons al_32) (.sp (Toks.wd n (stp_cons al_32) (.sp (.c58 (.sp (ar_toksL h hm)))))))))),
   .app wd_fun.2.2 (.cons (by decide) (.app w.2.2 (.cons (by decide) (.app wd_falls.2.2 (.cons (by decide) (.app n.2.2 (.cons (by decide) (.cons (by decide) (.cons (by decide) (ar_okL h hm))))))))))⟩
theorem lnFL {z : Str} (w : WdP (cs z)) : Toks (lineF z) (tokF z) ∧ Ok (lineF z) :=
  ⟨Toks.wd wd_family (stp_cons al_32) (.sp (toks_end (Pc.wd w))), .app wd_family.2.2 (.cons (by decide) w.2.2)⟩
theorem lnML {m : Str × Nat} (w : WdP (cs m.1)) (n : WdP (num m.2)) : Toks (lineM m) (tokM m) ∧ Ok (lineM m) :=
  ⟨Toks.wd wd_maker (stp_cons al_32) (.sp (Toks.wd w (stp_cons al_32) (.sp (toks_end (Pc.wd n))))), .app wd_maker.2.2 (.cons (by decide) (.app w.2.2 (.cons (by decide) n.2.2)))⟩
theorem lnLL {w : Str} {p b : PV} (hw : WdP (cs w)) (hp : Pc (txt p) (tokT p)) (op : Ok (txt p)) (hb : Pc (txt b) (tokT b)) (ob : Ok (txt b)) : Toks (lineL w ⟨[p], b⟩) (tokL w ⟨[p], b⟩) ∧ Ok (lineL w ⟨[p], b⟩) :=
  ⟨Toks.wd hw (stp_cons al_40) (.op (hp (41 :: 32 :: 61 :: 32 :: txt b) ([41] :: [61] :: tokT b) (stp_cons al_41) (.cl (.sp (.c61 (.sp (toks_end hb))))))),
   .app hw.2.2 (.cons (by decide) (.app op (.cons (by decide) (.cons (by decide) (.cons (by decide) (.cons (by decide) ob))))))⟩
end Kx
set_option maxHeartbeats 2000000
set_option pp.maxSteps 600
/-! The texts that the law writes, and what is due. -/
namespace Kx
open PySem PySem.Spec PyProof.Rows L2
theorem cm_none : Cm [] := ⟨fun c h => (by cases h), .inl rfl⟩
structure RwO (r : Rw) : Prop where
  tk : Toks r.x r.U
  ok : Ok r.x
  cm : Cm r.cm
  op : NetOk r.U
  iu : r.U = match r.it with | none => [] | some it => tokI it
theorem RwO.up {r : Rw} (h : RwO r) (l : r.full.length ≤ 6000) : RwOk r := ⟨h.tk, h.ok, h.cm, l, h.op, h.iu⟩
def rowOf (it : Item) : Rw := ⟨lineI it, [], tokI it, some it⟩
theorem rowOf_full (it : Item) : (rowOf it).full = lineI it := List.append_nil _
theorem rowOf_ok {it : Item} (h : Toks (lineI it) (tokI it) ∧ Ok (lineI it)) (n : NetOk (tokI it)) : RwO (rowOf it) := ⟨h.1, h.2, cm_none, n, rfl⟩
theorem mem_full : ∀ {ls : List (List Nat)} {l : List Nat}, l ∈ ls → l.length ≤ (fullT ls).length
  | a :: r, l, h => by
    have e : fullT (a :: r) = a ++ [10] ++ fullT r := by simp [fullT]
    rw [e, List.length_append, List.length_append]
    rcases List.mem_cons.mp h with rfl | h
    · omega
    · have := mem_full h; omega
/-! ### the first lines -/
def mZ : Str × Nat := ("z", 0)
def rM : Rw := rowOf (.m mZ)
def Lm (d : Nat) : List Nat := repL d (cs "maker z 0\n")
theorem lm_len (d : Nat) : (Lm d).length = d * 10 := by
  unfold Lm
  rw [repL_len, show (cs "maker z 0\n").length = 10 by decide +kernel]
theorem full_lm : ∀ (d : Nat) (rs : List Rw), fullT ((List.replicate d rM ++ rs).map Rw.full) = Lm d ++ fullT (rs.map Rw.full)
  | 0, rs => rfl
  | d + 1, rs => by
    have e : fullT ((List.replicate (d + 1) rM ++ rs).map Rw.full) = rM.full ++ [10] ++ fullT ((List.replicate d rM ++ rs).map Rw.full) := by simp [fullT, List.replicate_succ]
    have e2 : rM.full ++ [10] = cs "maker z 0\n" := by decide +kernel
    rw [e, full_lm d rs, e2]
    unfold Lm
    rw [repL_succ, List.append_assoc]
theorem its_lm : ∀ (d : Nat) (rs : List Rw), itsR (List.replicate d rM ++ rs) = List.replicate d (.m mZ) ++ itsR rs
  | 0, rs => rfl
  | d + 1, rs => by
    have := its_lm d rs
    unfold itsR at this ⊢
    rw [List.replicate_succ, List.cons_append, List.filterMap_cons, this]
    rfl
def sM (d : Nat) : DS := ⟨List.replicate d mZ, [], [], []⟩
theorem stp_m (j : Nat) : stp (sM j) (.m mZ) = sM (j + 1) := by
  unfold sM stp
  simp only [List.replicate_succ']
theorem fold_m : ∀ d j : Nat, (List.replicate d (Item.m mZ)).foldl stp (sM j) = sM (j + d)
  | 0, j => rfl
  | d + 1, j => by
    rw [List.replicate_succ, List.foldl_cons, stp_m, fold_m d (j + 1)]
    congr 1; omega
theorem dsb_m {j : Nat} (h : j ≤ 8) : DsB (sM j) := ⟨by show (List.replicate j mZ).length ≤ 100; rw [List.length_replicate]; omega, by show 0 ≤ 100; omega, by show 0 ≤ 100; omega, by show 0 ≤ 100; omega, fun f h => by cases h⟩
theorem wkz : WkB "z" := wkb_of (by decide +kernel)
theorem its_m : ∀ d j : Nat, j + d ≤ 8 → ItsOk (sM j) (List.replicate d (.m mZ))
  | 0, j, _ => trivial
  | d + 1, j, h => by
    rw [List.replicate_succ]
    refine ⟨⟨wkz, by decide +kernel, by decide⟩, dsb_m (by omega), ?_⟩
    rw [stp_m]
    exact its_m d (j + 1) (by omega)
theorem ItsOk.app : ∀ {a : List Item} {s : DS} {b : List Item}, ItsOk s a → ItsOk (a.foldl stp s) b → ItsOk s (a ++ b)
  | [], _, _, _, k => k
  | x :: a, s, b, h, k => ⟨h.1, h.2.1, ItsOk.app h.2.2 k⟩
theorem rm_ok : RwO rM := rowOf_ok (lnML (m := mZ) (by decide +kernel) (by decide +kernel)) (.of (by decide +kernel))
theorem sM_fold (d : Nat) : (List.replicate d (Item.m mZ)).foldl stp s0 = sM d := by
  have := fold_m d 0
  rw [Nat.zero_add] at this
  exact this
theorem due_good {d : Nat} (hd : d ≤ 8) (rs : List Rw) {T : List Nat} (e : T = Lm d ++ fullT (rs.map Rw.full)) (hl : T.length ≤ 6000) (ok : ∀ r ∈ rs, RwO r) (ne : rs ≠ []) (l : rs.length ≤ 10) (its : ItsOk (sM d) (itsR rs)) (ds : DsOk ((itsR rs).foldl stp (sM d))) : Due (mkS T) (-1) := by
  have e2 : T = fullT ((List.replicate d rM ++ rs).map Rw.full) := by rw [e, full_lm]
  refine .inl ⟨rfl, List.replicate d rM ++ rs, by rw [e2], ?_, ?_, by rw [← e2]; exact hl, fun r hr => ?_, ?_, ?_⟩
  · intro z
    exact ne (List.append_eq_nil_iff.mp z).2
  · rw [List.length_append, List.length_replicate]; omega
  · have o : RwO r := by
      rcases List.mem_append.mp hr with h | h
      · rw [(List.mem_replicate.mp h).2]; exact rm_ok
      · exact ok r h
    refine o.up (Nat.le_trans (mem_full (List.mem_map.mpr ⟨r, hr, rfl⟩)) ?_)
    rw [← e2]; exact hl
  · rw [its_lm]
    exact .app (its_m d 0 (by omega)) (by rw [sM_fold]; exact its)
  · rw [its_lm, List.foldl_append, sM_fold]; exact ds
structure BadO (r : Rw) : Prop where
  tk : Toks r.x r.U
  ok : Ok r.x
  cm : Cm r.cm
  bad : Opn r.U ∨ (NetOk r.U ∧ BlX r.U)
theorem due_bad {d : Nat} (hd : d ≤ 8) (rs : List Rw) (b : Rw) {T : List Nat} {n : Int} (e : T = Lm d ++ fullT ((rs ++ [b]).map Rw.full)) (hn : n = ((d + rs.length : Nat) : Int) + 1) (hl : T.length ≤ 6000) (ok : ∀ r ∈ rs, RwO r) (hb : BadO b) (l : rs.length ≤ 10) (its : ItsOk (sM d) (itsR rs)) : Due (mkS T) n := by
  have e2 : T = fullT (((List.replicate d rM ++ rs) ++ [b]).map Rw.full) := by rw [List.append_assoc, full_lm, ← e]
  refine .inr (.inr ⟨List.replicate d rM ++ rs, b, by rw [e2], ?_, ?_, by rw [← e2]; exact hl, fun r hr => ?_, ?_, ?_⟩)
  · rw [hn, List.length_append, List.length_replicate]
  · rw [List.length_append, List.length_replicate]; omega
  · have o : RwO r := by
      rcases List.mem_append.mp hr with h | h
      · rw [(List.mem_replicate.mp h).2]; exact rm_ok
      · exact ok r h
    refine o.up (Nat.le_trans (mem_full (List.mem_map.mpr ⟨r, List.mem_append_left [b] hr, rfl⟩)) ?_)
    rw [← e2]; exact hl
  · rw [its_lm]
    exact .app (its_m d 0 (by omega)) (by rw [sM_fold]; exact its)
  · refine ⟨hb.tk, hb.ok, hb.cm, Nat.le_trans (mem_full (List.mem_map.mpr ⟨b, List.mem_append_right (List.replicate d rM ++ rs) (List.mem_singleton.mpr rfl), rfl⟩)) ?_, hb.bad⟩
    rw [← e2]; exact hl
/-! ### the texts -/
def LET : List Str := ["a", "Z", "q", "M"]
def Wd (c : Str) (e : Nat) : List Nat := repL (12 + e) (cs c)
def Nt (e : Nat) : List Nat := repL (39 + e) (cs "n(") ++ cs "m" ++ repL (39 + e) (cs ")")
def tx1 (L W : List Nat) : List Nat := L ++ cs "family " ++ W ++ cs "\n"
def tx2 (L W : List Nat) : List Nat := L ++ cs "con C : " ++ W ++ cs "(z) -> F(z)\n"
def tx3 (L N : List Nat) : List Nat := L ++ cs "con C : -> F(" ++ N ++ cs ")\n"
def tx4 (L N : List Nat) : List Nat := L ++ cs "con C : F(" ++ N ++ cs ") -> F(z)\n"
def tx5 (L N : List Nat) : List Nat := L ++ cs "fun f falls 0 : F(a) -> F(a)\n" ++ cs "f(x) = n(" ++ N ++ cs ")\n"
def tx6 (L A : List Nat) : List Nat := L ++ cs "#" ++ A ++ cs "\n"
theorem wd_wd : ∀ c ∈ LET, ∀ e, e < 2 → WdP (Wd c e) := by decide +kernel
theorem wk_wd : ∀ c ∈ LET, wkb (mkS (Wd c 0)) = true ∧ sok (mkS (Wd c 0)) = true := by decide +kernel
theorem wd_len : ∀ c ∈ LET, ∀ e, e < 2 → (Wd c e).length = 12 + e := by decide +kernel
theorem nt_eq (e : Nat) : Nt e = txt (nest (39 + e)) := (txt_nest _).symm
theorem nt_len (e : Nat) : (Nt e).length = 3 * (39 + e) + 1 := by
  unfold Nt
  rw [List.length_append, List.length_append, repL_len, repL_len, show (cs "n(").length = 2 by decide, show (cs "m").length = 1 by decide, show (cs ")").length = 1 by decide]
  omega
def zT (d : Nat) : PV := if d = 0 then .str "z" else .tup [.str "z"]
theorem zT_txt (d : Nat) : txt (zT d) = cs "z" ∧ tokT (zT d) = [cs "z"] := by
  unfold zT
  split
  · exact ⟨rfl, rfl⟩
  · exact ⟨rfl, rfl⟩
theorem zT_dl (d : Nat) : Dl ((List.replicate d mZ).map (·.1)) (zT d) := by
  unfold zT Dl
  by_cases h : d = 0
  · subst h
    rw [if_pos rfl]
    exact ⟨trivial, rfl⟩
  · rw [if_neg h]
    have hm : ("z" : Str) ∈ (List.replicate d mZ).map (·.1) := List.mem_map.mpr ⟨mZ, List.mem_replicate.mpr ⟨h, rfl⟩, rfl⟩
    refine ⟨trivial, ?_⟩
    show dcl _ (.str "z") = _
    rw [dcl, if_pos hm]
theorem zT_w (d : Nat) : TrW 45 (zT d) := by
  unfold zT
  split
  · exact ⟨[], ["z"], [], 0, by decide, (by show ("z" : Str) ∈ _; decide), fun z h => (by cases h), fun z h => (by rw [List.mem_singleton.mp h]; exact ⟨wkz, by decide +kernel⟩), fun z h => (by cases h)⟩
  · exact ⟨["z"], [], [], 0, by decide, ⟨rfl, by decide⟩, fun z h => (by rw [List.mem_singleton.mp h]; exact ⟨wkz, by decide +kernel⟩), fun z h => (by cases h), fun z h => (by cases h)⟩
theorem zT_l {d : Nat} {f : Str} (w : WdP (cs f)) : KdL ⟨f, zT d⟩ := by
  refine ⟨w, ?_, ?_⟩
  · show Pc (txt (zT d)) (tokT (zT d))
    rw [(zT_txt d).1, (zT_txt d).2]; exact Pc.wd (by decide +kernel)
  · show Ok (txt (zT d))
    rw [(zT_txt d).1]; exact (by decide +kernel : WdP (cs "z")).2.2
theorem nest_l {k : Nat} {f : Str} (w : WdP (cs f)) : KdL ⟨f, nest k⟩ := ⟨w, (pc_nest k).1, (pc_nest k).2⟩
theorem str_l {z f : Str} (w : WdP (cs f)) (h : WdP (cs z)) : KdL ⟨f, .str z⟩ := ⟨w, Pc.wd h, h.2.2⟩
theorem wdF : WdP (cs "F") := by decide +kernel
theorem wdC : WdP (cs "C") := by decide +kernel
theorem m_not (d : Nat) : ("m" : Str) ∉ (List.replicate d mZ).map (·.1) := fun h => by
  obtain ⟨x, hx, e⟩ := List.mem_map.mp h
  rw [(List.mem_replicate.mp hx).2] at e
  exact absurd e (by decide)
theorem a_not (d : Nat) : ("a" : Str) ∉ (List.replicate d mZ).map (·.1) := fun h => by
  obtain ⟨x, hx, e⟩ := List.mem_map.mp h
  rw [(List.mem_replicate.mp hx).2] at e
  exact absurd e (by decide)
theorem full1 (l : List Nat) : fullT [l] = l ++ [10] := by simp [fullT]
theorem full2 (a b : List Nat) : fullT [a, b] = a ++ [10] ++ (b ++ [10]) := by simp [fullT]
theorem dsok_c {d : Nat} (hd : d ≤ 8) {c : Cn} (l : c.ps.length ≤ 3) (h : ∀ k ∈ c.ps, Dl ((List.replicate d mZ).map (·.1)) k.tm) (m : Dl ((List.replicate d mZ).map (·.1)) c.md.tm) : DsOk (stp (sM d) (.c c)) :=
  ⟨by show (List.replicate d mZ).length ≤ 10; rw [List.length_replicate]; omega, by show 0 ≤ 10; omega, by show 1 ≤ 10; omega, by show 0 ≤ 10; omega, fun x hx => by rw [show x = c from List.mem_singleton.mp hx]; exact ⟨l, h, m⟩, fun f h => by cases h⟩
theorem line_f (W : List Nat) : lineF (mkS W) ++ [10] = cs "family " ++ W ++ cs "\n" := by
  unfold lineF
  rw [cs_mk]
  simp only [List.append_assoc]
  rfl
theorem tx1_eq (L W : List Nat) : tx1 L W = L ++ fullT ([rowOf (.f (mkS W))].map Rw.full) := by
  rw [show [rowOf (.f (mkS W))].map Rw.full = [lineF (mkS W)] by rw [List.map_singleton, rowOf_full]; rfl, full1, line_f]
  unfold tx1
  simp only [List.append_assoc]
theorem due1 {d : Nat} (hd : d ≤ 8) {c : Str} (hc : c ∈ LET) : Due (mkS (tx1 (Lm d) (Wd c 0))) (-1) ∧ Due (mkS (tx1 (Lm d) (Wd c 1))) ((d : Int) + 1) := by
  have len : ∀ e, e < 2 → (tx1 (Lm d) (Wd c e)).length ≤ 6000 := fun e he => by
    unfold tx1
    rw [List.length_append, List.length_append, List.length_append, lm_len, wd_len c hc e he, show (cs "family ").length = 7 by decide, show (cs "\n").length = 1 by decide]
    omega
  have ln : ∀ e, e < 2 → Toks (lineI (.f (mkS (Wd c e)))) (tokI (.f (mkS (Wd c e)))) ∧ Ok (lineI (.f (mkS (Wd c e)))) := fun e he => lnFL (by rw [cs_mk]; exact wd_wd c hc e he)
  have op : ∀ e, e < 2 → NetOk (tokI (.f (mkS (Wd c e)))) := fun e he => .of (by
    show opn (tokF (mkS (Wd c e))) ≤ 40
    unfold tokF
    rw [cs_mk, opn_cons (wd_no wd_family), opn_cons (wd_no (wd_wd c hc e he))]
    decide)
  constructor
  · refine due_good hd [rowOf (.f (mkS (Wd c 0)))] (tx1_eq _ _) (len 0 (by decide)) (fun r hr => ?_) (by simp) (by simp) ?_ ?_
    · rw [List.mem_singleton.mp hr]; exact rowOf_ok (ln 0 (by decide)) (op 0 (by decide))
    · obtain ⟨h1, h2⟩ := wk_wd c hc
      exact ⟨⟨wkb_of h1, h2⟩, dsb_m hd, trivial⟩
    · exact ⟨by show (List.replicate d mZ).length ≤ 10; rw [List.length_replicate]; omega, by show 1 ≤ 10; omega, by show 0 ≤ 10; omega, by show 0 ≤ 10; omega, fun x hx => (by cases hx), fun f h => by cases h⟩
  · refine due_bad hd [] (rowOf (.f (mkS (Wd c 1)))) (tx1_eq _ _) (by simp) (len 1 (by decide)) (fun r hr => by cases hr) ⟨(ln 1 (by decide)).1, (ln 1 (by decide)).2, cm_none, .inr ⟨op 1 (by decide), .inr ⟨mkS (Wd c 1), rfl, ?_⟩⟩⟩ (by simp) trivial
    rw [mk_len]; exact wd_len c hc 1 (by decide)
end Kx
set_option maxHeartbeats 2000000
set_option pp.maxSteps 600
/-! The texts that the law writes, and what is due: constructors, clauses, comments. -/
namespace Kx
open PySem PySem.Spec PyProof.Rows L2
theorem one_row (it : Item) : [rowOf it].map Rw.full = [lineI it] := by rw [List.map_singleton, rowOf_full]
theorem wkC : WkB "C" ∧ sok "C" = true := ⟨wkb_of (by decide +kernel), by decide +kernel⟩
theorem wkF : WkB "F" ∧ sok "F" = true := ⟨wkb_of (by decide +kernel), by decide +kernel⟩
theorem opn_snocs (a b c : List (List Nat)) : opn (a ++ (b ++ c)) = opn a + opn b + opn c := by rw [opn_app, opn_app]; omega
/-! ### con C : word(z) -> F(z) -/
def c2 (d : Nat) (W : List Nat) : Cn := ⟨"C", [⟨mkS W, zT d⟩], ⟨"F", zT d⟩⟩
theorem tx2_eq (d : Nat) (L W : List Nat) : tx2 L W = L ++ fullT ([rowOf (.c (c2 d W))].map Rw.full) := by
  have e : lineI (.c (c2 d W)) ++ [10] = cs "con C : " ++ W ++ cs "(z) -> F(z)\n" := by
    show lineC (c2 d W) ++ [10] = _
    simp only [lineC, c2, arT, List.isEmpty_cons, List.map_cons, List.map_nil, sepJ, kdT, cs_mk, (zT_txt d).1, Bool.false_eq_true, if_false, List.append_assoc, List.cons_append]
    rfl
  rw [one_row, full1, e]
  unfold tx2
  simp only [List.append_assoc]
theorem due2 {d : Nat} (hd : d ≤ 8) {c : Str} (hc : c ∈ LET) : Due (mkS (tx2 (Lm d) (Wd c 0))) (-1) ∧ Due (mkS (tx2 (Lm d) (Wd c 1))) ((d : Int) + 1) := by
  have len : ∀ e, e < 2 → (tx2 (Lm d) (Wd c e)).length ≤ 6000 := fun e he => by
    unfold tx2
    rw [List.length_append, List.length_append, List.length_append, lm_len, wd_len c hc e he, show (cs "con C : ").length = 8 by decide, show (cs "(z) -> F(z)\n").length = 12 by decide]
    omega
  have w : ∀ e, e < 2 → WdP (cs (mkS (Wd c e))) := fun e he => by rw [cs_mk]; exact wd_wd c hc e he
  have ln : ∀ e, e < 2 → Toks (lineI (.c (c2 d (Wd c e)))) (tokI (.c (c2 d (Wd c e)))) ∧ Ok (lineI (.c (c2 d (Wd c e)))) := fun e he =>
    lnCL wdC (fun k hk => by rw [List.mem_singleton.mp hk]; exact zT_l (w e he)) (zT_l wdF)
  have tk : ∀ e, tokI (.c (c2 d (Wd c e))) = cs "con" :: cs "C" :: [58] :: Wd c e :: [40] :: cs "z" :: [41] :: [45, 62] :: cs "F" :: [40] :: cs "z" :: [[41]] := fun e => by
    show tokC (c2 d (Wd c e)) = _
    simp only [tokC, c2, arTok, List.map_cons, List.map_nil, sepT, tokK, cs_mk, (zT_txt d).2, List.append_assoc, List.cons_append, List.nil_append]
  have hU : tokI (.c (c2 d (Wd c 1))) = cs "con" :: cs "C" :: [58] :: cs (mkS (Wd c 1)) :: [40] :: cs "z" :: [41] :: [45, 62] :: cs "F" :: [40] :: cs "z" :: [[41]] := by rw [tk, cs_mk]
  have op : ∀ e, e < 2 → NetOk (tokI (.c (c2 d (Wd c e)))) := fun e he => .of (by
    rw [tk, opn_cons (by decide), opn_cons (by decide), opn_cons (by decide), opn_cons (wd_no (wd_wd c hc e he))]
    decide +kernel)
  constructor
  · refine due_good hd [rowOf (.c (c2 d (Wd c 0)))] (tx2_eq d _ _) (len 0 (by decide)) (fun r hr => ?_) (by simp) (by simp) ?_ ?_
    · rw [List.mem_singleton.mp hr]; exact rowOf_ok (ln 0 (by decide)) (op 0 (by decide))
    · obtain ⟨h1, h2⟩ := wk_wd c hc
      exact ⟨⟨wkC.1, wkC.2, (by show 1 ≤ 3; decide), fun k hk => (by rw [List.mem_singleton.mp hk]; exact ⟨wkb_of h1, h2, zT_w d⟩), wkF.1, wkF.2, zT_w d⟩, dsb_m hd, trivial⟩
    · exact dsok_c hd (by show 1 ≤ 3; decide) (fun k hk => by rw [List.mem_singleton.mp hk]; exact zT_dl d) (zT_dl d)
  · refine due_bad hd [] (rowOf (.c (c2 d (Wd c 1)))) (tx2_eq d _ _) (by simp) (len 1 (by decide)) (fun r hr => by cases hr) ⟨(ln 1 (by decide)).1, (ln 1 (by decide)).2, cm_none, .inr ⟨op 1 (by decide), .inl ⟨"C", mkS (Wd c 1), _, hU, wkC.1, by rw [mk_len]; exact wd_len c hc 1 (by decide)⟩⟩⟩ (by simp) trivial
/-! ### con C : -> F(n(n(..m..))) -/
def c3 (k : Nat) : Cn := ⟨"C", [], ⟨"F", nest k⟩⟩
theorem tx3_eq (e : Nat) (L : List Nat) : tx3 L (Nt e) = L ++ fullT ([rowOf (.c (c3 (39 + e)))].map Rw.full) := by
  have e1 : lineI (.c (c3 (39 + e))) ++ [10] = cs "con C : -> F(" ++ txt (nest (39 + e)) ++ cs ")\n" := by
    show lineC (c3 (39 + e)) ++ [10] = _
    generalize hX : txt (nest (39 + e)) = X
    simp only [lineC, c3, arT, List.isEmpty_nil, kdT, hX, if_true, List.append_assoc, List.cons_append]
    rfl
  rw [one_row, full1, e1, nt_eq]
  unfold tx3
  simp only [List.append_assoc]
theorem due3 {d : Nat} (hd : d ≤ 8) : Due (mkS (tx3 (Lm d) (Nt 0))) (-1) ∧ Due (mkS (tx3 (Lm d) (Nt 1))) ((d : Int) + 1) := by
  have len : ∀ e, e < 2 → (tx3 (Lm d) (Nt e)).length ≤ 6000 := fun e he => by
    unfold tx3
    rw [List.length_append, List.length_append, List.length_append, lm_len, nt_len, show (cs "con C : -> F(").length = 13 by decide, show (cs ")\n").length = 2 by decide]
    omega
  have ln : ∀ k, Toks (lineI (.c (c3 k))) (tokI (.c (c3 k))) ∧ Ok (lineI (.c (c3 k))) := fun k => lnCL wdC (fun x hx => by cases hx) (nest_l wdF)
  have tk : ∀ k, tokI (.c (c3 k)) = [cs "con", cs "C", [58], [45, 62], cs "F", [40]] ++ (tokT (nest k) ++ [[41]]) := fun k => by
    show tokC (c3 k) = _
    simp only [tokC, c3, arTok, List.map_nil, sepT, tokK, List.append_assoc, List.cons_append, List.nil_append]
  constructor
  · refine due_good hd [rowOf (.c (c3 39))] (tx3_eq 0 _) (len 0 (by decide)) (fun r hr => ?_) (by simp) (by simp) ?_ ?_
    · rw [List.mem_singleton.mp hr]
      refine rowOf_ok (ln 39) (.of ?_)
      rw [tk, opn_snocs, opn_nest]
      decide
    · exact ⟨⟨wkC.1, wkC.2, (by show 0 ≤ 3; decide), fun k hk => (by cases hk), wkF.1, wkF.2, trw_nest (by decide)⟩, dsb_m hd, trivial⟩
    · exact dsok_c hd (by show 0 ≤ 3; decide) (fun k hk => by cases hk) (dl_nest (m_not d) (by decide))
  · refine due_bad hd [] (rowOf (.c (c3 40))) (tx3_eq 1 _) (by simp) (len 1 (by decide)) (fun r hr => by cases hr) ⟨(ln 40).1, (ln 40).2, cm_none, .inl ?_⟩ (by simp) trivial
    show Opn (tokI (.c (c3 40)))
    rw [tk]
    exact opn_nest_bad (by decide)
/-! ### con C : F(n(n(..m..))) -> F(z) -/
def c4 (d k : Nat) : Cn := ⟨"C", [⟨"F", nest k⟩], ⟨"F", zT d⟩⟩
theorem tx4_eq (d e : Nat) (L : List Nat) : tx4 L (Nt e) = L ++ fullT ([rowOf (.c (c4 d (39 + e)))].map Rw.full) := by
  have e1 : lineI (.c (c4 d (39 + e))) ++ [10] = cs "con C : F(" ++ txt (nest (39 + e)) ++ cs ") -> F(z)\n" := by
    show lineC (c4 d (39 + e)) ++ [10] = _
    generalize hX : txt (nest (39 + e)) = X
    simp only [lineC, c4, arT, List.isEmpty_cons, List.map_cons, List.map_nil, sepJ, kdT, hX, (zT_txt d).1, Bool.false_eq_true, if_false, List.append_assoc, List.cons_append]
    rfl
  rw [one_row, full1, e1, nt_eq]
  unfold tx4
  simp only [List.append_assoc]
theorem due4 {d : Nat} (hd : d ≤ 8) : Due (mkS (tx4 (Lm d) (Nt 0))) (-1) ∧ Due (mkS (tx4 (Lm d) (Nt 1))) ((d : Int) + 1) := by
  have len : ∀ e, e < 2 → (tx4 (Lm d) (Nt e)).length ≤ 6000 := fun e he => by
    unfold tx4
    rw [List.length_append, List.length_append, List.length_append, lm_len, nt_len, show (cs "con C : F(").length = 10 by decide, show (cs ") -> F(z)\n").length = 10 by decide]
    omega
  have ln : ∀ k, Toks (lineI (.c (c4 d k))) (tokI (.c (c4 d k))) ∧ Ok (lineI (.c (c4 d k))) := fun k => lnCL wdC (fun x hx => by rw [List.mem_singleton.mp hx]; exact nest_l wdF) (zT_l wdF)
  have tk : ∀ k, tokI (.c (c4 d k)) = [cs "con", cs "C", [58], cs "F", [40]] ++ (tokT (nest k) ++ [[41], [45, 62], cs "F", [40], cs "z", [41]]) := fun k => by
    show tokC (c4 d k) = _
    simp only [tokC, c4, arTok, List.map_cons, List.map_nil, sepT, tokK, (zT_txt d).2, List.append_assoc, List.cons_append, List.nil_append]
  constructor
  · refine due_good hd [rowOf (.c (c4 d 39))] (tx4_eq d 0 _) (len 0 (by decide)) (fun r hr => ?_) (by simp) (by simp) ?_ ?_
    · rw [List.mem_singleton.mp hr]
      refine rowOf_ok (ln 39) (Nb.ok ?_)
      rw [tk]
      refine .app (.of (by decide)) (.app (.of ?_) (.of ?_))
      · rw [opn_nest]; decide
      · rw [net_nest]; decide
    · exact ⟨⟨wkC.1, wkC.2, (by show 1 ≤ 3; decide), fun k hk => (by rw [List.mem_singleton.mp hk]; exact ⟨wkF.1, wkF.2, trw_nest (by decide)⟩), wkF.1, wkF.2, zT_w d⟩, dsb_m hd, trivial⟩
    · exact dsok_c hd (by show 1 ≤ 3; decide) (fun k hk => by rw [List.mem_singleton.mp hk]; exact dl_nest (m_not d) (by decide)) (zT_dl d)
  · refine due_bad hd [] (rowOf (.c (c4 d 40))) (tx4_eq d 1 _) (by simp) (len 1 (by decide)) (fun r hr => by cases hr) ⟨(ln 40).1, (ln 40).2, cm_none, .inl ?_⟩ (by simp) trivial
    show Opn (tokI (.c (c4 d 40)))
    rw [tk]
    exact opn_nest_bad (by decide)
/-! ### fun f .. and f(x) = n(n(..m..)) -/
def h5 : Fn := ⟨"f", [⟨"F", .str "a"⟩], ⟨"F", .str "a"⟩, 0, []⟩
def l5 (k : Nat) : Cl := ⟨[.str "x"], nest (k + 1)⟩
theorem nest1 (k : Nat) : txt (nest (k + 1)) = [110, 40] ++ (txt (nest k) ++ [41]) ∧ tokT (nest (k + 1)) = [110] :: [40] :: (tokT (nest k) ++ [[41]]) := by
  constructor
  · simp only [nest, txt, txtL, List.isEmpty_cons, Bool.false_eq_true, if_false, sepJ]
    rfl
  · simp only [nest, tokT, tokTL, List.isEmpty_cons, Bool.false_eq_true, if_false, sepT]
    rfl
theorem tx5_eq (e : Nat) (L : List Nat) : tx5 L (Nt e) = L ++ fullT ([rowOf (.h h5), rowOf (.l "f" (l5 (39 + e)))].map Rw.full) := by
  have e1 : lineI (.h h5) ++ [10] = cs "fun f falls 0 : F(a) -> F(a)\n" := by decide +kernel
  have e2 : lineI (.l "f" (l5 (39 + e))) ++ [10] = cs "f(x) = n(" ++ txt (nest (39 + e)) ++ cs ")\n" := by
    show lineL "f" (l5 (39 + e)) ++ [10] = _
    have h := (nest1 (39 + e)).1
    generalize hX : txt (nest (39 + e)) = X at h
    simp only [lineL, l5, h, List.map_cons, List.map_nil, sepJ, txt, List.append_assoc, List.cons_append]
    rfl
  rw [show [rowOf (.h h5), rowOf (.l "f" (l5 (39 + e)))].map Rw.full = [lineI (.h h5), lineI (.l "f" (l5 (39 + e)))] by rw [List.map_cons, List.map_singleton, rowOf_full, rowOf_full], full2, e1, e2, nt_eq]
  unfold tx5
  simp only [List.append_assoc]
theorem wdf : WdP (cs "f") := by decide +kernel
theorem wda : WdP (cs "a") := by decide +kernel
theorem due5 {d : Nat} (hd : d ≤ 8) : Due (mkS (tx5 (Lm d) (Nt 0))) (-1) ∧ Due (mkS (tx5 (Lm d) (Nt 1))) ((d : Int) + 2) := by
  have len : ∀ e, e < 2 → (tx5 (Lm d) (Nt e)).length ≤ 6000 := fun e he => by
    unfold tx5
    rw [List.length_append, List.length_append, List.length_append, List.length_append, lm_len, nt_len, show (cs "fun f falls 0 : F(a) -> F(a)\n").length = 29 by decide, show (cs "f(x) = n(").length = 9 by decide, show (cs ")\n").length = 2 by decide]
    omega
  have ln : ∀ k, Toks (lineI (.l "f" (l5 k))) (tokI (.l "f" (l5 k))) ∧ Ok (lineI (.l "f" (l5 k))) := fun k => lnLL wdf (Pc.wd (by decide +kernel)) (by decide +kernel : WdP (cs "x")).2.2 (pc_nest (k + 1)).1 (pc_nest (k + 1)).2
  have tk : ∀ k, tokI (.l "f" (l5 k)) = [cs "f", [40], cs "x", [41], [61], [110], [40]] ++ (tokT (nest k) ++ [[41]]) := fun k => by
    show tokL "f" (l5 k) = _
    simp only [tokL, l5, (nest1 k).2, List.map_cons, List.map_nil, sepT, tokT, List.append_assoc, List.cons_append, List.nil_append]
  have hh : RwO (rowOf (.h h5)) := rowOf_ok (lnHL wdf (by decide +kernel) (fun k hk => by rw [List.mem_singleton.mp hk]; exact str_l wdF wda) (str_l wdF wda)) (.of (by decide +kernel))
  have ka : KdW ⟨"F", .str "a"⟩ := ⟨wkF.1, wkF.2, [], ["a"], [], 0, by decide, (by show ("a" : Str) ∈ _; decide), fun z h => (by cases h), fun z h => (by rw [List.mem_singleton.mp h]; exact ⟨wkb_of (by decide +kernel), by decide +kernel⟩), fun z h => (by cases h)⟩
  have wkf : WkB "f" ∧ sok "f" = true := ⟨wkb_of (by decide +kernel), by decide +kernel⟩
  have ih : ItOk (sM d) (.h h5) := ⟨⟨wkf.1, wkf.2, (by show 1 ≤ 3; decide), fun k hk => (by rw [List.mem_singleton.mp hk]; exact ka), ka⟩, by simp [h5], by decide⟩
  constructor
  · refine due_good hd [rowOf (.h h5), rowOf (.l "f" (l5 39))] (tx5_eq 0 _) (len 0 (by decide)) (fun r hr => ?_) (by simp) (by simp) ?_ ?_
    · rcases List.mem_cons.mp hr with rfl | hr
      · exact hh
      · rw [List.mem_singleton.mp hr]
        refine rowOf_ok (ln 39) (Nb.ok ?_)
        rw [tk]
        refine .app (.of (by decide)) (.app (.of ?_) (.of ?_))
        · rw [opn_nest]; decide
        · rw [net_nest]; decide
    · refine ⟨ih, dsb_m hd, ⟨wkf.1, wkf.2, by simp [l5], (by show 1 ≤ 3; decide), fun p hp => ?_, trw_nest (by decide), [], _, rfl, rfl⟩, ⟨?_, ?_, ?_, ?_, ?_⟩, trivial⟩
      · rw [List.mem_singleton.mp hp]
        exact ⟨[], ["x"], [], 0, by decide, (by show ("x" : Str) ∈ _; decide), fun z h => (by cases h), fun z h => (by rw [List.mem_singleton.mp h]; exact ⟨wkb_of (by decide +kernel), by decide +kernel⟩), fun z h => (by cases h)⟩
      · show (List.replicate d mZ).length ≤ 100; rw [List.length_replicate]; omega
      · show 0 ≤ 100; omega
      · show 0 ≤ 100; omega
      · show 1 ≤ 100; omega
      · intro f hf
        rw [show f = _ from List.mem_singleton.mp hf]
        show 0 ≤ 100; omega
    · refine ⟨?_, ?_, ?_, ?_, fun x hx => (by cases hx), fun f hf => ?_⟩
      · show (List.replicate d mZ).length ≤ 10; rw [List.length_replicate]; omega
      · show 0 ≤ 10; omega
      · show 0 ≤ 10; omega
      · show 1 ≤ 10; omega
      · rw [show f = { h5 with cls := [l5 39] } from List.mem_singleton.mp hf]
        have da : Dl ((List.replicate d mZ).map (·.1)) (.str "a") := ⟨trivial, by show dcl _ (.str "a") = _; rw [dcl, if_neg (a_not d)]⟩
        refine ⟨(by show 1 ≤ 3; decide), fun k hk => (by rw [List.mem_singleton.mp hk]; exact da), da, (by show 1 ≤ 10; decide), fun c hc => ?_⟩
        rw [show c = l5 39 from List.mem_singleton.mp hc]
        refine ⟨(by show 1 ≤ 3; decide), fun p hp => ?_, dl_nest (fun z => by cases z) (by decide)⟩
        rw [List.mem_singleton.mp hp]
        exact ⟨trivial, rfl⟩
  · refine due_bad hd [rowOf (.h h5)] (rowOf (.l "f" (l5 40))) (tx5_eq 1 _) (by simp; omega) (len 1 (by decide)) (fun r hr => by rw [List.mem_singleton.mp hr]; exact hh) ⟨(ln 40).1, (ln 40).2, cm_none, .inl ?_⟩ (by simp) ⟨ih, dsb_m hd, trivial⟩
    show Opn (tokI (.l "f" (l5 40)))
    rw [tk]
    exact opn_nest_bad (by decide)
/-! ### a comment -/
def Cmt (d e : Nat) : List Nat := repL (5998 + e - d * 10) (cs "a")
theorem cmt_len (d e : Nat) : (Cmt d e).length = 5998 + e - d * 10 := by
  unfold Cmt
  rw [repL_len, show (cs "a").length = 1 by decide]; omega
theorem due6 {d : Nat} (hd : d ≤ 8) : Due (mkS (tx6 (Lm d) (Cmt d 0))) (-1) ∧ Due (mkS (tx6 (Lm d) (Cmt d 1))) 0 := by
  have len : ∀ e, (tx6 (Lm d) (Cmt d e)).length = 6000 + e := fun e => by
    unfold tx6
    rw [List.length_append, List.length_append, List.length_append, lm_len, cmt_len, show (cs "#").length = 1 by decide, show (cs "\n").length = 1 by decide]
    omega
  constructor
  · refine due_good hd [⟨[], 35 :: Cmt d 0, [], none⟩] ?_ (by rw [len]; decide) (fun r hr => ?_) (by simp) (by simp) trivial ?_
    · show _ = Lm d ++ fullT [[] ++ 35 :: Cmt d 0]
      rw [full1]
      unfold tx6
      simp only [List.append_assoc]
      rfl
    · rw [List.mem_singleton.mp hr]
      refine ⟨.nil, .nil, ⟨fun c hc => ?_, .inr ⟨_, rfl⟩⟩, .of (by show opn [] ≤ 40; decide), rfl⟩
      rcases List.mem_cons.mp hc with rfl | hc
      · decide
      · obtain ⟨l, hl, hc⟩ := List.mem_flatten.mp hc
        rw [(List.mem_replicate.mp hl).2] at hc
        rw [show c = 97 from List.mem_singleton.mp hc]
        decide
    · refine ⟨?_, ?_, ?_, ?_, fun x hx => (by cases hx), fun f hf => by cases hf⟩
      · show (List.replicate d mZ).length ≤ 10; rw [List.length_replicate]; omega
      · show 0 ≤ 10; omega
      · show 0 ≤ 10; omega
      · show 0 ≤ 10; omega
  · refine .inr (.inl ⟨rfl, ?_, ?_⟩)
    · rw [mk_len, len]; decide
    · rw [mk_len, len]; decide
end Kx
/-! xs[::k], a list: only that its items come from it. -/
namespace Kx
open PySem PySem.Spec PyProof.Rows L2
theorem picked_vals {xs : List V} {us : List Value} (r : Vals xs us) : ∀ js : List Nat, Vals (js.filterMap fun j => xs[j]?) (js.filterMap fun j => us[j]?)
  | [] => .nil
  | j :: js => by
    have ih := picked_vals r js
    simp only [List.filterMap_cons]
    cases e : xs[j]? with
    | none =>
      have hu : us[j]? = none := by
        have := List.getElem?_eq_none_iff.mp e
        exact List.getElem?_eq_none_iff.mpr (by rw [← r.length]; exact this)
      rw [hu]
      exact ih
    | some x =>
      obtain ⟨u, eu, ru⟩ := Vals.get r e
      rw [eu]
      exact .cons ru ih
/-- the steps of xs[::k] -/
def tSlStep (K : PySem.W.Frag) (te tk : TE) : TE := fun σ H Q => te σ H fun x H1 => tk σ H1 fun k H2 => ∃ (a : Addr) (xs : List V) (i : Int), x = .ref a ∧ k = .int i ∧ i ≠ 0 ∧ SqL K H2 a xs ∧ ∀ p (ys : List V), H2 p = none → (∀ y ∈ ys, y ∈ xs) → ys.length ≤ xs.length → Q (.ref p) (upd H2 p (.lst ys))
section
variable {X : Cx}
theorem pe_slStep {e st : Expr} {te tk : TE} {p3 pos : Pos} (he : PE X e te) (hk : PE X st tk) : PE X (.Subscript e (.Slice none none (some st) p3) pos) (tSlStep X.K te tk) := by
  refine ⟨fun pins s σ H Q I h => ?_⟩
  refine Subscript_ (thn (he.run pins s σ H _ I h) fun v s1 ⟨x, H1, I1, r1, q1⟩ => ?_)
  refine wpAny_Slice (thn (po_none.run pins s1 σ H1 (fun o H2 => o = none ∧ H2 = H1) I1 ⟨rfl, rfl⟩) fun vl s2 ⟨l, H2, I2, pl, el, e2⟩ => ?_)
  subst el e2
  refine thn (po_none.run pins s2 σ H2 (fun o H3 => o = none ∧ H3 = H2) I2 ⟨rfl, rfl⟩) fun vu s3 ⟨u, H3, I3, pu, eu, e3⟩ => ?_
  subst eu e3
  rw [evalPart_some]
  refine thn (hk.run pins s3 σ H3 _ I3 q1) fun vs s4 ⟨kv, H4, I4, rk, a, xs, i, ex, ek, hne, hx, fin⟩ => ?_
  subst ex ek
  cases r1
  obtain ⟨tk2, rfl⟩ := rk
  have I5 : Inv X pins σ H4 { s4 with heap := s4.heap.push { cls := .type "slice", data := .fields #[vl, vu, .int i tk2] } } := I4.kept (t' := s4.toks) fun b ob q => Heap.get?_push_of_some _ q
  obtain ⟨its, r, ht, hz⟩ := I5.list hx
  have hlen := r.length
  show wpAny (model X.prog X.w) X.A (subscriptTail e (.Slice none none (some st) p3) (.ref a) (.ref s4.heap.objs.size)) (EP X pins σ Q) X.xe { s4 with heap := s4.heap.push { cls := .type "slice", data := .fields #[vl, vu, .int i tk2] } }
  refine tail_any (ops := [.ref a, .ref s4.heap.objs.size]) ht.isList.typeIs (PySem.slot_list_getitem.lookup) ?_ (by with_unfolding_all rfl)
  have szle := slicePick_size_le its.toArray none none (some i)
  refine wpAny_getItem_list_slice ht.isList (Heap.IsSliceOf.new _ vl vu (.int i tk2)) pl pu (.int i tk2) (by simpa using hne) ?_ (by rw [List.size_toArray]; omega)
  unfold slicePick at szle ⊢
  have fe : ∀ js : List Nat, js.filterMap (fun j => its.toArray[j]?) = js.filterMap (fun j => its[j]?) := fun js => by simp
  rw [fe] at szle ⊢
  have pv := picked_vals r (sliceRange (sliceBounds none none (some i) its.toArray.size).1 (sliceBounds none none (some i) its.toArray.size).2.1 (sliceBounds none none (some i) its.toArray.size).2.2)
  generalize sliceRange (sliceBounds none none (some i) its.toArray.size).1 (sliceBounds none none (some i) its.toArray.size).2.1 (sliceBounds none none (some i) its.toArray.size).2.2 = js at pv szle
  have pl2 := pv.length
  simp only [List.size_toArray] at szle
  refine ⟨.ref _, _, I5.laid (t' := s4.toks) (o := .lst (js.filterMap fun j => xs[j]?)) (fun b ob q => Heap.get?_push_of_some _ q) (Nat.le_refl _) ?_, rfl, fin _ _ (I5.hok.fresh (Nat.le_refl _)) (fun y hy => ?_) (by omega)⟩
  · exact ⟨by omega, _, 0, pv, Heap.get?_push_size _ rfl⟩
  · obtain ⟨j, _, ej⟩ := List.mem_filterMap.mp hy
    exact List.mem_of_getElem? ej
end
end Kx
namespace Kx
open PySem PySem.Spec PyProof.Rows L2
section
variable {P : Program} {w : World} {K : PySem.W.Frag} {mg : Str → Option Value} {base : Heap}
set_option pp.maxSteps 900
set_option maxHeartbeats 4000000
/-! ### law -/
def IxE (σ : L2.St) (H0 : Hp) (te : TE) (n : Int) : Prop := ∀ (H : Hp) (Q : VK), Same H0 H → (∀ H', Same H H' → Q (.int n) H') → te σ H Q
theorem IxE.same {σ : L2.St} {H0 H1 : Hp} {te : TE} {n : Int} (h : IxE σ H0 te n) (s : Same H0 H1) : IxE σ H1 te n := fun H Q s2 q => h H Q (s.trans s2) q
theorem ix_var {σ : L2.St} {H0 : Hp} {i : Nat} {n : Int} (e : σ[i]? = some (some (.int n))) : IxE σ H0 (tVar i) n := fun H Q s q => ⟨_, e, q H (.refl _)⟩
theorem ix_lit {σ : L2.St} {H0 : Hp} {n : Int} : IxE σ H0 (tC (.int n)) n := fun H Q s q => q H (.refl _)
theorem ix_neg {σ : L2.St} {H0 : Hp} {n : Int} : IxE σ H0 (tUn (rU fun i => .int (-i)) (tC (.int n))) (-n) := fun H Q s q => ⟨n, rfl, q H (.refl _)⟩
theorem tx_mul {σ : L2.St} {H0 : Hp} {ta tb : TE} {l : List Nat} {n : Nat} (ha : TxE σ H0 ta l) (hb : IxE σ H0 tb (n : Int)) (ne : l ≠ []) (h1 : n ≤ 10000) (h2 : n * l.length ≤ 10000) : TxE σ H0 (tOp rMulT ta tb) (repL n l) := fun H Q s q =>
  ha H _ s fun H1 s1 => hb H1 _ (s.trans s1) fun H2 s2 => ⟨l, n, rfl, rfl, ne, h1, h2, q H2 (s1.trans s2)⟩
/-- [a, b][more] -/
theorem ix_at {K : PySem.W.Frag} {σ : L2.St} {H0 : Hp} {ta tb : TE} {a b : Int} {i e : Nat} (ha : IxE σ H0 ta a) (hb : IxE σ H0 tb b) (e7 : σ[i]? = some (some (.int (e : Int)))) (he : e < 2) : IxE σ H0 (tOp (rIxL K) (tLst (tCons ta (tCons tb tNil))) (tVar i)) (if e = 0 then a else b) := fun H Q s q =>
  ha H _ s fun H1 s1 => hb H1 _ (s.trans s1) fun H2 s2 => ⟨(by show 2 ≤ sizeLine; decide), fun p hp => ⟨_, e7, p, _, _, _, rfl, rfl, SqL.of upd_same, (by
    show atI [V.int a, V.int b] (e : Int) = some (.int (if e = 0 then a else b))
    rcases (show e = 0 ∨ e = 1 by omega) with rfl | rfl <;> rfl), q _ ((s1.trans s2).trans (same_upd hp _))⟩⟩
theorem go_pair {σ : L2.St} {H : Hp} {te td : TE} {T : List Nat} {n : Int} {R : List V → Hp → Prop} (ht : TxE σ H te T) (hd : IxE σ H td n) (q : ∀ a H', Same H H' → H' a = some (.tup [SV T, .int n]) → R [.ref a] H') : tCons (tTup (tCons te (tCons td tNil))) tNil σ H R :=
  ht H _ (.refl _) fun H1 s1 => hd H1 _ s1 fun H2 s2 => ⟨(by show 2 ≤ sizeLine; decide), fun p hp => q p _ ((s1.trans s2).trans (same_upd hp _)) upd_same⟩
def EntOk (H : Hp) (x : V) : Prop := ∃ a z n, x = .ref a ∧ H a = some (.tup [.str z, .int n]) ∧ Due z n
theorem EntOk.tk {H H' : Hp} {x : V} (h : EntOk H x) (t : Tk H H') : EntOk H' x := by
  obtain ⟨a, z, n, e, ea, d⟩ := h
  exact ⟨a, z, n, e, t _ _ ea, d⟩
/-- the list of what is asked -/
structure Asked (H0 H : Hp) (p : Addr) (vs : List V) (n : Nat) : Prop where
  s : Same H0 H
  e : H p = some (.lst vs)
  l : vs.length = n
  ok : ∀ x ∈ vs, EntOk H x
theorem Asked.add {H0 H H' : Hp} {p a : Addr} {vs : List V} {n : Nat} {T : List Nat} {m : Int} (A : Asked H0 H p vs n) (p0 : H0 p = none) (s : Same H H') (ea : H' a = some (.tup [SV T, .int m])) (d : Due (mkS T) m) : Asked H0 (upd H' p (.lst (vs ++ [.ref a]))) p (vs ++ [.ref a]) (n + 1) := by
  have tk : Tk H' (upd H' p (.lst (vs ++ [.ref a]))) := wr_tk (s _ _ A.e)
  refine ⟨Kx.Same.own (A.s.trans s) p0 _, upd_same, by rw [List.length_append, A.l]; rfl, fun x hx => ?_⟩
  rcases List.mem_append.mp hx with h | h
  · exact ((A.ok x h).tk (.of s)).tk tk
  · rw [List.mem_singleton.mp h]
    exact EntOk.tk ⟨a, mkS T, m, rfl, ea, d⟩ tk
theorem Asked.same {H0 H H' : Hp} {p : Addr} {vs : List V} {n : Nat} (A : Asked H0 H p vs n) (s : Same H H') : Asked H0 H' p vs n := ⟨A.s.trans s, s _ _ A.e, A.l, fun x hx => (A.ok x hx).tk (.of s)⟩
theorem let_cs : ∀ c ∈ LET, (cs c).length = 1 ∧ cs c ≠ [] := by decide +kernel
def dueN (e : Nat) (a b : Int) : Int := if e = 0 then a else b
theorem due_e {e : Nat} (he : e < 2) {T : Nat → List Nat} {a b : Int} (h : Due (mkS (T 0)) a ∧ Due (mkS (T 1)) b) : Due (mkS (T e)) (if e = 0 then a else b) := by
  rcases (show e = 0 ∨ e = 1 by omega) with rfl | rfl
  · exact h.1
  · exact h.2
theorem go_ix {σ : L2.St} {H : Hp} {te : TE} {n : Int} {g : TG} {rest : TS} {D : Ends} (h : IxE σ H te n) (q : ∀ H1, Same H H1 → g (.int n) σ H1 fun σ2 H2 => rest D σ2 H2) : tSeq (tAsg te g) rest D σ H := h H _ (.refl _) q
/-- a text with a bound -/
def TxN (σ : L2.St) (H : Hp) (te : TE) (l : List Nat) (n : Nat) : Prop := TxE σ H te l ∧ l.length ≤ n
theorem tn_lit {σ : L2.St} {H : Hp} {z : Str} : TxN σ H (tC (.str z)) (cs z) z.length := ⟨tx_lit, by rw [cs_len]; exact Nat.le_refl _⟩
theorem tn_var {σ : L2.St} {H : Hp} {i n : Nat} {l : List Nat} (e : σ[i]? = some (some (SV l))) (h : l.length ≤ n) : TxN σ H (tVar i) l n := ⟨tx_var e, h⟩
theorem tn_add {σ : L2.St} {H : Hp} {ta tb : TE} {a b : List Nat} {n m : Nat} (ha : TxN σ H ta a n) (hb : TxN σ H tb b m) (l : n + m ≤ 20000) : TxN σ H (tOp rAddS ta tb) (a ++ b) (n + m) :=
  ⟨tx_add ha.1 hb.1 (by have := ha.2; have := hb.2; omega), by rw [List.length_append]; have := ha.2; have := hb.2; omega⟩
def spLaw (K : PySem.W.Frag) : Sp := fun vs H Q _ => ∃ (a : Addr) (ns : List Int), vs = [.ref a] ∧ SqL K H a (ns.map V.int) ∧ ns.length ≤ 63 ∧ ∀ H', Q (.bl true) H'
theorem ok_law (T : Txt K mg) (G_law_draw : FnOk P w K mg base CX0 1 T.a_law_draw T.d_law_draw ["state", "many"] spDraw) (G_law_line : FnOk P w K mg base CX0 100 T.a_law_line T.d_law_line ["text"] spLine) (G_law_pick : FnOk P w K mg base CX0 2 T.a_law_pick T.d_law_pick ["state", "row"] (spPick K)) (G_law_table_told : FnOk P w K mg base CX0 2 T.a_law_table_told T.d_law_table_told ["table"] spTold) (G_law_integers : FnOk P w K mg base CX0 1 T.a_law_integers T.d_law_integers [] spInts) (G_law_table : FnOk P w K mg base CX0 3 T.a_law_table T.d_law_table ["state"] spTable) (G_law_state : FnOk P w K mg base CX0 1 T.a_law_state T.d_law_state ["script"] (spState K)) : FnOk P w K mg base CX0 101 T.a_law T.d_law ["script"] (spLaw K) := by
  refine T.F_law.ok sc_law (fun vs H Q E h => ?_) (fun cdv A outer s H vs Q E hr h => ?_)
  · obtain ⟨a, ns, rfl, _⟩ := h; rfl
  · obtain ⟨a, ns, rfl, hS, hl, q⟩ := h
    have hr_law_draw : Room 1 _ := hr.mono (by decide)
    have hr_law_line : Room 100 _ := hr
    have hr_law_pick : Room 2 _ := hr.mono (by decide)
    have hr_law_table_told : Room 2 _ := hr.mono (by decide)
    have hr_law_integers : Room 1 _ := hr.mono (by decide)
    have hr_law_table : Room 3 _ := hr.mono (by decide)
    have hr_law_state : Room 1 _ := hr.mono (by decide)
    refine ⟨_, (pss_cons (ps_set (i := 1) sc_law.nd rfl (Or.inl rfl) (pe_call G_law_state hr_law_state rfl T.m_law_state T.F_law_state.kp T.b_law_state .nil pass0 (pa_cons (pv 0) pa_nil)))
    (pss_cons (ps_set (i := 2) sc_law.nd rfl (Or.inl rfl) (pe_call G_law_table hr_law_table rfl T.m_law_table T.F_law_table.kp T.b_law_table .nil pass0 (pa_cons (pv 1) pa_nil)))
    (pss_cons (ps_if (PW.pt (pw_or (pt_cmpR (neP (u200 hr)) (pe_call0 G_law_integers hr_law_integers rfl T.m_law_integers T.F_law_integers.kp T.b_law_integers .nil pass0) (pe_lst (pa_cons pe_int (pa_cons pe_int (pa_cons pe_int (pa_cons pe_int (pa_cons pe_int (pa_cons pe_int (pa_cons pe_int (pa_cons pe_int (pa_cons pe_int (pa_cons pe_int (pa_cons pe_int (pa_cons pe_int (pa_cons pe_int pa_nil)))))))))))))) (nomark _)) (pw_or1 (pt_not (pt_val (pe_call G_law_table_told hr_law_table_told rfl T.m_law_table_told T.F_law_table_told.kp T.b_law_table_told .nil pass0 (pa_cons (pv 2) pa_nil))))))) (pss_one (ps_ret pe_bl)) pss_nil)
    (pss_cons (ps_set (i := 3) sc_law.nd rfl (Or.inl rfl) (pe_call G_law_pick hr_law_pick rfl T.m_law_pick T.F_law_pick.kp T.b_law_pick .nil pass0 (pa_cons (pv 1) (pa_cons (pe_lst (pa_cons pe_str (pa_cons pe_str (pa_cons pe_str (pa_cons pe_str pa_nil))))) pa_nil))))
    (pss_cons (ps_set (i := 4) sc_law.nd rfl (Or.inl rfl) (pe_op op_mulT pe_str (pe_call G_law_draw hr_law_draw rfl T.m_law_draw T.F_law_draw.kp T.b_law_draw .nil pass0 (pa_cons (pv 1) (pa_cons pe_int pa_nil)))))
    (pss_cons (ps_set (i := 5) sc_law.nd rfl (Or.inl rfl) (pe_op op_add (pe_op op_fdivN (pe_callB call_len_str (by rfl) T.z_len (by decide +kernel) (pa_cons (pv 4) pa_nil)) pe_int) pe_int))
    (pss_cons (ps_set (i := 6) sc_law.nd rfl (Or.inl rfl) (pe_lst pa_nil))
    (pss_cons (ps_for PassesOwn.never rfl (pi_list (pe_lst (pa_cons pe_int (pa_cons pe_int (pa_cons pe_int pa_nil))))) (pg_name (i := 7) sc_law.nd rfl (Or.inl rfl))
    (pss_cons (ps_set (i := 8) sc_law.nd rfl (Or.inl rfl) (pe_ix ix_list (pe_lst (pa_cons (pe_un un_neg pe_int) (pa_cons (pv 5) pa_nil))) (pv 7) (fun _ _ => rfl)))
    (pss_cons (ps_set (i := 9) sc_law.nd rfl (Or.inl rfl) (pe_op op_mulT (pv 3) (pe_op op_add pe_int (pv 7))))
    (pss_cons (ps_expr (pe_bm PySem.F.plainAttrs_list PySem.F.slot_list_append PySem.F.type_list_append mt_append (pv 6) (pa_cons (pe_tup (pa_cons (pe_op op_add_str (pe_op op_add_str (pe_op op_add_str (pv 4) pe_str) (pv 9)) pe_str) (pa_cons (pv 8) pa_nil))) pa_nil)))
    (pss_cons (ps_expr (pe_bm PySem.F.plainAttrs_list PySem.F.slot_list_append PySem.F.type_list_append mt_append (pv 6) (pa_cons (pe_tup (pa_cons (pe_op op_add_str (pe_op op_add_str (pe_op op_add_str (pv 4) pe_str) (pv 9)) pe_str) (pa_cons (pv 8) pa_nil))) pa_nil)))
    (pss_cons (ps_set (i := 10) sc_law.nd rfl (Or.inl rfl) (pe_op op_add_str (pe_op op_add_str (pe_op op_mulT pe_str (pe_op op_add pe_int (pv 7))) pe_str) (pe_op op_mulT pe_str (pe_op op_add pe_int (pv 7)))))
    (pss_cons (ps_expr (pe_bm PySem.F.plainAttrs_list PySem.F.slot_list_append PySem.F.type_list_append mt_append (pv 6) (pa_cons (pe_tup (pa_cons (pe_op op_add_str (pe_op op_add_str (pe_op op_add_str (pv 4) pe_str) (pv 10)) pe_str) (pa_cons (pv 8) pa_nil))) pa_nil)))
    (pss_cons (ps_expr (pe_bm PySem.F.plainAttrs_list PySem.F.slot_list_append PySem.F.type_list_append mt_append (pv 6) (pa_cons (pe_tup (pa_cons (pe_op op_add_str (pe_op op_add_str (pe_op op_add_str (pv 4) pe_str) (pv 10)) pe_str) (pa_cons (pv 8) pa_nil))) pa_nil)))
    (pss_cons (ps_set (i := 11) sc_law.nd rfl (Or.inl rfl) (pe_op op_add_str (pv 4) pe_str))
    (pss_cons (ps_expr (pe_bm PySem.F.plainAttrs_list PySem.F.slot_list_append PySem.F.type_list_append mt_append (pv 6) (pa_cons (pe_tup (pa_cons (pe_op op_add_str (pe_op op_add_str (pe_op op_add_str (pv 11) pe_str) (pv 10)) pe_str) (pa_cons (pe_ix ix_list (pe_lst (pa_cons (pe_un un_neg pe_int) (pa_cons (pe_op op_add (pv 5) pe_int) pa_nil))) (pv 7) (fun _ _ => rfl)) pa_nil))) pa_nil)))
    (pss_one (ps_expr (pe_bm PySem.F.plainAttrs_list PySem.F.slot_list_append PySem.F.type_list_append mt_append (pv 6) (pa_cons (pe_tup (pa_cons (pe_op op_add_str (pe_op op_add_str (pe_op op_add_str (pv 4) pe_str) (pe_op op_mulT pe_str (pe_op op_sub (pe_op op_add pe_int (pv 7)) (pe_callB call_len_str (by rfl) T.z_len (by decide +kernel) (pa_cons (pv 4) pa_nil))))) pe_str) (pa_cons (pe_ix ix_list (pe_lst (pa_cons (pe_un un_neg pe_int) (pa_cons pe_int pa_nil))) (pv 7) (fun _ _ => rfl)) pa_nil))) pa_nil))))))))))))))
    (pss_cons (ps_for PassesOwn.never rfl (pi_range1 (by rfl) T.z_range (pa_cons pe_int pa_nil)) (pg_name (i := 12) sc_law.nd rfl (Or.inl rfl))
    (pss_cons (ps_asg (pe_call G_law_pick hr_law_pick rfl T.m_law_pick T.F_law_pick.kp T.b_law_pick .nil pass0 (pa_cons (pv 1) (pa_cons (pv 6) pa_nil))) (pg_tup rfl (pgs_cons (pg_name (i := 13) sc_law.nd rfl (Or.inl rfl)) (pgs_cons (pg_name (i := 8) sc_law.nd rfl (Or.inl rfl)) pgs_nil))))
    (pss_one (ps_if (pt_cmpR op_ne (pe_call G_law_line hr_law_line rfl T.m_law_line T.F_law_line.kp T.b_law_line .nil pass0 (pa_cons (pv 13) pa_nil)) (pv 8) (nomark _)) (pss_one (ps_ret pe_bl)) pss_nil))))
    (pss_cons (ps_for PassesOwn.never rfl (pi_list (pe_slStep (pv 6) (pe_op op_add pe_int (pe_call G_law_draw hr_law_draw rfl T.m_law_draw T.F_law_draw.kp T.b_law_draw .nil pass0 (pa_cons (pv 1) (pa_cons pe_int pa_nil)))))) (pg_tup rfl (pgs_cons (pg_name (i := 13) sc_law.nd rfl (Or.inl rfl)) (pgs_cons (pg_name (i := 8) sc_law.nd rfl (Or.inl rfl)) pgs_nil)))
    (pss_one (ps_if (pt_cmpR op_ne (pe_call G_law_line hr_law_line rfl T.m_law_line T.F_law_line.kp T.b_law_line .nil pass0 (pa_cons (pv 13) pa_nil)) (pv 8) (nomark _)) (pss_one (ps_ret pe_bl)) pss_nil)))
    (pss_one (ps_ret pe_bl)))))))))))), ?_⟩
    refine ⟨_, rfl, a, ns, rfl, hS, hl, fun d c H1 s1 D1 => ?_⟩
    refine ⟨_, rfl, d, c, rfl, D1, fun ta m f k vk H2 mk F cc T2 hmk G x2 D2 => ?_⟩
    refine ⟨rfl, fun p3 H3 s3 e3 => ⟨(by show 13 ≤ sizeLine; decide), fun p4 hp4 => ?_⟩⟩
    have s4 := same_upd hp4 (.lst (LI.map V.int))
    refine ne_lists (ts := LI.map PV.int) (SqL.of (s4 _ _ e3)) (SqL.of upd_same) (ints_is LI) (ints_is LI) (by have := ints_dep LI; omega) ⟨_, rfl, iteF ?_⟩
    have s24 := s3.trans s4
    refine ⟨_, rfl, ta, m, f, k, vk, mk, F, cc, rfl, T2.same s24, hmk, G, fun H5 s5 => ⟨_, rfl, iteF ?_⟩⟩
    have D5 := (D2.same s24).same s5
    refine ⟨_, rfl, (by show 4 ≤ sizeLine; decide), fun pl hpl => ?_⟩
    have lt := same_upd hpl (.lst (LET.map V.str))
    obtain ⟨n1, n2⟩ := D5.free hpl
    refine ⟨d, c, pl, LET.map V.str, rfl, D5.same lt, .inl upd_same, n1, n2, by decide, by decide, fun x H6 hx x6 D6 => ?_⟩
    obtain ⟨w, hw, rfl⟩ := List.mem_map.mp hx
    obtain ⟨w1, wn⟩ := let_cs w hw
    refine ⟨_, rfl, d, c, 9, rfl, D6, by decide, by decide, fun r H7 r0 r1 x7 D7 => ?_⟩
    obtain ⟨dd, rfl⟩ : ∃ dd : Nat, r = (dd : Int) := ⟨r.toNat, by omega⟩
    have hd : dd ≤ 8 := by omega
    have l10 : (cs "maker z 0\n").length = 10 := by decide +kernel
    refine ⟨cs "maker z 0\n", dd, (sv_cs _).symm, rfl, by decide +kernel, by omega, by rw [l10]; omega, ?_⟩
    have lml : (mkS (Lm dd)).length = dd * 10 := by rw [mk_len, lm_len]
    have el : ((((mkS (Lm dd)).length : Int)).fdiv 10 + 1) = (dd : Int) + 1 := by
      rw [lml]
      have : (((dd * 10 : Nat) : Int)).fdiv 10 = (dd : Int) := by
        rw [Int.fdiv_eq_ediv_of_nonneg _ (by decide)]; omega
      omega
    refine go_nm (nx_of ?_)
    refine go_ix (n := (dd : Int) + 1) (fun H Q s q => ⟨_, rfl, mkS (Lm dd), rfl, small7 (by omega), _, _, rfl, rfl, ⟨by decide, by decide⟩, _, _, rfl, rfl, by have := q H (.refl _); rw [← el] at this; exact this⟩) fun Hl sl => ?_
    have Dl_ := D7.same sl
    refine ⟨by decide, fun p hp => ?_⟩
    refine ⟨(by show 3 ≤ sizeLine; decide), fun pm hpm => ⟨pm, rfl, ⟨_, SqL.of upd_same⟩, ?_⟩⟩
    have npm : p ≠ pm := ne_of_none upd_same hpm
    have hpm0 : Hl pm = none := (same_upd hp _).free hpm
    obtain ⟨nd1, nd2⟩ := Dl_.free hp
    have sX : Same Hl (upd Hl pm (.lst [.int 0, .int 1, .int 0])) := same_upd hpm0 _
    have pX : (upd Hl pm (.lst [.int 0, .int 1, .int 0])) p = none := by rw [upd_ne npm]; exact hp
    have sX9 : Same (upd Hl pm (.lst [.int 0, .int 1, .int 0])) (upd (upd Hl p (.lst [])) pm (.lst [.int 0, .int 1, .int 0])) := fun b u h => by
      by_cases e : b = pm
      · rw [e, upd_same] at h; rw [e, upd_same]; exact h
      · rw [upd_ne e] at h
        rw [upd_ne e, upd_ne (ne_of_none h hp)]; exact h
    have ePm : (upd Hl pm (.lst [.int 0, .int 1, .int 0])) pm = some (.lst [.int 0, .int 1, .int 0]) := upd_same
    have e9 : (upd (upd Hl p (.lst [])) pm (.lst [.int 0, .int 1, .int 0])) p = some (.lst []) := by rw [upd_ne npm]; exact upd_same
    have DX := Dl_.same sX
    generalize upd Hl pm (.lst [.int 0, .int 1, .int 0]) = HX at sX pX sX9 ePm DX
    generalize upd (upd Hl p (.lst [])) pm (.lst [.int 0, .int 1, .int 0]) = H9 at sX9 e9
    refine for_list (K := K) (a := pm) (xs := [V.int 0, V.int 1, V.int 0]) (fun i σ H' => ∃ y7 y8 y9 y10 y11 vs, σ = [some (.ref a), some (.ref d), some (.ref ta), some (.str w), some (SV (Lm dd)), some (.int ((dd : Int) + 1)), some (.ref p), y7, y8, y9, y10, y11, none, none] ∧ Asked HX H' p vs (6 * i)) ?_ ?_ ?_ ?_
    · exact ⟨_, _, _, _, _, [], rfl, sX9, e9, rfl, fun x h => by cases h⟩
    · exact fun i σ H' _ ⟨_, _, _, _, _, _, _, A⟩ => SqL.of (A.s _ _ ePm)
    · rintro i x σ H' hx ⟨y7, y8, y9, y10, y11, vs, rfl, A⟩
      have i3 := (List.getElem?_eq_some_iff.mp hx).1
      obtain ⟨e, he, rfl⟩ : ∃ e : Nat, e < 2 ∧ x = .int (e : Int) := by
        have : x ∈ [V.int 0, V.int 1, V.int 0] := List.mem_of_getElem? hx
        simp only [List.mem_cons, List.not_mem_nil, or_false] at this
        rcases this with rfl | rfl | rfl
        · exact ⟨0, by decide, rfl⟩
        · exact ⟨1, by decide, rfl⟩
        · exact ⟨0, by decide, rfl⟩
      have i18 : 6 * i ≤ 12 := by simp at i3; omega
      have b4 : (Lm dd).length ≤ 80 := by rw [lm_len]; omega
      have b9 : (Wd w e).length ≤ 13 := by rw [wd_len w hw e he]; omega
      have b10 : (Nt e).length ≤ 121 := by rw [nt_len]; omega
      refine go_ix (ix_at ix_neg (ix_var rfl) rfl he) fun Ha sa => ?_
      refine go_tx (l := Wd w e) (tx_mul (n := 12 + e) (tx_varS (z := w) rfl) (fun H Q s q => ⟨_, rfl, _, _, rfl, rfl, by have := q H (.refl _); rw [show (((12 + e : Nat)) : Int) = 12 + (e : Int) by omega] at this; exact this⟩) wn (by omega) (by rw [w1]; omega)) fun Hb sb => ?_
      have A0 : Asked HX Hb p vs (6 * i) := ⟨(A.s.trans sa).trans sb, sb _ _ (sa _ _ A.e), A.l, fun x hx => (A.ok x hx).tk (.of (sa.trans sb))⟩
      have d1 := due_e he (T := fun e => tx1 (Lm dd) (Wd w e)) (due1 hd hw)
      refine ⟨_, rfl, .inl ⟨rfl, _, SqL.of A0.e⟩, go_pair (T := tx1 (Lm dd) (Wd w e)) (tn_add (tn_add (tn_add (tn_var rfl b4) tn_lit (by decide)) (tn_var rfl b9) (by decide)) tn_lit (by decide)).1 (ix_var rfl) fun a1 H1 s1 e1 => ⟨p, _, _, rfl, rfl, s1 _ _ A0.e, small1000 (by rw [A0.l]; omega), ?_⟩⟩
      have A1 := A0.add pX s1 e1 d1
      have d2 := due_e he (T := fun e => tx2 (Lm dd) (Wd w e)) (due2 hd hw)
      refine ⟨_, rfl, .inl ⟨rfl, _, SqL.of A1.e⟩, go_pair (T := tx2 (Lm dd) (Wd w e)) (tn_add (tn_add (tn_add (tn_var rfl b4) tn_lit (by decide)) (tn_var rfl b9) (by decide)) tn_lit (by decide)).1 (ix_var rfl) fun a2 H2 s2 e2 => ⟨p, _, _, rfl, rfl, s2 _ _ A1.e, small1000 (by rw [A1.l]; omega), ?_⟩⟩
      have A2 := A1.add pX s2 e2 d2
      have ln : (cs "n(").length = 2 := by decide
      have lp : (cs ")").length = 1 := by decide
      have lm1 : (cs "m").length = 1 := by decide
      have nn : cs "n(" ≠ [] := by decide
      have np : cs ")" ≠ [] := by decide
      refine nx_of ?_
      refine go_tx (l := Nt e) (tx_add (tx_add (tx_mul (n := 39 + e) tx_lit (fun H Q s q => ⟨_, rfl, _, _, rfl, rfl, by have := q H (.refl _); rw [show (((39 + e : Nat)) : Int) = 39 + (e : Int) by omega] at this; exact this⟩) nn (by omega) (by rw [ln]; omega)) tx_lit (by rw [repL_len, ln, lm1]; omega)) (tx_mul (n := 39 + e) tx_lit (fun H Q s q => ⟨_, rfl, _, _, rfl, rfl, by have := q H (.refl _); rw [show (((39 + e : Nat)) : Int) = 39 + (e : Int) by omega] at this; exact this⟩) np (by omega) (by rw [lp]; omega)) (by rw [List.length_append, repL_len, repL_len, ln, lm1, lp]; omega)) fun Hc sc => ?_
      have A2' := A2.same sc
      have d3 := due_e he (T := fun e => tx3 (Lm dd) (Nt e)) (due3 hd)
      refine ⟨_, rfl, .inl ⟨rfl, _, SqL.of A2'.e⟩, go_pair (T := tx3 (Lm dd) (Nt e)) (tn_add (tn_add (tn_add (tn_var rfl b4) tn_lit (by decide)) (tn_var rfl b10) (by decide)) tn_lit (by decide)).1 (ix_var rfl) fun a3 H3 s3 e3 => ⟨p, _, _, rfl, rfl, s3 _ _ A2'.e, small1000 (by rw [A2'.l]; omega), ?_⟩⟩
      have A3 := A2'.add pX s3 e3 d3
      have d4 := due_e he (T := fun e => tx4 (Lm dd) (Nt e)) (due4 hd)
      refine ⟨_, rfl, .inl ⟨rfl, _, SqL.of A3.e⟩, go_pair (T := tx4 (Lm dd) (Nt e)) (tn_add (tn_add (tn_add (tn_var rfl b4) tn_lit (by decide)) (tn_var rfl b10) (by decide)) tn_lit (by decide)).1 (ix_var rfl) fun a4 H4 s4 e4 => ⟨p, _, _, rfl, rfl, s4 _ _ A3.e, small1000 (by rw [A3.l]; omega), ?_⟩⟩
      have A4 := A3.add pX s4 e4 d4
      have b11 : (Lm dd ++ cs "fun f falls 0 : F(a) -> F(a)\n").length ≤ 120 := by rw [List.length_append, lm_len, show (cs "fun f falls 0 : F(a) -> F(a)\n").length = 29 by decide]; omega
      refine nx_of ?_
      refine go_tx (l := Lm dd ++ cs "fun f falls 0 : F(a) -> F(a)\n") (tx_add (tx_var rfl) tx_lit (by rw [← List.length_append]; omega)) fun Hd sd => ?_
      have A4' := A4.same sd
      have d5 : Due (mkS (tx5 (Lm dd) (Nt e))) (if e = 0 then -1 else (dd : Int) + 1 + 1) := due_e he (T := fun e => tx5 (Lm dd) (Nt e)) ⟨(due5 hd).1, by have := (due5 hd).2; rw [show (dd : Int) + 1 + 1 = (dd : Int) + 2 by omega]; exact this⟩
      refine ⟨_, rfl, .inl ⟨rfl, _, SqL.of A4'.e⟩, go_pair (T := tx5 (Lm dd) (Nt e)) (tn_add (tn_add (tn_add (tn_var rfl b11) tn_lit (by decide)) (tn_var rfl b10) (by decide)) tn_lit (by decide)).1 (ix_at ix_neg (fun H Q s q => ⟨_, rfl, _, _, rfl, rfl, q H (.refl _)⟩) rfl he) fun a5 H5 s5 e5 => ⟨p, _, _, rfl, rfl, s5 _ _ A4'.e, small1000 (by rw [A4'.l]; omega), ?_⟩⟩
      have A5 := A4'.add pX s5 e5 d5
      have b6 : (Cmt dd e).length ≤ 6000 := by rw [cmt_len]; omega
      have la : (cs "a").length = 1 := by decide
      have na : cs "a" ≠ [] := by decide
      have d6 := due_e he (T := fun e => tx6 (Lm dd) (Cmt dd e)) (due6 hd)
      refine ⟨_, rfl, .inl ⟨rfl, _, SqL.of A5.e⟩, go_pair (T := tx6 (Lm dd) (Cmt dd e)) (tn_add (tn_add (tn_add (tn_var rfl b4) tn_lit (by decide)) ⟨tx_mul (n := 5998 + e - dd * 10) tx_lit (fun H Q s q => ⟨_, rfl, _, _, rfl, rfl, _, rfl, mkS (Lm dd), rfl, small7 (by omega), _, _, rfl, rfl, by
        have := q H (.refl _)
        rw [show (((5998 + e - dd * 10 : Nat)) : Int) = 5998 + (e : Int) - ((mkS (Lm dd)).length : Int) by rw [lml]; omega] at this
        exact this⟩) na (by omega) (by rw [la]; omega), b6⟩ (by decide)) tn_lit (by decide)).1 (ix_at ix_neg ix_lit rfl he) fun a6 H6 s6 e6 => ⟨p, _, _, rfl, rfl, s6 _ _ A5.e, small1000 (by rw [A5.l]; omega), ?_⟩⟩
      have A6 := A5.add pX s6 e6 d6
      exact ⟨_, _, _, _, _, _, rfl, by rw [show 6 * (i + 1) = 6 * i + 1 + 1 + 1 + 1 + 1 + 1 by omega]; exact A6⟩
    rintro σ H10 ⟨y7, y8, y9, y10, y11, vs, rfl, A⟩
    have D10 := DX.same A.s
    have hv : vs.length = 18 := A.l
    refine ⟨20, rfl, by decide, by decide, ?_⟩
    refine for_range (n := 20) (fun i σ H2 => ∃ y8 y12 y13, σ = [some (.ref a), some (.ref d), some (.ref ta), some (.str w), some (SV (Lm dd)), some (.int ((dd : Int) + 1)), some (.ref p), y7, y8, y9, y10, y11, y12, y13] ∧ Dr H2 d c ∧ H2 p = some (.lst vs) ∧ ∀ x ∈ vs, EntOk H2 x) ?_ ?_ ?_
    · exact ⟨_, _, _, rfl, D10, A.e, A.ok⟩
    · rintro i σ H2 hi ⟨y8, y12, y13, rfl, D, ep, ok⟩
      refine ⟨_, rfl, _, rfl, d, c, p, vs, rfl, D, .inl ep, nd1, nd2, by omega, by omega, fun x H3 hx x3 D3 => ?_⟩
      obtain ⟨a3, z, n, rfl, ea, du⟩ := (ok x hx).tk (x3.tk D)
      refine ⟨a3, _, rfl, .inl (.inl ea), rfl, _, _, rfl, _, _, rfl, rfl, ?_⟩
      refine ⟨_, rfl, z, n, rfl, du, fun H4 s4 => ⟨_, rfl, rfl, _, rfl, ?_⟩⟩
      rw [show (!decide (V.int n = V.int n)) = false by simp]
      exact iteF ⟨_, _, _, rfl, D3.same s4, s4 _ _ (x3.but _ _ nd1 nd2 ep), fun x hx => ((ok x hx).tk (x3.tk D)).tk (.of s4)⟩
    rintro σ H2 ⟨y8, y12, y13, rfl, D, ep, ok⟩
    refine ⟨_, rfl, _, rfl, d, c, 3, rfl, D, by decide, by decide, fun r H3 r0 r1 x3 D3 => ⟨_, _, rfl, rfl, p, vs, 1 + r, rfl, rfl, by omega, SqL.of (x3.but _ _ nd1 nd2 ep), fun p2 ys hp2 hys hyl => ⟨p2, rfl, ⟨_, SqL.of upd_same⟩, ?_⟩⟩⟩
    have s2 := same_upd hp2 (.lst ys)
    refine for_list (K := K) (a := p2) (xs := ys) (fun i σ H' => ∃ y8 y13, σ = [some (.ref a), some (.ref d), some (.ref ta), some (.str w), some (SV (Lm dd)), some (.int ((dd : Int) + 1)), some (.ref p), y7, y8, y9, y10, y11, y12, y13] ∧ Same (upd H3 p2 (.lst ys)) H') ?_ ?_ ?_ ?_
    · exact ⟨_, _, rfl, .refl _⟩
    · exact fun i σ H' _ ⟨_, _, _, s⟩ => SqL.of (s _ _ upd_same)
    · rintro i x σ H' hx ⟨y8, y13, rfl, s⟩
      have hm := hys x (List.mem_of_getElem? hx)
      obtain ⟨a3, z, n, rfl, ea, du⟩ := (((ok x hm).tk (x3.tk D)).tk (.of s2)).tk (.of s)
      refine ⟨a3, _, rfl, .inl (.inl ea), rfl, _, _, rfl, _, _, rfl, rfl, ?_⟩
      refine ⟨_, rfl, z, n, rfl, du, fun H4 s4 => ⟨_, rfl, rfl, _, rfl, ?_⟩⟩
      rw [show (!decide (V.int n = V.int n)) = false by simp]
      exact iteF ⟨_, _, rfl, s.trans s4⟩
    · rintro σ H' ⟨y8, y13, rfl, s⟩
      exact q _
end
end Kx
set_option maxHeartbeats 4000000
/-! The end: the program's top leaves the defs where the text says. -/
namespace Kx
open PySem L2
theorem all_mk {l : PySem.W.OpenLaw} {w : World} {K : PySem.W.Frag} {h : Heap} {mg : Str → Option Value} {fa f0 f1 f2 f3 f4 f5 f6 f7 f8 f9 f10 f11 f12 f13 f14 f15 f16 f17 f18 f19 f20 f21 f22 f23 f24 f25 f26 f27 f28 f29 f30 f31 f32 f33 f34 f35 f36 f37 f38 f39 f40 f41 f42 f43 f44 f45 f46 f47 : Addr} (X : K.In h) (G : h.Ns mainGlobals mg) (hfa : mg "law" = some (.ref fa))
    {od0 an0 od1 an1 od2 an2 od3 an3 od4 an4 od5 an5 od6 an6 od7 an7 od8 an8 od9 an9 od10 an10 od11 an11 od12 an12 od13 an13 od14 an14 od15 an15 od16 an16 od17 an17 od18 an18 od19 an19 od20 an20 od21 an21 od22 an22 od23 an23 od24 an24 od25 an25 od26 an26 od27 an27 od28 an28 od29 an29 od30 an30 od31 an31 od32 an32 od33 an33 od34 an34 od35 an35 od36 an36 od37 an37 od38 an38 od39 an39 od40 an40 od41 an41 od42 an42 od43 an43 od44 an44 od45 an45 od46 an46 od47 an47 : Option Addr} {sl0 sl1 sl2 sl3 sl4 sl5 sl6 sl7 sl8 sl9 sl10 sl11 sl12 sl13 sl14 sl15 sl16 sl17 sl18 sl19 sl20 sl21 sl22 sl23 sl24 sl25 sl26 sl27 sl28 sl29 sl30 sl31 sl32 sl33 sl34 sl35 sl36 sl37 sl38 sl39 sl40 sl41 sl42 sl43 sl44 sl45 sl46 sl47 : Array (Option Value)} {oc0 kV0 dc0 pm0 cd0 ct0 oc1 kV1 dc1 pm1 cd1 ct1 oc2 kV2 dc2 pm2 cd2 ct2 oc3 kV3 dc3 pm3 cd3 ct3 oc4 kV4 dc4 pm4 cd4 ct4 oc5 kV5 dc5 pm5 cd5 ct5 oc6 kV6 dc6 pm6 cd6 ct6 oc7 kV7 dc7 pm7 cd7 ct7 oc8 kV8 dc8 pm8 cd8 ct8 oc9 kV9 dc9 pm9 cd9 ct9 oc10 kV10 dc10 pm10 cd10 ct10 oc11 kV11 dc11 pm11 cd11 ct11 oc12 kV12 dc12 pm12 cd12 ct12 oc13 kV13 dc13 pm13 cd13 ct13 oc14 kV14 dc14 pm14 cd14 ct14 oc15 kV15 dc15 pm15 cd15 ct15 oc16 kV16 dc16 pm16 cd16 ct16 oc17 kV17 dc17 pm17 cd17 ct17 oc18 kV18 dc18 pm18 cd18 ct18 oc19 kV19 dc19 pm19 cd19 ct19 oc20 kV20 dc20 pm20 cd20 ct20 oc21 kV21 dc21 pm21 cd21 ct21 oc22 kV22 dc22 pm22 cd22 ct22 oc23 kV23 dc23 pm23 cd23 ct23 oc24 kV24 dc24 pm24 cd24 ct24 oc25 kV25 dc25 pm25 cd25 ct25 oc26 kV26 dc26 pm26 cd26 ct26 oc27 kV27 dc27 pm27 cd27 ct27 oc28 kV28 dc28 pm28 cd28 ct28 oc29 kV29 dc29 pm29 cd29 ct29 oc30 kV30 dc30 pm30 cd30 ct30 oc31 kV31 dc31 pm31 cd31 ct31 oc32 kV32 dc32 pm32 cd32 ct32 oc33 kV33 dc33 pm33 cd33 ct33 oc34 kV34 dc34 pm34 cd34 ct34 oc35 kV35 dc35 pm35 cd35 ct35 oc36 kV36 dc36 pm36 cd36 ct36 oc37 kV37 dc37 pm37 cd37 ct37 oc38 kV38 dc38 pm38 cd38 ct38 oc39 kV39 dc39 pm39 cd39 ct39 oc40 kV40 dc40 pm40 cd40 ct40 oc41 kV41 dc41 pm41 cd41 ct41 oc42 kV42 dc42 pm42 cd42 ct42 oc43 kV43 dc43 pm43 cd43 ct43 oc44 kV44 dc44 pm44 cd44 ct44 oc45 kV45 dc45 pm45 cd45 ct45 oc46 kV46 dc46 pm46 cd46 ct46 oc47 kV47 dc47 pm47 cd47 ct47 : Value}
    {C0 : Addr} (aC0 : PySem.W.nsIn K mainGlobals "Line" = some (some (.ref C0))) (pg0 : PySem.W.plainGet K C0 Str.empty = true) (hd0 : PySem.W.hasDictIn K C0 = true) (po0 : PySem.W.plainOver K C0 = true) (sa0 : PySem.W.findIn K (.ref C0) "__setattr__" = some (some (.builtin "object.__setattr__"))) (mk0 : PySem.W.makesIn K C0 = true) (kc0 : PySem.W.keepIn K (.ref C0) = true) (nx0_0 : PySem.W.findIn K (.ref C0) "number" = some none) (nx0_1 : PySem.W.findIn K (.ref C0) "at" = some none) (nx0_2 : PySem.W.findIn K (.ref C0) "tokens" = some none)
    {C1 : Addr} (aC1 : PySem.W.nsIn K mainGlobals "Question" = some (some (.ref C1))) (pg1 : PySem.W.plainGet K C1 Str.empty = true) (hd1 : PySem.W.hasDictIn K C1 = true) (po1 : PySem.W.plainOver K C1 = true) (sa1 : PySem.W.findIn K (.ref C1) "__setattr__" = some (some (.builtin "object.__setattr__"))) (mk1 : PySem.W.makesIn K C1 = true) (kc1 : PySem.W.keepIn K (.ref C1) = true) 
    {C2 : Addr} (aC2 : PySem.W.nsIn K mainGlobals "Draft" = some (some (.ref C2))) (pg2 : PySem.W.plainGet K C2 Str.empty = true) (hd2 : PySem.W.hasDictIn K C2 = true) (po2 : PySem.W.plainOver K C2 = true) (sa2 : PySem.W.findIn K (.ref C2) "__setattr__" = some (some (.builtin "object.__setattr__"))) (mk2 : PySem.W.makesIn K C2 = true) (kc2 : PySem.W.keepIn K (.ref C2) = true) (nx2_0 : PySem.W.findIn K (.ref C2) "asks" = some none) (nx2_1 : PySem.W.findIn K (.ref C2) "makers" = some none) (nx2_2 : PySem.W.findIn K (.ref C2) "families" = some none) (nx2_3 : PySem.W.findIn K (.ref C2) "constructors" = some none) (nx2_4 : PySem.W.findIn K (.ref C2) "functions" = some none) (nx2_5 : PySem.W.findIn K (.ref C2) "questions" = some none)
    {ti0 : Tok} (gi0 : PySem.W.nsIn K mainGlobals "MOST_NAME" = some (some (.int 12 ti0)))
    {ti1 : Tok} (gi1 : PySem.W.nsIn K mainGlobals "MOST_MAKERS" = some (some (.int 5 ti1)))
    {ti2 : Tok} (gi2 : PySem.W.nsIn K mainGlobals "MOST_FAMILIES" = some (some (.int 4 ti2)))
    {ti3 : Tok} (gi3 : PySem.W.nsIn K mainGlobals "MOST_CONSTRUCTORS" = some (some (.int 16 ti3)))
    {ti4 : Tok} (gi4 : PySem.W.nsIn K mainGlobals "MOST_PARTS" = some (some (.int 3 ti4)))
    {ti5 : Tok} (gi5 : PySem.W.nsIn K mainGlobals "MOST_NAMES" = some (some (.int 4 ti5)))
    {ti6 : Tok} (gi6 : PySem.W.nsIn K mainGlobals "MOST_DEEP" = some (some (.int 4 ti6)))
    {ti7 : Tok} (gi7 : PySem.W.nsIn K mainGlobals "MOST_FUNCTIONS" = some (some (.int 12 ti7)))
    {ti8 : Tok} (gi8 : PySem.W.nsIn K mainGlobals "MOST_CLAUSES" = some (some (.int 12 ti8)))
    {ti9 : Tok} (gi9 : PySem.W.nsIn K mainGlobals "MOST_PATTERN" = some (some (.int 6 ti9)))
    {ti10 : Tok} (gi10 : PySem.W.nsIn K mainGlobals "MOST_BODY" = some (some (.int 30 ti10)))
    {ti11 : Tok} (gi11 : PySem.W.nsIn K mainGlobals "MOST_TEXT" = some (some (.int 6000 ti11)))
    {ti12 : Tok} (gi12 : PySem.W.nsIn K mainGlobals "MOST_OPEN" = some (some (.int 40 ti12)))
    {ti13 : Tok} (gi13 : PySem.W.nsIn K mainGlobals "MOST_DIGITS" = some (some (.int 2 ti13)))
    {ti14 : Tok} (gi14 : PySem.W.nsIn K mainGlobals "PERCENT_CODE" = some (some (.int 37 ti14)))
    (a0 : PySem.W.nsIn K mainGlobals "is_word" = some (some (.ref f0))) (l0 : K.lookup f0 = some ⟨oc0, od0, .func (PySem.W.fnOf "is_word" "is_word" (defArgs s_is_word) (defBody s_is_word) (defScope s_is_word) .none kV0 dc0 pm0 an0 cd0 ct0), sl0⟩) (c0 : PySem.W.codeIn K cd0 "is_word" = true) (k0 : PySem.W.keepIn K (.ref f0) = true)
    (a1 : PySem.W.nsIn K mainGlobals "parts_of" = some (some (.ref f1))) (l1 : K.lookup f1 = some ⟨oc1, od1, .func (PySem.W.fnOf "parts_of" "parts_of" (defArgs s_parts_of) (defBody s_parts_of) (defScope s_parts_of) .none kV1 dc1 pm1 an1 cd1 ct1), sl1⟩) (c1 : PySem.W.codeIn K cd1 "parts_of" = true) (k1 : PySem.W.keepIn K (.ref f1) = true)
    (a2 : PySem.W.nsIn K mainGlobals "constructor_of" = some (some (.ref f2))) (l2 : K.lookup f2 = some ⟨oc2, od2, .func (PySem.W.fnOf "constructor_of" "constructor_of" (defArgs s_constructor_of) (defBody s_constructor_of) (defScope s_constructor_of) .none kV2 dc2 pm2 an2 cd2 ct2), sl2⟩) (c2 : PySem.W.codeIn K cd2 "constructor_of" = true) (k2 : PySem.W.keepIn K (.ref f2) = true)
    (a3 : PySem.W.nsIn K mainGlobals "constructors_of" = some (some (.ref f3))) (l3 : K.lookup f3 = some ⟨oc3, od3, .func (PySem.W.fnOf "constructors_of" "constructors_of" (defArgs s_constructors_of) (defBody s_constructors_of) (defScope s_constructors_of) .none kV3 dc3 pm3 an3 cd3 ct3), sl3⟩) (c3 : PySem.W.codeIn K cd3 "constructors_of" = true) (k3 : PySem.W.keepIn K (.ref f3) = true)
    (a4 : PySem.W.nsIn K mainGlobals "words_of" = some (some (.ref f4))) (l4 : K.lookup f4 = some ⟨oc4, od4, .func (PySem.W.fnOf "words_of" "words_of" (defArgs s_words_of) (defBody s_words_of) (defScope s_words_of) .none kV4 dc4 pm4 an4 cd4 ct4), sl4⟩) (c4 : PySem.W.codeIn K cd4 "words_of" = true) (k4 : PySem.W.keepIn K (.ref f4) = true)
    (a5 : PySem.W.nsIn K mainGlobals "rows_of" = some (some (.ref f5))) (l5 : K.lookup f5 = some ⟨oc5, od5, .func (PySem.W.fnOf "rows_of" "rows_of" (defArgs s_rows_of) (defBody s_rows_of) (defScope s_rows_of) .none kV5 dc5 pm5 an5 cd5 ct5), sl5⟩) (c5 : PySem.W.codeIn K cd5 "rows_of" = true) (k5 : PySem.W.keepIn K (.ref f5) = true)
    (a6 : PySem.W.nsIn K mainGlobals "_is_allowed" = some (some (.ref f6))) (l6 : K.lookup f6 = some ⟨oc6, od6, .func (PySem.W.fnOf "_is_allowed" "_is_allowed" (defArgs s_is_allowed) (defBody s_is_allowed) (defScope s_is_allowed) .none kV6 dc6 pm6 an6 cd6 ct6), sl6⟩) (c6 : PySem.W.codeIn K cd6 "_is_allowed" = true) (k6 : PySem.W.keepIn K (.ref f6) = true)
    (a7 : PySem.W.findIn K (.ref C0) "__init__" = some (some (.ref f7))) (i7 : PySem.W.isFn K (.ref f7) = true) (l7 : K.lookup f7 = some ⟨oc7, od7, .func (PySem.W.fnOf "__init__" "Line.__init__" (defArgs s_Line_init) (defBody s_Line_init) (defScope s_Line_init) .none kV7 dc7 pm7 an7 cd7 ct7), sl7⟩) (c7 : PySem.W.codeIn K cd7 "Line.__init__" = true) (k7 : PySem.W.keepIn K (.ref f7) = true)
    (a8 : PySem.W.findIn K (.ref C0) "refuse" = some (some (.ref f8))) (i8 : PySem.W.isFn K (.ref f8) = true) (l8 : K.lookup f8 = some ⟨oc8, od8, .func (PySem.W.fnOf "refuse" "Line.refuse" (defArgs s_Line_refuse) (defBody s_Line_refuse) (defScope s_Line_refuse) .none kV8 dc8 pm8 an8 cd8 ct8), sl8⟩) (c8 : PySem.W.codeIn K cd8 "Line.refuse" = true) (k8 : PySem.W.keepIn K (.ref f8) = true)
    (a9 : PySem.W.findIn K (.ref C0) "comes" = some (some (.ref f9))) (i9 : PySem.W.isFn K (.ref f9) = true) (l9 : K.lookup f9 = some ⟨oc9, od9, .func (PySem.W.fnOf "comes" "Line.comes" (defArgs s_Line_comes) (defBody s_Line_comes) (defScope s_Line_comes) .none kV9 dc9 pm9 an9 cd9 ct9), sl9⟩) (c9 : PySem.W.codeIn K cd9 "Line.comes" = true) (k9 : PySem.W.keepIn K (.ref f9) = true)
    (a10 : PySem.W.findIn K (.ref C0) "take" = some (some (.ref f10))) (i10 : PySem.W.isFn K (.ref f10) = true) (l10 : K.lookup f10 = some ⟨oc10, od10, .func (PySem.W.fnOf "take" "Line.take" (defArgs s_Line_take) (defBody s_Line_take) (defScope s_Line_take) .none kV10 dc10 pm10 an10 cd10 ct10), sl10⟩) (c10 : PySem.W.codeIn K cd10 "Line.take" = true) (k10 : PySem.W.keepIn K (.ref f10) = true)
    (a11 : PySem.W.findIn K (.ref C0) "skip" = some (some (.ref f11))) (i11 : PySem.W.isFn K (.ref f11) = true) (l11 : K.lookup f11 = some ⟨oc11, od11, .func (PySem.W.fnOf "skip" "Line.skip" (defArgs s_Line_skip) (defBody s_Line_skip) (defScope s_Line_skip) .none kV11 dc11 pm11 an11 cd11 ct11), sl11⟩) (c11 : PySem.W.codeIn K cd11 "Line.skip" = true) (k11 : PySem.W.keepIn K (.ref f11) = true)
    (a12 : PySem.W.findIn K (.ref C0) "finish" = some (some (.ref f12))) (i12 : PySem.W.isFn K (.ref f12) = true) (l12 : K.lookup f12 = some ⟨oc12, od12, .func (PySem.W.fnOf "finish" "Line.finish" (defArgs s_Line_finish) (defBody s_Line_finish) (defScope s_Line_finish) .none kV12 dc12 pm12 an12 cd12 ct12), sl12⟩) (c12 : PySem.W.codeIn K cd12 "Line.finish" = true) (k12 : PySem.W.keepIn K (.ref f12) = true)
    (a13 : PySem.W.findIn K (.ref C0) "take_word" = some (some (.ref f13))) (i13 : PySem.W.isFn K (.ref f13) = true) (l13 : K.lookup f13 = some ⟨oc13, od13, .func (PySem.W.fnOf "take_word" "Line.take_word" (defArgs s_Line_take_word) (defBody s_Line_take_word) (defScope s_Line_take_word) .none kV13 dc13 pm13 an13 cd13 ct13), sl13⟩) (c13 : PySem.W.codeIn K cd13 "Line.take_word" = true) (k13 : PySem.W.keepIn K (.ref f13) = true)
    (a14 : PySem.W.findIn K (.ref C0) "take_number" = some (some (.ref f14))) (i14 : PySem.W.isFn K (.ref f14) = true) (l14 : K.lookup f14 = some ⟨oc14, od14, .func (PySem.W.fnOf "take_number" "Line.take_number" (defArgs s_Line_take_number) (defBody s_Line_take_number) (defScope s_Line_take_number) .none kV14 dc14 pm14 an14 cd14 ct14), sl14⟩) (c14 : PySem.W.codeIn K cd14 "Line.take_number" = true) (k14 : PySem.W.keepIn K (.ref f14) = true)
    (a15 : PySem.W.findIn K (.ref C0) "take_tree" = some (some (.ref f15))) (i15 : PySem.W.isFn K (.ref f15) = true) (l15 : K.lookup f15 = some ⟨oc15, od15, .func (PySem.W.fnOf "take_tree" "Line.take_tree" (defArgs s_Line_take_tree) (defBody s_Line_take_tree) (defScope s_Line_take_tree) .none kV15 dc15 pm15 an15 cd15 ct15), sl15⟩) (c15 : PySem.W.codeIn K cd15 "Line.take_tree" = true) (k15 : PySem.W.keepIn K (.ref f15) = true)
    (a16 : PySem.W.findIn K (.ref C0) "take_trees" = some (some (.ref f16))) (i16 : PySem.W.isFn K (.ref f16) = true) (l16 : K.lookup f16 = some ⟨oc16, od16, .func (PySem.W.fnOf "take_trees" "Line.take_trees" (defArgs s_Line_take_trees) (defBody s_Line_take_trees) (defScope s_Line_take_trees) .none kV16 dc16 pm16 an16 cd16 ct16), sl16⟩) (c16 : PySem.W.codeIn K cd16 "Line.take_trees" = true) (k16 : PySem.W.keepIn K (.ref f16) = true)
    (a17 : PySem.W.nsIn K mainGlobals "_tokens_of" = some (some (.ref f17))) (l17 : K.lookup f17 = some ⟨oc17, od17, .func (PySem.W.fnOf "_tokens_of" "_tokens_of" (defArgs s_tokens_of) (defBody s_tokens_of) (defScope s_tokens_of) .none kV17 dc17 pm17 an17 cd17 ct17), sl17⟩) (c17 : PySem.W.codeIn K cd17 "_tokens_of" = true) (k17 : PySem.W.keepIn K (.ref f17) = true)
    (a18 : PySem.W.nsIn K mainGlobals "_token_end" = some (some (.ref f18))) (l18 : K.lookup f18 = some ⟨oc18, od18, .func (PySem.W.fnOf "_token_end" "_token_end" (defArgs s_token_end) (defBody s_token_end) (defScope s_token_end) .none kV18 dc18 pm18 an18 cd18 ct18), sl18⟩) (c18 : PySem.W.codeIn K cd18 "_token_end" = true) (k18 : PySem.W.keepIn K (.ref f18) = true)
    (a19 : PySem.W.nsIn K mainGlobals "_is_number" = some (some (.ref f19))) (l19 : K.lookup f19 = some ⟨oc19, od19, .func (PySem.W.fnOf "_is_number" "_is_number" (defArgs s_is_number) (defBody s_is_number) (defScope s_is_number) .none kV19 dc19 pm19 an19 cd19 ct19), sl19⟩) (c19 : PySem.W.codeIn K cd19 "_is_number" = true) (k19 : PySem.W.keepIn K (.ref f19) = true)
    (a20 : PySem.W.nsIn K mainGlobals "_most_open" = some (some (.ref f20))) (l20 : K.lookup f20 = some ⟨oc20, od20, .func (PySem.W.fnOf "_most_open" "_most_open" (defArgs s_most_open) (defBody s_most_open) (defScope s_most_open) .none kV20 dc20 pm20 an20 cd20 ct20), sl20⟩) (c20 : PySem.W.codeIn K cd20 "_most_open" = true) (k20 : PySem.W.keepIn K (.ref f20) = true)
    (a21 : PySem.W.findIn K (.ref C1) "__init__" = some (some (.ref f21))) (i21 : PySem.W.isFn K (.ref f21) = true) (l21 : K.lookup f21 = some ⟨oc21, od21, .func (PySem.W.fnOf "__init__" "Question.__init__" (defArgs s_Question_init) (defBody s_Question_init) (defScope s_Question_init) .none kV21 dc21 pm21 an21 cd21 ct21), sl21⟩) (c21 : PySem.W.codeIn K cd21 "Question.__init__" = true) (k21 : PySem.W.keepIn K (.ref f21) = true)
    (a22 : PySem.W.nsIn K mainGlobals "take_question" = some (some (.ref f22))) (l22 : K.lookup f22 = some ⟨oc22, od22, .func (PySem.W.fnOf "take_question" "take_question" (defArgs s_take_question) (defBody s_take_question) (defScope s_take_question) .none kV22 dc22 pm22 an22 cd22 ct22), sl22⟩) (c22 : PySem.W.codeIn K cd22 "take_question" = true) (k22 : PySem.W.keepIn K (.ref f22) = true)
    (a23 : PySem.W.findIn K (.ref C2) "__init__" = some (some (.ref f23))) (i23 : PySem.W.isFn K (.ref f23) = true) (l23 : K.lookup f23 = some ⟨oc23, od23, .func (PySem.W.fnOf "__init__" "Draft.__init__" (defArgs s_Draft_init) (defBody s_Draft_init) (defScope s_Draft_init) .none kV23 dc23 pm23 an23 cd23 ct23), sl23⟩) (c23 : PySem.W.codeIn K cd23 "Draft.__init__" = true) (k23 : PySem.W.keepIn K (.ref f23) = true)
    (a24 : PySem.W.nsIn K mainGlobals "read" = some (some (.ref f24))) (l24 : K.lookup f24 = some ⟨oc24, od24, .func (PySem.W.fnOf "read" "read" (defArgs s_read) (defBody s_read) (defScope s_read) .none kV24 dc24 pm24 an24 cd24 ct24), sl24⟩) (c24 : PySem.W.codeIn K cd24 "read" = true) (k24 : PySem.W.keepIn K (.ref f24) = true)
    (a25 : PySem.W.nsIn K mainGlobals "_drafted" = some (some (.ref f25))) (l25 : K.lookup f25 = some ⟨oc25, od25, .func (PySem.W.fnOf "_drafted" "_drafted" (defArgs s_drafted) (defBody s_drafted) (defScope s_drafted) .none kV25 dc25 pm25 an25 cd25 ct25), sl25⟩) (c25 : PySem.W.codeIn K cd25 "_drafted" = true) (k25 : PySem.W.keepIn K (.ref f25) = true)
    (a26 : PySem.W.nsIn K mainGlobals "_take_line" = some (some (.ref f26))) (l26 : K.lookup f26 = some ⟨oc26, od26, .func (PySem.W.fnOf "_take_line" "_take_line" (defArgs s_take_line) (defBody s_take_line) (defScope s_take_line) .none kV26 dc26 pm26 an26 cd26 ct26), sl26⟩) (c26 : PySem.W.codeIn K cd26 "_take_line" = true) (k26 : PySem.W.keepIn K (.ref f26) = true)
    (a27 : PySem.W.nsIn K mainGlobals "_take_maker" = some (some (.ref f27))) (l27 : K.lookup f27 = some ⟨oc27, od27, .func (PySem.W.fnOf "_take_maker" "_take_maker" (defArgs s_take_maker) (defBody s_take_maker) (defScope s_take_maker) .none kV27 dc27 pm27 an27 cd27 ct27), sl27⟩) (c27 : PySem.W.codeIn K cd27 "_take_maker" = true) (k27 : PySem.W.keepIn K (.ref f27) = true)
    (a28 : PySem.W.nsIn K mainGlobals "_take_constructor" = some (some (.ref f28))) (l28 : K.lookup f28 = some ⟨oc28, od28, .func (PySem.W.fnOf "_take_constructor" "_take_constructor" (defArgs s_take_constructor) (defBody s_take_constructor) (defScope s_take_constructor) .none kV28 dc28 pm28 an28 cd28 ct28), sl28⟩) (c28 : PySem.W.codeIn K cd28 "_take_constructor" = true) (k28 : PySem.W.keepIn K (.ref f28) = true)
    (a29 : PySem.W.nsIn K mainGlobals "_take_function" = some (some (.ref f29))) (l29 : K.lookup f29 = some ⟨oc29, od29, .func (PySem.W.fnOf "_take_function" "_take_function" (defArgs s_take_function) (defBody s_take_function) (defScope s_take_function) .none kV29 dc29 pm29 an29 cd29 ct29), sl29⟩) (c29 : PySem.W.codeIn K cd29 "_take_function" = true) (k29 : PySem.W.keepIn K (.ref f29) = true)
    (a30 : PySem.W.nsIn K mainGlobals "_take_kinds" = some (some (.ref f30))) (l30 : K.lookup f30 = some ⟨oc30, od30, .func (PySem.W.fnOf "_take_kinds" "_take_kinds" (defArgs s_take_kinds) (defBody s_take_kinds) (defScope s_take_kinds) .none kV30 dc30 pm30 an30 cd30 ct30), sl30⟩) (c30 : PySem.W.codeIn K cd30 "_take_kinds" = true) (k30 : PySem.W.keepIn K (.ref f30) = true)
    (a31 : PySem.W.nsIn K mainGlobals "_take_kind" = some (some (.ref f31))) (l31 : K.lookup f31 = some ⟨oc31, od31, .func (PySem.W.fnOf "_take_kind" "_take_kind" (defArgs s_take_kind) (defBody s_take_kind) (defScope s_take_kind) .none kV31 dc31 pm31 an31 cd31 ct31), sl31⟩) (c31 : PySem.W.codeIn K cd31 "_take_kind" = true) (k31 : PySem.W.keepIn K (.ref f31) = true)
    (a32 : PySem.W.nsIn K mainGlobals "_take_clause" = some (some (.ref f32))) (l32 : K.lookup f32 = some ⟨oc32, od32, .func (PySem.W.fnOf "_take_clause" "_take_clause" (defArgs s_take_clause) (defBody s_take_clause) (defScope s_take_clause) .none kV32 dc32 pm32 an32 cd32 ct32), sl32⟩) (c32 : PySem.W.codeIn K cd32 "_take_clause" = true) (k32 : PySem.W.keepIn K (.ref f32) = true)
    (a33 : PySem.W.nsIn K mainGlobals "_table" = some (some (.ref f33))) (l33 : K.lookup f33 = some ⟨oc33, od33, .func (PySem.W.fnOf "_table" "_table" (defArgs s_table) (defBody s_table) (defScope s_table) .none kV33 dc33 pm33 an33 cd33 ct33), sl33⟩) (c33 : PySem.W.codeIn K cd33 "_table" = true) (k33 : PySem.W.keepIn K (.ref f33) = true)
    (a34 : PySem.W.nsIn K mainGlobals "_program" = some (some (.ref f34))) (l34 : K.lookup f34 = some ⟨oc34, od34, .func (PySem.W.fnOf "_program" "_program" (defArgs s_program) (defBody s_program) (defScope s_program) .none kV34 dc34 pm34 an34 cd34 ct34), sl34⟩) (c34 : PySem.W.codeIn K cd34 "_program" = true) (k34 : PySem.W.keepIn K (.ref f34) = true)
    (a35 : PySem.W.nsIn K mainGlobals "_constructor_words" = some (some (.ref f35))) (l35 : K.lookup f35 = some ⟨oc35, od35, .func (PySem.W.fnOf "_constructor_words" "_constructor_words" (defArgs s_constructor_words) (defBody s_constructor_words) (defScope s_constructor_words) .none kV35 dc35 pm35 an35 cd35 ct35), sl35⟩) (c35 : PySem.W.codeIn K cd35 "_constructor_words" = true) (k35 : PySem.W.keepIn K (.ref f35) = true)
    (a36 : PySem.W.nsIn K mainGlobals "_kinds" = some (some (.ref f36))) (l36 : K.lookup f36 = some ⟨oc36, od36, .func (PySem.W.fnOf "_kinds" "_kinds" (defArgs s_kinds) (defBody s_kinds) (defScope s_kinds) .none kV36 dc36 pm36 an36 cd36 ct36), sl36⟩) (c36 : PySem.W.codeIn K cd36 "_kinds" = true) (k36 : PySem.W.keepIn K (.ref f36) = true)
    (a37 : PySem.W.nsIn K mainGlobals "_clauses" = some (some (.ref f37))) (l37 : K.lookup f37 = some ⟨oc37, od37, .func (PySem.W.fnOf "_clauses" "_clauses" (defArgs s_clauses) (defBody s_clauses) (defScope s_clauses) .none kV37 dc37 pm37 an37 cd37 ct37), sl37⟩) (c37 : PySem.W.codeIn K cd37 "_clauses" = true) (k37 : PySem.W.keepIn K (.ref f37) = true)
    (a38 : PySem.W.nsIn K mainGlobals "_declared" = some (some (.ref f38))) (l38 : K.lookup f38 = some ⟨oc38, od38, .func (PySem.W.fnOf "_declared" "_declared" (defArgs s_declared) (defBody s_declared) (defScope s_declared) .none kV38 dc38 pm38 an38 cd38 ct38), sl38⟩) (c38 : PySem.W.codeIn K cd38 "_declared" = true) (k38 : PySem.W.keepIn K (.ref f38) = true)
    (a39 : PySem.W.nsIn K mainGlobals "_law_state" = some (some (.ref f39))) (l39 : K.lookup f39 = some ⟨oc39, od39, .func (PySem.W.fnOf "_law_state" "_law_state" (defArgs s_law_state) (defBody s_law_state) (defScope s_law_state) .none kV39 dc39 pm39 an39 cd39 ct39), sl39⟩) (c39 : PySem.W.codeIn K cd39 "_law_state" = true) (k39 : PySem.W.keepIn K (.ref f39) = true)
    (a40 : PySem.W.nsIn K mainGlobals "_law_draw" = some (some (.ref f40))) (l40 : K.lookup f40 = some ⟨oc40, od40, .func (PySem.W.fnOf "_law_draw" "_law_draw" (defArgs s_law_draw) (defBody s_law_draw) (defScope s_law_draw) .none kV40 dc40 pm40 an40 cd40 ct40), sl40⟩) (c40 : PySem.W.codeIn K cd40 "_law_draw" = true) (k40 : PySem.W.keepIn K (.ref f40) = true)
    (a41 : PySem.W.nsIn K mainGlobals "_law_pick" = some (some (.ref f41))) (l41 : K.lookup f41 = some ⟨oc41, od41, .func (PySem.W.fnOf "_law_pick" "_law_pick" (defArgs s_law_pick) (defBody s_law_pick) (defScope s_law_pick) .none kV41 dc41 pm41 an41 cd41 ct41), sl41⟩) (c41 : PySem.W.codeIn K cd41 "_law_pick" = true) (k41 : PySem.W.keepIn K (.ref f41) = true)
    (a42 : PySem.W.nsIn K mainGlobals "_law_shape" = some (some (.ref f42))) (l42 : K.lookup f42 = some ⟨oc42, od42, .func (PySem.W.fnOf "_law_shape" "_law_shape" (defArgs s_law_shape) (defBody s_law_shape) (defScope s_law_shape) .none kV42 dc42 pm42 an42 cd42 ct42), sl42⟩) (c42 : PySem.W.codeIn K cd42 "_law_shape" = true) (k42 : PySem.W.keepIn K (.ref f42) = true)
    (a43 : PySem.W.nsIn K mainGlobals "_law_table" = some (some (.ref f43))) (l43 : K.lookup f43 = some ⟨oc43, od43, .func (PySem.W.fnOf "_law_table" "_law_table" (defArgs s_law_table) (defBody s_law_table) (defScope s_law_table) .none kV43 dc43 pm43 an43 cd43 ct43), sl43⟩) (c43 : PySem.W.codeIn K cd43 "_law_table" = true) (k43 : PySem.W.keepIn K (.ref f43) = true)
    (a44 : PySem.W.nsIn K mainGlobals "_law_line" = some (some (.ref f44))) (l44 : K.lookup f44 = some ⟨oc44, od44, .func (PySem.W.fnOf "_law_line" "_law_line" (defArgs s_law_line) (defBody s_law_line) (defScope s_law_line) .none kV44 dc44 pm44 an44 cd44 ct44), sl44⟩) (c44 : PySem.W.codeIn K cd44 "_law_line" = true) (k44 : PySem.W.keepIn K (.ref f44) = true)
    (a45 : PySem.W.nsIn K mainGlobals "_law_integers" = some (some (.ref f45))) (l45 : K.lookup f45 = some ⟨oc45, od45, .func (PySem.W.fnOf "_law_integers" "_law_integers" (defArgs s_law_integers) (defBody s_law_integers) (defScope s_law_integers) .none kV45 dc45 pm45 an45 cd45 ct45), sl45⟩) (c45 : PySem.W.codeIn K cd45 "_law_integers" = true) (k45 : PySem.W.keepIn K (.ref f45) = true)
    (a46 : PySem.W.nsIn K mainGlobals "_law_table_told" = some (some (.ref f46))) (l46 : K.lookup f46 = some ⟨oc46, od46, .func (PySem.W.fnOf "_law_table_told" "_law_table_told" (defArgs s_law_table_told) (defBody s_law_table_told) (defScope s_law_table_told) .none kV46 dc46 pm46 an46 cd46 ct46), sl46⟩) (c46 : PySem.W.codeIn K cd46 "_law_table_told" = true) (k46 : PySem.W.keepIn K (.ref f46) = true)
    (a47 : PySem.W.nsIn K mainGlobals "law" = some (some (.ref f47))) (l47 : K.lookup f47 = some ⟨oc47, od47, .func (PySem.W.fnOf "law" "law" (defArgs s_law) (defBody s_law) (defScope s_law) .none kV47 dc47 pm47 an47 cd47 ct47), sl47⟩) (c47 : PySem.W.codeIn K cd47 "law" = true) (k47 : PySem.W.keepIn K (.ref f47) = true)
    (z0 : PySem.W.nsIn K mainGlobals "isinstance" = some none)
    (z1 : PySem.W.nsIn K mainGlobals "str" = some none)
    (z2 : PySem.W.nsIn K mainGlobals "len" = some none)
    (z3 : PySem.W.nsIn K mainGlobals "dict" = some none)
    (z4 : PySem.W.nsIn K mainGlobals "tuple" = some none)
    (z5 : PySem.W.nsIn K mainGlobals "list" = some none)
    (z6 : PySem.W.nsIn K mainGlobals "ord" = some none)
    (z7 : PySem.W.nsIn K mainGlobals "int" = some none)
    (z8 : PySem.W.nsIn K mainGlobals "max" = some none)
    (z9 : PySem.W.nsIn K mainGlobals "enumerate" = some none)
    (z10 : PySem.W.nsIn K mainGlobals "abs" = some none)
    (z11 : PySem.W.nsIn K mainGlobals "range" = some none)
    {R0 RI0 RD0 RN0 : Addr} {rnm0 rqn0 : Str} {rbs0 rsub0 : List Value} {rsn0 : List Str} {rab0 : Bool} {rcol0 : Option Bool} {rdd0 : Option Addr} {ra0 rb0 rc0 rd0 re0 : Option Value} {roc0 rdc0 rpm0 rcd0 rct0 : Value} {rod0 ran0 : Option Addr} {rsl0 : Array (Option Value)}
    (qg0 : PySem.W.nsIn K mainGlobals "BadText" = some (some (.ref R0))) (qx0 : K.lookup R0 = some (excClassObj rnm0 rqn0 R0 RN0 rbs0 [.ref RD0, .type "ValueError", .type "Exception", .type "BaseException", .type "object"] true rsn0 rsub0 rab0 rcol0 rdd0 ra0 rb0 rc0 rd0 re0 "ValueError.__new__"))
    (qa0 : PySem.W.findIn K (.ref R0) "__setattr__" = some (some (.builtin "object.__setattr__"))) (qb0 : PySem.W.findIn K (.ref R0) "__getattribute__" = some (some (.builtin "BaseException.__getattribute__"))) (qc0 : PySem.W.findIn K (.ref R0) "__getattr__" = some none) (qd0 : PySem.W.findIn K (.ref R0) "line" = some none)
    (qe0 : PySem.W.findIn K (.ref R0) "__init__" = some (some (.ref RI0))) (qf0 : PySem.W.typeIn K (.ref RI0) = some (.type "function")) (qh0 : PySem.W.keepIn K (.ref R0) = true) (qi0 : PySem.W.subIn K (.ref R0) (.type "BaseException") = some true) (qj0 : PySem.W.typeIn K (.ref R0) = some (.type "type")) (qk0 : PySem.W.hasDictIn K R0 = true) (ql0 : PySem.W.isClsIn K R0 = true) (qm0 : PySem.W.subIn K (.ref R0) (.ref R0) = some true)
    (qn0 : K.lookup RI0 = some ⟨roc0, rod0, .func (PySem.W.fnOf "__init__" "BadText.__init__" (defArgs s_BadText_init) (defBody s_BadText_init) (defScope s_BadText_init) .none .none rdc0 rpm0 ran0 rcd0 rct0), rsl0⟩) (qo0 : PySem.W.codeIn K rcd0 "BadText.__init__" = true)
    : ∃ fd : FuncData, (∀ (s : Shared) (v : Value), BindsTo s fd ⟨[v], []⟩ [("script", v)]) ∧ ∀ base : Heap, K.In base → base.Ns mainGlobals mg → FnOk l.prog w K mg base CX0 101 fa fd ["script"] (spLaw K) := by
  have e := hfa.symm.trans (PySem.W.mg_of X G a47)
  cases e
  let T : Txt K mg := {
    c_Line := C0, cl_Line := ⟨pg0, hd0, po0, sa0⟩, mg_Line := PySem.W.mg_of X G aC0,
    no_Line_number := nx0_0,
    no_Line_at := nx0_1,
    no_Line_tokens := nx0_2,
    mk_Line := ⟨mk0, a7, i7, kc0⟩,
    c_Question := C1, cl_Question := ⟨pg1, hd1, po1, sa1⟩, mg_Question := PySem.W.mg_of X G aC1,
    mk_Question := ⟨mk1, a21, i21, kc1⟩,
    c_Draft := C2, cl_Draft := ⟨pg2, hd2, po2, sa2⟩, mg_Draft := PySem.W.mg_of X G aC2,
    no_Draft_asks := nx2_0,
    no_Draft_makers := nx2_1,
    no_Draft_families := nx2_2,
    no_Draft_constructors := nx2_3,
    no_Draft_functions := nx2_4,
    no_Draft_questions := nx2_5,
    mk_Draft := ⟨mk2, a23, i23, kc2⟩,
    t_MOST_NAME := ti0, g_MOST_NAME := PySem.W.mg_of X G gi0,
    t_MOST_MAKERS := ti1, g_MOST_MAKERS := PySem.W.mg_of X G gi1,
    t_MOST_FAMILIES := ti2, g_MOST_FAMILIES := PySem.W.mg_of X G gi2,
    t_MOST_CONSTRUCTORS := ti3, g_MOST_CONSTRUCTORS := PySem.W.mg_of X G gi3,
    t_MOST_PARTS := ti4, g_MOST_PARTS := PySem.W.mg_of X G gi4,
    t_MOST_NAMES := ti5, g_MOST_NAMES := PySem.W.mg_of X G gi5,
    t_MOST_DEEP := ti6, g_MOST_DEEP := PySem.W.mg_of X G gi6,
    t_MOST_FUNCTIONS := ti7, g_MOST_FUNCTIONS := PySem.W.mg_of X G gi7,
    t_MOST_CLAUSES := ti8, g_MOST_CLAUSES := PySem.W.mg_of X G gi8,
    t_MOST_PATTERN := ti9, g_MOST_PATTERN := PySem.W.mg_of X G gi9,
    t_MOST_BODY := ti10, g_MOST_BODY := PySem.W.mg_of X G gi10,
    t_MOST_TEXT := ti11, g_MOST_TEXT := PySem.W.mg_of X G gi11,
    t_MOST_OPEN := ti12, g_MOST_OPEN := PySem.W.mg_of X G gi12,
    t_MOST_DIGITS := ti13, g_MOST_DIGITS := PySem.W.mg_of X G gi13,
    t_PERCENT_CODE := ti14, g_PERCENT_CODE := PySem.W.mg_of X G gi14,
    a_is_word := f0, d_is_word := _, F_is_word := fun_mk (st := s_is_word) l0 c0 k0, b_is_word := (fun_mk (st := s_is_word) l0 c0 k0).binds (ps := ["value"]) (fun _ _ _ _ _ _ us hl => match us, hl with | [_], _ => rfl), m_is_word := PySem.W.mg_of X G a0,
    a_parts_of := f1, d_parts_of := _, F_parts_of := fun_mk (st := s_parts_of) l1 c1 k1, b_parts_of := (fun_mk (st := s_parts_of) l1 c1 k1).binds (ps := ["table", "maker"]) (fun _ _ _ _ _ _ us hl => match us, hl with | [_, _], _ => rfl), m_parts_of := PySem.W.mg_of X G a1,
    a_constructor_of := f2, d_constructor_of := _, F_constructor_of := fun_mk (st := s_constructor_of) l2 c2 k2, b_constructor_of := (fun_mk (st := s_constructor_of) l2 c2 k2).binds (ps := ["table", "word"]) (fun _ _ _ _ _ _ us hl => match us, hl with | [_, _], _ => rfl), m_constructor_of := PySem.W.mg_of X G a2,
    a_constructors_of := f3, d_constructors_of := _, F_constructors_of := fun_mk (st := s_constructors_of) l3 c3 k3, b_constructors_of := (fun_mk (st := s_constructors_of) l3 c3 k3).binds (ps := ["table", "family"]) (fun _ _ _ _ _ _ us hl => match us, hl with | [_, _], _ => rfl), m_constructors_of := PySem.W.mg_of X G a3,
    a_words_of := f4, d_words_of := _, F_words_of := fun_mk (st := s_words_of) l4 c4 k4, b_words_of := (fun_mk (st := s_words_of) l4 c4 k4).binds (ps := ["table"]) (fun _ _ _ _ _ _ us hl => match us, hl with | [_], _ => rfl), m_words_of := PySem.W.mg_of X G a4,
    a_rows_of := f5, d_rows_of := _, F_rows_of := fun_mk (st := s_rows_of) l5 c5 k5, b_rows_of := (fun_mk (st := s_rows_of) l5 c5 k5).binds (ps := ["text"]) (fun _ _ _ _ _ _ us hl => match us, hl with | [_], _ => rfl), m_rows_of := PySem.W.mg_of X G a5,
    a_is_allowed := f6, d_is_allowed := _, F_is_allowed := fun_mk (st := s_is_allowed) l6 c6 k6, b_is_allowed := (fun_mk (st := s_is_allowed) l6 c6 k6).binds (ps := ["sign"]) (fun _ _ _ _ _ _ us hl => match us, hl with | [_], _ => rfl), m_is_allowed := PySem.W.mg_of X G a6,
    a_Line_init := f7, d_Line_init := _, F_Line_init := fun_mk (st := s_Line_init) l7 c7 k7, b_Line_init := (fun_mk (st := s_Line_init) l7 c7 k7).binds (ps := ["self", "row", "number"]) (fun _ _ _ _ _ _ us hl => match us, hl with | [_, _, _], _ => rfl), me_Line_init := ⟨a7, i7, k7⟩,
    a_Line_refuse := f8, d_Line_refuse := _, F_Line_refuse := fun_mk (st := s_Line_refuse) l8 c8 k8, b_Line_refuse := (fun_mk (st := s_Line_refuse) l8 c8 k8).binds (ps := ["self"]) (fun _ _ _ _ _ _ us hl => match us, hl with | [_], _ => rfl), me_Line_refuse := ⟨a8, i8, k8⟩,
    a_Line_comes := f9, d_Line_comes := _, F_Line_comes := fun_mk (st := s_Line_comes) l9 c9 k9, b_Line_comes := (fun_mk (st := s_Line_comes) l9 c9 k9).binds (ps := ["self", "token"]) (fun _ _ _ _ _ _ us hl => match us, hl with | [_, _], _ => rfl), me_Line_comes := ⟨a9, i9, k9⟩,
    a_Line_take := f10, d_Line_take := _, F_Line_take := fun_mk (st := s_Line_take) l10 c10 k10, b_Line_take := (fun_mk (st := s_Line_take) l10 c10 k10).binds (ps := ["self"]) (fun _ _ _ _ _ _ us hl => match us, hl with | [_], _ => rfl), me_Line_take := ⟨a10, i10, k10⟩,
    a_Line_skip := f11, d_Line_skip := _, F_Line_skip := fun_mk (st := s_Line_skip) l11 c11 k11, b_Line_skip := (fun_mk (st := s_Line_skip) l11 c11 k11).binds (ps := ["self", "token"]) (fun _ _ _ _ _ _ us hl => match us, hl with | [_, _], _ => rfl), me_Line_skip := ⟨a11, i11, k11⟩,
    a_Line_finish := f12, d_Line_finish := _, F_Line_finish := fun_mk (st := s_Line_finish) l12 c12 k12, b_Line_finish := (fun_mk (st := s_Line_finish) l12 c12 k12).binds (ps := ["self"]) (fun _ _ _ _ _ _ us hl => match us, hl with | [_], _ => rfl), me_Line_finish := ⟨a12, i12, k12⟩,
    a_Line_take_word := f13, d_Line_take_word := _, F_Line_take_word := fun_mk (st := s_Line_take_word) l13 c13 k13, b_Line_take_word := (fun_mk (st := s_Line_take_word) l13 c13 k13).binds (ps := ["self"]) (fun _ _ _ _ _ _ us hl => match us, hl with | [_], _ => rfl), me_Line_take_word := ⟨a13, i13, k13⟩,
    a_Line_take_number := f14, d_Line_take_number := _, F_Line_take_number := fun_mk (st := s_Line_take_number) l14 c14 k14, b_Line_take_number := (fun_mk (st := s_Line_take_number) l14 c14 k14).binds (ps := ["self"]) (fun _ _ _ _ _ _ us hl => match us, hl with | [_], _ => rfl), me_Line_take_number := ⟨a14, i14, k14⟩,
    a_Line_take_tree := f15, d_Line_take_tree := _, F_Line_take_tree := fun_mk (st := s_Line_take_tree) l15 c15 k15, b_Line_take_tree := (fun_mk (st := s_Line_take_tree) l15 c15 k15).binds (ps := ["self"]) (fun _ _ _ _ _ _ us hl => match us, hl with | [_], _ => rfl), me_Line_take_tree := ⟨a15, i15, k15⟩,
    a_Line_take_trees := f16, d_Line_take_trees := _, F_Line_take_trees := fun_mk (st := s_Line_take_trees) l16 c16 k16, b_Line_take_trees := (fun_mk (st := s_Line_take_trees) l16 c16 k16).binds (ps := ["self"]) (fun _ _ _ _ _ _ us hl => match us, hl with | [_], _ => rfl), me_Line_take_trees := ⟨a16, i16, k16⟩,
    a_tokens_of := f17, d_tokens_of := _, F_tokens_of := fun_mk (st := s_tokens_of) l17 c17 k17, b_tokens_of := (fun_mk (st := s_tokens_of) l17 c17 k17).binds (ps := ["row"]) (fun _ _ _ _ _ _ us hl => match us, hl with | [_], _ => rfl), m_tokens_of := PySem.W.mg_of X G a17,
    a_token_end := f18, d_token_end := _, F_token_end := fun_mk (st := s_token_end) l18 c18 k18, b_token_end := (fun_mk (st := s_token_end) l18 c18 k18).binds (ps := ["row", "start"]) (fun _ _ _ _ _ _ us hl => match us, hl with | [_, _], _ => rfl), m_token_end := PySem.W.mg_of X G a18,
    a_is_number := f19, d_is_number := _, F_is_number := fun_mk (st := s_is_number) l19 c19 k19, b_is_number := (fun_mk (st := s_is_number) l19 c19 k19).binds (ps := ["token"]) (fun _ _ _ _ _ _ us hl => match us, hl with | [_], _ => rfl), m_is_number := PySem.W.mg_of X G a19,
    a_most_open := f20, d_most_open := _, F_most_open := fun_mk (st := s_most_open) l20 c20 k20, b_most_open := (fun_mk (st := s_most_open) l20 c20 k20).binds (ps := ["tokens"]) (fun _ _ _ _ _ _ us hl => match us, hl with | [_], _ => rfl), m_most_open := PySem.W.mg_of X G a20,
    a_Question_init := f21, d_Question_init := _, F_Question_init := fun_mk (st := s_Question_init) l21 c21 k21, b_Question_init := (fun_mk (st := s_Question_init) l21 c21 k21).binds (ps := ["self", "word"]) (fun _ _ _ _ _ _ us hl => match us, hl with | [_, _], _ => rfl), me_Question_init := ⟨a21, i21, k21⟩,
    a_take_question := f22, d_take_question := _, F_take_question := fun_mk (st := s_take_question) l22 c22 k22, b_take_question := (fun_mk (st := s_take_question) l22 c22 k22).binds (ps := ["line"]) (fun _ _ _ _ _ _ us hl => match us, hl with | [_], _ => rfl), m_take_question := PySem.W.mg_of X G a22,
    a_Draft_init := f23, d_Draft_init := _, F_Draft_init := fun_mk (st := s_Draft_init) l23 c23 k23, b_Draft_init := (fun_mk (st := s_Draft_init) l23 c23 k23).binds (ps := ["self", "asks"]) (fun _ _ _ _ _ _ us hl => match us, hl with | [_, _], _ => rfl), me_Draft_init := ⟨a23, i23, k23⟩,
    a_read := f24, d_read := _, F_read := fun_mk (st := s_read) l24 c24 k24, b_read := (fun_mk (st := s_read) l24 c24 k24).binds (ps := ["text"]) (fun _ _ _ _ _ _ us hl => match us, hl with | [_], _ => rfl), m_read := PySem.W.mg_of X G a24,
    a_drafted := f25, d_drafted := _, F_drafted := fun_mk (st := s_drafted) l25 c25 k25, b_drafted := (fun_mk (st := s_drafted) l25 c25 k25).binds (ps := ["text", "asks"]) (fun _ _ _ _ _ _ us hl => match us, hl with | [_, _], _ => rfl), m_drafted := PySem.W.mg_of X G a25,
    a_take_line := f26, d_take_line := _, F_take_line := fun_mk (st := s_take_line) l26 c26 k26, b_take_line := (fun_mk (st := s_take_line) l26 c26 k26).binds (ps := ["draft", "line"]) (fun _ _ _ _ _ _ us hl => match us, hl with | [_, _], _ => rfl), m_take_line := PySem.W.mg_of X G a26,
    a_take_maker := f27, d_take_maker := _, F_take_maker := fun_mk (st := s_take_maker) l27 c27 k27, b_take_maker := (fun_mk (st := s_take_maker) l27 c27 k27).binds (ps := ["draft", "line"]) (fun _ _ _ _ _ _ us hl => match us, hl with | [_, _], _ => rfl), m_take_maker := PySem.W.mg_of X G a27,
    a_take_constructor := f28, d_take_constructor := _, F_take_constructor := fun_mk (st := s_take_constructor) l28 c28 k28, b_take_constructor := (fun_mk (st := s_take_constructor) l28 c28 k28).binds (ps := ["draft", "line"]) (fun _ _ _ _ _ _ us hl => match us, hl with | [_, _], _ => rfl), m_take_constructor := PySem.W.mg_of X G a28,
    a_take_function := f29, d_take_function := _, F_take_function := fun_mk (st := s_take_function) l29 c29 k29, b_take_function := (fun_mk (st := s_take_function) l29 c29 k29).binds (ps := ["draft", "line"]) (fun _ _ _ _ _ _ us hl => match us, hl with | [_, _], _ => rfl), m_take_function := PySem.W.mg_of X G a29,
    a_take_kinds := f30, d_take_kinds := _, F_take_kinds := fun_mk (st := s_take_kinds) l30 c30 k30, b_take_kinds := (fun_mk (st := s_take_kinds) l30 c30 k30).binds (ps := ["line"]) (fun _ _ _ _ _ _ us hl => match us, hl with | [_], _ => rfl), m_take_kinds := PySem.W.mg_of X G a30,
    a_take_kind := f31, d_take_kind := _, F_take_kind := fun_mk (st := s_take_kind) l31 c31 k31, b_take_kind := (fun_mk (st := s_take_kind) l31 c31 k31).binds (ps := ["line"]) (fun _ _ _ _ _ _ us hl => match us, hl with | [_], _ => rfl), m_take_kind := PySem.W.mg_of X G a31,
    a_take_clause := f32, d_take_clause := _, F_take_clause := fun_mk (st := s_take_clause) l32 c32 k32, b_take_clause := (fun_mk (st := s_take_clause) l32 c32 k32).binds (ps := ["draft", "line"]) (fun _ _ _ _ _ _ us hl => match us, hl with | [_, _], _ => rfl), m_take_clause := PySem.W.mg_of X G a32,
    a_table := f33, d_table := _, F_table := fun_mk (st := s_table) l33 c33 k33, b_table := (fun_mk (st := s_table) l33 c33 k33).binds (ps := ["draft"]) (fun _ _ _ _ _ _ us hl => match us, hl with | [_], _ => rfl), m_table := PySem.W.mg_of X G a33,
    a_program := f34, d_program := _, F_program := fun_mk (st := s_program) l34 c34 k34, b_program := (fun_mk (st := s_program) l34 c34 k34).binds (ps := ["draft"]) (fun _ _ _ _ _ _ us hl => match us, hl with | [_], _ => rfl), m_program := PySem.W.mg_of X G a34,
    a_constructor_words := f35, d_constructor_words := _, F_constructor_words := fun_mk (st := s_constructor_words) l35 c35 k35, b_constructor_words := (fun_mk (st := s_constructor_words) l35 c35 k35).binds (ps := ["draft"]) (fun _ _ _ _ _ _ us hl => match us, hl with | [_], _ => rfl), m_constructor_words := PySem.W.mg_of X G a35,
    a_kinds := f36, d_kinds := _, F_kinds := fun_mk (st := s_kinds) l36 c36 k36, b_kinds := (fun_mk (st := s_kinds) l36 c36 k36).binds (ps := ["kinds", "makers"]) (fun _ _ _ _ _ _ us hl => match us, hl with | [_, _], _ => rfl), m_kinds := PySem.W.mg_of X G a36,
    a_clauses := f37, d_clauses := _, F_clauses := fun_mk (st := s_clauses) l37 c37 k37, b_clauses := (fun_mk (st := s_clauses) l37 c37 k37).binds (ps := ["clauses", "constructors"]) (fun _ _ _ _ _ _ us hl => match us, hl with | [_, _], _ => rfl), m_clauses := PySem.W.mg_of X G a37,
    a_declared := f38, d_declared := _, F_declared := fun_mk (st := s_declared) l38 c38 k38, b_declared := (fun_mk (st := s_declared) l38 c38 k38).binds (ps := ["tree", "words"]) (fun _ _ _ _ _ _ us hl => match us, hl with | [_, _], _ => rfl), m_declared := PySem.W.mg_of X G a38,
    a_law_state := f39, d_law_state := _, F_law_state := fun_mk (st := s_law_state) l39 c39 k39, b_law_state := (fun_mk (st := s_law_state) l39 c39 k39).binds (ps := ["script"]) (fun _ _ _ _ _ _ us hl => match us, hl with | [_], _ => rfl), m_law_state := PySem.W.mg_of X G a39,
    a_law_draw := f40, d_law_draw := _, F_law_draw := fun_mk (st := s_law_draw) l40 c40 k40, b_law_draw := (fun_mk (st := s_law_draw) l40 c40 k40).binds (ps := ["state", "many"]) (fun _ _ _ _ _ _ us hl => match us, hl with | [_, _], _ => rfl), m_law_draw := PySem.W.mg_of X G a40,
    a_law_pick := f41, d_law_pick := _, F_law_pick := fun_mk (st := s_law_pick) l41 c41 k41, b_law_pick := (fun_mk (st := s_law_pick) l41 c41 k41).binds (ps := ["state", "row"]) (fun _ _ _ _ _ _ us hl => match us, hl with | [_, _], _ => rfl), m_law_pick := PySem.W.mg_of X G a41,
    a_law_shape := f42, d_law_shape := _, F_law_shape := fun_mk (st := s_law_shape) l42 c42 k42, b_law_shape := (fun_mk (st := s_law_shape) l42 c42 k42).binds (ps := ["kind", "own", "other", "third"]) (fun _ _ _ _ _ _ us hl => match us, hl with | [_, _, _, _], _ => rfl), m_law_shape := PySem.W.mg_of X G a42,
    a_law_table := f43, d_law_table := _, F_law_table := fun_mk (st := s_law_table) l43 c43 k43, b_law_table := (fun_mk (st := s_law_table) l43 c43 k43).binds (ps := ["state"]) (fun _ _ _ _ _ _ us hl => match us, hl with | [_], _ => rfl), m_law_table := PySem.W.mg_of X G a43,
    a_law_line := f44, d_law_line := _, F_law_line := fun_mk (st := s_law_line) l44 c44 k44, b_law_line := (fun_mk (st := s_law_line) l44 c44 k44).binds (ps := ["text"]) (fun _ _ _ _ _ _ us hl => match us, hl with | [_], _ => rfl), m_law_line := PySem.W.mg_of X G a44,
    a_law_integers := f45, d_law_integers := _, F_law_integers := fun_mk (st := s_law_integers) l45 c45 k45, b_law_integers := (fun_mk (st := s_law_integers) l45 c45 k45).binds (ps := []) (fun _ _ _ _ _ _ us hl => match us, hl with | [], _ => rfl), m_law_integers := PySem.W.mg_of X G a45,
    a_law_table_told := f46, d_law_table_told := _, F_law_table_told := fun_mk (st := s_law_table_told) l46 c46 k46, b_law_table_told := (fun_mk (st := s_law_table_told) l46 c46 k46).binds (ps := ["table"]) (fun _ _ _ _ _ _ us hl => match us, hl with | [_], _ => rfl), m_law_table_told := PySem.W.mg_of X G a46,
    a_law := fa, d_law := _, F_law := fun_mk (st := s_law) l47 c47 k47, b_law := (fun_mk (st := s_law) l47 c47 k47).binds (ps := ["script"]) (fun _ _ _ _ _ _ us hl => match us, hl with | [_], _ => rfl), m_law := PySem.W.mg_of X G a47,
    c_BadText := R0, i_BadText := RI0, low_BadText := { name := PySem.W.mg_of X G qg0, made := ⟨_, _, _, _, _, _, _, _, _, _, _, _, _, _, _, qx0, KBt.refs_own⟩, sets := qa0, gets := qb0, geta := qc0, free := qd0, init := qe0, fnTy := qf0, keep := qh0, base := qi0, type := qj0, dict := qk0, caught := KBt.exm_from qi0 ql0 qj0 qm0, code := ⟨_, _, _, _, _, _, _, _, _, _, _, _, _, _, qn0, qo0⟩ },
    z_isinstance := PySem.W.mg_none_of X G z0,
    z_str := PySem.W.mg_none_of X G z1,
    z_len := PySem.W.mg_none_of X G z2,
    z_dict := PySem.W.mg_none_of X G z3,
    z_tuple := PySem.W.mg_none_of X G z4,
    z_list := PySem.W.mg_none_of X G z5,
    z_ord := PySem.W.mg_none_of X G z6,
    z_int := PySem.W.mg_none_of X G z7,
    z_max := PySem.W.mg_none_of X G z8,
    z_enumerate := PySem.W.mg_none_of X G z9,
    z_abs := PySem.W.mg_none_of X G z10,
    z_range := PySem.W.mg_none_of X G z11 }
  refine ⟨PySem.W.fnOf "law" "law" (defArgs s_law) (defBody s_law) (defScope s_law) .none kV47 dc47 pm47 an47 cd47 ct47, fun _ _ => .of_eq rfl, fun base _ _ => ?_⟩
  have d1 := ok_law_draw (P := l.prog) (w := w) (base := base) T
  have pk := ok_law_pick T d1
  have wd := ok_is_word (P := l.prog) (w := w) (base := base) T
  have tk := ok_Line_take (P := l.prog) (w := w) (base := base) T
  have co := ok_Line_comes (P := l.prog) (w := w) (base := base) T
  have sk := ok_Line_skip T tk
  have tw := ok_Line_take_word T wd tk
  have tn := ok_Line_take_number T (ok_is_number T) tk
  have rt := all_rtree (P := l.prog) (w := w) (base := base) T 45
  have rts := all_rtrees (P := l.prog) (w := w) (base := base) T 45
  have k1 := ok_take_kind T sk tw rt
  have ks := ok_take_kinds T k1 sk co
  have mk := ok_take_maker T tn tw
  have fn := ok_take_function T k1 sk ks tn tw
  have cl := ok_take_clause T rt sk rts tw
  have li := ok_take_line T mk tw (ok_take_constructor T k1 sk co ks tw) fn tk cl
  have rf := okx_Line_refuse (P := l.prog) (w := w) (base := base) T
  have twb := okx_Line_take_word T (okb_is_word T) tk rf
  have k1b := okx_take_kind T sk twb rt
  have ksb := okx_take_kinds T k1b sk co
  have cnb := okx_take_constructor T k1b sk co ksb (okx_word T)
  have lx := FnOk.or (FnOk.wide li) (okx_take_line T mk twb cnb fn tk cl rf)
  have fi := ok_Line_finish (P := l.prog) (w := w) (base := base) T
  have di := ok_Draft_init (P := l.prog) (w := w) (base := base) T
  have db := FnOk.or (okx_drafted T fi lx (okx_init T) di (okx_rows T)) (okx_drafted_long T fi lx (okx_init T) di (okx_rows T))
  have dg := ok_drafted T fi li (ok_Line_init T (ok_most_open T) (ok_tokens_of T (ok_token_end T))) di (ok_rows_of T (ok_is_allowed T))
  have de := all_decl (P := l.prog) (w := w) (base := base) T 45
  have kd := ok_kinds T de
  have rd := okx_read' T dg db (ok_table T de kd) (ok_program T de kd (ok_clauses T de) (ok_constructor_words T))
  have told := ok_law_table_told (P := l.prog) (w := w) (base := base) T (ok_words_of T) (ok_constructors_of T) (ok_constructor_of T) (ok_parts_of T)
  exact ok_law T d1 (ok_law_line T rd) pk told (ok_law_integers T) (ok_law_table T d1 pk (ok_law_shape T)) (ok_law_state T)
theorem law_walk {l : PySem.W.OpenLaw} {q : Program} {loose : List Str} {XP : (Str → Option Value) → Heap → Prop} {YP : World → Heap → Prop} {r : DefRec} {K : Params → PySem.W.Frag}
    (h63 : l.most = some 63) (hno : r.params.defaults = []) (hK : ∀ (w : World) (h : Heap), YP w h → (K w.params).In h)
    (ok : ∀ (w : World) (mg : Str → Option Value) (fa : Addr) (h : Heap), (K w.params).In h → h.Ns mainGlobals mg → mg r.name = some (.ref fa) →
      ∃ fd : FuncData, (∀ (s : Shared) (u : Value), BindsTo s fd ⟨[u], []⟩ [("script", u)]) ∧
        ∀ base : Heap, (K w.params).In base → base.Ns mainGlobals mg → FnOk l.prog w (K w.params) mg base CX0 101 fa fd ["script"] (spLaw (K w.params))) :
    PySem.W.WalkO q loose XP YP l.row.toRowW r [] (fun f vs => PySem.call f vs) :=
  L2.walk_of (n := 63) (k := 101) (x := "script") (CX := fun _ => CX0) (sp := fun w => spLaw (K w.params)) h63 (by decide) hno ⟨rfl, by decide, by decide⟩ hK ok
    (fun _ _ a ns few _ seq => ⟨a, ns, rfl, seq, few, fun _ => rfl⟩) fun _ _ _ _ _ z => z
end Kx
open PySem PySem.W PyProof.Rows
set_option maxRecDepth 100000 in
set_option maxHeartbeats 0 in
theorem PySem.Challenge.cw_exactkinds_k10_parts_and_limits_holds : PySem.Challenge.rw_exactkinds_k10_parts_and_limits.Holds := by
  w_on; o_law; k_head; (case hw => w_witness2)
  k_fill
  refine Kx.law_walk (l := PySem.Challenge.rw_exactkinds_k10_parts_and_limits) rfl rfl (fun _ _ Y => PySem.W.kIn_of Y) ?walked
  case walked =>
    intro w mg fa h inK names hmg
    refine' Kx.all_mk inK names hmg ?aC0 ?pg0 ?hd0 ?po0 ?sa0 ?mk0 ?kc0 ?nx0_0 ?nx0_1 ?nx0_2 ?aC1 ?pg1 ?hd1 ?po1 ?sa1 ?mk1 ?kc1 ?aC2 ?pg2 ?hd2 ?po2 ?sa2 ?mk2 ?kc2 ?nx2_0 ?nx2_1 ?nx2_2 ?nx2_3 ?nx2_4 ?nx2_5 ?gi0 ?gi1 ?gi2 ?gi3 ?gi4 ?gi5 ?gi6 ?gi7 ?gi8 ?gi9 ?gi10 ?gi11 ?gi12 ?gi13 ?gi14 ?a0 ?l0 ?c0 ?k0 ?a1 ?l1 ?c1 ?k1 ?a2 ?l2 ?c2 ?k2 ?a3 ?l3 ?c3 ?k3 ?a4 ?l4 ?c4 ?k4 ?a5 ?l5 ?c5 ?k5 ?a6 ?l6 ?c6 ?k6 ?a7 ?i7 ?l7 ?c7 ?k7 ?a8 ?i8 ?l8 ?c8 ?k8 ?a9 ?i9 ?l9 ?c9 ?k9 ?a10 ?i10 ?l10 ?c10 ?k10 ?a11 ?i11 ?l11 ?c11 ?k11 ?a12 ?i12 ?l12 ?c12 ?k12 ?a13 ?i13 ?l13 ?c13 ?k13 ?a14 ?i14 ?l14 ?c14 ?k14 ?a15 ?i15 ?l15 ?c15 ?k15 ?a16 ?i16 ?l16 ?c16 ?k16 ?a17 ?l17 ?c17 ?k17 ?a18 ?l18 ?c18 ?k18 ?a19 ?l19 ?c19 ?k19 ?a20 ?l20 ?c20 ?k20 ?a21 ?i21 ?l21 ?c21 ?k21 ?a22 ?l22 ?c22 ?k22 ?a23 ?i23 ?l23 ?c23 ?k23 ?a24 ?l24 ?c24 ?k24 ?a25 ?l25 ?c25 ?k25 ?a26 ?l26 ?c26 ?k26 ?a27 ?l27 ?c27 ?k27 ?a28 ?l28 ?c28 ?k28 ?a29 ?l29 ?c29 ?k29 ?a30 ?l30 ?c30 ?k30 ?a31 ?l31 ?c31 ?k31 ?a32 ?l32 ?c32 ?k32 ?a33 ?l33 ?c33 ?k33 ?a34 ?l34 ?c34 ?k34 ?a35 ?l35 ?c35 ?k35 ?a36 ?l36 ?c36 ?k36 ?a37 ?l37 ?c37 ?k37 ?a38 ?l38 ?c38 ?k38 ?a39 ?l39 ?c39 ?k39 ?a40 ?l40 ?c40 ?k40 ?a41 ?l41 ?c41 ?k41 ?a42 ?l42 ?c42 ?k42 ?a43 ?l43 ?c43 ?k43 ?a44 ?l44 ?c44 ?k44 ?a45 ?l45 ?c45 ?k45 ?a46 ?l46 ?c46 ?k46 ?a47 ?l47 ?c47 ?k47 ?z0 ?z1 ?z2 ?z3 ?z4 ?z5 ?z6 ?z7 ?z8 ?z9 ?z10 ?z11 ?qg0 ?qx0 ?qa0 ?qb0 ?qc0 ?qd0 ?qe0 ?qf0 ?qh0 ?qi0 ?qj0 ?qk0 ?ql0 ?qm0 ?qn0 ?qo0
    (case aC0 => k_is)
    (case pg0 => k_is)
    (case hd0 => k_is)
    (case po0 => k_is)
    (case sa0 => k_is)
    (case mk0 => k_is)
    (case kc0 => k_is)
    (case nx0_0 => k_is)
    (case nx0_1 => k_is)
    (case nx0_2 => k_is)
    (case aC1 => k_is)
    (case pg1 => k_is)
    (case hd1 => k_is)
    (case po1 => k_is)
    (case sa1 => k_is)
    (case mk1 => k_is)
    (case kc1 => k_is)
    (case aC2 => k_is)
    (case pg2 => k_is)
    (case hd2 => k_is)
    (case po2 => k_is)
    (case sa2 => k_is)
    (case mk2 => k_is)
    (case kc2 => k_is)
    (case nx2_0 => k_is)
    (case nx2_1 => k_is)
    (case nx2_2 => k_is)
    (case nx2_3 => k_is)
    (case nx2_4 => k_is)
    (case nx2_5 => k_is)
    (case gi0 => k_is)
    (case gi1 => k_is)
    (case gi2 => k_is)
    (case gi3 => k_is)
    (case gi4 => k_is)
    (case gi5 => k_is)
    (case gi6 => k_is)
    (case gi7 => k_is)
    (case gi8 => k_is)
    (case gi9 => k_is)
    (case gi10 => k_is)
    (case gi11 => k_is)
    (case gi12 => k_is)
    (case gi13 => k_is)
    (case gi14 => k_is)
    (case a0 => k_is)
    (case l0 => k_is)
    (case c0 => k_is)
    (case k0 => k_is)
    (case a1 => k_is)
    (case l1 => k_is)
    (case c1 => k_is)
    (case k1 => k_is)
    (case a2 => k_is)
    (case l2 => k_is)
    (case c2 => k_is)
    (case k2 => k_is)
    (case a3 => k_is)
    (case l3 => k_is)
    (case c3 => k_is)
    (case k3 => k_is)
    (case a4 => k_is)
    (case l4 => k_is)
    (case c4 => k_is)
    (case k4 => k_is)
    (case a5 => k_is)
    (case l5 => k_is)
    (case c5 => k_is)
    (case k5 => k_is)
    (case a6 => k_is)
    (case l6 => k_is)
    (case c6 => k_is)
    (case k6 => k_is)
    (case a7 => k_is)
    (case i7 => k_is)
    (case l7 => k_is)
    (case c7 => k_is)
    (case k7 => k_is)
    (case a8 => k_is)
    (case i8 => k_is)
    (case l8 => k_is)
    (case c8 => k_is)
    (case k8 => k_is)
    (case a9 => k_is)
    (case i9 => k_is)
    (case l9 => k_is)
    (case c9 => k_is)
    (case k9 => k_is)
    (case a10 => k_is)
    (case i10 => k_is)
    (case l10 => k_is)
    (case c10 => k_is)
    (case k10 => k_is)
    (case a11 => k_is)
    (case i11 => k_is)
    (case l11 => k_is)
    (case c11 => k_is)
    (case k11 => k_is)
    (case a12 => k_is)
    (case i12 => k_is)
    (case l12 => k_is)
    (case c12 => k_is)
    (case k12 => k_is)
    (case a13 => k_is)
    (case i13 => k_is)
    (case l13 => k_is)
    (case c13 => k_is)
    (case k13 => k_is)
    (case a14 => k_is)
    (case i14 => k_is)
    (case l14 => k_is)
    (case c14 => k_is)
    (case k14 => k_is)
    (case a15 => k_is)
    (case i15 => k_is)
    (case l15 => k_is)
    (case c15 => k_is)
    (case k15 => k_is)
    (case a16 => k_is)
    (case i16 => k_is)
    (case l16 => k_is)
    (case c16 => k_is)
    (case k16 => k_is)
    (case a17 => k_is)
    (case l17 => k_is)
    (case c17 => k_is)
    (case k17 => k_is)
    (case a18 => k_is)
    (case l18 => k_is)
    (case c18 => k_is)
    (case k18 => k_is)
    (case a19 => k_is)
    (case l19 => k_is)
    (case c19 => k_is)
    (case k19 => k_is)
    (case a20 => k_is)
    (case l20 => k_is)
    (case c20 => k_is)
    (case k20 => k_is)
    (case a21 => k_is)
    (case i21 => k_is)
    (case l21 => k_is)
    (case c21 => k_is)
    (case k21 => k_is)
    (case a22 => k_is)
    (case l22 => k_is)
    (case c22 => k_is)
    (case k22 => k_is)
    (case a23 => k_is)
    (case i23 => k_is)
    (case l23 => k_is)
    (case c23 => k_is)
    (case k23 => k_is)
    (case a24 => k_is)
    (case l24 => k_is)
    (case c24 => k_is)
    (case k24 => k_is)
    (case a25 => k_is)
    (case l25 => k_is)
    (case c25 => k_is)
    (case k25 => k_is)
    (case a26 => k_is)
    (case l26 => k_is)
    (case c26 => k_is)
    (case k26 => k_is)
    (case a27 => k_is)
    (case l27 => k_is)
    (case c27 => k_is)
    (case k27 => k_is)
    (case a28 => k_is)
    (case l28 => k_is)
    (case c28 => k_is)
    (case k28 => k_is)
    (case a29 => k_is)
    (case l29 => k_is)
    (case c29 => k_is)
    (case k29 => k_is)
    (case a30 => k_is)
    (case l30 => k_is)
    (case c30 => k_is)
    (case k30 => k_is)
    (case a31 => k_is)
    (case l31 => k_is)
    (case c31 => k_is)
    (case k31 => k_is)
    (case a32 => k_is)
    (case l32 => k_is)
    (case c32 => k_is)
    (case k32 => k_is)
    (case a33 => k_is)
    (case l33 => k_is)
    (case c33 => k_is)
    (case k33 => k_is)
    (case a34 => k_is)
    (case l34 => k_is)
    (case c34 => k_is)
    (case k34 => k_is)
    (case a35 => k_is)
    (case l35 => k_is)
    (case c35 => k_is)
    (case k35 => k_is)
    (case a36 => k_is)
    (case l36 => k_is)
    (case c36 => k_is)
    (case k36 => k_is)
    (case a37 => k_is)
    (case l37 => k_is)
    (case c37 => k_is)
    (case k37 => k_is)
    (case a38 => k_is)
    (case l38 => k_is)
    (case c38 => k_is)
    (case k38 => k_is)
    (case a39 => k_is)
    (case l39 => k_is)
    (case c39 => k_is)
    (case k39 => k_is)
    (case a40 => k_is)
    (case l40 => k_is)
    (case c40 => k_is)
    (case k40 => k_is)
    (case a41 => k_is)
    (case l41 => k_is)
    (case c41 => k_is)
    (case k41 => k_is)
    (case a42 => k_is)
    (case l42 => k_is)
    (case c42 => k_is)
    (case k42 => k_is)
    (case a43 => k_is)
    (case l43 => k_is)
    (case c43 => k_is)
    (case k43 => k_is)
    (case a44 => k_is)
    (case l44 => k_is)
    (case c44 => k_is)
    (case k44 => k_is)
    (case a45 => k_is)
    (case l45 => k_is)
    (case c45 => k_is)
    (case k45 => k_is)
    (case a46 => k_is)
    (case l46 => k_is)
    (case c46 => k_is)
    (case k46 => k_is)
    (case a47 => k_is)
    (case l47 => k_is)
    (case c47 => k_is)
    (case k47 => k_is)
    (case z0 => k_is)
    (case z1 => k_is)
    (case z2 => k_is)
    (case z3 => k_is)
    (case z4 => k_is)
    (case z5 => k_is)
    (case z6 => k_is)
    (case z7 => k_is)
    (case z8 => k_is)
    (case z9 => k_is)
    (case z10 => k_is)
    (case z11 => k_is)
    (case qg0 => k_is)
    (case qx0 => k_is)
    (case qa0 => k_is)
    (case qb0 => k_is)
    (case qc0 => k_is)
    (case qd0 => k_is)
    (case qe0 => k_is)
    (case qf0 => k_is)
    (case qh0 => k_is)
    (case qi0 => k_is)
    (case qj0 => k_is)
    (case qk0 => k_is)
    (case ql0 => k_is)
    (case qm0 => k_is)
    (case qn0 => k_is)
    (case qo0 => k_is)

