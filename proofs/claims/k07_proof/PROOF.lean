import PyProof.Rows.All
import Wide.All
import OpenK.AllK
import Wide.FinOn
import HandS.ForMost
import HandS.Exc
import HandS.ExcOwn
import HandS.ExcIs
import HandS.WordsExc
import HandS.New
import HandS.Walk
import HandS.IsInst
import HandS.Conv
import HandS.TupAny
import HandS.Evl
import HandS.SetKeys
import HandS.Rev
import HandS.ForDict
import HandS.Dict
import HandS.DictComp
import HandS.Zip
import HandS.More
import HandS.Set
import HandS.Strs
import PyProof.EqAt
import PyProof.EqKinds
import HandS.Style
import HandS.Words
import HandS.Text
import HandS.FStr
import HandS.StrMore
import HandS.Small
import HandS.Iter
import KE.KDictPairs
import KE.GoesMore
import KE.GoesEnumKw
import HandS.TryOnly
import PyProof.ListStr
import KE.DataCmp
import PySem.Challenge.RW_exactkinds_k07_whole_rows_of_tokens_are
set_option Elab.async false
set_option linter.all false
set_option maxRecDepth 100000
set_option maxHeartbeats 2000000
/-! BadText(n): an own error that keeps a line's number. -/
namespace KBt
open PySem PySem.W PySem.Calls PyProof.Rows PySem.HandSPX
/-- how its __init__ is written -/
def ini (p q : Pos) : Arguments :=
  ⟨[], [⟨"self", none, p⟩, ⟨"line", none, q⟩], none, [], [], none, []⟩
def ibd (a b c e : Pos) : List Stmt :=
  [.Assign [.Attribute (.Name "self" a) "line" b] (.Name "line" c) e]
def isc : Scope :=
  ⟨.function, [("self", .local), ("line", .local)], false, false, []⟩
def fld (v : Value) : Str → Option Value := fun y => if y = "line" then some v else none
/-- what the top tells of the class (at C) and of its __init__ (at I) -/
structure Told (K : Frag) (mg : Str → Option Value) (C I : Addr) : Prop where
  name : mg "BadText" = some (.ref C)
  made : ∃ nm qn ns bs bm sn sub ab col dd m0 m1 m2 m3 m5,
    K.lookup C = some (excClassObj nm qn C ns bs bm true sn sub ab col dd m0 m1 m2 m3 m5 "ValueError.__new__") ∧ refsVE bm = true
  sets : findIn K (.ref C) "__setattr__" = some (some (.builtin "object.__setattr__"))
  gets : findIn K (.ref C) "__getattribute__" = some (some (.builtin "BaseException.__getattribute__"))
  geta : findIn K (.ref C) "__getattr__" = some none
  free : findIn K (.ref C) "line" = some none
  init : findIn K (.ref C) "__init__" = some (some (.ref I))
  fnTy : typeIn K (.ref I) = some (.type "function")
  keep : keepIn K (.ref C) = true
  base : subIn K (.ref C) (.type "BaseException") = some true
  type : typeIn K (.ref C) = some (.type "type")
  dict : hasDictIn K C = true
  caught : exmOne K (.ref C) (.ref C) = some true
  code : ∃ (oc : Value) (od : Option Addr) (doc pm : Value) (an : Option Addr) (cdv ct : Value) (osl : Array (Option Value)) (p1 p2 q1 q2 q3 q4 : Pos),
    K.lookup I = some ⟨oc, od, .func (fnOf "__init__" "BadText.__init__" (ini p1 p2) (ibd q1 q2 q3 q4) isc .none .none doc pm an cdv ct), osl⟩ ∧ codeIn K cdv "BadText.__init__" = true
/-- a new error at e, its own dict at d -/
structure New (h h' : Heap) (e C d : Addr) (v : Value) : Prop where
  old : ∀ b o, h.get? b = some o → h'.get? b = some o
  e0 : h.objs.size ≤ e
  obj : ∃ oe vs, h'.get? e = some oe ∧ oe.cls = .ref C ∧ oe.dict = some d ∧ oe.data = .fields vs ∧ vs[1]? = some .none
  d0 : h.objs.size ≤ d
  ne : d ≠ e
  ns : h'.Ns1 d (fld v)
theorem loc {M : Model} {A : Around} {s : Shared} {nm : Str} {sc : Scope} {L f : Addr} {cd v : Value} {m : Str → Option Value} {x : Str} {pos : Pos} {Q E : Value → Shared → Prop}
    (ns : s.heap.Ns L m) (e : m x = some v) (q : Q v s) (hf : sc.kind = .function := by rfl)
    (hl : (envOfC nm sc L f cd).kindOf x = some .local := by rfl) (hd : (x == ("__debug__" : Str)) = false := by decide) :
    wpAny M A (eval (.Name x pos) (envOfC nm sc L f cd)) Q E s :=
  wpAny_Name (wpAny_loadName_local hf hl ns e q) hd
section
variable {prog : Program} {w : World} {A : Around} {R : Result → Shared → Prop} {s : Shared} {K : Frag} {mg : Str → Option Value} {C I : Addr}
/-- the __init__ on a fresh object at x -/
theorem run_init (T : Told K mg C I) {x t0 : Addr} {v : Value} (kin : K.In s.heap) (lim : s.heap.NoLimit) (hx : s.heap.get? x = some (excO C t0)) (deep : A.depth < recursionLimit)
    (q : ∀ h' tk dx, (∀ b o, b ≠ x → s.heap.get? b = some o → h'.get? b = some o) →
      h'.get? x = some { cls := .ref C, dict := some dx, data := .fields #[.ref t0, .none, .none, .none, .bool false, .none] } → s.heap.objs.size ≤ dx → dx ≠ x → h'.Ns1 dx (fld v) →
      R (.ok (.ret .none)) { s with heap := h', toks := tk }) :
    codeAny (model prog w) A (.call (.ref I) ⟨[.ref x, v], []⟩) R s := by
  obtain ⟨oc, od, doc, pm, an, cdv, ct, osl, p1, p2, q1, q2, q3, q4, ho, hcd⟩ := T.code
  obtain ⟨nm, qn, ns, bs, bm, sn, sub, ab, col, dd, m0, m1, m2, m3, m5, hC, hbm⟩ := T.made
  have cl : clsIn K C = some { name := nm, bases := bs, mro := .ref C :: bm, ns := ns, qualname := qn, hasDict := true, slotNames := sn, subclasses := sub, abstract := ab, collection := col, hasDel := false } := by
    unfold clsIn
    rw [hC] <;> rfl
  refine Att.call_fn (binds := [("self", .ref x), ("line", v)]) kin lim ho hcd deep (BindsTo.of_eq (by first | rfl | with_unfolding_all rfl)) (by first | rfl | decide | with_unfolding_all rfl) (fun s1 J => ?_) rfl rfl rfl
  obtain ⟨h1, tk1, rfl⟩ := J.toInCall.same
  have k := J.toInCall.keep
  have fr := J.toInCall.ns
  have k1 : K.In h1 := kin.keeps k
  have x1 := k _ _ hx
  have big : s.heap.objs.size < h1.objs.size := fr.lt
  refine wpAny_execs_cons (plainObj_wpAny_Assign_Attribute ?_)
  refine loc (v := v) fr (by first | rfl | with_unfolding_all rfl | kernel_rfl) ?_
  refine loc (v := .ref x) fr (by first | rfl | with_unfolding_all rfl | kernel_rfl) ?_
  refine set_plain k1 (ox := excO C t0) (od := none) ⟨x1, rfl, rfl, trivial⟩ T.sets ?_
  refine exc_osa k1 x1 cl (show refsVE (.ref C :: bm) = true from hbm) rfl T.free (fun h3 tk3 dx k3 n3 ne3 x3 ns3 => ?_)
  exact wpAny_execs_nil (q h3 tk3 dx (fun b o hb e => k3 b o hb (k b o e)) x3 (Nat.le_of_lt (Nat.lt_of_lt_of_le big n3)) ne3 ns3)
theorem run_new (T : Told K mg C I) {v : Value} (kin : K.In s.heap) (lim : s.heap.NoLimit) (deep : A.depth + 1 < recursionLimit)
    (q : ∀ h' tk e d, New s.heap h' e C d v → R (.ok (.ret (.ref e))) { s with heap := h', toks := tk }) :
    codeAny (model prog w) A (.call (.ref C) ⟨[v], []⟩) R s := by
  obtain ⟨nm, qn, ns, bs, bm, sn, sub, ab, col, dd, m0, m1, m2, m3, m5, hC, hbm⟩ := T.made
  obtain ⟨hp, g, dr, tk, os⟩ := s
  have up : ∀ b o, hp.get? b = some o → ((hp.push (kdv_tup [v])).push (excO C hp.objs.size)).get? b = some o := fun b o e =>
    Heap.get?_push_of_some _ (Heap.get?_push_of_some _ e)
  have at1 : ((hp.push (kdv_tup [v])).push (excO C hp.objs.size)).get? (hp.objs.size + 1) = some (excO C hp.objs.size) := by heap_get
  have one : [v].length ≤ sizeLine := by
    rw [sizeLine_eq]
    show 1 ≤ 16777216
    decide
  refine call_own F.excBase_ValueError (fun y => refsVE_contains y bm hbm) (kin _ _ hC) (looks_findIn kin T.init) (fun self => bind_fn kin self T.fnTy) one ?_
  refine run_init (s := ⟨(hp.push (kdv_tup [v])).push (excO C hp.objs.size), g, dr, tk, os⟩) T (kin.keeps up) (lim.keeps up) at1 deep fun h' tk' dx k' x' n' ne' ns' => ?_
  have n2 : hp.objs.size + 1 + 1 ≤ dx := by
    first
      | exact n'
      | simpa only [Heap.size_push] using n'
      | (have z := n'; rw [Heap.size_push, Heap.size_push] at z; exact z)
  exact ⟨rfl, q h' tk' (hp.objs.size + 1) dx ⟨fun b o e => k' b o (Nat.ne_of_lt (Nat.lt_succ_of_lt (Heap.lt_size e))) (up b o e), Nat.le_succ _, ⟨_, _, x', rfl, rfl, rfl, rfl⟩, (by show hp.objs.size ≤ dx; omega), ne', ns'⟩⟩
end
theorem refs_own {D : Addr} : refsVE [.ref D, .type "ValueError", .type "Exception", .type "BaseException", .type "object"] = true := by
  show refsVE [.type "ValueError", .type "Exception", .type "BaseException", .type "object"] = true
  decide +kernel
theorem exm_from {K : Frag} {C : Addr} (b : subIn K (.ref C) (.type "BaseException") = some true) (i : isClsIn K C = true) (t : typeIn K (.ref C) = some (.type "type")) (s : subIn K (.ref C) (.ref C) = some true) : exmOne K (.ref C) (.ref C) = some true := by
  have i' : (clsIn K C).isSome = true := i
  simp [exmOne, kitCls, b, i', t, s]
/-- the class above, by which it is caught too -/
structure Up (K : Frag) (mg : Str → Option Value) (nm : Str) (C D : Addr) : Prop where
  name : mg nm = some (.ref D)
  caught : exmOne K (.ref C) (.ref D) = some true
theorem exm_up {K : Frag} {C D : Addr} (b : subIn K (.ref D) (.type "BaseException") = some true) (i : isClsIn K D = true) (t : typeIn K (.ref D) = some (.type "type")) (s : subIn K (.ref C) (.ref D) = some true) : exmOne K (.ref C) (.ref D) = some true := by
  have i' : (clsIn K D).isSome = true := i
  simp [exmOne, kitCls, b, i', t, s]
end KBt
namespace Kx
open PySem PySem.Spec PyProof.Rows L2
theorem rel_fld {v : V} {u : Value} (r : RelV v u) (f : Str) : RelO (List.lookup f [(("line" : Str), v)]) (KBt.fld u f) := by
  unfold KBt.fld
  by_cases e : f = "line"
  · subst e
    have z : List.lookup ("line" : Str) [(("line" : Str), v)] = some v := by simp [List.lookup]
    rw [if_pos rfl, z]
    exact r
  · have n : (f == ("line" : Str)) = false := by simpa using e
    have z : List.lookup f [(("line" : Str), v)] = none := by simp [List.lookup, n]
    rw [if_neg e, z]
    trivial
/-- what stands at an error's own dict -/
abbrev lineD (v : V) : HO := .xd [(("line" : Str), v)]
section
variable {X : Cx} {C I : Addr}
def tBad (C : Addr) (ta : TA) : L2.St → Hp → XK → Prop := fun σ H Q => ta σ H fun vs H1 => ∃ v, vs = [v] ∧ ∀ d, H1 d = none → Q (.ref C) (some d) (upd H1 d (lineD v))
theorem pmk_bad {a : Expr} {ta : TA} {p pos : Pos} {k : Nat} (T : KBt.Told X.K X.mg C I) (hr : Room k X.A) (ha : PA X [a] ta) (hg : Gl X "BadText" := by rfl)
    (he : starEach (a :: []) X.env = (false, eval a X.env) :: starEach [] X.env := by rfl) (hpl : (backTo pos (starEach [] X.env)).any (·.1) = false := by rfl) :
    PMk X (.Call (.Name "BadText" p) [a] [] pos) (tBad C ta) := fun pins s σ H Q J h => by
  refine wpAny_Call_Name_kw (ld_glob J hg T.name ?_)
  refine PySem.W.callWith_K (h₀ := X.base) J.ok.mod.kin T.keep (thn (ha.run pos pins s σ H _ J h) fun us s1 hh => ?_) he hpl
  obtain ⟨vs, H1, J1, r1, v, rfl, q1⟩ := hh
  refine ⟨J1.kIn, ?_⟩
  obtain ⟨u, rfl, ru⟩ := vals1 r1
  show wpAny _ _ (call (.ref C) [u]) _ _ _
  have lim := J1.nolimit
  obtain ⟨hp, g, dr, tk, os⟩ := s1
  refine wpAny_call (KBt.run_new T J1.kIn lim (by have := hr.dp; omega) fun h' tk' e d N => ?_)
  obtain ⟨oe, fv, oe1, oe2, oe3, oe4, oe5⟩ := N.obj
  -- the heap without the error itself
  obtain ⟨G, g1, g2⟩ := restrict h' fun b => decide (b ≠ e)
  have keepG : ∀ b, b ≠ e → G.get? b = h'.get? b := fun b hb => g1 b (decide_eq_true hb)
  have noE : G.get? e = none := g2 e (by simp)
  have oldG : ∀ b o, hp.get? b = some o → G.get? b = some o := fun b o z =>
    (keepG b (Nat.ne_of_lt (Nat.lt_of_lt_of_le (Heap.lt_size z) N.e0))).trans (N.old b o z)
  have at_d : ObjOk X.prog X.w (upd H1 d (lineD v)) G d (lineD v) := ⟨_, N.ns.at (fun o z => (keepG d N.ne).trans z), rel_fld ru⟩
  have J2 : Inv X pins σ (upd H1 d (lineD v)) ⟨G, g, dr, tk', os⟩ := J1.laid (t' := tk') oldG N.d0 at_d
  refine ⟨e, oe, fv, ⟨G, g, dr, tk', os⟩, _, .ref C, some d, rfl, J2, fun b o z => ?_, noE, oe1, ⟨oe2, oe3⟩, oe4, oe5, ?_, rfl, J1.bare, raises_own T.base T.type, q1 d (J1.hok.fresh N.d0)⟩
  · by_cases hb : b = e
    · have z' : G.get? b = some o := z
      rw [hb, noE] at z'
      cases z'
    · exact (keepG b hb).symm.trans z
  · rw [upd_ne (Ne.symm N.ne)]
    exact J1.hok.fresh N.e0
def tRaiseB (C : Addr) (W : WX) (ta : TA) : TS := fun _ σ H => tBad C ta σ H fun cls d H' => W cls d σ H'
theorem ps_raiseB {a : Expr} {ta : TA} {W : WX} {p pos pos2 : Pos} {k : Nat} (hc : X.calm = true) (T : KBt.Told X.K X.mg C I) (hr : Room k X.A) (tk : Takes X W) (ha : PA X [a] ta) (hg : Gl X "BadText" := by rfl)
    (he : starEach (a :: []) X.env = (false, eval a X.env) :: starEach [] X.env := by rfl) (hpl : (backTo pos (starEach [] X.env)).any (·.1) = false := by rfl) :
    PS X (.Raise (some (.Call (.Name "BadText" p) [a] [] pos)) none pos2) (tRaiseB C W ta) := ps_raise hc tk (pmk_bad T hr ha hg he hpl)
/-- e.line of the caught error at a -/
def tLineOf (C : Addr) (a : Addr) (cls : Value) (d : Option Addr) (te : TE) : TE := fun σ H Q => te σ H fun x H1 => x = .ref a ∧ cls = .ref C ∧ ∃ (dd : Addr) (v : V), d = some dd ∧ H1 dd = some (lineD v) ∧ Q v H1
theorem pe_lineOf {a : Addr} {oe : Obj} {cls : Value} {d : Option Addr} {pn : List (Addr × Obj)} {e : Expr} {te : TE} {pos : Pos} (T : KBt.Told X.K X.mg C I) (hz : Zc cls d oe) (hf : ∃ vs, oe.data = .fields vs) (he : PE (X.suite a ((a, oe) :: pn)) e te)
    (hb : attributeBase e "line" X.env (eval e X.env) = eval e X.env := by rfl) :
    PE (X.suite a ((a, oe) :: pn)) (.Attribute e "line" pos) (tLineOf C a cls d te) := ⟨fun pins s σ H Q J h => by
  refine attr_of hb (thn (he.run pins s σ H _ J h) fun u s1 hh => ?_)
  obtain ⟨x, H1, J1, rx, rfl, rfl, dd, v, rfl, ed, q⟩ := hh
  obtain rfl : u = Value.ref a := rx
  obtain ⟨ha, _⟩ := J1.pin (a, oe) (List.mem_append_left _ List.mem_cons_self)
  obtain ⟨vs, hd⟩ := hf
  have hx : ObjOk X.prog X.w H1 s1.heap dd (lineD v) := J1.hok dd _ ed
  obtain ⟨mA, ns, hr⟩ := hx
  obtain ⟨od, ho, hl⟩ := lookIn_ns ns
  have z : List.lookup ("line" : Str) [(("line" : Str), v)] = some v := by simp [List.lookup]
  obtain ⟨u, hu, ru⟩ := RelO.some_of (v := v) (o := mA "line") (by rw [← z]; exact hr "line")
  have at_a : PySem.W.InstAt s1.heap a oe C (some od) := ⟨ha, hz.1, by unfold PySem.W.notCls; rw [hd] <;> rfl, by rw [hz.2]; exact ho⟩
  exact HandSPX.exc_get J1.kIn at_a T.gets T.geta T.base (PySem.W.findObj_own T.dict T.free rfl (by rw [hl, hu])) (handed_of ru) ⟨v, H1, J1.tok _, ru, q⟩⟩
end
end Kx
set_option maxHeartbeats 4000000
namespace Kx
open PySem PySem.Spec PyProof.Rows L2
def top (i : Nat) : Stmt := PySem.Challenge.pw_exactkinds_k07_whole_rows_of_tokens_are.main.body.getD i (.Pass ⟨0, 0, 0, 0⟩)
abbrev s_BadText_init : Stmt := inClass (top 2) 0
abbrev s_is_word : Stmt := top 7
abbrev s_rows_of : Stmt := top 11
abbrev s_is_allowed : Stmt := top 12
abbrev s_Line_init : Stmt := inClass (top 13) 0
abbrev s_Line_refuse : Stmt := inClass (top 13) 1
abbrev s_Line_comes : Stmt := inClass (top 13) 2
abbrev s_Line_take : Stmt := inClass (top 13) 3
abbrev s_Line_skip : Stmt := inClass (top 13) 4
abbrev s_Line_finish : Stmt := inClass (top 13) 5
abbrev s_Line_take_word : Stmt := inClass (top 13) 6
abbrev s_Line_take_number : Stmt := inClass (top 13) 7
abbrev s_Line_take_tree : Stmt := inClass (top 13) 8
abbrev s_Line_take_trees : Stmt := inClass (top 13) 9
abbrev s_tokens_of : Stmt := top 14
abbrev s_token_end : Stmt := top 15
abbrev s_is_number : Stmt := top 16
abbrev s_most_open : Stmt := top 17
abbrev s_Question_init : Stmt := inClass (top 19) 0
abbrev s_take_question : Stmt := top 20
abbrev s_Draft_init : Stmt := inClass (top 22) 0
abbrev s_read : Stmt := top 23
abbrev s_drafted : Stmt := top 24
abbrev s_take_line : Stmt := top 25
abbrev s_take_maker : Stmt := top 26
abbrev s_take_constructor : Stmt := top 27
abbrev s_take_function : Stmt := top 28
abbrev s_take_kinds : Stmt := top 29
abbrev s_take_kind : Stmt := top 30
abbrev s_take_clause : Stmt := top 31
abbrev s_table : Stmt := top 32
abbrev s_program : Stmt := top 33
abbrev s_constructor_words : Stmt := top 34
abbrev s_kinds : Stmt := top 35
abbrev s_clauses : Stmt := top 36
abbrev s_declared : Stmt := top 37
abbrev s_law_state : Stmt := top 39
abbrev s_law_draw : Stmt := top 40
abbrev s_law_pick : Stmt := top 41
abbrev s_law_tree : Stmt := top 42
abbrev s_law_types : Stmt := top 43
abbrev s_law_table : Stmt := top 44
abbrev s_law_clause : Stmt := top 45
abbrev s_law_program : Stmt := top 46
abbrev s_law_text : Stmt := top 47
abbrev s_law_pairs : Stmt := top 48
abbrev s_law_lines : Stmt := top 49
abbrev s_law_is_letter : Stmt := top 50
abbrev s_law_tokens : Stmt := top 51
abbrev s_law_kind : Stmt := top 52
abbrev s_law_parsed : Stmt := top 53
abbrev s_law_pair_list : Stmt := top 54
abbrev s_law_head : Stmt := top 55
abbrev s_law_item : Stmt := top 56
abbrev s_law_marked : Stmt := top 57
abbrev s_law_read : Stmt := top 58
abbrev s_law_pair : Stmt := top 59
abbrev s_law_turned : Stmt := top 60
abbrev s_law_deep : Stmt := top 61
abbrev s_law_spoilt : Stmt := top 62
abbrev s_law_told : Stmt := top 63
abbrev s_law_by_kinds : Stmt := top 64
abbrev s_law : Stmt := top 65
theorem sc_is_word : FnScope ["value"] ["value"] (defScope s_is_word) := ⟨rfl, rfl, rfl, by decide +kernel, rfl, by decide +kernel, by decide +kernel⟩
theorem sc_rows_of : FnScope ["text", "sign"] ["text"] (defScope s_rows_of) := ⟨rfl, rfl, rfl, by decide +kernel, rfl, by decide +kernel, by decide +kernel⟩
theorem sc_is_allowed : FnScope ["sign"] ["sign"] (defScope s_is_allowed) := ⟨rfl, rfl, rfl, by decide +kernel, rfl, by decide +kernel, by decide +kernel⟩
theorem sc_Line_init : FnScope ["self", "row", "number", "asks"] ["self", "row", "number"] (defScope s_Line_init) := ⟨rfl, rfl, rfl, by decide +kernel, rfl, by decide +kernel, by decide +kernel⟩
theorem sc_Line_refuse : FnScope ["self"] ["self"] (defScope s_Line_refuse) := ⟨rfl, rfl, rfl, by decide +kernel, rfl, by decide +kernel, by decide +kernel⟩
theorem sc_Line_comes : FnScope ["self", "token"] ["self", "token"] (defScope s_Line_comes) := ⟨rfl, rfl, rfl, by decide +kernel, rfl, by decide +kernel, by decide +kernel⟩
theorem sc_Line_take : FnScope ["self"] ["self"] (defScope s_Line_take) := ⟨rfl, rfl, rfl, by decide +kernel, rfl, by decide +kernel, by decide +kernel⟩
theorem sc_Line_skip : FnScope ["self", "token"] ["self", "token"] (defScope s_Line_skip) := ⟨rfl, rfl, rfl, by decide +kernel, rfl, by decide +kernel, by decide +kernel⟩
theorem sc_Line_finish : FnScope ["self"] ["self"] (defScope s_Line_finish) := ⟨rfl, rfl, rfl, by decide +kernel, rfl, by decide +kernel, by decide +kernel⟩
theorem sc_Line_take_word : FnScope ["self", "token"] ["self"] (defScope s_Line_take_word) := ⟨rfl, rfl, rfl, by decide +kernel, rfl, by decide +kernel, by decide +kernel⟩
theorem sc_Line_take_number : FnScope ["self", "token"] ["self"] (defScope s_Line_take_number) := ⟨rfl, rfl, rfl, by decide +kernel, rfl, by decide +kernel, by decide +kernel⟩
theorem sc_Line_take_tree : FnScope ["self", "word"] ["self"] (defScope s_Line_take_tree) := ⟨rfl, rfl, rfl, by decide +kernel, rfl, by decide +kernel, by decide +kernel⟩
theorem sc_Line_take_trees : FnScope ["self", "found"] ["self"] (defScope s_Line_take_trees) := ⟨rfl, rfl, rfl, by decide +kernel, rfl, by decide +kernel, by decide +kernel⟩
theorem sc_tokens_of : FnScope ["row", "found", "start", "end"] ["row"] (defScope s_tokens_of) := ⟨rfl, rfl, rfl, by decide +kernel, rfl, by decide +kernel, by decide +kernel⟩
theorem sc_token_end : FnScope ["row", "start", "end"] ["row", "start"] (defScope s_token_end) := ⟨rfl, rfl, rfl, by decide +kernel, rfl, by decide +kernel, by decide +kernel⟩
theorem sc_is_number : FnScope ["token"] ["token"] (defScope s_is_number) := ⟨rfl, rfl, rfl, by decide +kernel, rfl, by decide +kernel, by decide +kernel⟩
theorem sc_most_open : FnScope ["tokens", "count", "most", "token"] ["tokens"] (defScope s_most_open) := ⟨rfl, rfl, rfl, by decide +kernel, rfl, by decide +kernel, by decide +kernel⟩
theorem sc_Question_init : FnScope ["self", "word", "asks"] ["self", "word"] (defScope s_Question_init) := ⟨rfl, rfl, rfl, by decide +kernel, rfl, by decide +kernel, by decide +kernel⟩
theorem sc_take_question : FnScope ["line", "question"] ["line"] (defScope s_take_question) := ⟨rfl, rfl, rfl, by decide +kernel, rfl, by decide +kernel, by decide +kernel⟩
theorem sc_Draft_init : FnScope ["self", "asks"] ["self", "asks"] (defScope s_Draft_init) := ⟨rfl, rfl, rfl, by decide +kernel, rfl, by decide +kernel, by decide +kernel⟩
theorem sc_read : FnScope ["text", "draft"] ["text"] (defScope s_read) := ⟨rfl, rfl, rfl, by decide +kernel, rfl, by decide +kernel, by decide +kernel⟩
theorem sc_drafted : FnScope ["text", "asks", "rows", "draft", "number", "row", "line"] ["text", "asks"] (defScope s_drafted) := ⟨rfl, rfl, rfl, by decide +kernel, rfl, by decide +kernel, by decide +kernel⟩
theorem sc_take_line : FnScope ["draft", "line", "first"] ["draft", "line"] (defScope s_take_line) := ⟨rfl, rfl, rfl, by decide +kernel, rfl, by decide +kernel, by decide +kernel⟩
theorem sc_take_maker : FnScope ["draft", "line", "word"] ["draft", "line"] (defScope s_take_maker) := ⟨rfl, rfl, rfl, by decide +kernel, rfl, by decide +kernel, by decide +kernel⟩
theorem sc_take_constructor : FnScope ["draft", "line", "word", "parts", "family", "index"] ["draft", "line"] (defScope s_take_constructor) := ⟨rfl, rfl, rfl, by decide +kernel, rfl, by decide +kernel, by decide +kernel⟩
theorem sc_take_function : FnScope ["draft", "line", "word", "falls", "params", "family", "index"] ["draft", "line"] (defScope s_take_function) := ⟨rfl, rfl, rfl, by decide +kernel, rfl, by decide +kernel, by decide +kernel⟩
theorem sc_take_kinds : FnScope ["line", "found"] ["line"] (defScope s_take_kinds) := ⟨rfl, rfl, rfl, by decide +kernel, rfl, by decide +kernel, by decide +kernel⟩
theorem sc_take_kind : FnScope ["line", "family", "term"] ["line"] (defScope s_take_kind) := ⟨rfl, rfl, rfl, by decide +kernel, rfl, by decide +kernel, by decide +kernel⟩
theorem sc_take_clause : FnScope ["draft", "line", "word", "patterns", "clauses"] ["draft", "line"] (defScope s_take_clause) := ⟨rfl, rfl, rfl, by decide +kernel, rfl, by decide +kernel, by decide +kernel⟩
theorem sc_table : FnScope ["draft", "makers", "constructors", "word", "parts", "family", "index"] ["draft"] (defScope s_table) := ⟨rfl, rfl, rfl, by decide +kernel, rfl, by decide +kernel, by decide +kernel⟩
theorem sc_program : FnScope ["draft", "makers", "constructors", "functions", "word", "params", "family", "index", "falls", "clauses", "head"] ["draft"] (defScope s_program) := ⟨rfl, rfl, rfl, by decide +kernel, rfl, by decide +kernel, by decide +kernel⟩
theorem sc_constructor_words : FnScope ["draft", "row"] ["draft"] (defScope s_constructor_words) := ⟨rfl, rfl, rfl, by decide +kernel, rfl, by decide +kernel, by decide +kernel⟩
theorem sc_kinds : FnScope ["kinds", "makers", "family", "term"] ["kinds", "makers"] (defScope s_kinds) := ⟨rfl, rfl, rfl, by decide +kernel, rfl, by decide +kernel, by decide +kernel⟩
theorem sc_clauses : FnScope ["clauses", "constructors", "found", "patterns", "body", "told", "pattern"] ["clauses", "constructors"] (defScope s_clauses) := ⟨rfl, rfl, rfl, by decide +kernel, rfl, by decide +kernel, by decide +kernel⟩
theorem sc_declared : FnScope ["tree", "words", "items", "part"] ["tree", "words"] (defScope s_declared) := ⟨rfl, rfl, rfl, by decide +kernel, rfl, by decide +kernel, by decide +kernel⟩
theorem sc_law_state : FnScope ["script", "seed", "cell"] ["script"] (defScope s_law_state) := ⟨rfl, rfl, rfl, by decide +kernel, rfl, by decide +kernel, by decide +kernel⟩
theorem sc_law_draw : FnScope ["state", "many", "cells", "value", "mixed"] ["state", "many"] (defScope s_law_draw) := ⟨rfl, rfl, rfl, by decide +kernel, rfl, by decide +kernel, by decide +kernel⟩
theorem sc_law_pick : FnScope ["state", "row"] ["state", "row"] (defScope s_law_pick) := ⟨rfl, rfl, rfl, by decide +kernel, rfl, by decide +kernel, by decide +kernel⟩
theorem sc_law_tree : FnScope ["state", "words", "names", "more", "deep", "parts", "k"] ["state", "words", "names", "more", "deep"] (defScope s_law_tree) := ⟨rfl, rfl, rfl, by decide +kernel, rfl, by decide +kernel, by decide +kernel⟩
theorem sc_law_types : FnScope ["state", "families", "makers", "names", "many", "k"] ["state", "families", "makers", "names", "many"] (defScope s_law_types) := ⟨rfl, rfl, rfl, by decide +kernel, rfl, by decide +kernel, by decide +kernel⟩
theorem sc_law_table : FnScope ["state", "word", "words", "makers", "families", "constructors", "parts", "made"] ["state"] (defScope s_law_table) := ⟨rfl, rfl, rfl, by decide +kernel, rfl, by decide +kernel, by decide +kernel⟩
theorem sc_law_clause : FnScope ["state", "constructors", "many", "patterns", "k"] ["state", "constructors", "many"] (defScope s_law_clause) := ⟨rfl, rfl, rfl, by decide +kernel, rfl, by decide +kernel, by decide +kernel⟩
theorem sc_law_program : FnScope ["state", "table", "makers", "constructors", "functions", "word", "many", "params", "told", "clauses", "maker", "one", "k"] ["state", "table"] (defScope s_law_program) := ⟨rfl, rfl, rfl, by decide +kernel, rfl, by decide +kernel, by decide +kernel⟩
theorem sc_law_text : FnScope ["tree", "part"] ["tree"] (defScope s_law_text) := ⟨rfl, rfl, rfl, by decide +kernel, rfl, by decide +kernel, by decide +kernel⟩
theorem sc_law_pairs : FnScope ["pairs", "pair"] ["pairs"] (defScope s_law_pairs) := ⟨rfl, rfl, rfl, by decide +kernel, rfl, by decide +kernel, by decide +kernel⟩
theorem sc_law_lines : FnScope ["table", "program", "lines", "family", "word", "parts", "index", "told", "params", "falls", "clauses", "patterns", "body", "maker", "one"] ["table", "program"] (defScope s_law_lines) := ⟨rfl, rfl, rfl, by decide +kernel, rfl, by decide +kernel, by decide +kernel⟩
theorem sc_law_is_letter : FnScope ["char"] ["char"] (defScope s_law_is_letter) := ⟨rfl, rfl, rfl, by decide +kernel, rfl, by decide +kernel, by decide +kernel⟩
theorem sc_law_tokens : FnScope ["line", "found", "k", "end"] ["line"] (defScope s_law_tokens) := ⟨rfl, rfl, rfl, by decide +kernel, rfl, by decide +kernel, by decide +kernel⟩
theorem sc_law_kind : FnScope ["token", "char"] ["token"] (defScope s_law_kind) := ⟨rfl, rfl, rfl, by decide +kernel, rfl, by decide +kernel, by decide +kernel⟩
theorem sc_law_parsed : FnScope ["row", "k", "deep", "found", "one"] ["row", "k", "deep"] (defScope s_law_parsed) := ⟨rfl, rfl, rfl, by decide +kernel, rfl, by decide +kernel, by decide +kernel⟩
theorem sc_law_pair_list : FnScope ["row", "k", "found", "turn", "one"] ["row", "k"] (defScope s_law_pair_list) := ⟨rfl, rfl, rfl, by decide +kernel, rfl, by decide +kernel, by decide +kernel⟩
theorem sc_law_head : FnScope ["row", "k", "least", "params", "told"] ["row", "k", "least"] (defScope s_law_head) := ⟨rfl, rfl, rfl, by decide +kernel, rfl, by decide +kernel, by decide +kernel⟩
theorem sc_law_item : FnScope ["row", "kinds", "left", "body", "head", "token"] ["row"] (defScope s_law_item) := ⟨rfl, rfl, rfl, by decide +kernel, rfl, by decide +kernel, by decide +kernel⟩
theorem sc_law_marked : FnScope ["tree", "words", "part"] ["tree", "words"] (defScope s_law_marked) := ⟨rfl, rfl, rfl, by decide +kernel, rfl, by decide +kernel, by decide +kernel⟩
theorem sc_law_read : FnScope ["text", "items", "word", "lines", "k", "row", "item"] ["text"] (defScope s_law_read) := ⟨rfl, rfl, rfl, by decide +kernel, rfl, by decide +kernel, by decide +kernel⟩
theorem sc_law_pair : FnScope ["items", "item", "makers", "words", "constructors", "functions", "parts", "made", "patterns", "table", "pair", "part", "head"] ["items"] (defScope s_law_pair) := ⟨rfl, rfl, rfl, by decide +kernel, rfl, by decide +kernel, by decide +kernel⟩
theorem sc_law_turned : FnScope ["state", "row", "k", "kind", "odd", "more"] ["state", "row"] (defScope s_law_turned) := ⟨rfl, rfl, rfl, by decide +kernel, rfl, by decide +kernel, by decide +kernel⟩
theorem sc_law_deep : FnScope ["state", "term", "head", "kind"] ["state", "term"] (defScope s_law_deep) := ⟨rfl, rfl, rfl, by decide +kernel, rfl, by decide +kernel, by decide +kernel⟩
theorem sc_law_spoilt : FnScope ["state", "lines", "turn", "k", "kind", "row", "at", "sign", "more", "deep"] ["state", "lines"] (defScope s_law_spoilt) := ⟨rfl, rfl, rfl, by decide +kernel, rfl, by decide +kernel, by decide +kernel⟩
theorem sc_law_told : FnScope ["value", "e"] ["value"] (defScope s_law_told) := ⟨rfl, rfl, rfl, by decide +kernel, rfl, by decide +kernel, by decide +kernel⟩
theorem sc_law_by_kinds : FnScope ["value"] ["value"] (defScope s_law_by_kinds) := ⟨rfl, rfl, rfl, by decide +kernel, rfl, by decide +kernel, by decide +kernel⟩
theorem sc_law : FnScope ["script", "state", "table", "lines", "text", "due", "odd", "asked", "value", "end"] ["script"] (defScope s_law) := ⟨rfl, rfl, rfl, by decide +kernel, rfl, by decide +kernel, by decide +kernel⟩
structure Txt (K : PySem.W.Frag) (mg : Str → Option Value) where
  c_Line : Addr
  cl_Line : Cls K c_Line
  mg_Line : mg "Line" = some (.ref c_Line)
  no_Line_number : NoAttr K c_Line "number"
  no_Line_at : NoAttr K c_Line "at"
  no_Line_tokens : NoAttr K c_Line "tokens"
  c_Question : Addr
  cl_Question : Cls K c_Question
  mg_Question : mg "Question" = some (.ref c_Question)
  c_Draft : Addr
  cl_Draft : Cls K c_Draft
  mg_Draft : mg "Draft" = some (.ref c_Draft)
  no_Draft_asks : NoAttr K c_Draft "asks"
  no_Draft_makers : NoAttr K c_Draft "makers"
  no_Draft_families : NoAttr K c_Draft "families"
  no_Draft_constructors : NoAttr K c_Draft "constructors"
  no_Draft_functions : NoAttr K c_Draft "functions"
  no_Draft_questions : NoAttr K c_Draft "questions"
  t_MOST_NAME : Tok
  g_MOST_NAME : mg "MOST_NAME" = some (.int 12 t_MOST_NAME)
  t_MOST_TEXT : Tok
  g_MOST_TEXT : mg "MOST_TEXT" = some (.int 6000 t_MOST_TEXT)
  t_MOST_OPEN : Tok
  g_MOST_OPEN : mg "MOST_OPEN" = some (.int 40 t_MOST_OPEN)
  t_MOST_DIGITS : Tok
  g_MOST_DIGITS : mg "MOST_DIGITS" = some (.int 2 t_MOST_DIGITS)
  t_PERCENT_CODE : Tok
  g_PERCENT_CODE : mg "PERCENT_CODE" = some (.int 37 t_PERCENT_CODE)
  a_is_word : Addr
  d_is_word : FuncData
  F_is_word : Fun K "is_word" "is_word" s_is_word a_is_word d_is_word
  b_is_word : Binds K d_is_word ["value"] []
  m_is_word : mg "is_word" = some (.ref a_is_word)
  a_rows_of : Addr
  d_rows_of : FuncData
  F_rows_of : Fun K "rows_of" "rows_of" s_rows_of a_rows_of d_rows_of
  b_rows_of : Binds K d_rows_of ["text"] []
  m_rows_of : mg "rows_of" = some (.ref a_rows_of)
  a_is_allowed : Addr
  d_is_allowed : FuncData
  F_is_allowed : Fun K "_is_allowed" "_is_allowed" s_is_allowed a_is_allowed d_is_allowed
  b_is_allowed : Binds K d_is_allowed ["sign"] []
  m_is_allowed : mg "_is_allowed" = some (.ref a_is_allowed)
  a_Line_init : Addr
  d_Line_init : FuncData
  F_Line_init : Fun K "__init__" "Line.__init__" s_Line_init a_Line_init d_Line_init
  b_Line_init : Binds K d_Line_init ["self", "row", "number"] []
  me_Line_init : Meth K c_Line "__init__" a_Line_init
  a_Line_refuse : Addr
  d_Line_refuse : FuncData
  F_Line_refuse : Fun K "refuse" "Line.refuse" s_Line_refuse a_Line_refuse d_Line_refuse
  b_Line_refuse : Binds K d_Line_refuse ["self"] []
  me_Line_refuse : Meth K c_Line "refuse" a_Line_refuse
  a_Line_comes : Addr
  d_Line_comes : FuncData
  F_Line_comes : Fun K "comes" "Line.comes" s_Line_comes a_Line_comes d_Line_comes
  b_Line_comes : Binds K d_Line_comes ["self", "token"] []
  me_Line_comes : Meth K c_Line "comes" a_Line_comes
  a_Line_take : Addr
  d_Line_take : FuncData
  F_Line_take : Fun K "take" "Line.take" s_Line_take a_Line_take d_Line_take
  b_Line_take : Binds K d_Line_take ["self"] []
  me_Line_take : Meth K c_Line "take" a_Line_take
  a_Line_skip : Addr
  d_Line_skip : FuncData
  F_Line_skip : Fun K "skip" "Line.skip" s_Line_skip a_Line_skip d_Line_skip
  b_Line_skip : Binds K d_Line_skip ["self", "token"] []
  me_Line_skip : Meth K c_Line "skip" a_Line_skip
  a_Line_finish : Addr
  d_Line_finish : FuncData
  F_Line_finish : Fun K "finish" "Line.finish" s_Line_finish a_Line_finish d_Line_finish
  b_Line_finish : Binds K d_Line_finish ["self"] []
  me_Line_finish : Meth K c_Line "finish" a_Line_finish
  a_Line_take_word : Addr
  d_Line_take_word : FuncData
  F_Line_take_word : Fun K "take_word" "Line.take_word" s_Line_take_word a_Line_take_word d_Line_take_word
  b_Line_take_word : Binds K d_Line_take_word ["self"] []
  me_Line_take_word : Meth K c_Line "take_word" a_Line_take_word
  a_Line_take_number : Addr
  d_Line_take_number : FuncData
  F_Line_take_number : Fun K "take_number" "Line.take_number" s_Line_take_number a_Line_take_number d_Line_take_number
  b_Line_take_number : Binds K d_Line_take_number ["self"] []
  me_Line_take_number : Meth K c_Line "take_number" a_Line_take_number
  a_Line_take_tree : Addr
  d_Line_take_tree : FuncData
  F_Line_take_tree : Fun K "take_tree" "Line.take_tree" s_Line_take_tree a_Line_take_tree d_Line_take_tree
  b_Line_take_tree : Binds K d_Line_take_tree ["self"] []
  me_Line_take_tree : Meth K c_Line "take_tree" a_Line_take_tree
  a_Line_take_trees : Addr
  d_Line_take_trees : FuncData
  F_Line_take_trees : Fun K "take_trees" "Line.take_trees" s_Line_take_trees a_Line_take_trees d_Line_take_trees
  b_Line_take_trees : Binds K d_Line_take_trees ["self"] []
  me_Line_take_trees : Meth K c_Line "take_trees" a_Line_take_trees
  a_tokens_of : Addr
  d_tokens_of : FuncData
  F_tokens_of : Fun K "_tokens_of" "_tokens_of" s_tokens_of a_tokens_of d_tokens_of
  b_tokens_of : Binds K d_tokens_of ["row"] []
  m_tokens_of : mg "_tokens_of" = some (.ref a_tokens_of)
  a_token_end : Addr
  d_token_end : FuncData
  F_token_end : Fun K "_token_end" "_token_end" s_token_end a_token_end d_token_end
  b_token_end : Binds K d_token_end ["row", "start"] []
  m_token_end : mg "_token_end" = some (.ref a_token_end)
  a_is_number : Addr
  d_is_number : FuncData
  F_is_number : Fun K "_is_number" "_is_number" s_is_number a_is_number d_is_number
  b_is_number : Binds K d_is_number ["token"] []
  m_is_number : mg "_is_number" = some (.ref a_is_number)
  a_most_open : Addr
  d_most_open : FuncData
  F_most_open : Fun K "_most_open" "_most_open" s_most_open a_most_open d_most_open
  b_most_open : Binds K d_most_open ["tokens"] []
  m_most_open : mg "_most_open" = some (.ref a_most_open)
  a_Question_init : Addr
  d_Question_init : FuncData
  F_Question_init : Fun K "__init__" "Question.__init__" s_Question_init a_Question_init d_Question_init
  b_Question_init : Binds K d_Question_init ["self", "word"] []
  me_Question_init : Meth K c_Question "__init__" a_Question_init
  a_take_question : Addr
  d_take_question : FuncData
  F_take_question : Fun K "take_question" "take_question" s_take_question a_take_question d_take_question
  b_take_question : Binds K d_take_question ["line"] []
  m_take_question : mg "take_question" = some (.ref a_take_question)
  a_Draft_init : Addr
  d_Draft_init : FuncData
  F_Draft_init : Fun K "__init__" "Draft.__init__" s_Draft_init a_Draft_init d_Draft_init
  b_Draft_init : Binds K d_Draft_init ["self", "asks"] []
  me_Draft_init : Meth K c_Draft "__init__" a_Draft_init
  a_read : Addr
  d_read : FuncData
  F_read : Fun K "read" "read" s_read a_read d_read
  b_read : Binds K d_read ["text"] []
  m_read : mg "read" = some (.ref a_read)
  a_drafted : Addr
  d_drafted : FuncData
  F_drafted : Fun K "_drafted" "_drafted" s_drafted a_drafted d_drafted
  b_drafted : Binds K d_drafted ["text", "asks"] []
  m_drafted : mg "_drafted" = some (.ref a_drafted)
  a_take_line : Addr
  d_take_line : FuncData
  F_take_line : Fun K "_take_line" "_take_line" s_take_line a_take_line d_take_line
  b_take_line : Binds K d_take_line ["draft", "line"] []
  m_take_line : mg "_take_line" = some (.ref a_take_line)
  a_take_maker : Addr
  d_take_maker : FuncData
  F_take_maker : Fun K "_take_maker" "_take_maker" s_take_maker a_take_maker d_take_maker
  b_take_maker : Binds K d_take_maker ["draft", "line"] []
  m_take_maker : mg "_take_maker" = some (.ref a_take_maker)
  a_take_constructor : Addr
  d_take_constructor : FuncData
  F_take_constructor : Fun K "_take_constructor" "_take_constructor" s_take_constructor a_take_constructor d_take_constructor
  b_take_constructor : Binds K d_take_constructor ["draft", "line"] []
  m_take_constructor : mg "_take_constructor" = some (.ref a_take_constructor)
  a_take_function : Addr
  d_take_function : FuncData
  F_take_function : Fun K "_take_function" "_take_function" s_take_function a_take_function d_take_function
  b_take_function : Binds K d_take_function ["draft", "line"] []
  m_take_function : mg "_take_function" = some (.ref a_take_function)
  a_take_kinds : Addr
  d_take_kinds : FuncData
  F_take_kinds : Fun K "_take_kinds" "_take_kinds" s_take_kinds a_take_kinds d_take_kinds
  b_take_kinds : Binds K d_take_kinds ["line"] []
  m_take_kinds : mg "_take_kinds" = some (.ref a_take_kinds)
  a_take_kind : Addr
  d_take_kind : FuncData
  F_take_kind : Fun K "_take_kind" "_take_kind" s_take_kind a_take_kind d_take_kind
  b_take_kind : Binds K d_take_kind ["line"] []
  m_take_kind : mg "_take_kind" = some (.ref a_take_kind)
  a_take_clause : Addr
  d_take_clause : FuncData
  F_take_clause : Fun K "_take_clause" "_take_clause" s_take_clause a_take_clause d_take_clause
  b_take_clause : Binds K d_take_clause ["draft", "line"] []
  m_take_clause : mg "_take_clause" = some (.ref a_take_clause)
  a_table : Addr
  d_table : FuncData
  F_table : Fun K "_table" "_table" s_table a_table d_table
  b_table : Binds K d_table ["draft"] []
  m_table : mg "_table" = some (.ref a_table)
  a_program : Addr
  d_program : FuncData
  F_program : Fun K "_program" "_program" s_program a_program d_program
  b_program : Binds K d_program ["draft"] []
  m_program : mg "_program" = some (.ref a_program)
  a_constructor_words : Addr
  d_constructor_words : FuncData
  F_constructor_words : Fun K "_constructor_words" "_constructor_words" s_constructor_words a_constructor_words d_constructor_words
  b_constructor_words : Binds K d_constructor_words ["draft"] []
  m_constructor_words : mg "_constructor_words" = some (.ref a_constructor_words)
  a_kinds : Addr
  d_kinds : FuncData
  F_kinds : Fun K "_kinds" "_kinds" s_kinds a_kinds d_kinds
  b_kinds : Binds K d_kinds ["kinds", "makers"] []
  m_kinds : mg "_kinds" = some (.ref a_kinds)
  a_clauses : Addr
  d_clauses : FuncData
  F_clauses : Fun K "_clauses" "_clauses" s_clauses a_clauses d_clauses
  b_clauses : Binds K d_clauses ["clauses", "constructors"] []
  m_clauses : mg "_clauses" = some (.ref a_clauses)
  a_declared : Addr
  d_declared : FuncData
  F_declared : Fun K "_declared" "_declared" s_declared a_declared d_declared
  b_declared : Binds K d_declared ["tree", "words"] []
  m_declared : mg "_declared" = some (.ref a_declared)
  a_law_state : Addr
  d_law_state : FuncData
  F_law_state : Fun K "_law_state" "_law_state" s_law_state a_law_state d_law_state
  b_law_state : Binds K d_law_state ["script"] []
  m_law_state : mg "_law_state" = some (.ref a_law_state)
  a_law_draw : Addr
  d_law_draw : FuncData
  F_law_draw : Fun K "_law_draw" "_law_draw" s_law_draw a_law_draw d_law_draw
  b_law_draw : Binds K d_law_draw ["state", "many"] []
  m_law_draw : mg "_law_draw" = some (.ref a_law_draw)
  a_law_pick : Addr
  d_law_pick : FuncData
  F_law_pick : Fun K "_law_pick" "_law_pick" s_law_pick a_law_pick d_law_pick
  b_law_pick : Binds K d_law_pick ["state", "row"] []
  m_law_pick : mg "_law_pick" = some (.ref a_law_pick)
  a_law_tree : Addr
  d_law_tree : FuncData
  F_law_tree : Fun K "_law_tree" "_law_tree" s_law_tree a_law_tree d_law_tree
  b_law_tree : Binds K d_law_tree ["state", "words", "names", "more", "deep"] []
  m_law_tree : mg "_law_tree" = some (.ref a_law_tree)
  a_law_types : Addr
  d_law_types : FuncData
  F_law_types : Fun K "_law_types" "_law_types" s_law_types a_law_types d_law_types
  b_law_types : Binds K d_law_types ["state", "families", "makers", "names", "many"] []
  m_law_types : mg "_law_types" = some (.ref a_law_types)
  a_law_table : Addr
  d_law_table : FuncData
  F_law_table : Fun K "_law_table" "_law_table" s_law_table a_law_table d_law_table
  b_law_table : Binds K d_law_table ["state"] []
  m_law_table : mg "_law_table" = some (.ref a_law_table)
  a_law_clause : Addr
  d_law_clause : FuncData
  F_law_clause : Fun K "_law_clause" "_law_clause" s_law_clause a_law_clause d_law_clause
  b_law_clause : Binds K d_law_clause ["state", "constructors", "many"] []
  m_law_clause : mg "_law_clause" = some (.ref a_law_clause)
  a_law_program : Addr
  d_law_program : FuncData
  F_law_program : Fun K "_law_program" "_law_program" s_law_program a_law_program d_law_program
  b_law_program : Binds K d_law_program ["state", "table"] []
  m_law_program : mg "_law_program" = some (.ref a_law_program)
  a_law_text : Addr
  d_law_text : FuncData
  F_law_text : Fun K "_law_text" "_law_text" s_law_text a_law_text d_law_text
  b_law_text : Binds K d_law_text ["tree"] []
  m_law_text : mg "_law_text" = some (.ref a_law_text)
  a_law_pairs : Addr
  d_law_pairs : FuncData
  F_law_pairs : Fun K "_law_pairs" "_law_pairs" s_law_pairs a_law_pairs d_law_pairs
  b_law_pairs : Binds K d_law_pairs ["pairs"] []
  m_law_pairs : mg "_law_pairs" = some (.ref a_law_pairs)
  a_law_lines : Addr
  d_law_lines : FuncData
  F_law_lines : Fun K "_law_lines" "_law_lines" s_law_lines a_law_lines d_law_lines
  b_law_lines : Binds K d_law_lines ["table", "program"] []
  m_law_lines : mg "_law_lines" = some (.ref a_law_lines)
  a_law_is_letter : Addr
  d_law_is_letter : FuncData
  F_law_is_letter : Fun K "_law_is_letter" "_law_is_letter" s_law_is_letter a_law_is_letter d_law_is_letter
  b_law_is_letter : Binds K d_law_is_letter ["char"] []
  m_law_is_letter : mg "_law_is_letter" = some (.ref a_law_is_letter)
  a_law_tokens : Addr
  d_law_tokens : FuncData
  F_law_tokens : Fun K "_law_tokens" "_law_tokens" s_law_tokens a_law_tokens d_law_tokens
  b_law_tokens : Binds K d_law_tokens ["line"] []
  m_law_tokens : mg "_law_tokens" = some (.ref a_law_tokens)
  a_law_kind : Addr
  d_law_kind : FuncData
  F_law_kind : Fun K "_law_kind" "_law_kind" s_law_kind a_law_kind d_law_kind
  b_law_kind : Binds K d_law_kind ["token"] []
  m_law_kind : mg "_law_kind" = some (.ref a_law_kind)
  a_law_parsed : Addr
  d_law_parsed : FuncData
  F_law_parsed : Fun K "_law_parsed" "_law_parsed" s_law_parsed a_law_parsed d_law_parsed
  b_law_parsed : Binds K d_law_parsed ["row", "k", "deep"] []
  m_law_parsed : mg "_law_parsed" = some (.ref a_law_parsed)
  a_law_pair_list : Addr
  d_law_pair_list : FuncData
  F_law_pair_list : Fun K "_law_pair_list" "_law_pair_list" s_law_pair_list a_law_pair_list d_law_pair_list
  b_law_pair_list : Binds K d_law_pair_list ["row", "k"] []
  m_law_pair_list : mg "_law_pair_list" = some (.ref a_law_pair_list)
  a_law_head : Addr
  d_law_head : FuncData
  F_law_head : Fun K "_law_head" "_law_head" s_law_head a_law_head d_law_head
  b_law_head : Binds K d_law_head ["row", "k", "least"] []
  m_law_head : mg "_law_head" = some (.ref a_law_head)
  a_law_item : Addr
  d_law_item : FuncData
  F_law_item : Fun K "_law_item" "_law_item" s_law_item a_law_item d_law_item
  b_law_item : Binds K d_law_item ["row"] []
  m_law_item : mg "_law_item" = some (.ref a_law_item)
  a_law_marked : Addr
  d_law_marked : FuncData
  F_law_marked : Fun K "_law_marked" "_law_marked" s_law_marked a_law_marked d_law_marked
  b_law_marked : Binds K d_law_marked ["tree", "words"] []
  m_law_marked : mg "_law_marked" = some (.ref a_law_marked)
  a_law_read : Addr
  d_law_read : FuncData
  F_law_read : Fun K "_law_read" "_law_read" s_law_read a_law_read d_law_read
  b_law_read : Binds K d_law_read ["text"] []
  m_law_read : mg "_law_read" = some (.ref a_law_read)
  a_law_pair : Addr
  d_law_pair : FuncData
  F_law_pair : Fun K "_law_pair" "_law_pair" s_law_pair a_law_pair d_law_pair
  b_law_pair : Binds K d_law_pair ["items"] []
  m_law_pair : mg "_law_pair" = some (.ref a_law_pair)
  a_law_turned : Addr
  d_law_turned : FuncData
  F_law_turned : Fun K "_law_turned" "_law_turned" s_law_turned a_law_turned d_law_turned
  b_law_turned : Binds K d_law_turned ["state", "row"] []
  m_law_turned : mg "_law_turned" = some (.ref a_law_turned)
  a_law_deep : Addr
  d_law_deep : FuncData
  F_law_deep : Fun K "_law_deep" "_law_deep" s_law_deep a_law_deep d_law_deep
  b_law_deep : Binds K d_law_deep ["state", "term"] []
  m_law_deep : mg "_law_deep" = some (.ref a_law_deep)
  a_law_spoilt : Addr
  d_law_spoilt : FuncData
  F_law_spoilt : Fun K "_law_spoilt" "_law_spoilt" s_law_spoilt a_law_spoilt d_law_spoilt
  b_law_spoilt : Binds K d_law_spoilt ["state", "lines"] []
  m_law_spoilt : mg "_law_spoilt" = some (.ref a_law_spoilt)
  a_law_told : Addr
  d_law_told : FuncData
  F_law_told : Fun K "_law_told" "_law_told" s_law_told a_law_told d_law_told
  b_law_told : Binds K d_law_told ["value"] []
  m_law_told : mg "_law_told" = some (.ref a_law_told)
  a_law_by_kinds : Addr
  d_law_by_kinds : FuncData
  F_law_by_kinds : Fun K "_law_by_kinds" "_law_by_kinds" s_law_by_kinds a_law_by_kinds d_law_by_kinds
  b_law_by_kinds : Binds K d_law_by_kinds ["value"] []
  m_law_by_kinds : mg "_law_by_kinds" = some (.ref a_law_by_kinds)
  a_law : Addr
  d_law : FuncData
  F_law : Fun K "law" "law" s_law a_law d_law
  b_law : Binds K d_law ["script"] []
  m_law : mg "law" = some (.ref a_law)
  mk_Line : Mk K c_Line a_Line_init
  mk_Question : Mk K c_Question a_Question_init
  mk_Draft : Mk K c_Draft a_Draft_init
  c_BadText : Addr
  i_BadText : Addr
  low_BadText : KBt.Told K mg c_BadText i_BadText
  c_KindsError : Addr
  up_BadText : KBt.Up K mg "KindsError" c_BadText c_KindsError
  z_isinstance : mg "isinstance" = none
  z_str : mg "str" = none
  z_len : mg "len" = none
  z_ord : mg "ord" = none
  z_int : mg "int" = none
  z_tuple : mg "tuple" = none
  z_max : mg "max" = none
  z_enumerate : mg "enumerate" = none
  z_dict : mg "dict" = none
  z_abs : mg "abs" = none
  z_range : mg "range" = none
  z_list : mg "list" = none
end Kx
set_option maxHeartbeats 2000000
/-! Rules of our own over the layer: see the remarks. -/
namespace Kx
open PySem PySem.Spec PyProof.Rows L2
/-! ### rules with the written part named (for the blocks of comprehensions) -/
section
variable {X : Cx} {K : PySem.W.Frag}
theorem inSeqK (h : X.K = K := by rfl) : OpR X (compareOp .In) (rIn K false) := by subst h; exact op_in_seq
theorem notInSeqK (h : X.K = K := by rfl) : OpR X (compareOp .NotIn) (rIn K true) := by subst h; exact op_notIn_seq
theorem ixLK (h : X.K = K := by rfl) : IxR X (rIxL K) := by subst h; exact ix_list
theorem ixTK (h : X.K = K := by rfl) : IxR X (rIxT K) := by subst h; exact ix_tup
end
/-! ### l.extend(t), t a tuple -/
def rExtT (K : PySem.W.Frag) : V → List V → Hp → VK → Prop := fun x vs H Q => ∃ l b xs zs, x = .ref l ∧ vs = [.ref b] ∧ H l = some (.lst xs) ∧ (∃ o : Obj, H b = some (.frz o (.tup zs)) ∧ o.dict = none ∧ o.slots = #[]) ∧ xs.length + zs.length ≤ sizeLine ∧ Q .non (upd H l (.lst (xs ++ zs)))
section
variable {X : Cx}
theorem mt_extT : MtR X "list.extend" (rExtT X.K) := by
  intro pins s σ H x vs v us Q I rx rv hyp
  obtain ⟨l, b, xs, zs, rfl, rfl, hH, ⟨o, hB, hd, hsl⟩, hz, fin⟩ := hyp
  cases rx
  obtain ⟨u, rfl, ru⟩ := rv.one
  cases ru
  obtain ⟨z, its, n, r, hl, e⟩ := I.lstM hH
  obtain ⟨e2, z2, its2, r2, hT⟩ := (show ObjOk X.prog X.w H s.heap b (.frz o (.tup zs)) from I.hok b _ hB)
  obtain ⟨o2, e3, hc2, n2, hd2⟩ := hT
  rw [e2] at e3
  cases e3
  obtain ⟨oc, od, dt, sl⟩ := o
  simp only at hc2 hd2 hd hsl
  subst hc2 hd2 hd hsl
  have w1 : its.length = xs.length := r.length.symm
  have w2 : its2.length = zs.length := r2.length.symm
  have size2 : its.toArray.size + its2.toArray.size ≤ sizeLine := by
    simp only [List.size_toArray, w1, w2]; exact hz
  have few : ¬ (!its.toArray.isEmpty && Builtin.List.listTooLong (its.toArray.size + its2.toArray.size)) = true := by
    rw [notLongL size2, Bool.and_false]; simp
  refine call_meets F.slot_list_extend ⟨_, e, rfl⟩ F.entry_list_extend (F.args_list_extend_2 _ _)
    (AutoSeq1.list_extend_list_tuple_0 l its.toArray n b its2.toArray n2 few (Nat.le_trans (Nat.le_add_right _ _) size2) (Nat.le_succ_of_le size2)) ⟨e, e2, ?_⟩
  refine ⟨.non, _, I.lset (its' := its ++ its2) hH e (by simp) (r.append r2) ?_, rfl, fin⟩
  simp only [List.length_append]; exact hz
end
/-! ### t[:0:-1]: a tuple backwards without its first item -/
section
variable {prog : Program} {w : World} {A : Around} {E : Value → Shared → Prop} {s : Shared}
theorem back_pick {α : Type} : ∀ l : List α, (List.range l.length).filterMap (fun m => l[l.length - 1 - m]?) = l.reverse := by
  intro l
  have h : ∀ k, k ≤ l.length → (List.range k).filterMap (fun m => l[l.length - 1 - m]?) = (l.drop (l.length - k)).reverse := by
    intro k
    induction k with
    | zero => intro _; simp
    | succ k ih =>
      intro hk
      rw [List.range_succ, List.filterMap_append, ih (by omega)]
      have e : l.drop (l.length - (k + 1)) = l[l.length - (k + 1)]'(by omega) :: l.drop (l.length - k) := by
        rw [List.drop_eq_getElem_cons (by omega)]
        congr 2
        omega
      rw [e, List.reverse_cons]
      congr 1
      have e2 : l[l.length - 1 - k]? = some (l[l.length - (k + 1)]'(by omega)) := by
        rw [← List.getElem?_eq_getElem]
        congr 1
        omega
      simp [e2]
  have := h l.length (Nat.le_refl _)
  simpa using this
theorem back_pick1 (xs : List Value) (h1 : 1 ≤ xs.length) : (List.range (xs.length - 1)).filterMap (fun (m : Nat) => xs[(((xs.length - 1 : Nat) : Int) + (m : Int) * (-1)).toNat]?) = (xs.drop 1).reverse := by
  have h := back_pick (xs.drop 1)
  rw [List.length_drop] at h
  rw [← h]
  have key : ∀ k, k ≤ xs.length - 1 → (List.range k).filterMap (fun (m : Nat) => xs[(((xs.length - 1 : Nat) : Int) + (m : Int) * (-1)).toNat]?) = (List.range k).filterMap (fun m => (xs.drop 1)[xs.length - 1 - 1 - m]?) := by
    intro k
    induction k with
    | zero => intro _; rfl
    | succ k ih =>
      intro hk
      rw [List.range_succ, List.filterMap_append, List.filterMap_append, ih (by omega)]
      congr 1
      have e : (((xs.length - 1 : Nat) : Int) + (k : Int) * (-1)).toNat = 1 + (xs.length - 1 - 1 - k) := by omega
      simp only [List.filterMap_cons, List.filterMap_nil, e, List.getElem?_drop]
  exact key _ (Nat.le_refl _)
theorem back_adjust (n : Nat) (h : 1 ≤ n) : Builtin.Slice.sliceAdjust none (some 0) (-1) (n : Int) = (((n - 1 : Nat) : Int), 0) := by
  unfold Builtin.Slice.sliceAdjust
  simp only [show ((-1 : Int) < 0) from by omega, if_true]
  refine Prod.ext ?_ ?_
  · show (n : Int) - 1 = _; omega
  · show (if (0 : Int) < 0 then max ((0 : Int) + (n : Int)) (-1) else min (0 : Int) ((n : Int) - 1)) = 0
    rw [if_neg (by omega)]; omega
theorem back_places (n : Nat) : Builtin.Slice.slicePlaces ((n : Nat) : Int) 0 (-1) = n := by
  unfold Builtin.Slice.slicePlaces
  simp only [show ¬ ((-1 : Int) > 0) from by omega, if_false, Int.neg_neg, Int.ediv_one]
  split <;> omega
theorem back_applied {sl : Addr} {vl vu vs : Value} {n : Nat} {Q : Int × Int × Nat → Shared → Prop} (h1 : 1 ≤ n) (hs : s.heap.IsSliceOf sl vl vu vs) (pl : IsPart vl none) (pu : IsPart vu (some 0)) (ps : IsPart vs (some (-1)))
    (h : Q (((n - 1 : Nat) : Int), -1, n - 1) s) : wpAny (model prog w) A (Builtin.Slice.sliceApplied (.ref sl) (pure (n : Int))) Q E s := by
  obtain ⟨os, ho, hc, hd⟩ := id hs
  unfold Builtin.Slice.sliceApplied Builtin.Slice.sliceFields
  refine wpAny_bind (wpAny_bind (wpAny_field ho hd (x := vl) rfl (wpAny_bind (wpAny_field ho hd (x := vu) rfl (wpAny_bind (wpAny_field ho hd (x := vs) rfl (wpAny_pure ?_)))))))
  refine wpAny_bind (HT.slicePart_ ps ?_)
  show wpAny _ _ (if ((-1 : Int) == 0) = true then _ else _) _ _ s
  rw [if_neg (by decide)]
  refine wpAny_bind (HT.slicePart_ pl (wpAny_bind (HT.slicePart_ pu (wpAny_bind (wpAny_pure ?_)))))
  show wpAny _ _ (match Builtin.Slice.sliceAdjust none (some 0) (-1) (n : Int) with | (lo, hi) => pure (lo, (-1 : Int), Builtin.Slice.slicePlaces lo hi (-1))) _ _ s
  rw [back_adjust n h1]
  show wpAny _ _ (pure (((n - 1 : Nat) : Int), (-1 : Int), Builtin.Slice.slicePlaces ((n - 1 : Nat) : Int) 0 (-1))) _ _ s
  rw [back_places]
  exact wpAny_pure h
theorem getItem_back {t sl : Addr} {items : Array Value} {vl vu vs : Value} {Q : Value → Shared → Prop} (h1 : 1 ≤ items.size) (ht : IsTup s.heap t items) (hs : s.heap.IsSliceOf sl vl vu vs) (pl : IsPart vl none) (pu : IsPart vu (some 0)) (ps : IsPart vs (some (-1)))
    (h : Q (.ref s.heap.objs.size) { s with heap := s.heap.push { cls := .type "tuple", data := .seq ((items.toList.drop 1).reverse).toArray } })
    (hsz : items.size ≤ sizeLine) : wpAny (model prog w) A (getItem (.ref t) (.ref sl)) Q E s := by
  have fits : sizeOk (.seq ((items.toList.drop 1).reverse).toArray) := by
    show ((items.toList.drop 1).reverse).toArray.size ≤ sizeLine
    simp only [List.size_toArray, List.length_reverse, List.length_drop, Array.length_toList]
    omega
  obtain ⟨os, ho, hc, hd⟩ := id hs
  have ty : s.TypeIs (.ref sl) "slice" := ⟨os, ho, hc⟩
  unfold getItem
  try with_reducible refine wpAny_holding ?_
  first | refine wpAny_bind (wpAny_pure ?_) | skip
  refine wpAny_bind (wpAny_sequenceKey ht.typeIs (by decide) ?_)
  refine wpAny_bind (wpAny_callSpecial?_slot (name := Str.ofString "__getitem__") ht.typeIs PyProof.Rows.slot_tuple_getitem
    (wpAny_call_entry PyProof.Rows.slot_tuple_getitem ht.typeIs F.entry_tuple_getitem ?_ (F.args_tuple_getitem_2 _ _)))
  show wpAny _ _ (Builtin.Tuple.tupleItemsOf (.ref t) >>= _) _ _ s
  refine wpAny_bind (tupleItemsOf_ ht ?_)
  refine wpAny_bind (wpAny_typeOf ty ?_)
  rw [if_pos (by decide)]
  refine wpAny_bind (back_applied (n := items.size) h1 hs pl pu ps ?_)
  have no : ¬ ((((items.size - 1 : Nat) : Int) == 0 && (-1 : Int) == 1 && (items.size - 1) == items.size) = true) := by simp
  show wpAny _ _ (if (((items.size - 1 : Nat) : Int) == 0 && (-1 : Int) == 1 && (items.size - 1) == items.size) = true then _ else _) _ _ s
  have e := back_pick1 items.toList (by simpa using h1)
  simp only [Array.length_toList, Array.getElem?_toList] at e
  rw [if_neg no, e]
  first
    | exact wpAny_bind (m := Builtin.Tuple.tupleExact _) (wpAny_newObj_type (wpAny_pure ⟨_, rfl, wpAny_pure h⟩) fits)
    | exact wpAny_bind (m := Builtin.Tuple.tupleExact _) (wpAny_newObj_type (wpAny_bind (wpAny_pure (wpAny_pure ⟨_, rfl, wpAny_pure h⟩))) fits)
    | exact wpAny_bind (wpAny_bind (m := Builtin.Tuple.tupleExact _) (wpAny_newObj_type (wpAny_pure (wpAny_pure ⟨_, rfl, wpAny_pure h⟩)) fits))
    | exact wpAny_bind (wpAny_bind (m := Builtin.Tuple.tupleExact _) (wpAny_newObj_type (wpAny_pure ⟨_, rfl, wpAny_pure h⟩) fits))
end
/-- what t[:0:-1] asks: t is not empty; the new tuple is told as an object that stands as it is -/
def tBackT (K : PySem.W.Frag) (te : TE) : TE := fun σ H Q => te σ H fun x H1 => ∃ a xs, x = .ref a ∧ SqT K H1 a xs ∧ xs ≠ [] ∧ ∀ p (o : Obj), H1 p = none → o.dict = none → o.slots = #[] → Q (.ref p) (upd H1 p (.frz o (.tup (xs.drop 1).reverse)))
section
variable {X : Cx}
theorem pe_cutback {e : Expr} {te : TE} {j k : Nat} {p0 p1 p2 p3 pos : Pos} (he : PE X e te) : PE X (.Subscript e (.Slice none (some (.Constant (.int 0) j p0)) (some (.UnaryOp .USub (.Constant (.int 1) k p1) p2)) p3) pos) (tBackT X.K te) := by
  refine ⟨fun pins s σ H Q I h => ?_⟩
  refine Subscript_ (thn (he.run pins s σ H _ I h) fun v s1 ⟨x, H1, I1, r1, q1⟩ => ?_)
  obtain ⟨a, xs, ex, hx, hne, fin⟩ := q1
  subst ex
  cases r1
  have hst : PO X (some (.UnaryOp .USub (.Constant (.int 1) k p1) p2)) (tPart (tUn (rU fun i => .int (-i)) (tC (.int 1)))) := po_some (pe_un un_neg pe_int)
  have hup : PO X (some (.Constant (.int 0) j p0)) (tPart (tC (.int 0))) := po_some pe_int
  refine wpAny_Slice (thn (po_none.run pins s1 σ H1 (fun o H2 => o = none ∧ H2 = H1) I1 ⟨rfl, rfl⟩) fun vl s2 ⟨l, H2, I2, pl, el, e2⟩ => ?_)
  subst el e2
  refine thn (hup.run pins s2 σ H2 (fun o H3 => o = some 0 ∧ H3 = H2) I2 ⟨0, rfl, rfl, rfl⟩) fun vu s3 ⟨u, H3, I3, pu, eu, e3⟩ => ?_
  subst eu e3
  refine thn (hst.run pins s3 σ H3 (fun o H4 => o = some (-1) ∧ H4 = H3) I3 ⟨1, rfl, -1, rfl, rfl, rfl⟩) fun vs s4 ⟨o, H4, I4, ps, eo, e4⟩ => ?_
  subst eo e4
  have I5 : Inv X pins σ H4 { s4 with heap := s4.heap.push { cls := .type "slice", data := .fields #[vl, vu, vs] } } := I4.kept (t' := s4.toks) fun b ob q => Heap.get?_push_of_some _ q
  obtain ⟨its, r, ht, hz⟩ := I5.tuple hx
  have hlen : its.length = xs.length := r.length.symm
  have h1 : 1 ≤ xs.length := by cases xs with | nil => exact absurd rfl hne | cons _ _ => simp
  show wpAny (model X.prog X.w) X.A (subscriptTail e (.Slice none (some (.Constant (.int 0) j p0)) (some (.UnaryOp .USub (.Constant (.int 1) k p1) p2)) p3) (.ref a) (.ref s4.heap.objs.size)) (EP X pins σ Q) X.xe { s4 with heap := s4.heap.push { cls := .type "slice", data := .fields #[vl, vu, vs] } }
  refine tail_any (ops := [.ref a, .ref s4.heap.objs.size]) ht.typeIs (PyProof.Rows.slot_tuple_getitem.lookup) ?_ (by with_unfolding_all rfl)
  refine getItem_back (by rw [List.size_toArray, hlen]; exact h1) ht (Heap.IsSliceOf.new _ vl vu vs) pl pu ps ?_ (by rw [List.size_toArray, hlen]; exact hz)
  refine ⟨.ref _, _, I5.laid (t' := s4.toks) (o := .frz { cls := .type "tuple", data := .seq ((its.drop 1).reverse).toArray } (.tup (xs.drop 1).reverse)) (fun b ob q => Heap.get?_push_of_some _ q) (Nat.le_refl _) ?_, rfl, fin _ _ (I5.hok.fresh (Nat.le_refl _)) rfl rfl⟩
  refine ⟨Heap.get?_push_size _ rfl, ?_, _, (r.drop 1).reverse, IsTup.new _ _⟩
  rw [List.length_reverse, List.length_drop]
  exact Nat.le_trans (Nat.sub_le _ _) hz
/-! ### tuple(l) of a list, told as an object that stands as it is -/
theorem call_tupleF : CallR X (.type "tuple") (fun xs H Q => ∃ p ys, xs = [.ref p] ∧ SqL X.K H p ys ∧ ∀ l (o : Obj), H l = none → o.dict = none → o.slots = #[] → Q (.ref l) (upd H l (.frz o (.tup ys)))) := by
  intro pins s σ H xs us Q I r hyp
  obtain ⟨p, ys, rfl, hq, fin⟩ := hyp
  obtain ⟨u, rfl, rx⟩ := vals1 r
  cases rx
  obtain ⟨its, r', pl, hz⟩ := I.list hq
  have w1 : its.length = ys.length := r'.length.symm
  refine call_tuple_list pl.isList (fun h' kp => ?_) (by rw [List.size_toArray, w1]; exact hz)
  have J : Inv X pins σ H { s with heap := h' } := I.kept (t' := s.toks) kp
  have J2 : Inv X pins σ (upd H h'.objs.size (.frz { cls := .type "tuple", data := .seq its.toArray } (.tup ys))) { s with heap := h'.push { cls := .type "tuple", data := .seq its.toArray } } :=
    J.laid (t' := s.toks) (fun b o e => Heap.get?_push_of_some _ e) (Nat.le_refl _) ⟨Heap.get?_push_size _ rfl, hz, its, r', IsTup.new _ _⟩
  exact ⟨.ref h'.objs.size, _, J2, rfl, fin _ _ (J.hok.fresh (Nat.le_refl _)) rfl rfl⟩
/-! ### dict(t) of a tuple of pairs -/
theorem pairs_list {pins : List (Addr × Obj)} {σ : L2.St} {H : Hp} {s : Shared} (I : Inv X pins σ H s) : ∀ {ps : List Addr} {kvs : List (Key × V)}, Paired (fun p kv => SqT X.K H p [kV kv.1, kv.2]) ps kvs →
    ∃ (prs : List (Key × Value)) (psv : List (Value × Value)), KV kvs prs ∧ prs.length = ps.length ∧ psv.length = ps.length ∧ ∀ (j : Nat) (u v : Value), psv[j]? = some (u, v) → ∃ b k, ps[j]? = some b ∧ prs[j]? = some (k, v) ∧ IsTup s.heap b #[u, v] ∧ keyIs k u = true
  | _, _, .nil => ⟨[], [], .nil, rfl, rfl, fun j u v e => by simp at e⟩
  | _, _, .cons (a := p) (b := kv) h t => by
    obtain ⟨prs, psv, r, l1, l2, hp⟩ := pairs_list I t
    obtain ⟨its, rv, ht, _⟩ := I.tuple h
    obtain ⟨u, y, ei, ru, ry⟩ := vals2 rv
    subst ei
    refine ⟨(kv.1, y) :: prs, (u, y) :: psv, .cons ⟨rfl, ry⟩ r, by simp [l1], by simp [l2], fun j u' v' e => ?_⟩
    cases j with
    | zero =>
      cases (Option.some.inj e)
      exact ⟨p, kv.1, rfl, rfl, ht, kV_is (P := X.prog) (w := X.w) ru⟩
    | succ j => exact hp j u' v' (by simpa using e)
theorem call_dictT (hcalm : X.calm = true) : CallR X (.type "dict") (fun xs H Q => ∃ (a : Addr) (o : Obj) (ps : List Addr) (kvs : List (Key × V)), xs = [.ref a] ∧ H a = some (.frz o (.tup (ps.map V.ref))) ∧ o.dict = none ∧ Paired (fun p kv => SqT X.K H p [kV kv.1, kv.2]) ps kvs ∧
    ∀ p, H p = none → Q (.ref p) (upd H p (.dK (mergeK [] kvs)))) := by
  intro pins s σ H xs us Q I r hyp
  obtain ⟨a, o, ps, kvs, ex, hq, hd, hp, fin⟩ := hyp
  subst ex
  obtain ⟨u, eu, rx⟩ := vals1 r
  subst eu
  cases rx
  obtain ⟨e2, hz, its, rv, hT⟩ := (show ObjOk X.prog X.w H s.heap a (.frz o (.tup (ps.map V.ref))) from I.hok a _ hq)
  obtain ⟨o2, e3, hc2, n2, hd2⟩ := hT
  rw [e2] at e3
  cases e3
  have ei := refs_at rv
  subst ei
  rw [List.length_map] at hz
  obtain ⟨prs, psv, rel, l1, l2, hpr⟩ := pairs_list I hp
  have items : PairItems s.heap (ps.map Value.ref).toArray (fun j => ps.getD j 0) psv := by
    refine ⟨by simp [l2], fun j k v e => ?_⟩
    obtain ⟨b, k', e1, _, e4, _⟩ := hpr j k v e
    refine ⟨by simp [e1], ?_⟩
    have eb : ps.getD j 0 = b := by simp [List.getD, e1]
    show PairAt s.heap (ps.getD j 0) k v
    rw [eb]
    exact .inl e4
  refine PySem.call_dict_pairs (knd := mixKind X.prog X.w) (kvs := prs) (PairArg.tuple a (ps.map Value.ref).toArray (fun j => ps.getD j 0) psv) (I.ok.hd hcalm) ⟨⟨o, n2, e2, hc2, hd, hd2⟩, items⟩ ⟨by rw [l1, l2], fun i key v e => ?_⟩ (by rw [l2]; exact hz) fun h' tk hd' k => ?_
  · obtain ⟨b, k', _, e5, _, e6⟩ := hpr i key v e
    exact ⟨k', e5, e6⟩
  · have hm : (s.heap.objs.size == sysModules) = false := beq_eq_false_iff_ne.mpr (Nat.ne_of_gt I.big)
    have few : (mergeK [] kvs).length ≤ sizeLine := by
      have z := length_mergeK kvs []
      rw [List.length_nil, Nat.zero_add, rel.length, l1] at z
      exact Nat.le_trans z hz
    exact ⟨.ref s.heap.objs.size, _, I.laid (t' := tk) (fun b o q => k b o (by simp) q) (Nat.le_refl _) (show ObjOk X.prog X.w _ _ _ (.dK (mergeK [] kvs)) from ⟨few, hm, merged [] prs, KV.merge rel .nil, hd'⟩), rfl, fin _ (I.hok.fresh (Nat.le_refl _))⟩
end
end Kx
namespace Kx
open PySem PySem.Spec PyProof.Rows L2
/-- a block cut behind its first statement: what holds there is named -/
theorem pss_cutK {X : Cx} {st : Stmt} {rest : List Stmt} {t u : TS} (h1 : PS X st t) (h2 : PSs X rest u) :
    PSs X (st :: rest) (fun D σ H => ∃ Mid : L2.St → Hp → Prop, t { D with nx := Mid } σ H ∧ ∀ σ' H', Mid σ' H' → u D σ' H') := Evl.pss_cut h1 h2
end Kx
namespace Kx
open PySem PySem.Spec PyProof.Rows L2
section
variable {X : Cx}
/-- a test, an expression, with a word behind it: what follows is shown once -/
theorem pt_cut {e : Expr} {t : TT} (h : PT X e t) : PT X e (fun σ H Q => ∃ M : Bool → Hp → Prop, t σ H M ∧ ∀ b H1, M b H1 → Q b H1) :=
  ⟨fun pins s σ H Q I ⟨M, hm, k⟩ => thn (h.run pins s σ H M I hm) fun b s1 ⟨H1, I1, q⟩ => ⟨H1, I1, k b H1 q⟩⟩
theorem pe_cut {e : Expr} {t : TE} (h : PE X e t) : PE X e (fun σ H Q => ∃ M : VK, t σ H M ∧ ∀ v H1, M v H1 → Q v H1) :=
  ⟨fun pins s σ H Q I ⟨M, hm, k⟩ => thn (h.run pins s σ H M I hm) fun b s1 ⟨v, H1, I1, r, q⟩ => ⟨v, H1, I1, r, k v H1 q⟩⟩
end
end Kx
namespace Kx
open PySem PySem.Spec PyProof.Rows L2
/-- a comprehension without a test: its element is asked -/
theorem yes_if {σ : L2.St} {H : Hp} {A B : Hp → Prop} (h : A H) : tYes σ H (fun b H3 => if b = true then A H3 else B H3) := by
  have e : (if true = true then A H else B H) := iteT h
  exact e
end Kx
set_option maxHeartbeats 400000
/-! for i, x in enumerate(l, start=1): a list. -/
namespace Kx
open PySem PySem.Spec PyProof.Rows L2
/-- the list at a, each item in a new pair with its number from 1 -/
def IteS (K : PySem.W.Frag) (a : Addr) : It :=
  ⟨fun i H => ∃ (xs : List V) (x : V), SqL K H a xs ∧ xs[i]? = some x, fun i H v H' => ∃ t x, v = .ref t ∧ H t = none ∧ H' = upd H t (.tup [.int (1 + (i : Int)), x]) ∧ ∀ xs, SqL K H a xs → xs[i]? = some x, fun i H => ∃ xs : List V, SqL K H a xs ∧ i = xs.length⟩
theorem turn_enumS {P : Program} {w : World} {K : PySem.W.Frag} {elts : List Expr} {kk : Nat} {tpos : Pos} {a e j : Addr} (na : a ≠ j) (ne : e ≠ j) (nea : e ≠ a) :
    Turn P w K (.Tuple elts kk tpos) (IteS K a) [e, j] e (fun i h => (∃ old, IsEnum h e j (1 + ((i : Nat) : Int)) old) ∧ h.IsListIter j a i) where
  mem := List.mem_cons_self ..
  obj := by
    rintro i h ⟨⟨old, h1⟩, ⟨o, h2, _, d2⟩⟩ c hc
    simp only [List.mem_cons, List.not_mem_nil, or_false] at hc
    rcases hc with rfl | rfl
    · exact ⟨_, h1, fun v q => nomatch q⟩
    · exact ⟨o, h2, fun v q => by rw [d2] at q; cases q⟩
  keep := by
    rintro i h h' ⟨⟨old, h1⟩, h2⟩ k
    exact ⟨⟨old, k e (by simp) _ h1⟩, h2.at fun o q => k j (by simp) o q⟩
  item := by
    intro X hP hw hK hc i pins s σ H E I hf st hg
    subst hP hw hK
    obtain ⟨⟨old, h1⟩, h2⟩ := st
    obtain ⟨xs, x, hq, hx⟩ := hg
    obtain ⟨its, rv, p, _⟩ := I.list hq
    obtain ⟨u, hu, ru⟩ := rv.get hx
    have hh : X.A.handled = none := I.ok.hd hc
    have b1 : i < its.toArray.size := by simpa using (List.getElem?_eq_some_iff.mp hu).1
    have el : e < s.heap.objs.size := Heap.lt_size h1
    have nf : e ∉ [j, a] := by simp only [List.mem_cons, List.not_mem_nil, or_false, not_or]; exact ⟨ne, nea⟩
    refine wpAny_pyNext_enum_itemC (Draws.list (A := X.A.in1) hh j a na its.toArray) h1 ⟨h2, p.isList⟩ b1 ne nf fun v g tk e1 g1 g2 gT gs gk => ?_
    have q1 : v = u := by simpa [hu] using e1.symm
    subst q1
    refine ⟨_, rfl, wpAny_letOwnedTupleGo_enum (s := { s with heap := g, toks := tk + 1 }) g1 fun g' k1 sb => ?_⟩
    have out : ∀ c, c ≠ e → g'.get? c = g.get? c := fun c n => sb.2 c n
    have nw : g'.get? s.heap.objs.size = some { cls := .type "tuple", data := .seq #[.int (1 + (i : Int)) tk, v] } := (out _ (Nat.ne_of_gt el)).trans gT
    have made : ObjOk X.prog X.w (upd H s.heap.objs.size (.tup [.int (1 + (i : Int)), x])) g' s.heap.objs.size (.tup [.int (1 + (i : Int)), x]) := ⟨by show 2 ≤ sizeLine; decide, [.int (1 + (i : Int)) tk, v], .cons ⟨_, rfl⟩ (.cons ru .nil), ⟨_, nw, rfl, _, rfl⟩⟩
    have J := I.turnedNew (t' := tk + 1) (ch := [e, j]) (fun c o n y => by
      simp only [List.mem_cons, List.not_mem_nil, or_false, not_or] at n
      exact (out c n.1).trans (gk c o n.1 n.2 y)) hf (Nat.le_refl _) made
    refine ⟨.ref s.heap.objs.size, _, J, rfl, ⟨_, x, rfl, I.hok.fresh (Nat.le_refl _), rfl, fun l hl => by rw [I.list_inj hl hq]; exact hx⟩, ⟨⟨v, ?_⟩, ?_⟩, fun c hcm => ?_⟩
    · have ei : 1 + ((i + 1 : Nat) : Int) = 1 + (i : Int) + 1 := by omega
      rw [ei]; exact k1
    · exact g2.1.at fun o q => (out _ ne.symm).trans q
    · have lt : c < s.heap.objs.size := by
        simp only [List.mem_cons, List.not_mem_nil, or_false] at hcm
        rcases hcm with q | q
        · rw [q]; exact el
        · rw [q]; obtain ⟨_, y, _⟩ := h2; exact Heap.lt_size y
      rw [upd_ne (Nat.ne_of_lt lt)]
      exact (hf c hcm).1
  done := by
    intro X hP hw hK hc i pins s σ H E I hf st hg
    subst hP hw hK
    obtain ⟨⟨old, h1⟩, h2⟩ := st
    obtain ⟨xs, hq, l1⟩ := hg
    obtain ⟨its, rv, p, _⟩ := I.list hq
    have hh : X.A.handled = none := I.ok.hd hc
    have m1 : i = its.toArray.size := by rw [List.size_toArray, ← rv.length]; exact l1
    subst m1
    obtain ⟨f0, f1, f2, f3, f4, f5⟩ := hf j (by simp)
    refine wpAny_pyNext_enum_endD (Draws.list (A := X.A.in1) hh j a na its.toArray) h1 ⟨h2, p.isList⟩ fun g eb => ⟨rfl, I.turned (t' := s.toks) (fun b o hb q => eb b o hb q) f0 f1 f3 f4 f5⟩
  self := fun A i s Q E st h => let ⟨⟨_, y⟩, _⟩ := st; wpAny_pyIter_enum y h
theorem withTyK {M : Model} {A : Around} {E : Value → Shared → Prop} {s : Shared} {pos : Pos} {T : String} {env : Env} {e : Expr} {rest : List Expr} {kws : List Keyword} {Q : Value → Shared → Prop}
    (q : wpAny M A (spliced (backTo pos (starEach (e :: rest) env))) (fun us t => wpAny M A (evalAll ((backToKw pos (keywordEach kws env)).map (·.2))) (fun ws t2 => wpAny M A (call (.type T) us (((backToKw pos (keywordEach kws env)).filterMap (·.1)).zip ws)) Q E t2) E t) E s)
    (h1 : backTo pos (starEach (e :: rest) env) = (false, eval e env) :: backTo pos (starEach rest env)) (h2 : (backTo pos (starEach (e :: rest) env)).any (·.1) = false)
    (h3 : (backToKw pos (keywordEach kws env)).all (·.1.isSome) = true) (h4 : (backToKw pos (keywordEach kws env)).any (·.1.isNone) = false) :
    wpAny M A (callWith pos (.type T) [] (backTo pos (starEach (e :: rest) env)) (backToKw pos (keywordEach kws env))) Q E s := by
  have k : wpAny M A (evalArgs (.type T) true (backTo pos (starEach (e :: rest) env)) (backToKw pos (keywordEach kws env))) (fun a t => wpAny M A (call (.type T) ([] ++ a.pos) a.kw) Q E t) E s := by
    rw [h1] at q ⊢
    exact PyProof.Rows.evalArgs_kwB h3 q
  unfold callWith
  refine wpAny_bind (wpAny_holding (wpAny_mono k (fun a t z => wpAny_bind (wpAny_standAt ?_)) fun _ _ y => y))
  simp only [h2, h4, Bool.or_self]
  refine wpAny_bind (wpAny_pure ?_)
  exact wpAny_bind (wpAny_mono z (fun r t z2 => wpAny_bind (wpAny_holding (wpAny_point (wpAny_pure z2)))) fun _ _ y => y)
def iEnumS (K : PySem.W.Frag) (ta : TA) : TI := fun σ H R => ta σ H fun vs H1 => ∃ a xs, vs = [.ref a] ∧ SqL K H1 a xs ∧ R (IteS K a) H1
theorem pi_enumS {X : Cx} {e : Expr} {es : List Expr} {kws : List Keyword} {ta tk : TA} {p pos tpos : Pos} {elts : List Expr} {kk : Nat} (hg : Gl X "enumerate") (hm : X.mg "enumerate" = none) (ha : PA X (e :: es) ta) (hk : PK X kws tk) (h1 : ∀ σ H (Q : List V → Hp → Prop), Q [.int 1] H → tk σ H Q := by exact fun _ _ _ h => h)
    (he : backTo pos (starEach (e :: es) X.env) = (false, eval e X.env) :: backTo pos (starEach es X.env) := by rfl) (hpl : (backTo pos (starEach (e :: es) X.env)).any (·.1) = false := by rfl)
    (hall : (backToKw pos (keywordEach kws X.env)).all (·.1.isSome) = true := by rfl) (hnone : (backToKw pos (keywordEach kws X.env)).any (·.1.isNone) = false := by rfl) (hks : (backToKw pos (keywordEach kws X.env)).filterMap (·.1) = [Str.ofString "start"] := by rfl) :
    PI X (.Tuple elts kk tpos) (.Call (.Name "enumerate" p) (e :: es) kws pos) (iEnumS X.K ta) := by
  refine ⟨fun pins s σ H R I h => ?_⟩
  refine wpAny_Call_Name_kw (ld_blt I hg hm boot_enumerate ?_)
  refine withTyK (thn (ha.run pos pins s σ H _ I h) fun us s1 ⟨vs, H1, J, rel, q1⟩ => thn (hk.run pos pins s1 σ H1 (fun zs H2 => zs = [.int 1] ∧ H2 = H1) J (h1 _ _ _ ⟨rfl, rfl⟩)) fun ws s2 ⟨zs, H2, J2, rel2, q2⟩ => ?_) he hpl hall hnone
  rw [hks]
  obtain ⟨rfl, rfl⟩ := q2
  obtain ⟨a, xs, ex, hx, q⟩ := q1
  subst ex
  obtain ⟨u, rfl, r1⟩ := vals1 rel
  cases r1
  obtain ⟨u2, rfl, r2⟩ := vals1 rel2
  obtain ⟨t, rfl⟩ := r2
  obtain ⟨its, _, p1, _⟩ := J2.list hx
  have la : a < s2.heap.objs.size := by obtain ⟨o, ho, _⟩ := id p1.isList; exact Heap.lt_size ho
  refine enum_begins_start (begins_list _ _) p1.isList (by decide) (by decide) fun g y1 y2 ys kp => wpAny_pyIter_enum y1 ?_
  have J3 : Inv X pins σ H2 { s2 with heap := g } := J2.kept (t' := s2.toks) kp
  refine ⟨s2.heap.objs.size + 1, [s2.heap.objs.size + 1, s2.heap.objs.size], _, _, H2, rfl, J3, turn_enumS (a := a) (e := s2.heap.objs.size + 1) (j := s2.heap.objs.size) (Nat.ne_of_lt la) (Nat.succ_ne_self _) (Nat.ne_of_gt (Nat.lt_succ_of_lt la)), ⟨⟨.none, y1⟩, ⟨_, y2, rfl, rfl⟩⟩, fun c hc => ?_, q⟩
  have le : s2.heap.objs.size ≤ c := by
    rcases List.mem_cons.mp hc with e | e
    · rw [e]; exact Nat.le_succ _
    · rw [List.mem_singleton.mp e]; exact Nat.le_refl _
  exact J2.fpOk le (J2.hok.fresh le)
theorem u64 {A : Around} {k : Nat} (r : Room k A) : A.units + 64 < cLine := by have := r.un; omega
section
variable {X : Cx}
/-! ### for x in s: a list or a tuple -/
def iSeq (K : PySem.W.Frag) (tl : TE) : TI := fun σ H R => tl σ H fun x H1 => ∃ a, x = .ref a ∧ (((∃ xs, SqL K H1 a xs) ∧ R (Itl K a) H1) ∨ ((∃ xs, SqT K H1 a xs) ∧ R (Itt K a) H1))
theorem pi_seq {tg l : Expr} {tl : TE} (hl : PE X l tl) : PI X tg l (iSeq X.K tl) := by
  refine ⟨fun pins s σ H R I h => thn (hl.run pins s σ H _ I h) fun v s1 ⟨x, H1, I1, r1, q1⟩ => ?_⟩
  obtain ⟨a, e, q⟩ := q1
  subst e
  cases r1
  have far : ∀ b ∈ [s1.heap.objs.size], FpOk X pins H1 b := fun b hb => by
    rw [List.mem_singleton.mp hb]
    exact I1.fpOk (Nat.le_refl _) (I1.hok.fresh (Nat.le_refl _))
  rcases q with ⟨⟨xs, hq⟩, q⟩ | ⟨⟨xs, hq⟩, q⟩
  · obtain ⟨its, rv, p, _⟩ := I1.list hq
    exact wpAny_pyIter_list p.isList ⟨_, [s1.heap.objs.size], _, _, H1, rfl, I1.kept (t' := s1.toks) fun b o e => Heap.get?_push_of_some _ e, turn_list a _, ⟨_, Heap.get?_push_size _ rfl, rfl, rfl⟩, far, q⟩
  · obtain ⟨its, rv, p, _⟩ := I1.tuple hq
    exact wpAny_pyIter_tuple (show s1.heap.IsTuple a its.toArray from p) ⟨_, [s1.heap.objs.size], _, _, H1, rfl, I1.kept (t' := s1.toks) fun b o e => Heap.get?_push_of_some _ e, turn_tuple a _, ⟨_, Heap.get?_push_size _ rfl, rfl, rfl⟩, far, q⟩
end
/-- the loop over it -/
theorem for_enumS {K : PySem.W.Frag} {a : Addr} {xs : List V} {g : TG} {tb : TS} {D : Ends} {σ : L2.St} {H : Hp} (Pv : Nat → L2.St → Hp → Prop) (h0 : Pv 0 σ H) (hq : ∀ i σ H, Pv i σ H → SqL K H a xs)
    (hs : ∀ (i : Nat) (x : V) (t : Addr) (σ : L2.St) (H : Hp), xs[i]? = some x → Pv i σ H → H t = none → g (.ref t) σ (upd H t (.tup [.int (1 + (i : Int)), x])) fun σ2 H2 => tb { D with nx := Pv (i + 1), ct := Pv (i + 1), bk := D.nx } σ2 H2) (hd : ∀ σ H, Pv xs.length σ H → D.nx σ H) :
    ∃ W : Nat → Nat → L2.St → Hp → Prop, (∃ m, W 0 m σ H) ∧ ∀ i m σ H, W i m σ H →
      ((IteS K a).stop i H ∧ D.nx σ H) ∨ ((IteS K a).go i H ∧ ∃ N : L2.St → Hp → Prop, (∀ σ' H', N σ' H' → ∃ m', m' < m ∧ W (i + 1) m' σ' H') ∧ ∀ v H', (IteS K a).yld i H v H' → g v σ H' fun σ2 H2 => tb { D with nx := N, ct := N, bk := D.nx } σ2 H2) := by
  refine ⟨fun i m σ H => m = xs.length - i ∧ i ≤ xs.length ∧ Pv i σ H, ⟨_, rfl, Nat.zero_le _, h0⟩, fun i m σ H w => ?_⟩
  obtain ⟨rfl, le, pv⟩ := w
  have qx := hq i σ H pv
  rcases Nat.lt_or_ge i xs.length with lt | ge
  · have ex : xs[i]? = some xs[i] := List.getElem?_eq_getElem lt
    refine .inr ⟨⟨xs, _, qx, ex⟩, Pv (i + 1), fun σ' H' p' => ⟨xs.length - (i + 1), by omega, rfl, lt, p'⟩, ?_⟩
    rintro v H' ⟨t, x, rfl, nt, rfl, kx⟩
    exact hs i x t σ H (kx xs qx) pv nt
  · have e : i = xs.length := Nat.le_antisymm le ge
    exact .inl ⟨⟨xs, qx, e⟩, hd σ H (e ▸ pv)⟩
end Kx
set_option maxHeartbeats 1000000
/-! The mathematics: data, texts, tokens. -/
namespace Kx
open PySem PySem.Spec PyProof.Rows L2
inductive PV where
  | str (z : Str)
  | int (i : Int)
  | tup (xs : List PV)
mutual
/-- how deep it is -/
def dep : PV → Nat
  | .str _ => 1
  | .int _ => 1
  | .tup ts => 1 + depL ts
def depL : List PV → Nat
  | [] => 0
  | t :: r => max (dep t) (depL r)
end
theorem dep_pos : ∀ t : PV, 1 ≤ dep t
  | .str _ => by simp [dep]
  | .int _ => by simp [dep]
  | .tup ts => by simp [dep]
theorem depL_mem : ∀ {l : List PV} {t : PV}, t ∈ l → dep t ≤ depL l
  | a :: r, t, h => by
    rcases List.mem_cons.mp h with rfl | h
    · simp only [depL]; omega
    · have := depL_mem h
      simp only [depL]; omega
theorem depL_le {l : List PV} {c : Nat} (h : ∀ t ∈ l, dep t ≤ c) : depL l ≤ c := by
  induction l with
  | nil => simp [depL]
  | cons a r ih =>
    have h1 := h a (List.mem_cons_self ..)
    have h2 := ih fun t ht => h t (List.mem_cons_of_mem _ ht)
    simp only [depL]; omega
/-! ### signs -/
def cs (z : Str) : List Nat := z.cps.toList
def mkS (l : List Nat) : Str := ⟨l.toArray⟩
theorem cs_mk (l : List Nat) : cs (mkS l) = l := by simp [cs, mkS]
theorem mk_cs (z : Str) : mkS (cs z) = z := by cases z; simp [cs, mkS]
theorem cs_inj {a b : Str} (h : cs a = cs b) : a = b := by rw [← mk_cs a, h, mk_cs]
theorem cs_app (a b : Str) : cs (a ++ b) = cs a ++ cs b := by
  show (a.cps ++ b.cps).toList = _
  simp [cs]
theorem mk_app (a b : List Nat) : mkS a ++ mkS b = mkS (a ++ b) := cs_inj (by rw [cs_app, cs_mk, cs_mk, cs_mk])
theorem cs_len (z : Str) : (cs z).length = z.length := by simp [cs, Str.length]
theorem mk_len (l : List Nat) : (mkS l).length = l.length := by rw [← cs_len, cs_mk]
abbrev isAl (c : Nat) : Bool := Unicode.isAlnum c
/-- a sign of a line -/
def okc (c : Nat) : Prop := 32 ≤ c ∧ c ≤ 126 ∧ c ≠ 37 ∧ c ≠ 35
instance (c : Nat) : Decidable (okc c) := by unfold okc; infer_instance
/-! ### texts of trees -/
def sepJ : List (List Nat) → List Nat
  | [] => []
  | [a] => a
  | a :: b :: r => a ++ 44 :: 32 :: sepJ (b :: r)
def sepT : List (List (List Nat)) → List (List Nat)
  | [] => []
  | [a] => a
  | a :: b :: r => a ++ [44] :: sepT (b :: r)
mutual
def txt : PV → List Nat
  | .str z => cs z
  | .int _ => []
  | .tup [] => []
  | .tup (.int _ :: _) => []
  | .tup (.tup _ :: _) => []
  | .tup (.str w :: r) => if r.isEmpty then cs w else cs w ++ 40 :: (sepJ (txtL r) ++ [41])
def txtL : List PV → List (List Nat)
  | [] => []
  | t :: r => txt t :: txtL r
end
theorem txtL_map : ∀ l : List PV, txtL l = l.map txt
  | [] => rfl
  | t :: r => by simp only [txtL, List.map_cons, txtL_map r]
mutual
def tokT : PV → List (List Nat)
  | .str z => [cs z]
  | .int _ => []
  | .tup [] => []
  | .tup (.int _ :: _) => []
  | .tup (.tup _ :: _) => []
  | .tup (.str w :: r) => if r.isEmpty then [cs w] else cs w :: [40] :: (sepT (tokTL r) ++ [[41]])
def tokTL : List PV → List (List (List Nat))
  | [] => []
  | t :: r => tokT t :: tokTL r
end
theorem tokTL_map : ∀ l : List PV, tokTL l = l.map tokT
  | [] => rfl
  | t :: r => by simp only [tokTL, List.map_cons, tokTL_map r]
mutual
/-- as it is read ahead of the declarations -/
def raw : PV → PV
  | .str z => .str z
  | .int i => .int i
  | .tup [] => .tup []
  | .tup (.int i :: r) => .tup (.int i :: r)
  | .tup (.tup x :: r) => .tup (.tup x :: r)
  | .tup (.str w :: r) => if r.isEmpty then .str w else .tup (.str w :: rawL r)
def rawL : List PV → List PV
  | [] => []
  | t :: r => raw t :: rawL r
end
theorem rawL_map : ∀ l : List PV, rawL l = l.map raw
  | [] => rfl
  | t :: r => by simp only [rawL, List.map_cons, rawL_map r]
mutual
/-- what the declarations make of it -/
def dcl (ws : List Str) : PV → PV
  | .str z => if z ∈ ws then .tup [.str z] else .str z
  | .int i => .int i
  | .tup [] => .tup []
  | .tup (a :: r) => .tup (a :: dclL ws r)
def dclL (ws : List Str) : List PV → List PV
  | [] => []
  | t :: r => dcl ws t :: dclL ws r
end
theorem dclL_map (ws : List Str) : ∀ l : List PV, dclL ws l = l.map (dcl ws)
  | [] => rfl
  | t :: r => by simp only [dclL, List.map_cons, dclL_map ws r]
/-- a tree as it is drawn: words alone, names, words with parts -/
def Tr (L N B : List Str) : Nat → PV → Prop
  | _, .str z => z ∈ N
  | _, .int _ => False
  | _, .tup [] => False
  | _, .tup (.int _ :: _) => False
  | _, .tup (.tup _ :: _) => False
  | 0, .tup (.str w :: r) => r = [] ∧ w ∈ L
  | n + 1, .tup (.str w :: r) => (r = [] ∧ w ∈ L) ∨ (r ≠ [] ∧ w ∈ B ∧ r.length ≤ 3 ∧ ∀ t ∈ r, Tr L N B n t)
theorem Tr.cases {L N B : List Str} : ∀ {n : Nat} {t : PV}, Tr L N B n t → (∃ z, t = .str z ∧ z ∈ N) ∨ (∃ w, t = .tup [.str w] ∧ w ∈ L) ∨ ∃ w r m, t = .tup (.str w :: r) ∧ n = m + 1 ∧ r ≠ [] ∧ w ∈ B ∧ r.length ≤ 3 ∧ ∀ t ∈ r, Tr L N B m t
  | 0, .str z, h => .inl ⟨z, rfl, h⟩
  | n + 1, .str z, h => .inl ⟨z, rfl, h⟩
  | 0, .tup (.str w :: r), h => by
    obtain ⟨rfl, h⟩ := h
    exact .inr (.inl ⟨w, rfl, h⟩)
  | n + 1, .tup (.str w :: r), h => by
    rcases h with ⟨rfl, h⟩ | ⟨h1, h2, h3, h4⟩
    · exact .inr (.inl ⟨w, rfl, h⟩)
    · exact .inr (.inr ⟨w, r, n, rfl, rfl, h1, h2, h3, h4⟩)
theorem Tr.dcl {L N B : List Str} (no : ∀ z ∈ N, z ∉ L) : ∀ {n : Nat} {t : PV}, Tr L N B n t → dcl L (raw t) = t := by
  intro n
  induction n with
  | zero =>
    intro t h
    rcases h.cases with ⟨z, rfl, hz⟩ | ⟨w, rfl, hw⟩ | ⟨w, r, m, rfl, e, _⟩
    · simp [raw, Kx.dcl, no z hz]
    · simp [raw, Kx.dcl, hw]
    · omega
  | succ n ih =>
    intro t h
    rcases h.cases with ⟨z, rfl, hz⟩ | ⟨w, rfl, hw⟩ | ⟨w, r, m, rfl, e, hr, hw, hl, ht⟩
    · simp [raw, Kx.dcl, no z hz]
    · simp [raw, Kx.dcl, hw]
    · cases e
      have e2 : r.isEmpty = false := by cases r with | nil => exact absurd rfl hr | cons _ _ => rfl
      simp only [raw, e2, Bool.false_eq_true, if_false, Kx.dcl, dclL_map, rawL_map, List.map_map]
      congr 2
      have : ∀ t ∈ r, (Kx.dcl L ∘ raw) t = t := fun t h => ih (ht t h)
      exact (List.map_congr_left (g := fun t => t) this).trans (List.map_id' r)
/-- the bound of a text of a tree -/
def Bd (a b : Nat) : Nat → Nat
  | 0 => a
  | n + 1 => max a (b + 6 + 3 * Bd a b n)
theorem sepJ_len : ∀ (l : List (List Nat)) (c : Nat), (∀ x ∈ l, x.length ≤ c) → (sepJ l).length ≤ l.length * c + 2 * (l.length - 1)
  | [], c, _ => by simp [sepJ]
  | [a], c, h => by have := h a (List.mem_cons_self ..); simp [sepJ]; omega
  | a :: b :: r, c, h => by
    have h1 := h a (List.mem_cons_self ..)
    have h2 := sepJ_len (b :: r) c fun x hx => h x (List.mem_cons_of_mem _ hx)
    simp only [sepJ, List.length_append, List.length_cons, Nat.add_mul, Nat.one_mul] at h2 ⊢
    omega
theorem Tr.len {L N B : List Str} {a b : Nat} (hL : ∀ z ∈ L, z.length ≤ a) (hN : ∀ z ∈ N, z.length ≤ a) (hB : ∀ z ∈ B, z.length ≤ b) : ∀ {n : Nat} {t : PV}, Tr L N B n t → (txt t).length ≤ Bd a b n := by
  intro n
  induction n with
  | zero =>
    intro t h
    rcases h.cases with ⟨z, rfl, hz⟩ | ⟨w, rfl, hw⟩ | ⟨w, r, m, rfl, e, _⟩
    · simp only [txt, cs_len, Bd]; exact hN z hz
    · simp only [txt, List.isEmpty_nil, if_true, cs_len, Bd]; exact hL w hw
    · omega
  | succ n ih =>
    intro t h
    rcases h.cases with ⟨z, rfl, hz⟩ | ⟨w, rfl, hw⟩ | ⟨w, r, m, rfl, e, hr, hw, hl, ht⟩
    · have := hN z hz
      simp only [txt, cs_len, Bd]; omega
    · have := hL w hw
      simp only [txt, List.isEmpty_nil, if_true, cs_len, Bd]; omega
    · cases e
      have e2 : r.isEmpty = false := by cases r with | nil => exact absurd rfl hr | cons _ _ => rfl
      have h1 := hB w hw
      have h2 := sepJ_len (txtL r) (Bd a b n) (fun x hx => by
        rw [txtL_map] at hx
        obtain ⟨t, ht', rfl⟩ := List.mem_map.mp hx
        exact ih (ht t ht'))
      have h3 : (txtL r).length = r.length := by rw [txtL_map, List.length_map]
      have h4 : r.length * Bd a b n ≤ 3 * Bd a b n := Nat.mul_le_mul_right _ hl
      rw [h3] at h2
      simp only [txt, e2, Bool.false_eq_true, if_false, List.length_append, List.length_cons, List.length_nil, cs_len, Bd]
      omega
/-! ### tokens -/
inductive Toks : List Nat → List (List Nat) → Prop
  | nil : Toks [] []
  | sp {l : List Nat} {T : List (List Nat)} (h : Toks l T) : Toks (32 :: l) T
  | word {w l : List Nat} {T : List (List Nat)} (n : w ≠ []) (a : ∀ c ∈ w, isAl c = true) (e : ∀ c r, l = c :: r → isAl c = false) (h : Toks l T) : Toks (w ++ l) (w :: T)
  | arrow {l : List Nat} {T : List (List Nat)} (h : Toks l T) : Toks (45 :: 62 :: l) ([45, 62] :: T)
  | sign {c : Nat} {l : List Nat} {T : List (List Nat)} (a : isAl c = false) (n : c ≠ 32) (m : c ≠ 45) (h : Toks l T) : Toks (c :: l) ([c] :: T)
/-- what follows doesn't go on a word -/
def Stp (l : List Nat) : Prop := ∀ c r, l = c :: r → isAl c = false
theorem stp_nil : Stp [] := fun c r e => by cases e
theorem stp_cons {c : Nat} {l : List Nat} (h : isAl c = false) : Stp (c :: l) := fun c' r e => by cases e; exact h
/-- a word of the language -/
def WdP (w : List Nat) : Prop := w ≠ [] ∧ (∀ c ∈ w, isAl c = true) ∧ ∀ c ∈ w, okc c
instance (w : List Nat) : Decidable (WdP w) := by unfold WdP; infer_instance
theorem al_40 : isAl 40 = false := by decide +kernel
theorem al_41 : isAl 41 = false := by decide +kernel
theorem al_44 : isAl 44 = false := by decide +kernel
theorem al_32 : isAl 32 = false := by decide +kernel
theorem al_45 : isAl 45 = false := by decide +kernel
theorem al_58 : isAl 58 = false := by decide +kernel
theorem al_61 : isAl 61 = false := by decide +kernel
theorem Toks.wd {w l : List Nat} {T : List (List Nat)} (h : WdP w) (s : Stp l) (t : Toks l T) : Toks (w ++ l) (w :: T) := .word h.1 h.2.1 s t
theorem Toks.op {l : List Nat} {T : List (List Nat)} (t : Toks l T) : Toks (40 :: l) ([40] :: T) := .sign al_40 (by decide) (by decide) t
theorem Toks.cl {l : List Nat} {T : List (List Nat)} (t : Toks l T) : Toks (41 :: l) ([41] :: T) := .sign al_41 (by decide) (by decide) t
theorem Toks.co {l : List Nat} {T : List (List Nat)} (t : Toks l T) : Toks (44 :: l) ([44] :: T) := .sign al_44 (by decide) (by decide) t
/-- a piece with its tokens, whatever follows -/
def Pc (x : List Nat) (T : List (List Nat)) : Prop := ∀ l U, Stp l → Toks l U → Toks (x ++ l) (T ++ U)
theorem Pc.wd {w : List Nat} (h : WdP w) : Pc w [w] := fun l U s t => t.wd h s
theorem Pc.sep : ∀ {xs : List (List Nat)} {Ts : List (List (List Nat))}, Paired Pc xs Ts → Pc (sepJ xs) (sepT Ts)
  | _, _, .nil => fun l U s t => t
  | [x], [T], .cons h .nil => h
  | x :: y :: r, T :: T2 :: Tr, .cons h (.cons h2 h3) => fun l U s t => by
    have k := Pc.sep (.cons h2 h3) l U s t
    have := h (44 :: 32 :: (sepJ (y :: r) ++ l)) ([44] :: (sepT (T2 :: Tr) ++ U)) (stp_cons al_44) (.co (.sp k))
    simpa only [sepJ, sepT, List.append_assoc, List.cons_append] using this
theorem Pc.par {x : List Nat} {T : List (List Nat)} {w : List Nat} (h : WdP w) (k : Pc x T) : Pc (w ++ 40 :: (x ++ [41])) (w :: [40] :: (T ++ [[41]])) := fun l U s t => by
  have h1 := k (41 :: l) ([41] :: U) (stp_cons al_41) t.cl
  have h2 := Toks.wd h (stp_cons al_40) h1.op
  simpa only [List.append_assoc, List.cons_append, List.nil_append] using h2
theorem Tr.pc {L N B : List Str} (hL : ∀ z ∈ L, WdP (cs z)) (hN : ∀ z ∈ N, WdP (cs z)) (hB : ∀ z ∈ B, WdP (cs z)) : ∀ {n : Nat} {t : PV}, Tr L N B n t → Pc (txt t) (tokT t) := by
  intro n
  induction n with
  | zero =>
    intro t h
    rcases h.cases with ⟨z, rfl, hz⟩ | ⟨w, rfl, hw⟩ | ⟨w, r, m, rfl, e, _⟩
    · exact Pc.wd (hN z hz)
    · exact Pc.wd (hL w hw)
    · omega
  | succ n ih =>
    intro t h
    rcases h.cases with ⟨z, rfl, hz⟩ | ⟨w, rfl, hw⟩ | ⟨w, r, m, rfl, e, hr, hw, hl, ht⟩
    · exact Pc.wd (hN z hz)
    · exact Pc.wd (hL w hw)
    · cases e
      have e2 : r.isEmpty = false := by cases r with | nil => exact absurd rfl hr | cons _ _ => rfl
      have pr : ∀ {r : List PV}, (∀ t ∈ r, Tr L N B n t) → Paired Pc (txtL r) (tokTL r) := by
        intro r
        induction r with
        | nil => intro _; exact .nil
        | cons a r ih2 => intro h; exact .cons (ih (h a (List.mem_cons_self ..))) (ih2 fun t ht => h t (List.mem_cons_of_mem _ ht))
      have := Pc.par (hB w hw) (Pc.sep (pr ht))
      simpa only [txt, tokT, e2, Bool.false_eq_true, if_false] using this
/-! ### signs of texts -/
def Ok (l : List Nat) : Prop := ∀ c ∈ l, okc c
theorem Ok.app {a b : List Nat} (h : Ok a) (k : Ok b) : Ok (a ++ b) := fun c hc => (List.mem_append.mp hc).elim (h c) (k c)
theorem Ok.cons {c : Nat} {b : List Nat} (h : okc c) (k : Ok b) : Ok (c :: b) := fun d hd => by
  rcases List.mem_cons.mp hd with rfl | hd
  · exact h
  · exact k d hd
theorem Ok.nil : Ok [] := fun c h => by cases h
theorem Ok.sep : ∀ {xs : List (List Nat)}, (∀ x ∈ xs, Ok x) → Ok (sepJ xs)
  | [], _ => .nil
  | [x], h => h x (List.mem_cons_self ..)
  | x :: y :: r, h => .app (h x (List.mem_cons_self ..)) (.cons (by decide) (.cons (by decide) (Ok.sep fun z hz => h z (List.mem_cons_of_mem _ hz))))
theorem Tr.ok {L N B : List Str} (hL : ∀ z ∈ L, WdP (cs z)) (hN : ∀ z ∈ N, WdP (cs z)) (hB : ∀ z ∈ B, WdP (cs z)) : ∀ {n : Nat} {t : PV}, Tr L N B n t → Ok (txt t) := by
  intro n
  induction n with
  | zero =>
    intro t h
    rcases h.cases with ⟨z, rfl, hz⟩ | ⟨w, rfl, hw⟩ | ⟨w, r, m, rfl, e, _⟩
    · exact (hN z hz).2.2
    · exact (hL w hw).2.2
    · omega
  | succ n ih =>
    intro t h
    rcases h.cases with ⟨z, rfl, hz⟩ | ⟨w, rfl, hw⟩ | ⟨w, r, m, rfl, e, hr, hw, hl, ht⟩
    · exact (hN z hz).2.2
    · exact (hL w hw).2.2
    · cases e
      have e2 : r.isEmpty = false := by cases r with | nil => exact absurd rfl hr | cons _ _ => rfl
      simp only [txt, e2, Bool.false_eq_true, if_false]
      refine .app (hB w hw).2.2 (.cons (by decide) (.app (.sep fun x hx => ?_) (.cons (by decide) .nil)))
      rw [txtL_map] at hx
      obtain ⟨t, ht', rfl⟩ := List.mem_map.mp hx
      exact ih (ht t ht')
/-- the open parentheses among the tokens -/
def opn (T : List (List Nat)) : Nat := T.count [40]
theorem opn_app (a b : List (List Nat)) : opn (a ++ b) = opn a + opn b := List.count_append ..
theorem opn_sep : ∀ {xs : List (List (List Nat))} {c : Nat}, (∀ x ∈ xs, opn x ≤ c) → opn (sepT xs) ≤ xs.length * c
  | [], c, _ => by simp [sepT, opn]
  | [x], c, h => by have := h x (List.mem_cons_self ..); simp [sepT]; exact this
  | x :: y :: r, c, h => by
    have h1 := h x (List.mem_cons_self ..)
    have h2 := opn_sep (xs := y :: r) (c := c) fun z hz => h z (List.mem_cons_of_mem _ hz)
    have h3 : opn ([44] :: sepT (y :: r)) = opn (sepT (y :: r)) := by simp [opn]
    simp only [sepT, opn_app, h3, List.length_cons, Nat.add_mul, Nat.one_mul] at h2 ⊢
    omega
def Od : Nat → Nat
  | 0 => 0
  | n + 1 => 1 + 3 * Od n
theorem wd_no {w : List Nat} (h : WdP w) : w ≠ [40] := fun e => by
  have := h.2.1 40 (by rw [e]; simp)
  rw [show isAl 40 = false from al_40] at this
  cases this
theorem opn_cons {w : List Nat} (h : w ≠ [40]) (T : List (List Nat)) : opn (w :: T) = opn T := by
  unfold opn
  rw [List.count_cons]
  simp [h]
theorem Tr.opn {L N B : List Str} (hL : ∀ z ∈ L, WdP (cs z)) (hN : ∀ z ∈ N, WdP (cs z)) (hB : ∀ z ∈ B, WdP (cs z)) : ∀ {n : Nat} {t : PV}, Tr L N B n t → opn (tokT t) ≤ Od n := by
  intro n
  induction n with
  | zero =>
    intro t h
    rcases h.cases with ⟨z, rfl, hz⟩ | ⟨w, rfl, hw⟩ | ⟨w, r, m, rfl, e, _⟩
    · simp only [tokT]; rw [opn_cons (wd_no (hN z hz))]; exact Nat.zero_le _
    · simp only [tokT, List.isEmpty_nil, if_true]; rw [opn_cons (wd_no (hL w hw))]; exact Nat.zero_le _
    · omega
  | succ n ih =>
    intro t h
    rcases h.cases with ⟨z, rfl, hz⟩ | ⟨w, rfl, hw⟩ | ⟨w, r, m, rfl, e, hr, hw, hl, ht⟩
    · simp only [tokT]; rw [opn_cons (wd_no (hN z hz))]; exact Nat.zero_le _
    · simp only [tokT, List.isEmpty_nil, if_true]; rw [opn_cons (wd_no (hL w hw))]; exact Nat.zero_le _
    · cases e
      have e2 : r.isEmpty = false := by cases r with | nil => exact absurd rfl hr | cons _ _ => rfl
      have h2 := opn_sep (xs := tokTL r) (c := Od n) (fun x hx => by
        rw [tokTL_map] at hx
        obtain ⟨t, ht', rfl⟩ := List.mem_map.mp hx
        exact ih (ht t ht'))
      have h3 : (tokTL r).length = r.length := by rw [tokTL_map, List.length_map]
      have h4 : r.length * Od n ≤ 3 * Od n := Nat.mul_le_mul_right _ hl
      have h5 : Kx.opn ([40] :: (sepT (tokTL r) ++ [[41]])) = 1 + Kx.opn (sepT (tokTL r)) := by
        have : Kx.opn [[41]] = 0 := by decide
        have e3 : Kx.opn ([40] :: (sepT (tokTL r) ++ [[41]])) = Kx.opn (sepT (tokTL r) ++ [[41]]) + 1 := by unfold Kx.opn; rw [List.count_cons]; rfl
        rw [e3, opn_app, this]; omega
      rw [h3] at h2
      simp only [tokT, e2, Bool.false_eq_true, if_false]
      rw [opn_cons (wd_no (hB w hw)), h5]
      simp only [Od]
      omega
theorem Tr.dep {L N B : List Str} : ∀ {n : Nat} {t : PV}, Tr L N B n t → Kx.dep t ≤ n + 2 := by
  intro n
  induction n with
  | zero =>
    intro t h
    rcases h.cases with ⟨z, rfl, hz⟩ | ⟨w, rfl, hw⟩ | ⟨w, r, m, rfl, e, _⟩
    · simp [Kx.dep]
    · simp [Kx.dep, depL]
    · omega
  | succ n ih =>
    intro t h
    rcases h.cases with ⟨z, rfl, hz⟩ | ⟨w, rfl, hw⟩ | ⟨w, r, m, rfl, e, hr, hw, hl, ht⟩
    · simp [Kx.dep]
    · simp [Kx.dep, depL]
    · cases e
      have := depL_le (l := r) (c := n + 2) fun t h => ih (ht t h)
      simp only [Kx.dep, depL]
      omega
end Kx
set_option maxHeartbeats 2000000
/-! ' ' * n -/
namespace Kx
open PySem PySem.Spec PyProof.Rows L2
def blk (n : Nat) : List Nat := List.replicate n 32
def rMulB : R2 := fun x y H Q => ∃ n : Nat, x = .str " " ∧ y = .int n ∧ n ≤ 100 ∧ Q (.str (mkS (blk n))) H
theorem fold_app (a : Array Nat) : ∀ (n : Nat) (acc : Array Nat), (List.foldl (fun x y => x ++ y) acc (List.replicate n a)).toList = acc.toList ++ (List.replicate n a.toList).flatten
  | 0, acc => by simp
  | n + 1, acc => by
    rw [List.replicate_succ, List.foldl_cons, fold_app a n, Array.toList_append, List.replicate_succ, List.flatten_cons, List.append_assoc]
theorem blk_eq (n : Nat) : (⟨List.foldl (fun x y => x ++ y) #[] (List.replicate n (" " : Str).cps)⟩ : Str) = mkS (blk n) := cs_inj (by
  rw [cs_mk]
  show (List.foldl (fun x y => x ++ y) #[] (List.replicate n (" " : Str).cps)).toList = _
  rw [fold_app]
  show [] ++ (List.replicate n [32]).flatten = blk n
  rw [List.nil_append]
  induction n with
  | zero => rfl
  | succ n ih => rw [List.replicate_succ, List.flatten_cons, ih]; rfl)
theorem op_mulB {X : Cx} : OpR X (binaryOp .Mult) rMulB := by
  intro pins s σ H x y v u Q I rx ry h
  obtain ⟨n, rfl, rfl, h100, q⟩ := h
  obtain ⟨t, rfl⟩ := (show ∃ t, v = Value.str " " t from rx)
  obtain ⟨t2, rfl⟩ := (show ∃ t, u = Value.int n t from ry)
  refine wpAny_binaryOp_repeat (T := "str") (U := "int") (by decide) (fun s' => typeIs_str s' " " t) (fun s' => typeIs_int s' _ t2) noFill_str_mul F.fills_int_mul F.slot_int_rmul repeat_str F.slot_int_index.lookup
    (call_gives F.slot_int_rmul (typeIs_int s _ t2) F.entry_int_rmul (F.args_int_rmul_2 _ _) (AutoIntG1.int___rmul___int_str_0 _ t2 " " t) ⟨rfl, ?_⟩)
  refine call_gives F.slot_str_mul (typeIs_str s " " t) F.entry_str_mul (F.args_str_mul_2 _ _) (gives_str_mul " " n t t2 ?_ ?_ ?_) ?_
  · have h1 : decide ((n : Int) < -2 ^ 63) = false := decide_eq_false (by omega)
    have h3 : decide ((n : Int) ≥ 2 ^ 63) = false := decide_eq_false (by omega)
    rw [h1, h3]; rfl
  · intro hh _
    have hn : 1 ≤ n := by omega
    have : (1 : Int) ≤ (2 ^ 63 - 1) / (n : Int) := by
      apply (Int.le_ediv_iff_mul_le (by omega)).mpr
      omega
    show ¬ (1 : Int) > (2 ^ 63 - 1) / (n : Int)
    omega
  · intro _ _
    show decide (1 * ((n : Int)).toNat > sizeLine) = false
    exact decide_eq_false (by rw [sizeLine_eq]; omega)
  · by_cases c1 : (n : Int) < 1
    · rw [if_pos c1]
      have : n = 0 := by omega
      subst this
      exact ⟨by show 0 ≤ sizeLine; exact Nat.zero_le _, .str (mkS (blk 0)), H, Inv.tok I _, ⟨_, rfl⟩, q⟩
    · rw [if_neg c1]
      by_cases c2 : (((n : Int) == 1) || ((" " : Str).length == 0)) = true
      · rw [if_pos c2]
        have h2 : (n : Int) = 1 := by
          have e : ((" " : Str).length == 0) = false := rfl
          rw [e, Bool.or_false] at c2
          simpa using c2
        have : n = 1 := by omega
        subst this
        exact ⟨.str (mkS (blk 1)), H, Inv.tok I _, ⟨_, rfl⟩, q⟩
      · rw [if_neg c2, Int.toNat_natCast, blk_eq]
        refine ⟨?_, .str (mkS (blk n)), H, Inv.tok I _, ⟨_, rfl⟩, q⟩
        show (mkS (blk n)).length ≤ sizeLine
        rw [mk_len, blk, List.length_replicate, sizeLine_eq]; omega
end Kx
/-! The heap: what stands for a tree; the promises of the defs. -/
namespace Kx
open PySem PySem.Spec PyProof.Rows L2
/-- all its signs are signs -/
abbrev sok (z : Str) : Bool := PyData.strOk z
mutual
/-- the value v stands for the tree -/
inductive Is (H : Hp) : V → PV → Prop
  | str (z : Str) (ok : sok z = true) : Is H (.str z) (.str z)
  | int (i : Int) : Is H (.int i) (.int i)
  | tup {a : Addr} {vs : List V} {ts : List PV} (e : H a = some (.tup vs)) (h : IsL H vs ts) : Is H (.ref a) (.tup ts)
inductive IsL (H : Hp) : List V → List PV → Prop
  | nil : IsL H [] []
  | cons {v : V} {vs : List V} {t : PV} {ts : List PV} (h : Is H v t) (r : IsL H vs ts) : IsL H (v :: vs) (t :: ts)
end
/-- all tuples stand -/
def Tk (H H' : Hp) : Prop := ∀ a vs, H a = some (.tup vs) → H' a = some (.tup vs)
theorem Tk.of {H H' : Hp} (s : Same H H') : Tk H H' := fun a vs e => s _ _ e
theorem Tk.refl (H : Hp) : Tk H H := fun _ _ e => e
theorem Tk.trans {H H1 H2 : Hp} (x : Tk H H1) (y : Tk H1 H2) : Tk H H2 := fun a vs e => y _ _ (x _ _ e)
mutual
theorem Is.tk {H H' : Hp} (x : Tk H H') : ∀ {v : V} {t : PV}, Is H v t → Is H' v t
  | _, _, .str z k => .str z k
  | _, _, .int i => .int i
  | _, _, .tup e h => .tup (x _ _ e) (IsL.tk x h)
theorem IsL.tk {H H' : Hp} (x : Tk H H') : ∀ {v : List V} {t : List PV}, IsL H v t → IsL H' v t
  | _, _, .nil => .nil
  | _, _, .cons h r => .cons (Is.tk x h) (IsL.tk x r)
end
theorem Is.same {H H' : Hp} (x : Same H H') {v : V} {t : PV} (h : Is H v t) : Is H' v t := h.tk (.of x)
theorem IsL.same {H H' : Hp} (x : Same H H') {v : List V} {t : List PV} (h : IsL H v t) : IsL H' v t := h.tk (.of x)
theorem same_upd {H : Hp} {p : Addr} (h : H p = none) (o : HO) : Same H (upd H p o) := fun b u e => by rw [upd_ne (ne_of_none e h)]; exact e
theorem IsL.len {H : Hp} : ∀ {v : List V} {t : List PV}, IsL H v t → v.length = t.length
  | _, _, .nil => rfl
  | _, _, .cons _ r => by simp [IsL.len r]
theorem IsL.get {H : Hp} : ∀ {v : List V} {t : List PV}, IsL H v t → ∀ {i : Nat} {x : V}, v[i]? = some x → ∃ y, t[i]? = some y ∧ Is H x y
  | _, _, .nil, i, x, h => by simp at h
  | _, _, .cons h r, 0, x, e => by cases (Option.some.inj e); exact ⟨_, rfl, h⟩
  | _, _, .cons h r, i + 1, x, e => IsL.get r (by simpa using e)
theorem IsL.append {H : Hp} : ∀ {v : List V} {t : List PV} {v' : List V} {t' : List PV}, IsL H v t → IsL H v' t' → IsL H (v ++ v') (t ++ t')
  | _, _, _, _, .nil, h => h
  | _, _, _, _, .cons a r, h => .cons a (r.append h)
theorem IsL.take {H : Hp} : ∀ (n : Nat) {v : List V} {t : List PV}, IsL H v t → IsL H (v.take n) (t.take n)
  | 0, _, _, _ => .nil
  | n + 1, _, _, .nil => .nil
  | n + 1, _, _, .cons a r => .cons a (r.take n)
theorem IsL.drop {H : Hp} : ∀ (n : Nat) {v : List V} {t : List PV}, IsL H v t → IsL H (v.drop n) (t.drop n)
  | 0, _, _, h => h
  | n + 1, _, _, .nil => .nil
  | n + 1, _, _, .cons a r => r.drop n
theorem IsL.reverse {H : Hp} : ∀ {v : List V} {t : List PV}, IsL H v t → IsL H v.reverse t.reverse
  | _, _, .nil => .nil
  | _, _, .cons a r => by simp only [List.reverse_cons]; exact r.reverse.append (.cons a .nil)
theorem IsL.snoc_inv {H : Hp} {v : List V} {t : List PV} {x : V} (h : IsL H v t) (e : v[v.length - 1]? = some x) (hn : v ≠ []) : ∃ ts y, t = ts ++ [y] ∧ Is H x y ∧ IsL H v.dropLast ts := by
  have hl := h.len
  have hv : 0 < v.length := by cases v with | nil => exact absurd rfl hn | cons _ _ => simp
  obtain ⟨y, e2, hy⟩ := h.get e
  refine ⟨t.take (t.length - 1), y, ?_, hy, ?_⟩
  · have : t.length - 1 < t.length := by omega
    have e3 : t[t.length - 1]'this = y := by
      rw [hl, List.getElem?_eq_getElem this] at e2
      exact Option.some.inj e2
    have h2 := List.take_append_drop (t.length - 1) t
    have h3 : t.drop (t.length - 1) = [y] := by
      rw [List.drop_eq_getElem_cons this, e3, List.drop_eq_nil_of_le (by omega)]
    rw [h3] at h2
    exact h2.symm
  · rw [List.dropLast_eq_take, hl]
    exact h.take _
theorem Is.str_inv {H : Hp} {v : V} {z : Str} (h : Is H v (.str z)) : v = .str z := by cases h; rfl
theorem Is.tup_inv {H : Hp} {v : V} {ts : List PV} (h : Is H v (.tup ts)) : ∃ a vs, v = .ref a ∧ H a = some (.tup vs) ∧ IsL H vs ts := by
  cases h with
  | tup e h => exact ⟨_, _, rfl, e, h⟩
/-! ### isinstance -/
def tyOf : PV → Value → Prop := fun t u => match t with
  | .str _ => u = .type "str"
  | .tup _ => u = .type "tuple"
  | .int _ => u = .type "int"
theorem Is.ty {K : PySem.W.Frag} {H : Hp} {v : V} {t : PV} (h : Is H v t) : ∃ u, TyX K H v u ∧ tyOf t u := by
  cases h with
  | str z _ => exact ⟨_, .base (.str z), rfl⟩
  | int i => exact ⟨_, .base (.int i), rfl⟩
  | tup e h => exact ⟨_, .base (.tup e), rfl⟩
def isStr : PV → Bool
  | .str _ => true
  | _ => false
def isTup : PV → Bool
  | .tup _ => true
  | _ => false
theorem kit_str {K : PySem.W.Frag} {t : PV} {u : Value} (h : tyOf t u) : PySem.W.kitOne K u (.type "str") = some (isStr t) := by
  cases t with
  | str z => cases h; exact kit_ty (show kitB "str" "str" = some true by decide +kernel)
  | tup ts => cases h; exact kit_ty (show kitB "tuple" "str" = some false by decide +kernel)
  | int i => cases h; exact kit_ty (show kitB "int" "str" = some false by decide +kernel)
theorem kit_tup {K : PySem.W.Frag} {t : PV} {u : Value} (h : tyOf t u) : PySem.W.kitOne K u (.type "tuple") = some (isTup t) := by
  cases t with
  | str z => cases h; exact kit_ty (show kitB "str" "tuple" = some false by decide +kernel)
  | tup ts => cases h; exact kit_ty (show kitB "tuple" "tuple" = some true by decide +kernel)
  | int i => cases h; exact kit_ty (show kitB "int" "tuple" = some false by decide +kernel)
/-- what isinstance asks of such a value -/
theorem isi_str {K : PySem.W.Frag} {H : Hp} {v : V} {t : PV} {Q : VK} (h : Is H v t) (q : Q (.bl (isStr t)) H) : rIsi K [v, .ty "str"] H Q := by
  obtain ⟨u, a, b⟩ := h.ty (K := K)
  exact ⟨_, _, u, _, _, rfl, .ty _, a, kit_str b, q⟩
theorem isi_tup {K : PySem.W.Frag} {H : Hp} {v : V} {t : PV} {Q : VK} (h : Is H v t) (q : Q (.bl (isTup t)) H) : rIsi K [v, .ty "tuple"] H Q := by
  obtain ⟨u, a, b⟩ := h.ty (K := K)
  exact ⟨_, _, u, _, _, rfl, .ty _, a, kit_tup b, q⟩
theorem Paired.imp {α β : Type} {F G : α → β → Prop} : ∀ {l : List α} {m : List β}, Paired F l m → (∀ a b, F a b → G a b) → Paired G l m
  | _, _, .nil, _ => .nil
  | _, _, .cons h t, f => .cons (f _ _ h) (Paired.imp t f)
theorem Same.own {l : Addr} {H H1 : Hp} (x : Same H H1) (hl : H l = none) (o : HO) : Same H (upd H1 l o) := fun b u h => by rw [upd_ne (ne_of_none h hl)]; exact x b u h
end Kx
namespace Kx
open PySem PySem.Spec PyProof.Rows L2
section
variable {P : Program} {w : World} {K : PySem.W.Frag} {mg : Str → Option Value} {base : Heap}
/-- all but the lists at d and c stands; those are lists still -/
structure Ex (d c : Addr) (H H' : Hp) : Prop where
  but : ∀ b o, b ≠ d → b ≠ c → H b = some o → H' b = some o
  l1 : (∃ xs, H d = some (.lst xs)) → ∃ xs, H' d = some (.lst xs)
  l2 : (∃ xs, H c = some (.lst xs)) → ∃ xs, H' c = some (.lst xs)
theorem Ex.refl (d c : Addr) (H : Hp) : Ex d c H H := ⟨fun _ _ _ _ h => h, id, id⟩
theorem Ex.trans {d c : Addr} {H H1 H2 : Hp} (a : Ex d c H H1) (b : Ex d c H1 H2) : Ex d c H H2 := ⟨fun x o n1 n2 h => b.but x o n1 n2 (a.but x o n1 n2 h), fun h => b.l1 (a.l1 h), fun h => b.l2 (a.l2 h)⟩
theorem Ex.of {d c : Addr} {H H' : Hp} (s : Same H H') : Ex d c H H' := ⟨fun b o _ _ h => s b o h, fun ⟨xs, h⟩ => ⟨xs, s _ _ h⟩, fun ⟨xs, h⟩ => ⟨xs, s _ _ h⟩⟩
theorem Ex.set1 {d c : Addr} {H : Hp} (xs : List V) : Ex d c H (upd H d (.lst xs)) := ⟨fun b o n _ h => by rw [upd_ne n]; exact h, fun _ => ⟨xs, upd_same⟩, fun ⟨ys, h⟩ => by
  by_cases q : c = d
  · subst q; exact ⟨xs, upd_same⟩
  · exact ⟨ys, by rw [upd_ne q]; exact h⟩⟩
theorem Ex.set2 {d c : Addr} {H : Hp} (xs : List V) : Ex d c H (upd H c (.lst xs)) := ⟨fun b o _ n h => by rw [upd_ne n]; exact h, fun ⟨ys, h⟩ => (by
  by_cases q : d = c
  · subst q; exact ⟨xs, upd_same⟩
  · exact ⟨ys, by rw [upd_ne q]; exact h⟩), fun _ => ⟨xs, upd_same⟩⟩
theorem Ex.own {d c l : Addr} {H H1 : Hp} (x : Ex d c H H1) (hl : H l = none) (o : HO) : Ex d c H (upd H1 l o) :=
  ⟨fun b u n n2 h => by rw [upd_ne (ne_of_none h hl)]; exact x.but b u n n2 h, fun ⟨xs, e⟩ => by rw [upd_ne (ne_of_none e hl)]; exact x.l1 ⟨xs, e⟩, fun ⟨xs, e⟩ => by rw [upd_ne (ne_of_none e hl)]; exact x.l2 ⟨xs, e⟩⟩
/-- the state of the draws: a list of the cells and the seed -/
def Dr (H : Hp) (d c : Addr) : Prop := ∃ (ns : List Int) (m : Int), H d = some (.lst [.ref c, .int m]) ∧ H c = some (.lst (ns.map V.int)) ∧ c ≠ d ∧ (∀ n ∈ ns, 0 ≤ n) ∧ 0 ≤ m ∧ m < 2147483648 ∧ ns.length ≤ 63
theorem Dr.lst {H : Hp} {d c : Addr} (h : Dr H d c) : (∃ xs, H d = some (.lst xs)) ∧ ∃ xs, H c = some (.lst xs) := by
  obtain ⟨ns, m, e, e2, _⟩ := h
  exact ⟨⟨_, e⟩, _, e2⟩
theorem Dr.same {H H' : Hp} {d c : Addr} (s : Same H H') (h : Dr H d c) : Dr H' d c := by
  obtain ⟨ns, m, e, e2, r⟩ := h
  exact ⟨ns, m, s _ _ e, s _ _ e2, r⟩
theorem Dr.own {H : Hp} {d c l : Addr} {o : HO} (h : Dr H d c) (n1 : l ≠ d) (n2 : l ≠ c) : Dr (upd H l o) d c := by
  obtain ⟨ns, m, e, e2, r⟩ := h
  exact ⟨ns, m, by rw [upd_ne n1.symm]; exact e, by rw [upd_ne n2.symm]; exact e2, r⟩
theorem Dr.free {H : Hp} {d c l : Addr} (h : Dr H d c) (n : H l = none) : l ≠ d ∧ l ≠ c := by
  obtain ⟨ns, m, e, e2, r⟩ := h
  exact ⟨(ne_of_none e n).symm, (ne_of_none e2 n).symm⟩
/-- what is no list stands -/
theorem Ex.keep {d c b : Addr} {H H' : Hp} {o : HO} (x : Ex d c H H') (h : Dr H d c) (e : H b = some o) (n : ∀ xs, o ≠ .lst xs) : H' b = some o := by
  obtain ⟨⟨xs, h1⟩, ys, h2⟩ := h.lst
  refine x.but b o (fun q => ?_) (fun q => ?_) e
  · subst q; rw [h1] at e; exact n xs (Option.some.inj e).symm
  · subst q; rw [h2] at e; exact n ys (Option.some.inj e).symm
theorem Ex.tk {d c : Addr} {H H' : Hp} (x : Ex d c H H') (h : Dr H d c) : Tk H H' := fun a vs e => x.keep h e fun xs q => by cases q
theorem Is.ex {d c : Addr} {H H' : Hp} (x : Ex d c H H') (h : Dr H d c) {v : V} {t : PV} (i : Is H v t) : Is H' v t := i.tk (x.tk h)
theorem IsL.ex {d c : Addr} {H H' : Hp} (x : Ex d c H H') (h : Dr H d c) {v : List V} {t : List PV} (i : IsL H v t) : IsL H' v t := i.tk (x.tk h)
def spState (K : PySem.W.Frag) : Sp := fun vs H Q _ => ∃ (a : Addr) (ns : List Int), vs = [.ref a] ∧ SqL K H a (ns.map V.int) ∧ ns.length ≤ 63 ∧ ∀ d c H', Same H H' → Dr H' d c → Q (.ref d) H'
def spDraw : Sp := fun vs H Q _ => ∃ (d c : Addr) (n : Int), vs = [.ref d, .int n] ∧ Dr H d c ∧ 1 ≤ n ∧ n ≤ 100000 ∧ ∀ (r : Int) H', 0 ≤ r → r < n → Ex d c H H' → Dr H' d c → Q (.int r) H'
def spPick (K : PySem.W.Frag) : Sp := fun vs H Q _ => ∃ (d c p : Addr) (xs : List V), vs = [.ref d, .ref p] ∧ Dr H d c ∧ (H p = some (.lst xs) ∨ SqT K H p xs) ∧ p ≠ d ∧ p ≠ c ∧ 1 ≤ xs.length ∧ xs.length ≤ 1000 ∧ ∀ (x : V) H', x ∈ xs → Ex d c H H' → Dr H' d c → Q x H'
theorem fmb (a : Int) {b : Int} (hb : 0 < b) : 0 ≤ a.fmod b ∧ a.fmod b < b := ⟨Int.fmod_nonneg_of_pos a hb, Int.fmod_lt_of_pos a hb⟩
theorem at_int {ns : List Int} {i : Int} (h0 : 0 ≤ i) (h : i < ns.length) : ∃ x : Int, atI (ns.map V.int) i = some (.int x) := by
  have hk : i.toNat < ns.length := by omega
  have q : atI (ns.map V.int) ((i.toNat : Nat) : Int) = some (.int ns[i.toNat]) := atI_nat (by rw [List.getElem?_map, List.getElem?_eq_getElem hk] <;> rfl)
  rw [show ((i.toNat : Nat) : Int) = i by omega] at q
  exact ⟨_, q⟩
theorem ok_law_state (T : Txt K mg)  : FnOk P w K mg base CX0 1 T.a_law_state T.d_law_state ["script"] (spState K) := by
  refine T.F_law_state.ok sc_law_state (fun vs H Q E h => ?_) (fun cdv A outer s H vs Q E hr h => ?_)
  · obtain ⟨a, ns, rfl, _⟩ := h; rfl
  · obtain ⟨a, ns, rfl, hS, hl, q⟩ := h
    refine ⟨_, (pss_cons (ps_set (i := 1) sc_law_state.nd rfl (Or.inl rfl) pe_int)
    (pss_cons (ps_for PassesOwn.never rfl (pi_list (pv 0)) (pg_name (i := 2) sc_law_state.nd rfl (Or.inl rfl))
    (pss_one (ps_set (i := 1) sc_law_state.nd rfl (Or.inl rfl) (pe_op op_modN (pe_callTy call_int1 (by rfl) T.z_int (by decide +kernel) (pa_cons (pe_op op_add (pe_op op_mul (pv 1) pe_int) (pv 2)) pa_nil)) pe_int))))
    (pss_one (ps_ret (pe_lst (pa_cons (pe_lc (own := [("cell", 2)]) (g := (gName 2)) (tt := tYes) rfl sc_law_state.nd (pi_list (pv 0)) (blkOk_by (own := [("cell", 2)]) (N := ["script", "seed", "cell"]) (sc := defScope s_law_state) (by decide +kernel)) (fun _ _ _ _ _ => (pg_name (i := 2) sc_law_state.nd rfl (Or.inl rfl))) (fun _ _ _ _ _ => pts_nil) (fun _ _ _ _ _ => (pe_callB call_abs (by rfl) T.z_abs (by decide +kernel) (pa_cons (pv 2) pa_nil)))) (pa_cons (pe_op op_add (pv 1) pe_int) pa_nil))))))), ?_⟩
    refine ⟨_, rfl, a, rfl, ⟨_, hS⟩, for_list (K := K) (a := a) (xs := ns.map V.int) (fun i σ H2 => ∃ m y, σ = [some (.ref a), some (.int m), y] ∧ H2 = H ∧ 0 ≤ m ∧ m < 1000003) ⟨7, none, rfl, rfl, by omega, by omega⟩ (fun i σ H2 _ ⟨_, _, _, e, _⟩ => by rw [e]; exact hS) ?_ ?_⟩
    · rintro i x σ H2 hx ⟨m, y, rfl, rfl, m0, m1⟩
      obtain ⟨n, _, rfl⟩ := List.mem_map.mp (List.mem_of_getElem? hx)
      obtain ⟨b0, b1⟩ := fmb (m * 31 + n) (b := 1000003) (by decide)
      exact ⟨_, rfl, _, _, rfl, rfl, .inl ⟨by omega, by omega⟩, _, rfl, _, _, rfl, rfl, .inl ⟨_, rfl, _, _, rfl, rfl, (by show (1000003 : Int) ≠ 0; decide), _, _, rfl, rfl, b0, b1⟩⟩
    · rintro σ H2 ⟨m, y, rfl, rfl, m0, m1⟩
      refine ⟨_, rfl, a, rfl, ⟨_, hS⟩, fun D hD => ?_⟩
      refine lc_list (K := K) (a := a) (xs := ns.map V.int) (fun i H3 => ∃ ms : List Int, H3 = upd H2 D (.lst (ms.map V.int)) ∧ ms.length = i ∧ ∀ n ∈ ms, 0 ≤ n) ⟨[], rfl, rfl, fun _ h => by cases h⟩ (fun i H3 _ ⟨ms, e, _⟩ => ?_) ?_ ?_
      · rw [e]; exact (same_upd hD _).seq hS
      · rintro i x H3 hx ⟨ms, rfl, hlen, hpos⟩
        have hi := (List.getElem?_eq_some_iff.mp hx).1
        rw [List.length_map] at hi
        obtain ⟨n, _, rfl⟩ := List.mem_map.mp (List.mem_of_getElem? hx)
        refine ⟨rfl, yes_if ⟨_, rfl, _, rfl, ms.map V.int, upd_same, ?_, ms ++ [if n < 0 then -n else n], ?_, ?_, ?_⟩⟩
        · rw [List.length_map]; exact small1000 (by omega)
        · rw [upd_upd, List.map_append]; rfl
        · rw [List.length_append, hlen]; rfl
        · intro z hz
          rcases List.mem_append.mp hz with hz | hz
          · exact hpos z hz
          · rw [List.mem_singleton.mp hz]; split <;> omega
      · rintro H3 ⟨ms, rfl, hlen, hpos⟩
        rw [List.length_map] at hlen
        refine ⟨_, rfl, _, _, rfl, rfl, (by show 2 ≤ sizeLine; decide), fun d hd => ?_⟩
        have n1 : D ≠ d := ne_of_none upd_same hd
        exact q d D _ ((same_upd hD _).trans (same_upd hd _)) ⟨ms, m + 1, upd_same, by rw [upd_ne n1, upd_same], n1, hpos, by omega, by omega, by omega⟩
theorem ok_law_draw (T : Txt K mg)  : FnOk P w K mg base CX0 1 T.a_law_draw T.d_law_draw ["state", "many"] spDraw := by
  refine T.F_law_draw.ok sc_law_draw (fun vs H Q E h => ?_) (fun cdv A outer s H vs Q E hr h => ?_)
  · obtain ⟨d, c, n, rfl, _⟩ := h; rfl
  · obtain ⟨d, c, n, rfl, hD, h1, h2, q⟩ := h
    have nz : n ≠ 0 := by omega
    refine ⟨_, (pss_cons (ps_set (i := 2) sc_law_draw.nd rfl (Or.inl rfl) (pe_ix ix_list (pv 0) pe_int (fun _ _ => rfl)))
    (Evl.pss_cut (ps_while PassesOwn.never (PW.pt (pw_and (pt_cmpR op_gt (pe_callB call_len_seq (by rfl) T.z_len (by decide +kernel) (pa_cons (pv 2) pa_nil)) pe_int (nomark _)) (pw_and1 (pt_cmpR op_eq (pe_ix ix_list (pv 2) pe_int (fun _ _ => rfl)) pe_int (nomark _)))))
    (pss_one (ps_expr (pe_bm PySem.F.plainAttrs_list PySem.F.slot_list_pop PySem.F.type_list_pop mt_popAt (pv 2) (pa_cons pe_int pa_nil)))))
    (pss_cons (ps_if (pt_cmpR op_gt (pe_callB call_len_seq (by rfl) T.z_len (by decide +kernel) (pa_cons (pv 2) pa_nil)) pe_int (nomark _)) (pss_cons (ps_set (i := 3) sc_law_draw.nd rfl (Or.inl rfl) (pe_ix ix_list (pv 2) pe_int (fun _ _ => rfl)))
    (pss_cons (ps_asg (pe_op op_fdivN (pv 3) (pv 1)) (pg_sub (pv 2) pe_int set_list))
    (pss_one (ps_ret (pe_op op_modN (pe_callTy call_int1 (by rfl) T.z_int (by decide +kernel) (pa_cons (pv 3) pa_nil)) (pv 1)))))) pss_nil)
    (pss_cons (ps_set (i := 4) sc_law_draw.nd rfl (Or.inl rfl) (pe_op op_modN (pe_callTy call_int1 (by rfl) T.z_int (by decide +kernel) (pa_cons (pe_op op_add (pe_op op_mul (pe_ix ix_list (pv 0) pe_int (fun _ _ => rfl)) pe_int) pe_int) pa_nil)) pe_int))
    (pss_cons (ps_asg (pv 4) (pg_sub (pv 0) pe_int set_list))
    (pss_one (ps_ret (pe_op op_modN (pe_callTy call_int1 (by rfl) T.z_int (by decide +kernel) (pa_cons (pe_op op_fdivN (pv 4) pe_int) pa_nil)) (pv 1))))))))), ?_⟩
    obtain ⟨ns, m, e, e2, hn, hpos, m0, m1, hl⟩ := id hD
    refine ⟨_, rfl, d, _, _, _, rfl, rfl, SqL.of e, rfl, ?_⟩
    refine ⟨fun σ H2 => ∃ ms : List Int, σ = [some (.ref d), some (.int n), some (.ref c), none, none] ∧ H2 d = some (.lst [.ref c, .int m]) ∧ H2 c = some (.lst (ms.map V.int)) ∧ ms.length ≤ 63 ∧ (∀ z ∈ ms, 0 ≤ z) ∧ Ex d c H H2, ?_, ?_⟩
    · refine ⟨fun k σ H2 => ∃ ms : List Int, σ = [some (.ref d), some (.int n), some (.ref c), none, none] ∧ H2 d = some (.lst [.ref c, .int m]) ∧ H2 c = some (.lst (ms.map V.int)) ∧ ms.length = k ∧ k ≤ 63 ∧ (∀ z ∈ ms, 0 ≤ z) ∧ Ex d c H H2, ⟨ns.length, ns, rfl, e, e2, rfl, hl, hpos, .refl _ _ _⟩, ?_⟩
      rintro k σ H2 ⟨ms, rfl, f1, f2, hk, k63, hp, hx⟩
      refine ⟨_, rfl, c, _, rfl, .inl (SqL.of f2), _, _, rfl, rfl, _, rfl, ite2 (fun cz => ?_) (fun _ => iteF ⟨ms, rfl, f1, f2, by omega, hp, hx⟩)⟩
      cases ms with
      | nil => cases cz
      | cons x ms =>
      refine ⟨_, rfl, c, _, _, V.int x, rfl, rfl, SqL.of f2, atI_nat (j := 0) rfl, rfl, _, rfl, ite2 (fun c0 => ?_) (fun _ => ⟨_, rfl, f1, f2, by omega, hp, hx⟩)⟩
      refine ⟨fun σ' H' => ∃ ms' : List Int, σ' = [some (.ref d), some (.int n), some (.ref c), none, none] ∧ H' d = some (.lst [.ref c, .int m]) ∧ H' c = some (.lst (ms'.map V.int)) ∧ ms'.length < k ∧ k ≤ 63 ∧ (∀ z ∈ ms', 0 ≤ z) ∧ Ex d c H H', fun σ' H' ⟨ms', r1, r2, r3, r4, r5, r6, r7⟩ => ⟨ms'.length, r4, ms', r1, r2, r3, rfl, by omega, r6, r7⟩, ?_⟩
      have z0 : ixN ((x :: ms).map V.int).length 0 = some 0 := Evl.ixN_nat (j := 0) (by rw [List.length_map, List.length_cons]; omega)
      refine ⟨_, rfl, .inl ⟨rfl, _, SqL.of f2⟩, c, _, 0, 0, _, rfl, rfl, f2, by decide, by decide, (ixN_seq z0).1, rfl, ms, rfl, by rw [upd_ne hn.symm]; exact f1, by rw [upd_same]; rfl, by rw [List.length_cons] at hk; omega, k63, fun z hz => hp z (List.mem_cons_of_mem _ hz), hx.trans (.set2 _)⟩
    · rintro σ H2 ⟨ms, rfl, f1, f2, k63, hp, hx⟩
      refine ⟨_, rfl, c, _, rfl, .inl (SqL.of f2), _, _, rfl, rfl, _, rfl, ite2 (fun cz => ?_) (fun _ => ?_)⟩
      · cases ms with
        | nil => cases cz
        | cons x ms =>
        have x0 := hp x (List.mem_cons_self ..)
        have z0 : ixN ((x :: ms).map V.int).length 0 = some 0 := Evl.ixN_nat (j := 0) (by rw [List.length_map, List.length_cons]; omega)
        refine ⟨_, rfl, c, _, _, V.int x, rfl, rfl, SqL.of f2, atI_nat (j := 0) rfl, _, rfl, _, rfl, _, _, rfl, rfl, ⟨nz, by omega⟩, _, rfl, c, _, _, 0, rfl, rfl, f2, z0, _, rfl, .inl ⟨_, rfl, _, rfl, _, _, rfl, rfl, nz, ?_⟩⟩
        obtain ⟨b0, b1⟩ := fmb x (b := n) (by omega)
        refine q _ _ b0 b1 (hx.trans (.set2 _)) ⟨x.fdiv n :: ms, m, by rw [upd_ne hn.symm]; exact f1, upd_same, hn, fun z hz => ?_, m0, m1, k63⟩
        rcases List.mem_cons.mp hz with rfl | hz
        · exact Int.fdiv_nonneg x0 (by omega)
        · exact hp z (List.mem_cons_of_mem _ hz)
      · obtain ⟨b0, b1⟩ := fmb (m * 48271 + 12345) (b := 2147483647) (by decide)
        refine ⟨_, rfl, d, _, _, _, rfl, rfl, SqL.of f1, rfl, _, _, rfl, rfl, .inl ⟨by omega, by omega⟩, _, _, rfl, rfl, .inl ⟨_, rfl, _, _, rfl, rfl, (by show (2147483647 : Int) ≠ 0; decide), _, rfl, _, rfl, d, _, _, 1, rfl, rfl, f1, rfl, ?_⟩⟩
        refine ⟨_, rfl, _, _, rfl, rfl, ⟨by decide, by decide⟩, .inl ⟨_, rfl, _, rfl, _, _, rfl, rfl, nz, ?_⟩⟩
        obtain ⟨c0, c1⟩ := fmb (((m * 48271 + 12345).fmod 2147483647).fdiv 64) (b := n) (by omega)
        exact q _ _ c0 c1 (hx.trans (.set1 _)) ⟨ms, _, upd_same, by rw [upd_ne hn]; exact f2, hn, hp, b0, by omega, k63⟩
theorem ok_law_pick (T : Txt K mg) (G_law_draw : FnOk P w K mg base CX0 1 T.a_law_draw T.d_law_draw ["state", "many"] spDraw) : FnOk P w K mg base CX0 2 T.a_law_pick T.d_law_pick ["state", "row"] (spPick K) := by
  refine T.F_law_pick.ok sc_law_pick (fun vs H Q E h => ?_) (fun cdv A outer s H vs Q E hr h => ?_)
  · obtain ⟨d, c, p, xs, rfl, _⟩ := h; rfl
  · obtain ⟨d, c, p, xs, rfl, hD, hP, hn, hn2, h1, h2, q⟩ := h
    have hr_law_draw := hr
    refine ⟨_, (pss_one (ps_ret (pe_ix ix_seq (pv 1) (pe_call G_law_draw hr_law_draw rfl T.m_law_draw T.F_law_draw.kp T.b_law_draw .nil pass0 (pa_cons (pv 0) (pa_cons (pe_callB call_len_seq (by rfl) T.z_len (by decide +kernel) (pa_cons (pv 1) pa_nil)) pa_nil))) (fun _ _ => rfl)))), ?_⟩
    have seqs : ∀ H', Ex d c H H' → H' p = some (.lst xs) ∨ SqT K H' p xs := fun H' x => by
      rcases hP with e | (e | ⟨o, e⟩) | e
      · exact .inl (x.but _ _ hn hn2 e)
      · exact .inr (.inl (.inl (x.but _ _ hn hn2 e)))
      · exact .inr (.inl (.inr ⟨o, x.but _ _ hn hn2 e⟩))
      · exact .inr (.inr e)
    refine ⟨_, rfl, _, rfl, _, rfl, p, xs, rfl, hP.imp SqL.of id, d, c, _, rfl, hD, by omega, by omega, fun r H' r0 r1 hx hD' => ?_⟩
    have hk : r.toNat < xs.length := by omega
    have hat : atI xs r = some (xs[r.toNat]) := by
      have z : atI xs ((r.toNat : Nat) : Int) = some (xs[r.toNat]) := atI_nat (List.getElem?_eq_getElem hk)
      rwa [show ((r.toNat : Nat) : Int) = r by omega] at z
    have fin := q (xs[r.toNat]) H' (List.getElem_mem hk) hx hD'
    rcases seqs H' hx with e | e
    · exact .inl ⟨p, _, _, _, rfl, rfl, SqL.of e, hat, fin⟩
    · exact .inr (.inl ⟨p, _, _, _, rfl, rfl, e, hat, fin⟩)
end
end Kx
namespace Kx
open PySem PySem.Spec PyProof.Rows L2
section
variable {P : Program} {w : World} {K : PySem.W.Frag} {mg : Str → Option Value} {base : Heap}
set_option pp.maxSteps 900
theorem no_left {f : Addr} {fd : FuncData} {ps : List Str} {k : Nat} {sp : Sp} {CX : CXT} (no : ∀ vs H Q E, ¬ sp vs H Q E) : FnOk P w K mg base CX k f fd ps sp :=
  ⟨fun vs H Q E h => absurd h (no vs H Q E), fun A outer s H args us vs Q E _ _ _ _ h => absurd h (no vs H Q E)⟩
/-! ### drawn trees -/
/-- a list of texts that isn't the draws' -/
structure ZL (d c : Addr) (H : Hp) (l : Addr) (zs : List Str) : Prop where
  e : H l = some (.lst (zs.map V.str))
  nd : l ≠ d
  nc : l ≠ c
  ok : ∀ z ∈ zs, sok z = true
theorem ZL.ex {d c l : Addr} {H H' : Hp} {zs : List Str} (h : ZL d c H l zs) (x : Ex d c H H') : ZL d c H' l zs := ⟨x.but _ _ h.nd h.nc h.e, h.nd, h.nc, h.ok⟩
theorem ZL.same {d c l : Addr} {H H' : Hp} {zs : List Str} (h : ZL d c H l zs) (x : Same H H') : ZL d c H' l zs := ⟨x _ _ h.e, h.nd, h.nc, h.ok⟩
theorem ZL.own {d c l p : Addr} {H : Hp} {zs : List Str} (h : ZL d c H l zs) (hp : p ≠ l) (o : HO) : ZL d c (upd H p o) l zs := ⟨by rw [upd_ne hp.symm]; exact h.e, h.nd, h.nc, h.ok⟩
def spTree (n : Nat) : Sp := fun vs H Q _ => ∃ (d c lw ln lm : Addr) (L N M : List Str) (m : Nat), vs = [.ref d, .ref lw, .ref ln, .ref lm, .int m] ∧ m < n ∧ Dr H d c ∧ ZL d c H lw L ∧ ZL d c H ln N ∧ ZL d c H lm M ∧
  L.length ≤ 20 ∧ 1 ≤ N.length ∧ N.length ≤ 10 ∧ 1 ≤ M.length ∧ M.length ≤ 10 ∧ ∀ v t H', Is H' v t → Tr L N (L ++ M) m t → Ex d c H H' → Dr H' d c → Q v H'
theorem beq0 (m : Nat) : decide (V.int (m : Int) = V.int 0) = (m == 0) := by
  rw [dec_int, Bool.eq_iff_iff]
  simp only [beq_iff_eq]
  omega
theorem tr_str {L N B : List Str} {z : Str} (h : z ∈ N) : ∀ n, Tr L N B n (.str z)
  | 0 => h
  | _ + 1 => h
theorem tr_one {L N B : List Str} {w : Str} (h : w ∈ L) : ∀ n, Tr L N B n (.tup [.str w])
  | 0 => ⟨rfl, h⟩
  | _ + 1 => .inl ⟨rfl, h⟩
theorem ok_law_tree {n : Nat}(T : Txt K mg) (G_law_draw : FnOk P w K mg base CX0 1 T.a_law_draw T.d_law_draw ["state", "many"] spDraw) (G_law_pick : FnOk P w K mg base CX0 2 T.a_law_pick T.d_law_pick ["state", "row"] (spPick K)) (G_law_tree : FnOk P w K mg base CX0 (n+2) T.a_law_tree T.d_law_tree ["state", "words", "names", "more", "deep"] (spTree n)) : FnOk P w K mg base CX0 (n+3) T.a_law_tree T.d_law_tree ["state", "words", "names", "more", "deep"] (spTree (n+1)) := by
  refine T.F_law_tree.ok sc_law_tree (fun vs H Q E h => ?_) (fun cdv A outer s H vs Q E hr h => ?_)
  · obtain ⟨d, c, lw, ln, lm, L, N, M, m, rfl, _⟩ := h; rfl
  · obtain ⟨d, c, lw, ln, lm, L, N, M, m, rfl, hm, hD, hL, hN, hM, l20, n1, n10, m1, m10, q⟩ := h
    have hr_law_tree := hr
    have hr_law_draw : Room 1 _ := hr.mono (by omega)
    have hr_law_pick : Room 2 _ := hr.mono (by omega)
    refine ⟨_, (pss_cons (ps_if (pt_cut (PW.pt (pw_or (pt_cmpR op_eq (pv 4) pe_int (nomark _)) (pw_or1 (pt_cmpR op_eq (pe_call G_law_draw hr_law_draw rfl T.m_law_draw T.F_law_draw.kp T.b_law_draw .nil pass0 (pa_cons (pv 0) (pa_cons pe_int pa_nil))) pe_int (nomark _)))))) (pss_cons (ps_if (pt_cut (PW.pt (pw_or (pt_cmpR op_eq (pe_callB call_len_seq (by rfl) T.z_len (by decide +kernel) (pa_cons (pv 1) pa_nil)) pe_int (nomark _)) (pw_or1 (pt_cmpR op_eq (pe_call G_law_draw hr_law_draw rfl T.m_law_draw T.F_law_draw.kp T.b_law_draw .nil pass0 (pa_cons (pv 0) (pa_cons pe_int pa_nil))) pe_int (nomark _)))))) (pss_one (ps_ret (pe_call G_law_pick hr_law_pick rfl T.m_law_pick T.F_law_pick.kp T.b_law_pick .nil pass0 (pa_cons (pv 0) (pa_cons (pv 2) pa_nil))))) pss_nil)
    (pss_one (ps_ret (pe_tup (pa_cons (pe_call G_law_pick hr_law_pick rfl T.m_law_pick T.F_law_pick.kp T.b_law_pick .nil pass0 (pa_cons (pv 0) (pa_cons (pv 1) pa_nil))) pa_nil))))) pss_nil)
    (pss_cons (ps_set (i := 5) sc_law_tree.nd rfl (Or.inl rfl) (pe_callTy call_tuple_of (by rfl) T.z_tuple (by decide +kernel) (pa_cons (pe_lc (own := [("k", 6)]) (g := (gName 6)) (tt := tYes) rfl sc_law_tree.nd (pi_range1 (by rfl) T.z_range (pa_cons (pe_op op_add pe_int (pe_call G_law_draw hr_law_draw rfl T.m_law_draw T.F_law_draw.kp T.b_law_draw .nil pass0 (pa_cons (pv 0) (pa_cons pe_int pa_nil)))) pa_nil)) (blkOk_by (own := [("k", 6)]) (N := ["state", "words", "names", "more", "deep", "parts", "k"]) (sc := defScope s_law_tree) (by decide +kernel)) (fun _ _ _ _ _ => (pg_name (i := 6) sc_law_tree.nd rfl (Or.inl rfl))) (fun _ _ _ _ _ => pts_nil) (fun _ _ _ _ _ => (pe_call G_law_tree hr_law_tree rfl T.m_law_tree T.F_law_tree.kp T.b_law_tree .nil pass0 (pa_cons (pv 0) (pa_cons (pv 1) (pa_cons (pv 2) (pa_cons (pv 3) (pa_cons (pe_op op_sub (pv 4) pe_int) pa_nil)))))))) pa_nil)))
    (pss_one (ps_ret (pe_op op_catT (pe_tup (pa_cons (pe_call G_law_pick hr_law_pick rfl T.m_law_pick T.F_law_pick.kp T.b_law_pick .nil pass0 (pa_cons (pv 0) (pa_cons (pe_op op_cat (pv 1) (pv 3)) pa_nil))) pa_nil)) (pv 5)))))), ?_⟩
    refine ⟨fun b H1 => Ex d c H H1 ∧ Dr H1 d c ∧ (b = false → m ≠ 0), ?_, fun b H1 ⟨x1, D1, hb⟩ => ?_⟩
    · refine ⟨_, rfl, rfl, _, rfl, ?_⟩
      rw [beq0]
      by_cases h0 : m = 0
      · rw [show (m == 0) = true by simp [h0]]
        exact iteT ⟨.refl _ _ _, hD, fun e => by cases e⟩
      · rw [show (m == 0) = false by simp [h0]]
        exact iteF ⟨_, rfl, d, c, 3, rfl, hD, by omega, by omega, fun r H1 _ _ x1 D1 => ⟨rfl, _, rfl, x1, D1, fun _ => h0⟩⟩
    cases b with
    | true =>
      refine iteT ?_
      refine ⟨fun b H2 => Ex d c H H2 ∧ Dr H2 d c ∧ (b = false → L ≠ []), ?_, fun b H2 ⟨x2, D2, hb⟩ => ?_⟩
      · refine ⟨_, rfl, lw, _, rfl, .inl (SqL.of (hL.ex x1).e), rfl, _, rfl, ?_⟩
        rw [List.length_map, beq0]
        by_cases h0 : L = []
        · rw [show (L.length == 0) = true by simp [h0]]
          exact iteT ⟨x1, D1, fun e => by cases e⟩
        · rw [show (L.length == 0) = false by simp [h0]]
          exact iteF ⟨_, rfl, d, c, 2, rfl, D1, by omega, by omega, fun r H2 _ _ x2 D2 => ⟨rfl, _, rfl, x1.trans x2, D2, fun _ => h0⟩⟩
      cases b with
      | true =>
        refine iteT ⟨_, rfl, _, rfl, d, c, ln, N.map V.str, rfl, D2, .inl (hN.ex x2).e, hN.nd, hN.nc, by rw [List.length_map]; exact n1, by rw [List.length_map]; omega, fun x H3 hx x3 D3 => ?_⟩
        obtain ⟨z, hz, rfl⟩ := List.mem_map.mp hx
        exact q _ (.str z) H3 (.str z (hN.ok z hz)) (tr_str hz m) (x2.trans x3) D3
      | false =>
        have hne := hb rfl
        have l1 : 1 ≤ L.length := by cases L with | nil => exact absurd rfl hne | cons _ _ => simp
        refine iteF ⟨_, rfl, _, rfl, d, c, lw, L.map V.str, rfl, D2, .inl (hL.ex x2).e, hL.nd, hL.nc, by rw [List.length_map]; exact l1, by rw [List.length_map]; omega, fun x H3 hx x3 D3 => ⟨(by show 1 ≤ sizeLine; decide), fun p hp => ?_⟩⟩
        obtain ⟨z, hz, rfl⟩ := List.mem_map.mp hx
        have s4 := same_upd hp (.tup [V.str z])
        exact q _ (.tup [.str z]) _ (.tup upd_same (.cons (.str z (hL.ok z hz)) .nil)) (tr_one hz m) ((x2.trans x3).trans (.of s4)) (D3.same s4)
    | false =>
      obtain ⟨k, rfl⟩ : ∃ k, m = k + 1 := ⟨m - 1, by have := hb rfl; omega⟩
      refine iteF ⟨_, rfl, d, c, 3, rfl, D1, by omega, by omega, fun r H2 r0 r3 x2 D2 => ⟨_, _, rfl, rfl, 1 + r, rfl, by omega, by omega, fun D hDn => ?_⟩⟩
      obtain ⟨nd, nc⟩ := D2.free hDn
      have x12 := x1.trans x2
      refine lc_range (lo := 0) (n := (1 + r).toNat) (fun i H3 => Ex d c H2 H3 ∧ Dr H3 d c ∧ ∃ vs ts, H3 D = some (.lst vs) ∧ IsL H3 vs ts ∧ (∀ t ∈ ts, Tr L N (L ++ M) k t) ∧ ts.length = i) ?_ ?_ ?_
      · exact ⟨.of (same_upd hDn _), D2.own nd nc, [], [], upd_same, .nil, by simp, rfl⟩
      · intro i H3 hi ⟨x3, D3, vs, ts, eD, hI, hT, hl⟩
        have x13 := x12.trans x3
        refine ⟨rfl, yes_if ⟨_, rfl, _, rfl, _, rfl, _, rfl, _, rfl, _, _, rfl, rfl, d, c, lw, ln, lm, L, N, M, k, ?_, by omega, D3, hL.ex x13, hN.ex x13, hM.ex x13, l20, n1, n10, m1, m10, fun v t H4 it tt x4 D4 => ?_⟩⟩
        · show [V.ref d, V.ref lw, V.ref ln, V.ref lm, V.int (((k + 1 : Nat) : Int) - 1)] = _
          rw [show (((k + 1 : Nat) : Int) - 1) = (k : Int) by omega]
        · have eD4 := x4.but _ _ nd nc eD
          have hlen := hI.len
          refine ⟨vs, eD4, small1000 (by omega), Ex.own (x3.trans x4) hDn _, D4.own nd nc, vs ++ [v], ts ++ [t], upd_same, ?_, fun t' ht' => ?_, by rw [List.length_append, hl]; rfl⟩
          · exact ((hI.ex x4 D3).append (.cons it .nil)).tk fun a us e => by rw [upd_ne (fun q => by rw [q, eD4] at e; cases e)]; exact e
          · rcases List.mem_append.mp ht' with h | h
            · exact hT t' h
            · rw [List.mem_singleton.mp h]; exact tt
      · intro H3 ⟨x3, D3, vs, ts, eD, hI, hT, hl⟩
        have hlen := hI.len
        refine ⟨D, vs, rfl, .inl ⟨SqL.of eD, fun l hl2 => ?_⟩⟩
        have s4 := same_upd hl2 (.tup vs)
        have x14 := (x12.trans x3).trans (Ex.of s4)
        have D4 := D3.same s4
        refine ⟨_, rfl, _, rfl, _, rfl, lw, lm, _, _, rfl, rfl, (hL.ex x14).e, (hM.ex x14).e, by rw [List.length_map, List.length_map]; exact Nat.le_of_lt (small1000 (by omega)), fun p hp => ?_⟩
        have s5 := same_upd hp (.lst (L.map V.str ++ M.map V.str))
        obtain ⟨pd, pc⟩ := D4.free hp
        refine ⟨d, c, p, L.map V.str ++ M.map V.str, rfl, D4.same s5, .inl upd_same, pd, pc, by rw [List.length_append, List.length_map, List.length_map]; omega, by rw [List.length_append, List.length_map, List.length_map]; omega, fun x H6 hx x6 D6 => ⟨(by show 1 ≤ sizeLine; decide), fun p2 hp2 => ?_⟩⟩
        rw [← List.map_append] at hx
        obtain ⟨z, hz, rfl⟩ := List.mem_map.mp hx
        have ok : sok z = true := (List.mem_append.mp hz).elim (hL.ok z) (hM.ok z)
        have s7 := same_upd hp2 (.tup [V.str z])
        have e7 : upd H6 p2 (.tup [V.str z]) l = some (.tup vs) := s7 _ _ (x6.keep (D4.same s5) (s5 _ _ upd_same) fun xs q => by cases q)
        refine ⟨_, rfl, p2, l, [V.str z], vs, rfl, rfl, .inl (.inl upd_same), .inl (.inl e7), by simp, by rw [List.length_singleton]; exact Nat.le_of_lt (small1000 (by omega)), fun e => ?_, fun _ p3 hp3 => ?_⟩
        · have e0 : ts.length = 0 := by rw [← hlen, e]; rfl
          omega
        · have s8 := same_upd hp3 (.tup ([V.str z] ++ vs))
          have hI8 : IsL _ vs ts := (((((hI.same s4).same s5).ex x6 (D4.same s5)).same s7).same s8)
          refine q _ (.tup (.str z :: ts)) _ (.tup upd_same (.cons (.str z ok) hI8)) (.inr ⟨?_, hz, by omega, hT⟩) (((x14.trans (.of s5)).trans x6).trans (.of (s7.trans s8))) ((D6.same s7).same s8)
          intro e
          rw [e] at hl
          simp at hl
          omega
theorem all_tree (T : Txt K mg) : ∀ n, FnOk P w K mg base CX0 (n + 2) T.a_law_tree T.d_law_tree ["state", "words", "names", "more", "deep"] (spTree n)
  | 0 => no_left fun vs H Q E ⟨_, _, _, _, _, _, _, _, _, _, h, _⟩ => by omega
  | n + 1 => ok_law_tree T (ok_law_draw T) (ok_law_pick T (ok_law_draw T)) (all_tree T n)
/-! ### kinds, clauses -/
structure Kd where
  fam : Str
  tm : PV
def kdP (k : Kd) : PV := .tup [.str k.fam, k.tm]
abbrev KN : List Str := ["n", "m", "x1"]
abbrev CN : List Str := ["n", "v", "x1", "next"]
def KdOk (F L N : List Str) (k : Kd) : Prop := k.fam ∈ F ∧ Tr L N (L ++ (["other"] : List Str)) 1 k.tm
theorem zl_new {d c p : Addr} {H : Hp} {zs : List Str} (D : Dr H d c) (hp : H p = none) (ok : ∀ z ∈ zs, sok z = true) : ZL d c (upd H p (.lst (zs.map V.str))) p zs := ⟨upd_same, (D.free hp).1, (D.free hp).2, ok⟩
theorem IsL.over {H : Hp} {D : Addr} {xs ys : List V} (e : H D = some (.lst xs)) {vs : List V} {ts : List PV} (h : IsL H vs ts) : IsL (upd H D (.lst ys)) vs ts := h.tk fun a us e2 => by rw [upd_ne (fun q => by rw [q, e] at e2; cases e2)]; exact e2
theorem Is.over {H : Hp} {D : Addr} {xs ys : List V} (e : H D = some (.lst xs)) {v : V} {t : PV} (h : Is H v t) : Is (upd H D (.lst ys)) v t := h.tk fun a us e2 => by rw [upd_ne (fun q => by rw [q, e] at e2; cases e2)]; exact e2
def spTypes : Sp := fun vs H Q _ => ∃ (d c lf lw ln : Addr) (F L N : List Str) (m : Nat), vs = [.ref d, .ref lf, .ref lw, .ref ln, .int m] ∧ Dr H d c ∧ (H lf = some (.lst (F.map V.str)) ∨ SqT K H lf (F.map V.str)) ∧ lf ≠ d ∧ lf ≠ c ∧ (∀ z ∈ F, sok z = true) ∧ ZL d c H lw L ∧ ZL d c H ln N ∧ 1 ≤ F.length ∧ F.length ≤ 20 ∧
  L.length ≤ 20 ∧ 1 ≤ N.length ∧ N.length ≤ 10 ∧ m ≤ 5 ∧ ∀ v (ks : List Kd) H', Is H' v (.tup (ks.map kdP)) → ks.length = m → (∀ k ∈ ks, KdOk F L N k) → Ex d c H H' → Dr H' d c → Q v H'
theorem seq_ex {d c l : Addr} {H H' : Hp} {xs : List V} (x : Ex d c H H') (n1 : l ≠ d) (n2 : l ≠ c) (h : H l = some (.lst xs) ∨ SqT K H l xs) : H' l = some (.lst xs) ∨ SqT K H' l xs := by
  rcases h with e | (e | ⟨o, e⟩) | e
  · exact .inl (x.but _ _ n1 n2 e)
  · exact .inr (.inl (.inl (x.but _ _ n1 n2 e)))
  · exact .inr (.inl (.inr ⟨o, x.but _ _ n1 n2 e⟩))
  · exact .inr (.inr e)
theorem ok_law_types (T : Txt K mg) (G_law_pick : FnOk P w K mg base CX0 2 T.a_law_pick T.d_law_pick ["state", "row"] (spPick K)) (G_law_tree : FnOk P w K mg base CX0 5 T.a_law_tree T.d_law_tree ["state", "words", "names", "more", "deep"] (spTree 3)) : FnOk P w K mg base CX0 6 T.a_law_types T.d_law_types ["state", "families", "makers", "names", "many"] (spTypes (K := K)) := by
  refine T.F_law_types.ok sc_law_types (fun vs H Q E h => ?_) (fun cdv A outer s H vs Q E hr h => ?_)
  · obtain ⟨d, c, lf, lw, ln, F, L, N, m, rfl, _⟩ := h; rfl
  · obtain ⟨d, c, lf, lw, ln, F, L, N, m, rfl, hD, hF, f1, f2, okF, hL, hN, F1, F20, l20, n1, n10, m5, q⟩ := h
    have hr_law_pick : Room 2 _ := hr.mono (by decide)
    have hr_law_tree : Room 5 _ := hr.mono (by decide)
    refine ⟨_, (pss_one (ps_ret (pe_callTy call_tuple_of (by rfl) T.z_tuple (by decide +kernel) (pa_cons (pe_lc (own := [("k", 5)]) (g := (gName 5)) (tt := tYes) rfl sc_law_types.nd (pi_range1 (by rfl) T.z_range (pa_cons (pv 4) pa_nil)) (blkOk_by (own := [("k", 5)]) (N := ["state", "families", "makers", "names", "many", "k"]) (sc := defScope s_law_types) (by decide +kernel)) (fun _ _ _ _ _ => (pg_name (i := 5) sc_law_types.nd rfl (Or.inl rfl))) (fun _ _ _ _ _ => pts_nil) (fun _ _ _ _ _ => (pe_tup (pa_cons (pe_call G_law_pick hr_law_pick rfl T.m_law_pick T.F_law_pick.kp T.b_law_pick .nil pass0 (pa_cons (pv 0) (pa_cons (pv 1) pa_nil))) (pa_cons (pe_call G_law_tree hr_law_tree rfl T.m_law_tree T.F_law_tree.kp T.b_law_tree .nil pass0 (pa_cons (pv 0) (pa_cons (pv 2) (pa_cons (pv 3) (pa_cons (pe_lst (pa_cons pe_str pa_nil)) (pa_cons pe_int pa_nil)))))) pa_nil))))) pa_nil)))), ?_⟩
    refine ⟨_, rfl, (m : Int), rfl, by omega, by omega, fun D hDn => ?_⟩
    obtain ⟨nd, nc⟩ := hD.free hDn
    refine lc_range (lo := 0) (n := (m : Int).toNat) (fun i H3 => Ex d c H H3 ∧ Dr H3 d c ∧ ∃ vs, ∃ ks : List Kd, H3 D = some (.lst vs) ∧ IsL H3 vs (ks.map kdP) ∧ (∀ k ∈ ks, KdOk F L N k) ∧ ks.length = i) ?_ ?_ ?_
    · exact ⟨.of (same_upd hDn _), hD.own nd nc, [], [], upd_same, .nil, by simp, rfl⟩
    · intro i H3 hi ⟨x3, D3, vs, ks, eD, hI, hT, hl⟩
      have hi' : i < 5 := by omega
      refine ⟨rfl, yes_if ⟨_, rfl, _, rfl, d, c, lf, F.map V.str, rfl, D3, seq_ex x3 f1 f2 hF, f1, f2, by rw [List.length_map]; exact F1, by rw [List.length_map]; omega, fun x H4 hx x4 D4 => ?_⟩⟩
      obtain ⟨f, hf, rfl⟩ := List.mem_map.mp hx
      refine ⟨_, rfl, _, rfl, _, rfl, (by show 1 ≤ sizeLine; decide), fun p hp => ?_⟩
      have s5 := same_upd hp (.lst [V.str "other"])
      have x35 := (x3.trans x4).trans (.of s5)
      refine ⟨d, c, lw, ln, p, L, N, ["other"], 1, rfl, by decide, D4.same s5, hL.ex x35, hN.ex x35, zl_new (zs := ["other"]) D4 hp (by decide +kernel), l20, n1, n10, by decide, by decide, fun v t H6 it tt x6 D6 => ⟨(by show 2 ≤ sizeLine; decide), fun p2 hp2 => ?_⟩⟩
      have s7 := same_upd hp2 (.tup [V.str f, v])
      have x37 := ((x4.trans (.of s5)).trans x6).trans (.of s7)
      have eD7 := x37.but _ _ nd nc eD
      have hlen := hI.len
      rw [List.length_map] at hlen
      refine ⟨vs, eD7, small1000 (by omega), Ex.own (x3.trans x37) hDn _, (D6.same s7).own nd nc, vs ++ [.ref p2], ks ++ [⟨f, t⟩], upd_same, ?_, fun k hk => ?_, by rw [List.length_append, hl]; rfl⟩
      · rw [List.map_append]
        exact IsL.over eD7 ((hI.ex x37 D3).append (.cons (.tup upd_same (.cons (.str f (okF f hf)) (.cons (it.same s7) .nil))) .nil))
      · rcases List.mem_append.mp hk with h | h
        · exact hT k h
        · rw [List.mem_singleton.mp h]; exact ⟨hf, tt⟩
    · intro H3 ⟨x3, D3, vs, ks, eD, hI, hT, hl⟩
      refine ⟨D, vs, rfl, .inl ⟨SqL.of eD, fun l hl2 => ?_⟩⟩
      have s4 := same_upd hl2 (.tup vs)
      exact q _ ks _ (.tup upd_same (hI.same s4)) (by omega) hT (x3.trans (.of s4)) (D3.same s4)
def spClause : Sp := fun vs H Q _ => ∃ (d c lc : Addr) (C : List Str) (m : Nat), vs = [.ref d, .ref lc, .int m] ∧ Dr H d c ∧ ZL d c H lc C ∧ C.length ≤ 20 ∧ m ≤ 5 ∧
  ∀ v ps b H', Is H' v (.tup [.tup ps, b]) → ps.length = m → (∀ p ∈ ps, Tr C CN (C ++ (["Other"] : List Str)) 2 p) → Tr C CN (C ++ (["f", "g", "con"] : List Str)) 2 b → Ex d c H H' → Dr H' d c → Q v H'
theorem ok_law_clause (T : Txt K mg) (G_law_tree : FnOk P w K mg base CX0 5 T.a_law_tree T.d_law_tree ["state", "words", "names", "more", "deep"] (spTree 3)) : FnOk P w K mg base CX0 6 T.a_law_clause T.d_law_clause ["state", "constructors", "many"] spClause := by
  refine T.F_law_clause.ok sc_law_clause (fun vs H Q E h => ?_) (fun cdv A outer s H vs Q E hr h => ?_)
  · obtain ⟨d, c, lc, C, m, rfl, _⟩ := h; rfl
  · obtain ⟨d, c, lc, C, m, rfl, hD, hC, c20, m5, q⟩ := h
    have hr_law_tree : Room 5 _ := hr.mono (by decide)
    refine ⟨_, (pss_cons (ps_set (i := 3) sc_law_clause.nd rfl (Or.inl rfl) (pe_callTy call_tuple_of (by rfl) T.z_tuple (by decide +kernel) (pa_cons (pe_lc (own := [("k", 4)]) (g := (gName 4)) (tt := tYes) rfl sc_law_clause.nd (pi_range1 (by rfl) T.z_range (pa_cons (pv 2) pa_nil)) (blkOk_by (own := [("k", 4)]) (N := ["state", "constructors", "many", "patterns", "k"]) (sc := defScope s_law_clause) (by decide +kernel)) (fun _ _ _ _ _ => (pg_name (i := 4) sc_law_clause.nd rfl (Or.inl rfl))) (fun _ _ _ _ _ => pts_nil) (fun _ _ _ _ _ => (pe_call G_law_tree hr_law_tree rfl T.m_law_tree T.F_law_tree.kp T.b_law_tree .nil pass0 (pa_cons (pv 0) (pa_cons (pv 1) (pa_cons (pe_lst (pa_cons pe_str (pa_cons pe_str (pa_cons pe_str (pa_cons pe_str pa_nil))))) (pa_cons (pe_lst (pa_cons pe_str pa_nil)) (pa_cons pe_int pa_nil)))))))) pa_nil)))
    (pss_one (ps_ret (pe_tup (pa_cons (pv 3) (pa_cons (pe_call G_law_tree hr_law_tree rfl T.m_law_tree T.F_law_tree.kp T.b_law_tree .nil pass0 (pa_cons (pv 0) (pa_cons (pv 1) (pa_cons (pe_lst (pa_cons pe_str (pa_cons pe_str (pa_cons pe_str (pa_cons pe_str pa_nil))))) (pa_cons (pe_lst (pa_cons pe_str (pa_cons pe_str (pa_cons pe_str pa_nil)))) (pa_cons pe_int pa_nil)))))) pa_nil)))))), ?_⟩
    refine ⟨_, rfl, (m : Int), rfl, by omega, by omega, fun D hDn => ?_⟩
    obtain ⟨nd, nc⟩ := hD.free hDn
    refine lc_range (lo := 0) (n := (m : Int).toNat) (fun i H3 => Ex d c H H3 ∧ Dr H3 d c ∧ ∃ vs ts, H3 D = some (.lst vs) ∧ IsL H3 vs ts ∧ (∀ t ∈ ts, Tr C CN (C ++ (["Other"] : List Str)) 2 t) ∧ ts.length = i) ?_ ?_ ?_
    · exact ⟨.of (same_upd hDn _), hD.own nd nc, [], [], upd_same, .nil, by simp, rfl⟩
    · intro i H3 hi ⟨x3, D3, vs, ts, eD, hI, hT, hl⟩
      have hi' : i < 5 := by omega
      refine ⟨rfl, yes_if ⟨_, rfl, _, rfl, (by show 4 ≤ sizeLine; decide), fun p hp => ⟨(by show 1 ≤ sizeLine; decide), fun p2 hp2 => ?_⟩⟩⟩
      have s4 := same_upd hp (.lst (CN.map V.str))
      have s5 := same_upd hp2 (.lst ((["Other"] : List Str).map V.str))
      have x45 := x3.trans (.of (s4.trans s5))
      refine ⟨d, c, lc, p, p2, C, CN, ["Other"], 2, rfl, by decide, (D3.same s4).same s5, hC.ex x45, (zl_new (zs := CN) D3 hp (by decide +kernel)).same s5, zl_new (zs := ["Other"]) (D3.same s4) hp2 (by decide +kernel), c20, by decide, by decide, by decide, by decide, fun v t H6 it tt x6 D6 => ?_⟩
      have x36 := (Ex.of (s4.trans s5)).trans x6
      have eD6 := x36.but _ _ nd nc eD
      have hlen := hI.len
      refine ⟨vs, eD6, small1000 (by omega), Ex.own (x3.trans x36) hDn _, D6.own nd nc, vs ++ [v], ts ++ [t], upd_same, IsL.over eD6 ((hI.ex x36 D3).append (.cons it .nil)), fun t' ht' => ?_, by rw [List.length_append, hl]; rfl⟩
      rcases List.mem_append.mp ht' with h | h
      · exact hT t' h
      · rw [List.mem_singleton.mp h]; exact tt
    · intro H3 ⟨x3, D3, vs, ts, eD, hI, hT, hl⟩
      refine ⟨D, vs, rfl, .inl ⟨SqL.of eD, fun l hl2 => ?_⟩⟩
      have s4 := same_upd hl2 (.tup vs)
      have D4 := D3.same s4
      refine ⟨_, rfl, _, rfl, _, rfl, (by show 4 ≤ sizeLine; decide), fun p hp => ⟨(by show 3 ≤ sizeLine; decide), fun p2 hp2 => ?_⟩⟩
      have s5 := same_upd hp (.lst (CN.map V.str))
      have s6 := same_upd hp2 (.lst ((["f", "g", "con"] : List Str).map V.str))
      have x46 := (x3.trans (.of s4)).trans (.of (s5.trans s6))
      refine ⟨d, c, lc, p, p2, C, CN, ["f", "g", "con"], 2, rfl, by decide, (D4.same s5).same s6, hC.ex x46, (zl_new (zs := CN) D4 hp (by decide +kernel)).same s6, zl_new (zs := ["f", "g", "con"]) (D4.same s5) hp2 (by decide +kernel), c20, by decide, by decide, by decide, by decide, fun v t H7 it tt x7 D7 => ⟨(by show 2 ≤ sizeLine; decide), fun p3 hp3 => ?_⟩⟩
      have s8 := same_upd hp3 (.tup [V.ref l, v])
      have hT4 : Is _ (.ref l) (.tup ts) := .tup upd_same (hI.same s4)
      exact q _ ts t _ (.tup upd_same (.cons (((hT4.same (s5.trans s6)).ex x7 ((D4.same s5).same s6)).same s8) (.cons (it.same s8) .nil))) (by omega) hT tt ((x46.trans x7).trans (.of s8)) (D7.same s8)
end
end Kx
namespace Kx
open PySem PySem.Spec PyProof.Rows L2
section
variable {P : Program} {w : World} {K : PySem.W.Frag} {mg : Str → Option Value} {base : Heap}
set_option pp.maxSteps 1500
/-! ### the drawn table and program -/
structure Cn where
  w : Str
  ps : List Kd
  md : Kd
structure Cl where
  ps : List PV
  b : PV
structure Fn where
  w : Str
  ps : List Kd
  md : Kd
  falls : Nat
  cls : List Cl
structure Tb where
  mks : List (Str × Nat)
  fams : List Str
  cns : List Cn
def mkP (m : Str × Nat) : PV := .tup [.str m.1, .int m.2]
def cnP (c : Cn) : PV := .tup [.str c.w, .tup (c.ps.map kdP), .str c.md.fam, c.md.tm]
def clP (c : Cl) : PV := .tup [.tup c.ps, c.b]
def fnP (f : Fn) : PV := .tup [.str f.w, .tup (f.ps.map kdP), .str f.md.fam, f.md.tm, .int f.falls, .tup (f.cls.map clP)]
def tabP (t : Tb) : PV := .tup [.str "table", .tup (t.mks.map mkP), .tup (t.fams.map PV.str), .tup (t.cns.map cnP)]
def prgP (fs : List Fn) : PV := .tup [.str "program", .tup (fs.map fnP)]
abbrev MW : List Str := ["zero", "next", "con", "a", "fun"]
abbrev FW : List Str := ["Nat", "V", "family", "maker", "F3"]
abbrev CW : List Str := ["Z", "S", "Nil", "falls", "K9", "twelveletter"]
abbrev GW : List Str := ["f", "fun", "maker"]
abbrev NW : List Nat := [0, 1, 2, 9, 10, 99]
def Tb.mw (t : Tb) : List Str := t.mks.map (·.1)
def Tb.cw (t : Tb) : List Str := t.cns.map (·.w)
structure CnOk (F L : List Str) (c : Cn) : Prop where
  w : c.w ∈ CW
  ps : ∀ k ∈ c.ps, KdOk F L KN k
  l3 : c.ps.length ≤ 3
  md : KdOk F L KN c.md
structure TbOk (t : Tb) : Prop where
  mw : t.mw.Sublist MW
  mn : ∀ m ∈ t.mks, m.2 ∈ NW
  fw : t.fams.Sublist FW
  f1 : 1 ≤ t.fams.length
  cw : t.cw.Sublist CW
  cn : ∀ c ∈ t.cns, CnOk t.fams t.mw c
structure ClOk (C : List Str) (n : Nat) (c : Cl) : Prop where
  l : c.ps.length = n
  ps : ∀ p ∈ c.ps, Tr C CN (C ++ (["Other"] : List Str)) 2 p
  b : Tr C CN (C ++ (["f", "g", "con"] : List Str)) 2 c.b
structure FnOkk (t : Tb) (f : Fn) : Prop where
  w : f.w ∈ GW
  ps : ∀ k ∈ f.ps, KdOk t.fams t.mw KN k
  l1 : 1 ≤ f.ps.length
  l3 : f.ps.length ≤ 3
  md : KdOk t.fams t.mw KN f.md
  falls : f.falls < 100
  cls : ∀ c ∈ f.cls, ClOk t.cw f.ps.length c
  l2 : f.cls.length ≤ 2
theorem sub_step {α : Type} {acc l : List α} {i : Nat} {x : α} (h : acc.Sublist (l.take i)) (e : l[i]? = some x) : (acc ++ [x]).Sublist (l.take (i + 1)) := by
  rw [List.take_add_one, e]
  exact h.append (.refl _)
theorem sub_skip {α : Type} {acc l : List α} {i : Nat} (h : acc.Sublist (l.take i)) : acc.Sublist (l.take (i + 1)) := by
  rw [List.take_add_one]
  exact h.trans (List.sublist_append_left ..)
theorem Ex.none {d c D : Addr} {H H3 : Hp} (x : Ex d c H H3) (h : Dr H3 d c) (e : H3 D = none) : H D = none := by
  obtain ⟨n1, n2⟩ := h.free e
  cases q : H D with
  | none => rfl
  | some o => have := x.but D o n1 n2 q; rw [e] at this; cases this
theorem strsL {H : Hp} : ∀ {zs : List Str}, (∀ z ∈ zs, sok z = true) → IsL H (zs.map V.str) (zs.map PV.str)
  | [], _ => .nil
  | z :: r, h => .cons (.str z (h z (List.mem_cons_self ..))) (strsL fun x hx => h x (List.mem_cons_of_mem _ hx))
theorem gt0 (r : Int) : decide ((0 : Int) < r) = true ∨ decide ((0 : Int) < r) = false := by cases decide ((0 : Int) < r) <;> simp
def spTable : Sp := fun vs H Q _ => ∃ (d c : Addr), vs = [.ref d] ∧ Dr H d c ∧ ∀ v t H', Is H' v (tabP t) → TbOk t → Ex d c H H' → Dr H' d c → Q v H'
theorem ok_law_table (T : Txt K mg) (G_law_draw : FnOk P w K mg base CX0 1 T.a_law_draw T.d_law_draw ["state", "many"] spDraw) (G_law_pick : FnOk P w K mg base CX0 2 T.a_law_pick T.d_law_pick ["state", "row"] (spPick K)) (G_law_types : FnOk P w K mg base CX0 6 T.a_law_types T.d_law_types ["state", "families", "makers", "names", "many"] (spTypes (K := K))) : FnOk P w K mg base CX0 7 T.a_law_table T.d_law_table ["state"] spTable := by
  refine T.F_law_table.ok sc_law_table (fun vs H Q E h => ?_) (fun cdv A outer s H vs Q E hr h => ?_)
  · obtain ⟨d, c, rfl, _⟩ := h; rfl
  · obtain ⟨d, c, rfl, hD, q⟩ := h
    have hr_law_draw : Room 1 _ := hr.mono (by decide)
    have hr_law_pick : Room 2 _ := hr.mono (by decide)
    have hr_law_types : Room 6 _ := hr.mono (by decide)
    refine ⟨_, (pss_cons (ps_setLc (i := 2) (own := [("word", 1)]) (g := (gName 1)) rfl sc_law_table.nd rfl rfl (sw_true rfl rfl rfl (by decide +kernel)) (pi_list (pe_lst (pa_cons pe_str (pa_cons pe_str (pa_cons pe_str (pa_cons pe_str (pa_cons pe_str pa_nil))))))) (blkOk_by (own := [("word", 1)]) (N := ["state", "word", "words", "makers", "families", "constructors", "parts", "made"]) (sc := defScope s_law_table) (by decide +kernel)) (fun _ _ _ _ _ => (pg_name (i := 1) sc_law_table.nd rfl (Or.inl rfl))) (fun _ _ _ _ _ => pts_one (pt_cmpR op_gt (pe_call G_law_draw hr_law_draw rfl T.m_law_draw T.F_law_draw.kp T.b_law_draw .nil pass0 (pa_cons (pv 0) (pa_cons pe_int pa_nil))) pe_int (nomark _))) (fun _ _ _ _ _ => (pv 1)))
    (pss_cons (ps_setLc (i := 3) (own := [("word", 1)]) (g := (gName 1)) (tt := tYes) rfl sc_law_table.nd rfl rfl (sw_true rfl rfl rfl (by decide +kernel)) (pi_list (pv 2)) (blkOk_by (own := [("word", 1)]) (N := ["state", "word", "words", "makers", "families", "constructors", "parts", "made"]) (sc := defScope s_law_table) (by decide +kernel)) (fun _ _ _ _ _ => (pg_name (i := 1) sc_law_table.nd rfl (Or.inl rfl))) (fun _ _ _ _ _ => pts_nil) (fun _ _ _ _ _ => (pe_tup (pa_cons (pv 1) (pa_cons (pe_call G_law_pick hr_law_pick rfl T.m_law_pick T.F_law_pick.kp T.b_law_pick .nil pass0 (pa_cons (pv 0) (pa_cons (pe_lst (pa_cons pe_int (pa_cons pe_int (pa_cons pe_int (pa_cons pe_int (pa_cons pe_int (pa_cons pe_int pa_nil))))))) pa_nil))) pa_nil)))))
    (Evl.pss_cut (ps_set (i := 4) sc_law_table.nd rfl (Or.inl rfl) (pe_op op_cat (pe_lc (own := [("word", 1)]) (g := (gName 1)) rfl sc_law_table.nd (pi_list (pe_lst (pa_cons pe_str (pa_cons pe_str (pa_cons pe_str (pa_cons pe_str pa_nil)))))) (blkOk_by (own := [("word", 1)]) (N := ["state", "word", "words", "makers", "families", "constructors", "parts", "made"]) (sc := defScope s_law_table) (by decide +kernel)) (fun _ _ _ _ _ => (pg_name (i := 1) sc_law_table.nd rfl (Or.inl rfl))) (fun _ _ _ _ _ => pts_one (pt_cmpR op_gt (pe_call G_law_draw hr_law_draw rfl T.m_law_draw T.F_law_draw.kp T.b_law_draw .nil pass0 (pa_cons (pv 0) (pa_cons pe_int pa_nil))) pe_int (nomark _))) (fun _ _ _ _ _ => (pv 1))) (pe_lst (pa_cons pe_str pa_nil))))
    (pss_cons (ps_set (i := 5) sc_law_table.nd rfl (Or.inl rfl) (pe_lst pa_nil))
    (pss_cons (ps_for PassesOwn.never rfl (pi_list (pe_lst (pa_cons pe_str (pa_cons pe_str (pa_cons pe_str (pa_cons pe_str (pa_cons pe_str (pa_cons pe_str pa_nil)))))))) (pg_name (i := 1) sc_law_table.nd rfl (Or.inl rfl))
    (pss_one (ps_if (pt_cmpR op_gt (pe_call G_law_draw hr_law_draw rfl T.m_law_draw T.F_law_draw.kp T.b_law_draw .nil pass0 (pa_cons (pv 0) (pa_cons pe_int pa_nil))) pe_int (nomark _)) (pss_cons (ps_set (i := 6) sc_law_table.nd rfl (Or.inl rfl) (pe_call G_law_types hr_law_types rfl T.m_law_types T.F_law_types.kp T.b_law_types .nil pass0 (pa_cons (pv 0) (pa_cons (pv 4) (pa_cons (pv 2) (pa_cons (pe_lst (pa_cons pe_str (pa_cons pe_str (pa_cons pe_str pa_nil)))) (pa_cons (pe_call G_law_draw hr_law_draw rfl T.m_law_draw T.F_law_draw.kp T.b_law_draw .nil pass0 (pa_cons (pv 0) (pa_cons pe_int pa_nil))) pa_nil)))))))
    (pss_cons (ps_set (i := 7) sc_law_table.nd rfl (Or.inl rfl) (pe_ix ix_tup (pe_call G_law_types hr_law_types rfl T.m_law_types T.F_law_types.kp T.b_law_types .nil pass0 (pa_cons (pv 0) (pa_cons (pv 4) (pa_cons (pv 2) (pa_cons (pe_lst (pa_cons pe_str (pa_cons pe_str (pa_cons pe_str pa_nil)))) (pa_cons pe_int pa_nil)))))) pe_int (fun _ _ => rfl)))
    (pss_one (ps_expr (pe_bm PySem.F.plainAttrs_list PySem.F.slot_list_append PySem.F.type_list_append mt_append (pv 5) (pa_cons (pe_tup (pa_cons (pv 1) (pa_cons (pv 6) (pa_cons (pe_ix ix_tup (pv 7) pe_int (fun _ _ => rfl)) (pa_cons (pe_ix ix_tup (pv 7) pe_int (fun _ _ => rfl)) pa_nil))))) pa_nil)))))) pss_nil)))
    (pss_one (ps_ret (pe_tup (pa_cons pe_str (pa_cons (pe_callTy call_tuple_of (by rfl) T.z_tuple (by decide +kernel) (pa_cons (pv 3) pa_nil)) (pa_cons (pe_callTy call_tuple_of (by rfl) T.z_tuple (by decide +kernel) (pa_cons (pv 4) pa_nil)) (pa_cons (pe_callTy call_tuple_of (by rfl) T.z_tuple (by decide +kernel) (pa_cons (pv 5) pa_nil)) pa_nil)))))))))))), ?_⟩
    refine ⟨(by show 5 ≤ sizeLine; decide), fun p0 hp0 => ⟨p0, rfl, ⟨_, SqL.of upd_same⟩, fun D hDn => ?_⟩⟩
    have s0 := same_upd hp0 (.lst (MW.map V.str))
    have D0 := hD.same s0
    obtain ⟨p0d, p0c⟩ := hD.free hp0
    obtain ⟨nd, nc⟩ := D0.free hDn
    have nDp : p0 ≠ D := ne_of_none upd_same hDn
    have e0 : upd H p0 (.lst (MW.map V.str)) p0 = some (.lst (MW.map V.str)) := upd_same
    refine lc_list (K := K) (a := p0) (xs := MW.map V.str) (fun i H2 => Ex d c H H2 ∧ Dr H2 d c ∧ H2 p0 = some (.lst (MW.map V.str)) ∧ ∃ zs : List Str, H2 D = some (.lst (zs.map V.str)) ∧ zs.Sublist (MW.take i)) ?_ ?_ ?_ ?_
    · exact ⟨(Ex.of s0).trans (.of (same_upd hDn _)), D0.own nd nc, by rw [upd_ne nDp]; exact upd_same, [], upd_same, List.nil_sublist _⟩
    · exact fun i H2 _ ⟨_, _, e, _⟩ => SqL.of e
    · rintro i x H2 hx ⟨x2, D2, e2, zs, eD, hs⟩
      obtain ⟨z, hz, rfl⟩ : ∃ z, MW[i]? = some z ∧ V.str z = x := by rw [List.getElem?_map] at hx; cases h : MW[i]? with | none => rw [h] at hx; cases hx | some z => rw [h] at hx; exact ⟨z, rfl, Option.some.inj hx⟩
      refine ⟨rfl, _, rfl, d, c, 3, rfl, D2, by omega, by omega, fun r H3 r0 r3 x3 D3 => ?_⟩
      have e3 := x3.but _ _ p0d p0c e2
      have eD3 := x3.but _ _ nd nc eD
      have x23 := x2.trans x3
      refine ⟨_, _, rfl, rfl, _, rfl, ite2 (fun _ => ⟨_, rfl, zs.map V.str, eD3, ?_, ?_, D3.own nd nc, by rw [upd_ne nDp]; exact e3, zs ++ [z], by rw [upd_same, List.map_append]; rfl, sub_step hs hz⟩) (fun _ => ⟨x23, D3, e3, zs, eD3, sub_skip hs⟩)⟩
      · rw [List.length_map]
        exact small1000 (by have := hs.length_le; have h2 : (MW.take i).length ≤ 5 := List.length_take_le' .. ; omega)
      · exact Ex.own x23 (s0.free hDn) _
    rintro H2 ⟨x2, D2, e2, ws, eW, hs⟩
    rw [show (MW.map V.str).length = MW.length from rfl, List.take_length] at hs
    have okM : ∀ z ∈ MW, sok z = true := by decide +kernel
    have okW : ∀ z ∈ ws, sok z = true := fun z hz => okM z (hs.subset hz)
    have l5 : ws.length ≤ 5 := hs.length_le
    -- makers
    refine ⟨_, rfl, D, rfl, ⟨_, SqL.of eW⟩, fun M hM => ?_⟩
    obtain ⟨nMd, nMc⟩ := D2.free hM
    have nWM : D ≠ M := ne_of_none eW hM
    have fM : H M = none := x2.none D2 hM
    refine lc_list (K := K) (a := D) (xs := ws.map V.str) (fun i H' => Ex d c H H' ∧ Dr H' d c ∧ H' D = some (.lst (ws.map V.str)) ∧ ∃ vs, ∃ ms : List (Str × Nat), H' M = some (.lst vs) ∧ IsL H' vs (ms.map mkP) ∧ ms.map (·.1) = ws.take i ∧ ∀ m ∈ ms, m.2 ∈ NW) ?_ ?_ ?_ ?_
    · exact ⟨Ex.own x2 fM _, D2.own nMd nMc, by rw [upd_ne nWM]; exact eW, [], [], upd_same, .nil, rfl, by simp⟩
    · exact fun i H' _ ⟨_, _, e, _⟩ => SqL.of e
    · rintro i x H3 hx ⟨x3, D3, e3, vs, ms, eM, iM, em, hn⟩
      obtain ⟨z, hz, rfl⟩ : ∃ z, ws[i]? = some z ∧ V.str z = x := by rw [List.getElem?_map] at hx; cases h : ws[i]? with | none => rw [h] at hx; cases hx | some z => rw [h] at hx; exact ⟨z, rfl, Option.some.inj hx⟩
      have okz := okW z (List.mem_of_getElem? hz)
      refine ⟨rfl, yes_if ⟨_, rfl, _, rfl, (by show 6 ≤ sizeLine; decide), fun p hp => ?_⟩⟩
      have s4 := same_upd hp (.lst (NW.map fun n : Nat => V.int (n : Int)))
      have D4 := D3.same s4
      obtain ⟨pd, pc⟩ := D3.free hp
      refine ⟨d, c, p, NW.map fun n : Nat => V.int (n : Int), rfl, D4, .inl upd_same, pd, pc, by decide, by decide, fun x H5 hx5 x5 D5 => ⟨(by show 2 ≤ sizeLine; decide), fun p2 hp2 => ?_⟩⟩
      obtain ⟨n, hnm, rfl⟩ := List.mem_map.mp hx5
      have s6 := same_upd hp2 (.tup [V.str z, V.int (n : Int)])
      have x36 := ((Ex.of s4).trans x5).trans (Ex.of s6)
      have eM6 := x36.but _ _ nMd nMc eM
      have hlen := iM.len
      rw [List.length_map] at hlen
      have lm : ms.length ≤ 5 := by have := congrArg List.length em; rw [List.length_map] at this; have h2 : (ws.take i).length ≤ ws.length := List.length_take_le' ..; omega
      refine ⟨vs, eM6, small1000 (by omega), Ex.own (x3.trans x36) fM _, (D5.same s6).own nMd nMc, by rw [upd_ne nWM]; exact x36.but _ _ nd nc e3, vs ++ [.ref p2], ms ++ [(z, n)], upd_same, ?_, ?_, fun m hm => ?_⟩
      · rw [List.map_append]
        exact IsL.over eM6 ((iM.ex x36 D3).append (.cons (.tup upd_same (.cons (.str z okz) (.cons (.int _) .nil))) .nil))
      · rw [List.map_append, em, List.take_add_one, hz]; rfl
      · rcases List.mem_append.mp hm with h | h
        · exact hn m h
        · rw [List.mem_singleton.mp h]; exact hnm
    rintro H3 ⟨x3, D3, e3, vm, ms, eM, iM, em, hn⟩
    rw [List.length_map, List.take_length] at em
    -- families
    refine ⟨fun σ H7 => ∃ (fl : Addr) (F : List Str), σ = [some (.ref d), none, some (.ref D), some (.ref M), some (.ref fl), none, none, none] ∧ Ex d c H3 H7 ∧ Dr H7 d c ∧ H7 fl = some (.lst (F.map V.str)) ∧ fl ≠ d ∧ fl ≠ c ∧ F.Sublist FW ∧ 1 ≤ F.length, ?_, ?_⟩
    · refine ⟨(by show 4 ≤ sizeLine; decide), fun p4 hp4 => ⟨p4, rfl, ⟨_, SqL.of upd_same⟩, fun G hG => ?_⟩⟩
      have s4 := same_upd hp4 (.lst ((["Nat", "V", "family", "maker"] : List Str).map V.str))
      have D4 := D3.same s4
      obtain ⟨p4d, p4c⟩ := D3.free hp4
      obtain ⟨nGd, nGc⟩ := D4.free hG
      have nGp : p4 ≠ G := ne_of_none upd_same hG
      have fG : H G = none := (x3.trans (.of s4)).none D4 hG
      have fG3 := s4.free hG
      refine lc_list (K := K) (a := p4) (xs := (["Nat", "V", "family", "maker"] : List Str).map V.str) (fun i H' => Ex d c H3 H' ∧ Dr H' d c ∧ H' p4 = some (.lst ((["Nat", "V", "family", "maker"] : List Str).map V.str)) ∧ ∃ zs : List Str, H' G = some (.lst (zs.map V.str)) ∧ zs.Sublist ((["Nat", "V", "family", "maker"] : List Str).take i)) ?_ ?_ ?_ ?_
      · exact ⟨(Ex.of s4).trans (.of (same_upd hG _)), D4.own nGd nGc, by rw [upd_ne nGp]; exact upd_same, [], upd_same, List.nil_sublist _⟩
      · exact fun i H2 _ ⟨_, _, e, _⟩ => SqL.of e
      · rintro i x H5 hx ⟨x5, D5, e5, zs, eG, hs4⟩
        obtain ⟨z, hz, rfl⟩ : ∃ z, (["Nat", "V", "family", "maker"] : List Str)[i]? = some z ∧ V.str z = x := by rw [List.getElem?_map] at hx; cases h : (["Nat", "V", "family", "maker"] : List Str)[i]? with | none => rw [h] at hx; cases hx | some z => rw [h] at hx; exact ⟨z, rfl, Option.some.inj hx⟩
        refine ⟨rfl, _, rfl, d, c, 3, rfl, D5, by omega, by omega, fun r H6 r0 r3 x6 D6 => ?_⟩
        have e6 := x6.but _ _ p4d p4c e5
        have eG6 := x6.but _ _ nGd nGc eG
        have x56 := x5.trans x6
        refine ⟨_, _, rfl, rfl, _, rfl, ite2 (fun _ => ⟨_, rfl, zs.map V.str, eG6, ?_, ?_, D6.own nGd nGc, by rw [upd_ne nGp]; exact e6, zs ++ [z], by rw [upd_same, List.map_append]; rfl, sub_step hs4 hz⟩) (fun _ => ⟨x56, D6, e6, zs, eG6, sub_skip hs4⟩)⟩
        · rw [List.length_map]
          exact small1000 (by have := hs4.length_le; have h2 : ((["Nat", "V", "family", "maker"] : List Str).take i).length ≤ 4 := List.length_take_le' .. ; omega)
        · exact Ex.own x56 fG3 _
      rintro H5 ⟨x5, D5, e5, zs, eG, hs4⟩
      rw [show ((["Nat", "V", "family", "maker"] : List Str).map V.str).length = (["Nat", "V", "family", "maker"] : List Str).length from rfl, List.take_length] at hs4
      refine ⟨(by show 1 ≤ sizeLine; decide), fun p6 hp6 => ?_⟩
      have s6 := same_upd hp6 (.lst ((["F3"] : List Str).map V.str))
      have lz : zs.length ≤ 4 := hs4.length_le
      refine ⟨G, p6, zs.map V.str, (["F3"] : List Str).map V.str, rfl, rfl, s6 _ _ eG, upd_same, by rw [List.length_map]; exact Nat.le_of_lt (small1000 (by simp; omega)), fun fl hfl => ?_⟩
      have s7 := same_upd hfl (.lst (zs.map V.str ++ (["F3"] : List Str).map V.str))
      have efl : upd (upd H5 p6 (.lst ((["F3"] : List Str).map V.str))) fl (.lst (zs.map V.str ++ (["F3"] : List Str).map V.str)) fl = some (.lst ((zs ++ (["F3"] : List Str)).map V.str)) := by rw [upd_same, List.map_append]
      obtain ⟨fd, fc⟩ := (D5.same s6).free hfl
      have fsub : (zs ++ (["F3"] : List Str)).Sublist FW := hs4.append (.refl _)
      exact ⟨fl, _, rfl, x5.trans (.of (s6.trans s7)), (D5.same s6).same s7, efl, fd, fc, fsub, by simp⟩
    rintro σ H7 ⟨fl, F, rfl, x57, D7, efl, fd, fc, fsub, F1⟩
    have x7 := x3.trans x57
    have eW7 := x57.but _ _ nd nc e3
    have eM7 := x57.but _ _ nMd nMc eM
    have iM7 := iM.ex x57 D3
    have okF : ∀ z ∈ F, sok z = true := fun z hz => (by decide +kernel : ∀ z ∈ FW, sok z = true) z (fsub.subset hz)
    have F5 : F.length ≤ 5 := fsub.length_le
    refine ⟨by decide, fun cl hcl => ?_⟩
    have s8 := same_upd hcl (.lst [])
    obtain ⟨cd, cc⟩ := D7.free hcl
    have ncl : ∀ {b : Addr} {o : HO}, H7 b = some o → b ≠ cl := fun e q => by rw [q, hcl] at e; cases e
    have fcl : H cl = none := x7.none D7 hcl
    have D8 := D7.same s8
    refine ⟨(by show 6 ≤ sizeLine; decide), fun p9 hp9 => ⟨p9, rfl, ⟨_, SqL.of upd_same⟩, ?_⟩⟩
    have s9 := same_upd hp9 (.lst (CW.map V.str))
    obtain ⟨p9d, p9c⟩ := D8.free hp9
    have np9 : cl ≠ p9 := ne_of_none upd_same hp9
    refine for_list (K := K) (a := p9) (xs := CW.map V.str) (fun i σ H' => ∃ (y1 y6 y7 : Option V) (vs : List V) (cns : List Cn), σ = [some (.ref d), y1, some (.ref D), some (.ref M), some (.ref fl), some (.ref cl), y6, y7] ∧ Ex d c H H' ∧ Dr H' d c ∧ H' D = some (.lst (ws.map V.str)) ∧ H' M = some (.lst vm) ∧ IsL H' vm (ms.map mkP) ∧ H' fl = some (.lst (F.map V.str)) ∧ H' p9 = some (.lst (CW.map V.str)) ∧
      H' cl = some (.lst vs) ∧ IsL H' vs (cns.map cnP) ∧ (cns.map (·.w)).Sublist (CW.take i) ∧ ∀ c ∈ cns, CnOk F ws c) ?_ ?_ ?_ ?_
    · exact ⟨_, _, _, [], [], rfl, x7.trans (.of (s8.trans s9)), D8.same s9, s9 _ _ (s8 _ _ eW7), s9 _ _ (s8 _ _ eM7), iM7.same (s8.trans s9), s9 _ _ (s8 _ _ efl), upd_same, s9 _ _ upd_same, .nil, List.nil_sublist _, by simp⟩
    · exact fun i σ H' _ ⟨_, _, _, _, _, _, _, _, _, _, _, _, e, _⟩ => SqL.of e
    · rintro i x σ Ha hx ⟨y1, y6, y7, vs, cns, rfl, xa, Da, eWa, eMa, iMa, efa, ep9, ecl, icl, hsub, hc⟩
      obtain ⟨z, hz, rfl⟩ : ∃ z, CW[i]? = some z ∧ V.str z = x := by rw [List.getElem?_map] at hx; cases h : CW[i]? with | none => rw [h] at hx; cases hx | some z => rw [h] at hx; exact ⟨z, rfl, Option.some.inj hx⟩
      have okz : sok z = true := (by decide +kernel : ∀ z ∈ CW, sok z = true) z (List.mem_of_getElem? hz)
      refine ⟨_, rfl, d, c, 3, rfl, Da, by omega, by omega, fun r0 Hb _ _ xb Db => ?_⟩
      have base : ∀ {H'}, Ex d c Ha H' → Dr H' d c → H' D = some (.lst (ws.map V.str)) ∧ H' M = some (.lst vm) ∧ IsL H' vm (ms.map mkP) ∧ H' fl = some (.lst (F.map V.str)) ∧ H' p9 = some (.lst (CW.map V.str)) ∧ H' cl = some (.lst vs) ∧ IsL H' vs (cns.map cnP) := fun {H'} x D' =>
        ⟨x.but _ _ nd nc eWa, x.but _ _ nMd nMc eMa, iMa.ex x Da, x.but _ _ fd fc efa, x.but _ _ p9d p9c ep9, x.but _ _ cd cc ecl, icl.ex x Da⟩
      refine ⟨_, _, rfl, rfl, _, rfl, ite2 (fun _ => ?_) (fun _ => ?_)⟩
      · obtain ⟨b1, b2, b3, b4, b5, b6, b7⟩ := base xb Db
        refine ⟨_, rfl, _, rfl, _, rfl, (by show 3 ≤ sizeLine; decide), fun pn hpn => ⟨_, rfl, d, c, 4, rfl, Db.same (same_upd hpn _), by omega, by omega, fun r Hc r0 r4 xc Dc => ?_⟩⟩
        have sn := same_upd hpn (.lst (KN.map V.str))
        have xac := (xb.trans (.of sn)).trans xc
        obtain ⟨c1, c2, c3, c4, c5, c6, c7⟩ := base xac Dc
        refine ⟨d, c, fl, D, pn, F, ws, KN, r.toNat, by rw [show V.int r = V.int ((r.toNat : Nat) : Int) by rw [Int.toNat_of_nonneg r0]]; rfl, Dc, .inl c4, fd, fc, okF, ⟨c1, nd, nc, okW⟩, (zl_new (zs := KN) Db hpn (by decide +kernel)).ex xc, F1, by omega, by omega, by decide, by decide, by omega, fun v ks Hd iv lk hk xd Dd => ?_⟩
        have xad := xac.trans xd
        obtain ⟨d1, d2, d3, d4, d5, d6, d7⟩ := base xad Dd
        refine ⟨_, rfl, _, rfl, _, rfl, (by show 3 ≤ sizeLine; decide), fun pn2 hpn2 => ?_⟩
        have sn2 := same_upd hpn2 (.lst (KN.map V.str))
        obtain ⟨e1, e2, e3, e4, e5, e6, e7⟩ := base (xad.trans (.of sn2)) (Dd.same sn2)
        refine ⟨d, c, fl, D, pn2, F, ws, KN, 1, rfl, Dd.same sn2, .inl e4, fd, fc, okF, ⟨e1, nd, nc, okW⟩, zl_new (zs := KN) Dd hpn2 (by decide +kernel), F1, by omega, by omega, by decide, by decide, by omega, fun v2 ks2 He iv2 lk2 hk2 xe De => ?_⟩
        obtain ⟨k0, rfl⟩ : ∃ k, ks2 = [k] := by match ks2, lk2 with | [k], _ => exact ⟨k, rfl⟩
        obtain ⟨pa, va, rfl, ea, ia⟩ := iv2.tup_inv
        obtain ⟨x0, rfl⟩ : ∃ x, va = [x] := by have := ia.len; match va, this with | [x], _ => exact ⟨x, rfl⟩
        cases ia with
        | cons ix0 _ =>
        have xae := (xad.trans (.of sn2)).trans xe
        obtain ⟨f1, f2, f3, f4, f5, f6, f7⟩ := base xae De
        refine ⟨pa, _, _, _, rfl, rfl, .inl (.inl ea), atI_nat (j := 0) rfl, ?_⟩
        obtain ⟨pk, vk, rfl, ek, ik⟩ := ix0.tup_inv
        obtain ⟨u1, u2, rfl⟩ : ∃ a b, vk = [a, b] := by have := ik.len; match vk, this with | [a, b], _ => exact ⟨a, b, rfl⟩
        have iw : Is He u1 (.str k0.fam) := by cases ik with | cons h _ => exact h
        have it : Is He u2 k0.tm := by cases ik with | cons _ h => cases h with | cons h _ => exact h
        have ev : Is He v (.tup (ks.map kdP)) := (iv.ex (Ex.of sn2) Dd).ex xe (Dd.same sn2)
        refine ⟨_, rfl, .inl ⟨rfl, _, SqL.of f6⟩, _, rfl, _, rfl, _, rfl, pk, _, _, _, rfl, rfl, .inl (.inl ek), atI_nat (j := 0) rfl, _, rfl, pk, _, _, _, rfl, rfl, .inl (.inl ek), atI_nat (j := 1) rfl, (by show 4 ≤ sizeLine; decide), fun p3 hp3 => ?_⟩
        have s3 := same_upd hp3 (.tup [V.str z, v, u1, u2])
        have xf := xae.trans (Ex.of s3)
        have Df := De.same s3
        obtain ⟨g1, g2, g3, g4, g5, g6, g7⟩ := base xf Df
        have hlen := icl.len
        rw [List.length_map] at hlen
        have l6 : cns.length ≤ 6 := by have := hsub.length_le; rw [List.length_map] at this; have h2 : (CW.take i).length ≤ 6 := List.length_take_le' ..; omega
        refine ⟨cl, vs, _, rfl, rfl, g6, small1000 (by omega), _, _, _, vs ++ [.ref p3], cns ++ [⟨z, ks, k0⟩], rfl, Ex.own (xa.trans xf) fcl _, Df.own cd cc, ?_, ?_, IsL.over g6 g3, ?_, ?_, upd_same, ?_, ?_, fun c' hc' => ?_⟩
        · rw [upd_ne (ncl eW7)]; exact g1
        · rw [upd_ne (ncl eM7)]; exact g2
        · rw [upd_ne (ncl efl)]; exact g4
        · rw [upd_ne np9.symm]; exact g5
        · rw [List.map_append]
          exact IsL.over g6 (g7.append (.cons (.tup upd_same (.cons (.str z okz) (.cons (ev.same s3) (.cons (iw.same s3) (.cons (it.same s3) .nil))))) .nil))
        · rw [List.map_append]
          exact sub_step hsub hz
        · rcases List.mem_append.mp hc' with h | h
          · exact hc c' h
          · rw [List.mem_singleton.mp h]
            exact ⟨List.mem_of_getElem? hz, hk, by show ks.length ≤ 3; omega, hk2 k0 (by simp)⟩
      · obtain ⟨b1, b2, b3, b4, b5, b6, b7⟩ := base xb Db
        exact ⟨_, _, _, vs, cns, rfl, xa.trans xb, Db, b1, b2, b3, b4, b5, b6, b7, sub_skip hsub, hc⟩
    · rintro σ Ha ⟨y1, y6, y7, vs, cns, rfl, xa, Da, eWa, eMa, iMa, efa, ep9, ecl, icl, hsub, hc⟩
      rw [show (CW.map V.str).length = CW.length from rfl, List.take_length] at hsub
      refine ⟨_, rfl, M, vm, rfl, .inl ⟨SqL.of eMa, fun l1 hl1 => ⟨_, rfl, fl, F.map V.str, rfl, .inl ⟨SqL.of (same_upd hl1 _ _ _ efa), fun l2 hl2 => ⟨_, rfl, cl, vs, rfl, .inl ⟨SqL.of (same_upd hl2 _ _ _ (same_upd hl1 _ _ _ ecl)), fun l3 hl3 => ⟨(by show 4 ≤ sizeLine; decide), fun p hp => ?_⟩⟩⟩⟩⟩⟩⟩
      have t1 := same_upd hl1 (.tup vm)
      have t2 := same_upd hl2 (.tup (F.map V.str))
      have t3 := same_upd hl3 (.tup vs)
      have t4 := same_upd hp (.tup [V.str "table", .ref l1, .ref l2, .ref l3])
      have i1 : Is (upd Ha l1 (.tup vm)) (.ref l1) (.tup (ms.map mkP)) := .tup upd_same (iMa.same t1)
      have i2 : Is (upd (upd Ha l1 (.tup vm)) l2 (.tup (F.map V.str))) (.ref l2) (.tup (F.map PV.str)) := .tup upd_same (strsL okF)
      have i3 : Is (upd (upd (upd Ha l1 (.tup vm)) l2 (.tup (F.map V.str))) l3 (.tup vs)) (.ref l3) (.tup (cns.map cnP)) := .tup upd_same (icl.same ((t1.trans t2).trans t3))
      refine q _ ⟨ms, F, cns⟩ _ (.tup upd_same (.cons (.str _ (by decide +kernel)) (.cons (i1.same ((t2.trans t3).trans t4)) (.cons (i2.same (t3.trans t4)) (.cons (i3.same t4) .nil))))) ?_ (xa.trans (.of (((t1.trans t2).trans t3).trans t4))) (((((Da.same t1).same t2).same t3).same t4))
      exact ⟨by show (ms.map (·.1)).Sublist MW; rw [em]; exact hs, hn, fsub, F1, hsub, fun c hc' => by show CnOk F (ms.map (·.1)) c; rw [em]; exact hc c hc'⟩
end
end Kx
namespace Kx
open PySem PySem.Spec PyProof.Rows L2
section
variable {P : Program} {w : World} {K : PySem.W.Frag} {mg : Str → Option Value} {base : Heap}
set_option pp.maxSteps 1500
theorem strs_inv {H : Hp} : ∀ {zs : List Str} {vs : List V}, IsL H vs (zs.map PV.str) → vs = zs.map V.str
  | [], _, .nil => rfl
  | z :: r, _, .cons a b => by rw [a.str_inv, strs_inv b]; rfl
/-- the four parts of a table -/
theorem tab_inv {H : Hp} {tv : V} {t : Tb} (h : Is H tv (tabP t)) : ∃ (a m f k : Addr) (vm vk : List V), tv = .ref a ∧ H a = some (.tup [.str "table", .ref m, .ref f, .ref k]) ∧ H m = some (.tup vm) ∧ IsL H vm (t.mks.map mkP) ∧ H f = some (.tup (t.fams.map V.str)) ∧ H k = some (.tup vk) ∧ IsL H vk (t.cns.map cnP) := by
  obtain ⟨a, vs, rfl, ea, hl⟩ := h.tup_inv
  cases hl with
  | cons h0 hl =>
  cases hl with
  | cons h1 hl =>
  cases hl with
  | cons h2 hl =>
  cases hl with
  | cons h3 hl =>
  cases hl
  cases h0.str_inv
  obtain ⟨m, vm, rfl, em, im⟩ := h1.tup_inv
  obtain ⟨f, vf, rfl, ef, jf⟩ := h2.tup_inv
  obtain ⟨k, vk, rfl, ek, ik⟩ := h3.tup_inv
  cases strs_inv jf
  exact ⟨a, m, f, k, vm, vk, rfl, ea, em, im, ef, ek, ik⟩
theorem mem_at {H : Hp} {vs : List V} {ts : List PV} (h : IsL H vs ts) {i : Nat} {x : V} (e : vs[i]? = some x) : ∃ t, ts[i]? = some t ∧ Is H x t := h.get e
def spProg : Sp := fun vs H Q _ => ∃ (d c : Addr) (tv : V) (t : Tb), vs = [.ref d, tv] ∧ Dr H d c ∧ Is H tv (tabP t) ∧ TbOk t ∧ ∀ v (fs : List Fn) H', Is H' v (prgP fs) → (∀ f ∈ fs, FnOkk t f) → (fs.map (·.w)).Sublist GW → Ex d c H H' → Dr H' d c → Q v H'
theorem lit_get {zs : List Str} {i : Nat} {x : V} (hx : (zs.map V.str)[i]? = some x) : ∃ z, zs[i]? = some z ∧ V.str z = x := by
  rw [List.getElem?_map] at hx
  cases h : zs[i]? with
  | none => rw [h] at hx; cases hx
  | some z => rw [h] at hx; exact ⟨z, rfl, Option.some.inj hx⟩
theorem ok_law_program (T : Txt K mg) (G_law_draw : FnOk P w K mg base CX0 1 T.a_law_draw T.d_law_draw ["state", "many"] spDraw) (G_law_types : FnOk P w K mg base CX0 6 T.a_law_types T.d_law_types ["state", "families", "makers", "names", "many"] (spTypes (K := K))) (G_law_clause : FnOk P w K mg base CX0 6 T.a_law_clause T.d_law_clause ["state", "constructors", "many"] spClause) : FnOk P w K mg base CX0 7 T.a_law_program T.d_law_program ["state", "table"] spProg := by
  refine T.F_law_program.ok sc_law_program (fun vs H Q E h => ?_) (fun cdv A outer s H vs Q E hr h => ?_)
  · obtain ⟨d, c, tv, t, rfl, _⟩ := h; rfl
  · obtain ⟨d, c, tv, t, rfl, hD, hI, hT, q⟩ := h
    have hr_law_draw : Room 1 _ := hr.mono (by decide)
    have hr_law_types : Room 6 _ := hr
    have hr_law_clause : Room 6 _ := hr
    refine ⟨_, (pss_cons (ps_setLc (i := 2) (own := [("maker", 10)]) (g := (gName 10)) (tt := tYes) rfl sc_law_program.nd rfl rfl (sw_true rfl rfl rfl (by decide +kernel)) (pi_tup (pe_ix ix_tup (pv 1) pe_int (fun _ _ => rfl))) (blkOk_by (own := [("maker", 10)]) (N := ["state", "table", "makers", "constructors", "functions", "word", "many", "params", "told", "clauses", "maker", "one", "k"]) (sc := defScope s_law_program) (by decide +kernel)) (fun _ _ _ _ _ => (pg_name (i := 10) sc_law_program.nd rfl (Or.inl rfl))) (fun _ _ _ _ _ => pts_nil) (fun _ _ _ _ _ => (pe_ix (ixTK (K := K)) (pv 10) pe_int (fun _ _ => rfl))))
    (pss_cons (ps_set (i := 3) sc_law_program.nd rfl (Or.inr rfl) (pe_lc (own := [("one", 11)]) (g := (gName 11)) (tt := tYes) rfl sc_law_program.nd (pi_tup (pe_ix ix_tup (pv 1) pe_int (fun _ _ => rfl))) (blkOk_by (own := [("one", 11)]) (N := ["state", "table", "makers", "constructors", "functions", "word", "many", "params", "told", "clauses", "maker", "one", "k"]) (sc := defScope s_law_program) (by decide +kernel)) (fun _ _ _ _ _ => (pg_name (i := 11) sc_law_program.nd rfl (Or.inl rfl))) (fun _ _ _ _ _ => pts_nil) (fun _ _ _ _ _ => (pe_ix (ixTK (K := K)) (pv 11) pe_int (fun _ _ => rfl)))))
    (pss_cons (ps_set (i := 4) sc_law_program.nd rfl (Or.inl rfl) (pe_lst pa_nil))
    (pss_cons (ps_for PassesOwn.never rfl (pi_list (pe_lst (pa_cons pe_str (pa_cons pe_str (pa_cons pe_str pa_nil))))) (pg_name (i := 5) sc_law_program.nd rfl (Or.inl rfl))
    (pss_one (ps_if (pt_cmpR op_gt (pe_call G_law_draw hr_law_draw rfl T.m_law_draw T.F_law_draw.kp T.b_law_draw .nil pass0 (pa_cons (pv 0) (pa_cons pe_int pa_nil))) pe_int (nomark _)) (pss_cons (ps_set (i := 6) sc_law_program.nd rfl (Or.inr rfl) (pe_op op_add pe_int (pe_call G_law_draw hr_law_draw rfl T.m_law_draw T.F_law_draw.kp T.b_law_draw .nil pass0 (pa_cons (pv 0) (pa_cons pe_int pa_nil)))))
    (pss_cons (ps_set (i := 7) sc_law_program.nd rfl (Or.inl rfl) (pe_call G_law_types hr_law_types rfl T.m_law_types T.F_law_types.kp T.b_law_types .nil pass0 (pa_cons (pv 0) (pa_cons (pe_ix ix_tup (pv 1) pe_int (fun _ _ => rfl)) (pa_cons (pv 2) (pa_cons (pe_lst (pa_cons pe_str (pa_cons pe_str (pa_cons pe_str pa_nil)))) (pa_cons (pv 6) pa_nil)))))))
    (pss_cons (ps_set (i := 8) sc_law_program.nd rfl (Or.inl rfl) (pe_ix ix_tup (pe_call G_law_types hr_law_types rfl T.m_law_types T.F_law_types.kp T.b_law_types .nil pass0 (pa_cons (pv 0) (pa_cons (pe_ix ix_tup (pv 1) pe_int (fun _ _ => rfl)) (pa_cons (pv 2) (pa_cons (pe_lst (pa_cons pe_str (pa_cons pe_str (pa_cons pe_str pa_nil)))) (pa_cons pe_int pa_nil)))))) pe_int (fun _ _ => rfl)))
    (pss_cons (ps_set (i := 9) sc_law_program.nd rfl (Or.inl rfl) (pe_callTy call_tuple_of (by rfl) T.z_tuple (by decide +kernel) (pa_cons (pe_lc (own := [("k", 12)]) (g := (gName 12)) (tt := tYes) rfl sc_law_program.nd (pi_range1 (by rfl) T.z_range (pa_cons (pe_call G_law_draw hr_law_draw rfl T.m_law_draw T.F_law_draw.kp T.b_law_draw .nil pass0 (pa_cons (pv 0) (pa_cons pe_int pa_nil))) pa_nil)) (blkOk_by (own := [("k", 12)]) (N := ["state", "table", "makers", "constructors", "functions", "word", "many", "params", "told", "clauses", "maker", "one", "k"]) (sc := defScope s_law_program) (by decide +kernel)) (fun _ _ _ _ _ => (pg_name (i := 12) sc_law_program.nd rfl (Or.inl rfl))) (fun _ _ _ _ _ => pts_nil) (fun _ _ _ _ _ => (pe_call G_law_clause hr_law_clause rfl T.m_law_clause T.F_law_clause.kp T.b_law_clause .nil pass0 (pa_cons (pv 0) (pa_cons (pv 3) (pa_cons (pv 6) pa_nil)))))) pa_nil)))
    (pss_one (ps_expr (pe_bm PySem.F.plainAttrs_list PySem.F.slot_list_append PySem.F.type_list_append mt_append (pv 4) (pa_cons (pe_tup (pa_cons (pv 5) (pa_cons (pv 7) (pa_cons (pe_ix ix_tup (pv 8) pe_int (fun _ _ => rfl)) (pa_cons (pe_ix ix_tup (pv 8) pe_int (fun _ _ => rfl)) (pa_cons (pe_call G_law_draw hr_law_draw rfl T.m_law_draw T.F_law_draw.kp T.b_law_draw .nil pass0 (pa_cons (pv 0) (pa_cons pe_int pa_nil))) (pa_cons (pv 9) pa_nil))))))) pa_nil)))))))) pss_nil)))
    (pss_one (ps_ret (pe_tup (pa_cons pe_str (pa_cons (pe_callTy call_tuple_of (by rfl) T.z_tuple (by decide +kernel) (pa_cons (pv 4) pa_nil)) pa_nil))))))))), ?_⟩
    obtain ⟨a, m, f, k, vm, vk, rfl, ea, em, im, ef, ek, ik⟩ := tab_inv hI
    have lM : t.mks.length ≤ 5 := by have := hT.mw.length_le; unfold Tb.mw at this; rw [List.length_map] at this; exact this
    have lC : t.cns.length ≤ 6 := by have := hT.cw.length_le; unfold Tb.cw at this; rw [List.length_map] at this; exact this
    have okW : ∀ z ∈ t.mw, sok z = true := fun z hz => (by decide +kernel : ∀ z ∈ MW, sok z = true) z (hT.mw.subset hz)
    have okC : ∀ z ∈ t.cw, sok z = true := fun z hz => (by decide +kernel : ∀ z ∈ CW, sok z = true) z (hT.cw.subset hz)
    have okF : ∀ z ∈ t.fams, sok z = true := fun z hz => (by decide +kernel : ∀ z ∈ FW, sok z = true) z (hT.fw.subset hz)
    have F5 : t.fams.length ≤ 5 := hT.fw.length_le
    have hlm := im.len
    have hlk := ik.len
    rw [List.length_map] at hlm hlk
    refine ⟨_, rfl, a, _, _, _, rfl, rfl, .inl (.inl ea), atI_nat (j := 1) rfl, m, rfl, ⟨_, .inl (.inl em)⟩, fun D hDn => ?_⟩
    refine lc_tup (K := K) (a := m) (xs := vm) (fun i H' => Same H H' ∧ H' D = some (.lst ((t.mw.take i).map V.str))) ?_ ?_ ?_ ?_
    · exact ⟨same_upd hDn _, upd_same⟩
    · exact fun i H' _ ⟨s, _⟩ => .inl (.inl (s _ _ em))
    · rintro i x H1 hx ⟨s1, e1⟩
      obtain ⟨y, hy, iy⟩ := (im.same s1).get hx
      rw [List.getElem?_map] at hy
      obtain ⟨mk, hmk, rfl⟩ : ∃ mk, t.mks[i]? = some mk ∧ mkP mk = y := by cases h : t.mks[i]? with | none => rw [h] at hy; cases hy | some z => rw [h] at hy; exact ⟨z, rfl, Option.some.inj hy⟩
      obtain ⟨p, us, rfl, ep, iu⟩ := iy.tup_inv
      cases iu with
      | cons h0 _ =>
      cases h0.str_inv
      have hi := (List.getElem?_eq_some_iff.mp hx).1
      refine ⟨rfl, yes_if ⟨_, rfl, p, _, _, _, rfl, rfl, .inl (.inl ep), atI_nat (j := 0) rfl, _, e1, ?_, Kx.Same.own s1 hDn _, ?_⟩⟩
      · rw [List.length_map]; exact small1000 (by have : (t.mw.take i).length ≤ i := List.length_take_le ..; omega)
      · rw [upd_same, List.take_add_one, show t.mw[i]? = some mk.1 by unfold Tb.mw; rw [List.getElem?_map, hmk]; rfl, List.map_append]; rfl
    rintro H1 ⟨s1, e1⟩
    rw [show t.mw.take vm.length = t.mw by rw [hlm, ← List.length_map (f := fun x : Str × Nat => x.1)]; exact List.take_length] at e1
    have D1 := hD.same s1
    refine ⟨_, rfl, a, _, _, _, rfl, rfl, .inl (.inl (s1 _ _ ea)), atI_nat (j := 3) rfl, k, rfl, ⟨_, .inl (.inl (s1 _ _ ek))⟩, fun C hCn => ?_⟩
    refine lc_tup (K := K) (a := k) (xs := vk) (fun i H' => Same H1 H' ∧ H' C = some (.lst ((t.cw.take i).map V.str))) ?_ ?_ ?_ ?_
    · exact ⟨same_upd hCn _, upd_same⟩
    · exact fun i H' _ ⟨s, _⟩ => .inl (.inl (s _ _ (s1 _ _ ek)))
    · rintro i x H2 hx ⟨s2, e2⟩
      obtain ⟨y, hy, iy⟩ := (ik.same (s1.trans s2)).get hx
      rw [List.getElem?_map] at hy
      obtain ⟨mk, hmk, rfl⟩ : ∃ mk, t.cns[i]? = some mk ∧ cnP mk = y := by cases h : t.cns[i]? with | none => rw [h] at hy; cases hy | some z => rw [h] at hy; exact ⟨z, rfl, Option.some.inj hy⟩
      obtain ⟨p, us, rfl, ep, iu⟩ := iy.tup_inv
      cases iu with
      | cons h0 _ =>
      cases h0.str_inv
      have hi := (List.getElem?_eq_some_iff.mp hx).1
      refine ⟨rfl, yes_if ⟨_, rfl, p, _, _, _, rfl, rfl, .inl (.inl ep), atI_nat (j := 0) rfl, _, e2, ?_, Kx.Same.own s2 hCn _, ?_⟩⟩
      · rw [List.length_map]; exact small1000 (by have : (t.cw.take i).length ≤ i := List.length_take_le ..; omega)
      · rw [upd_same, List.take_add_one, show t.cw[i]? = some mk.w by unfold Tb.cw; rw [List.getElem?_map, hmk]; rfl, List.map_append]; rfl
    rintro H2 ⟨s2, e2⟩
    rw [show t.cw.take vk.length = t.cw by rw [hlk, ← List.length_map (f := fun x : Cn => x.w)]; exact List.take_length] at e2
    have D2 := D1.same s2
    obtain ⟨nDd, nDc⟩ := hD.free hDn
    obtain ⟨nCd, nCc⟩ := D1.free hCn
    refine ⟨by decide, fun cl hcl => ?_⟩
    have s3 := same_upd hcl (.lst [])
    obtain ⟨cd, cc⟩ := D2.free hcl
    have s12 := s1.trans s2
    have fcl : H cl = none := s12.free hcl
    have ncl : ∀ {b : Addr} {o : HO}, H2 b = some o → b ≠ cl := fun e q => by rw [q, hcl] at e; cases e
    have D3 := D2.same s3
    refine ⟨(by show 3 ≤ sizeLine; decide), fun p9 hp9 => ⟨p9, rfl, ⟨_, SqL.of upd_same⟩, ?_⟩⟩
    have s9 := same_upd hp9 (.lst (GW.map V.str))
    obtain ⟨p9d, p9c⟩ := D3.free hp9
    have np9 : cl ≠ p9 := ne_of_none upd_same hp9
    have e1' := s2 _ _ e1
    refine for_list (K := K) (a := p9) (xs := GW.map V.str) (fun i σ H' => ∃ (y5 y6 y7 y8 y9 : Option V) (vs : List V) (fs : List Fn), σ = [some (.ref d), some (.ref a), some (.ref D), some (.ref C), some (.ref cl), y5, y6, y7, y8, y9, none, none, none] ∧ Ex d c H H' ∧ Dr H' d c ∧ H' D = some (.lst (t.mw.map V.str)) ∧ H' C = some (.lst (t.cw.map V.str)) ∧ H' p9 = some (.lst (GW.map V.str)) ∧
      H' cl = some (.lst vs) ∧ IsL H' vs (fs.map fnP) ∧ (fs.map (·.w)).Sublist (GW.take i) ∧ ∀ f ∈ fs, FnOkk t f) ?_ ?_ ?_ ?_
    · exact ⟨_, _, _, _, _, [], [], rfl, .of (s12.trans (s3.trans s9)), D3.same s9, s9 _ _ (s3 _ _ e1'), s9 _ _ (s3 _ _ e2), upd_same, s9 _ _ upd_same, .nil, List.nil_sublist _, by simp⟩
    · exact fun i σ H' _ ⟨_, _, _, _, _, _, _, _, _, _, _, _, e, _⟩ => SqL.of e
    · rintro i x σ Ha hx ⟨y5, y6, y7, y8, y9, vs, fs, rfl, xa, Da, eDa, eCa, ep9, ecl, icl, hsub, hf⟩
      obtain ⟨z, hz, rfl⟩ := lit_get hx
      have okz : sok z = true := (by decide +kernel : ∀ z ∈ GW, sok z = true) z (List.mem_of_getElem? hz)
      have base : ∀ {H'}, Ex d c Ha H' → Dr H' d c → H' D = some (.lst (t.mw.map V.str)) ∧ H' C = some (.lst (t.cw.map V.str)) ∧ H' p9 = some (.lst (GW.map V.str)) ∧ H' cl = some (.lst vs) ∧ IsL H' vs (fs.map fnP) := fun {H'} x D' =>
        ⟨x.but _ _ nDd nDc eDa, x.but _ _ nCd nCc eCa, x.but _ _ p9d p9c ep9, x.but _ _ cd cc ecl, icl.ex x Da⟩
      have tb : ∀ {H'}, Ex d c Ha H' → SqT K H' a [.str "table", .ref m, .ref f, .ref k] ∧ SqT K H' f (t.fams.map V.str) := fun {H'} x => ⟨.inl (.inl ((xa.trans x).keep hD ea fun xs q => by cases q)), .inl (.inl ((xa.trans x).keep hD ef fun xs q => by cases q))⟩
      refine ⟨_, rfl, d, c, 3, rfl, Da, by omega, by omega, fun r0 Hb _ _ xb Db => ?_⟩
      obtain ⟨b1, b2, b3, b4, b5⟩ := base xb Db
      have fd : f ≠ d := fun e => by
        obtain ⟨⟨xs, h1⟩, _⟩ := hD.lst
        rw [← e, ef] at h1; cases h1
      have fc : f ≠ c := fun e => by
        obtain ⟨_, ⟨xs, h1⟩⟩ := hD.lst
        rw [← e, ef] at h1; cases h1
      refine ⟨_, _, rfl, rfl, _, rfl, ite2 (fun _ => ?_) (fun _ => ⟨_, _, _, _, _, vs, fs, rfl, xa.trans xb, Db, b1, b2, b3, b4, b5, sub_skip hsub, hf⟩)⟩
      refine ⟨_, rfl, d, c, 3, rfl, Db, by omega, by omega, fun r Hc r0 r3 xc Dc => ⟨_, _, rfl, rfl, ?_⟩⟩
      have xac := xb.trans xc
      obtain ⟨t1, t2⟩ := tb xac
      refine ⟨_, rfl, _, rfl, a, _, _, _, rfl, rfl, t1, atI_nat (j := 2) rfl, _, rfl, (by show 3 ≤ sizeLine; decide), fun pn hpn => ⟨_, rfl, ?_⟩⟩
      have sn := same_upd hpn (.lst (KN.map V.str))
      have xad := xac.trans (.of sn)
      have Dd := Dc.same sn
      obtain ⟨d1, d2, d3, d4, d5⟩ := base xad Dd
      have hn : (1 + r) = ((1 + r).toNat : Int) := by omega
      refine ⟨d, c, f, D, pn, t.fams, t.mw, KN, (1 + r).toNat, congrArg (fun i => [V.ref d, V.ref f, V.ref D, V.ref pn, V.int i]) hn, Dd, .inr (tb xad).2, fd, fc, okF, ⟨d1, nDd, nDc, okW⟩, zl_new (zs := KN) Dc hpn (by decide +kernel), hT.f1, by omega, by unfold Tb.mw; rw [List.length_map]; omega, by decide, by decide, by omega, fun v ks He iv lk hk xe De => ?_⟩
      have xae := xad.trans xe
      refine ⟨_, rfl, _, rfl, a, _, _, _, rfl, rfl, (tb xae).1, atI_nat (j := 2) rfl, _, rfl, (by show 3 ≤ sizeLine; decide), fun pn2 hpn2 => ?_⟩
      have sn2 := same_upd hpn2 (.lst (KN.map V.str))
      have xaf := xae.trans (.of sn2)
      have Df := De.same sn2
      obtain ⟨f1, f2, f3, f4, f5⟩ := base xaf Df
      refine ⟨d, c, f, D, pn2, t.fams, t.mw, KN, 1, rfl, Df, .inr (tb xaf).2, fd, fc, okF, ⟨f1, nDd, nDc, okW⟩, zl_new (zs := KN) De hpn2 (by decide +kernel), hT.f1, by omega, by unfold Tb.mw; rw [List.length_map]; omega, by decide, by decide, by omega, fun v2 ks2 Hg iv2 lk2 hk2 xg Dg => ?_⟩
      obtain ⟨k0, rfl⟩ : ∃ k, ks2 = [k] := by match ks2, lk2 with | [k], _ => exact ⟨k, rfl⟩
      obtain ⟨pa, va, rfl, ea2, ia⟩ := iv2.tup_inv
      obtain ⟨x0, rfl⟩ : ∃ x, va = [x] := by have := ia.len; match va, this with | [x], _ => exact ⟨x, rfl⟩
      cases ia with
      | cons ix0 _ =>
      have xag := xaf.trans xg
      obtain ⟨g1, g2, g3, g4, g5⟩ := base xag Dg
      refine ⟨pa, _, _, _, rfl, rfl, .inl (.inl ea2), atI_nat (j := 0) rfl, ?_⟩
      have evg : Is Hg v (.tup (ks.map kdP)) := (iv.ex (Ex.of sn2) De).ex xg Df
      refine ⟨_, rfl, d, c, 3, rfl, Dg, by omega, by omega, fun r2 Hh q0 q3 xh Dh => ⟨r2, rfl, by omega, by omega, fun L hL => ?_⟩⟩
      have xah := xag.trans xh
      obtain ⟨nLd, nLc⟩ := Dh.free hL
      refine lc_range (lo := 0) (n := r2.toNat) (fun i H' => Ex d c Hh H' ∧ Dr H' d c ∧ ∃ vs, ∃ cs : List Cl, H' L = some (.lst vs) ∧ IsL H' vs (cs.map clP) ∧ (∀ x ∈ cs, ClOk t.cw ks.length x) ∧ cs.length = i) ?_ ?_ ?_
      · exact ⟨.of (same_upd hL _), Dh.own nLd nLc, [], [], upd_same, .nil, by simp, rfl⟩
      · intro i H3 hi ⟨x3, D3, ws, cs, eL, iL, hcs, hl⟩
        obtain ⟨h1, h2, h3, h4, h5⟩ := base (xah.trans x3) D3
        refine ⟨rfl, yes_if ⟨_, rfl, _, rfl, _, rfl, d, c, C, t.cw, (1 + r).toNat, congrArg (fun i => [V.ref d, V.ref C, V.int i]) hn, D3, ⟨h2, nCd, nCc, okC⟩, by unfold Tb.cw; rw [List.length_map]; omega, by omega, fun v ps b H4 iv4 lp hp hb x4 D4 => ?_⟩⟩
        have eL4 := x4.but _ _ nLd nLc eL
        have hlen := iL.len
        rw [List.length_map] at hlen
        refine ⟨ws, eL4, small1000 (by omega), Ex.own (x3.trans x4) hL _, D4.own nLd nLc, ws ++ [v], cs ++ [⟨ps, b⟩], upd_same, ?_, fun x hx => ?_, by rw [List.length_append, hl]; rfl⟩
        · rw [List.map_append]; exact IsL.over eL4 ((iL.ex x4 D3).append (.cons iv4 .nil))
        · rcases List.mem_append.mp hx with h | h
          · exact hcs x h
          · rw [List.mem_singleton.mp h]; exact ⟨by show ps.length = ks.length; omega, hp, hb⟩
      intro H3 ⟨x3, D3, ws, cs, eL, iL, hcs, hl⟩
      refine ⟨L, ws, rfl, .inl ⟨SqL.of eL, fun pc hpc => ?_⟩⟩
      have s4 := same_upd hpc (.tup ws)
      have xai := (xah.trans x3).trans (.of s4)
      have D4 := D3.same s4
      obtain ⟨h1, h2, h3, h4, h5⟩ := base xai D4
      have ex0 : Is (upd H3 pc (.tup ws)) x0 (kdP k0) := ((ix0.ex xh Dg).ex x3 Dh).same s4
      have evi : Is (upd H3 pc (.tup ws)) v (.tup (ks.map kdP)) := ((evg.ex xh Dg).ex x3 Dh).same s4
      obtain ⟨pk, vk2, rfl, ek2, ik2⟩ := ex0.tup_inv
      obtain ⟨u1, u2, rfl⟩ : ∃ a b, vk2 = [a, b] := by have := ik2.len; match vk2, this with | [a, b], _ => exact ⟨a, b, rfl⟩
      have iw : Is (upd H3 pc (.tup ws)) u1 (.str k0.fam) := by cases ik2 with | cons h _ => exact h
      have it : Is (upd H3 pc (.tup ws)) u2 k0.tm := by cases ik2 with | cons _ h => cases h with | cons h _ => exact h
      refine ⟨_, rfl, .inl ⟨rfl, _, SqL.of h4⟩, _, rfl, _, rfl, _, rfl, pk, _, _, _, rfl, rfl, .inl (.inl ek2), atI_nat (j := 0) rfl, _, rfl, pk, _, _, _, rfl, rfl, .inl (.inl ek2), atI_nat (j := 1) rfl, _, rfl, d, c, 100, rfl, D4, by omega, by omega, fun r5 H5 z0 z1 x5 D5 => ⟨_, rfl, (by show 6 ≤ sizeLine; decide), fun p3 hp3 => ?_⟩⟩
      have s6 := same_upd hp3 (.tup [V.str z, v, u1, u2, V.int r5, .ref pc])
      have xaj := (xai.trans x5).trans (.of s6)
      have D6 := D5.same s6
      obtain ⟨j1, j2, j3, j4, j5⟩ := base xaj D6
      have hlen := icl.len
      rw [List.length_map] at hlen
      have l6 : fs.length ≤ 3 := by have := hsub.length_le; rw [List.length_map] at this; have h2 : (GW.take i).length ≤ 3 := List.length_take_le' ..; omega
      have ic : Is (upd H3 pc (.tup ws)) (.ref pc) (.tup (cs.map clP)) := .tup upd_same (iL.same s4)
      refine ⟨cl, vs, _, rfl, rfl, j4, small1000 (by omega), _, _, _, _, _, vs ++ [.ref p3], fs ++ [⟨z, ks, k0, r5.toNat, cs⟩], rfl, Ex.own (xa.trans xaj) fcl _, D6.own cd cc, ?_, ?_, ?_, upd_same, ?_, ?_, fun f' hf' => ?_⟩
      · rw [upd_ne (ncl e1')]; exact j1
      · rw [upd_ne (ncl e2)]; exact j2
      · rw [upd_ne np9.symm]; exact j3
      · rw [List.map_append]
        have i5 : Is (upd H5 p3 (.tup [V.str z, v, u1, u2, V.int r5, .ref pc])) (.ref p3) (fnP ⟨z, ks, k0, r5.toNat, cs⟩) := .tup upd_same (.cons (.str z okz) (.cons ((evi.ex x5 D4).same s6) (.cons ((iw.ex x5 D4).same s6) (.cons ((it.ex x5 D4).same s6) (.cons (by show Is _ (V.int r5) (.int ((r5.toNat : Nat) : Int)); rw [Int.toNat_of_nonneg z0]; exact .int _) (.cons ((ic.ex x5 D4).same s6) .nil))))))
        exact IsL.over j4 (j5.append (.cons i5 .nil))
      · rw [List.map_append]
        exact sub_step hsub hz
      · rcases List.mem_append.mp hf' with h | h
        · exact hf f' h
        · rw [List.mem_singleton.mp h]
          exact ⟨List.mem_of_getElem? hz, hk, by show 1 ≤ ks.length; omega, by show ks.length ≤ 3; omega, hk2 k0 (by simp), by show r5.toNat < 100; omega, hcs, by show cs.length ≤ 2; omega⟩
    · rintro σ Ha ⟨y5, y6, y7, y8, y9, vs, fs, rfl, xa, Da, eDa, eCa, ep9, ecl, icl, hsub, hf⟩
      rw [show (GW.map V.str).length = GW.length from rfl, List.take_length] at hsub
      refine ⟨_, rfl, cl, vs, rfl, .inl ⟨SqL.of ecl, fun l1 hl1 => ⟨(by show 2 ≤ sizeLine; decide), fun p hp => ?_⟩⟩⟩
      have t1 := same_upd hl1 (.tup vs)
      have t2 := same_upd hp (.tup [V.str "program", .ref l1])
      have i1 : Is (upd Ha l1 (.tup vs)) (.ref l1) (.tup (fs.map fnP)) := .tup upd_same (icl.same t1)
      exact q _ fs _ (.tup upd_same (.cons (.str _ (by decide +kernel)) (.cons (i1.same t2) .nil))) hf hsub (xa.trans (.of (t1.trans t2))) ((Da.same t1).same t2)
end
end Kx
set_option maxHeartbeats 1000000
/-! The lines of a table and a program, their tokens. -/
namespace Kx
open PySem PySem.Spec PyProof.Rows L2
/-- texts with a text between -/
def gj (g : List Nat) : List (List Nat) → List Nat
  | [] => []
  | [a] => a
  | a :: b :: r => a ++ (g ++ gj g (b :: r))
theorem gj_sep : ∀ l : List (List Nat), gj [44, 32] l = sepJ l
  | [] => rfl
  | [a] => rfl
  | a :: b :: r => by simp only [gj, sepJ, gj_sep (b :: r)]; rfl
theorem cs_empty : cs Str.empty = [] := rfl
theorem cs_join (g : Str) : ∀ l : List Str, cs (Txt.join g l) = gj (cs g) (l.map cs) := by
  intro l
  show cs (PySem.Builtin.Str.glued g l) = _
  rw [StrLaws.glued_eq_join]
  induction l with
  | nil => rfl
  | cons a r ih =>
    cases r with
    | nil => rfl
    | cons b r =>
      show cs (a ++ g ++ Str.join g (b :: r)) = _
      rw [cs_app, cs_app, ih, List.append_assoc]
      rfl
theorem gj_len (g : List Nat) : ∀ l : List (List Nat), (gj g l).length ≤ (l.map List.length).sum + l.length * g.length
  | [] => by simp [gj]
  | [a] => by simp [gj]
  | a :: b :: r => by
    have := gj_len g (b :: r)
    simp only [gj, List.length_append, List.map_cons, List.sum_cons, List.length_cons, Nat.add_mul, Nat.one_mul] at this ⊢
    omega
def num (n : Nat) : List Nat := cs (toString (n : Int))
def kdT (k : Kd) : List Nat := cs k.fam ++ 40 :: (txt k.tm ++ [41])
def arT (ps : List Kd) (md : Kd) : List Nat := (if ps.isEmpty then [] else sepJ (ps.map kdT) ++ [32]) ++ 45 :: 62 :: 32 :: kdT md
def lineM (m : Str × Nat) : List Nat := cs "maker" ++ 32 :: (cs m.1 ++ 32 :: num m.2)
def lineF (z : Str) : List Nat := cs "family" ++ 32 :: cs z
def lineC (c : Cn) : List Nat := cs "con" ++ 32 :: (cs c.w ++ 32 :: 58 :: 32 :: arT c.ps c.md)
def lineH (f : Fn) : List Nat := cs "fun" ++ 32 :: (cs f.w ++ 32 :: (cs "falls" ++ 32 :: (num f.falls ++ 32 :: 58 :: 32 :: arT f.ps f.md)))
def lineL (w : Str) (c : Cl) : List Nat := cs w ++ 40 :: (sepJ (c.ps.map txt) ++ 41 :: 32 :: 61 :: 32 :: txt c.b)
def linesF (fs : List Fn) : List (List Nat) := fs.flatMap fun f => lineH f :: f.cls.map (lineL f.w)
def lines (t : Tb) (fs : List Fn) : List (List Nat) := t.mks.map lineM ++ (t.fams.map lineF ++ (t.cns.map lineC ++ linesF fs))
/-! ### words and numbers -/
theorem wd_MW : ∀ z ∈ MW, WdP (cs z) := by decide +kernel
theorem wd_FW : ∀ z ∈ FW, WdP (cs z) := by decide +kernel
theorem wd_CW : ∀ z ∈ CW, WdP (cs z) := by decide +kernel
theorem wd_GW : ∀ z ∈ GW, WdP (cs z) := by decide +kernel
theorem wd_KN : ∀ z ∈ KN, WdP (cs z) := by decide +kernel
theorem wd_CN : ∀ z ∈ CN, WdP (cs z) := by decide +kernel
theorem wd_num : ∀ n : Nat, n < 100 → WdP (num n) := by decide +kernel
theorem num_len : ∀ n : Nat, n < 100 → (num n).length ≤ 2 := by decide +kernel
theorem nw_lt : ∀ n ∈ NW, n < 100 := by decide
theorem kd_wd {F L : List Str} (hF : ∀ z ∈ F, z ∈ FW) (hL : ∀ z ∈ L, z ∈ MW) {k : Kd} (h : KdOk F L KN k) : WdP (cs k.fam) ∧ Pc (txt k.tm) (tokT k.tm) ∧ Ok (txt k.tm) ∧ (txt k.tm).length ≤ 23 ∧ opn (tokT k.tm) ≤ 1 ∧ k.fam.length ≤ 6 := by
  have h1 : ∀ z ∈ L, WdP (cs z) := fun z hz => wd_MW z (hL z hz)
  have h2 : ∀ z ∈ L ++ (["other"] : List Str), WdP (cs z) := fun z hz => (List.mem_append.mp hz).elim (h1 z) fun h => by rw [List.mem_singleton.mp h]; decide +kernel
  have l1 : ∀ z ∈ L, z.length ≤ 4 := fun z hz => (by decide +kernel : ∀ z ∈ MW, z.length ≤ 4) z (hL z hz)
  have l2 : ∀ z ∈ L ++ (["other"] : List Str), z.length ≤ 5 := fun z hz => (List.mem_append.mp hz).elim (fun h => Nat.le_succ_of_le (l1 z h)) fun h => by rw [List.mem_singleton.mp h]; decide +kernel
  exact ⟨wd_FW _ (hF _ h.1), h.2.pc h1 wd_KN h2, h.2.ok h1 wd_KN h2, h.2.len (a := 4) (b := 5) l1 (by decide +kernel) l2, h.2.opn h1 wd_KN h2, (by decide +kernel : ∀ z ∈ FW, z.length ≤ 6) _ (hF _ h.1)⟩
theorem kd_len {F L : List Str} (hF : ∀ z ∈ F, z ∈ FW) (hL : ∀ z ∈ L, z ∈ MW) {k : Kd} (h : KdOk F L KN k) : (kdT k).length ≤ 31 := by
  obtain ⟨_, _, _, a, _, b⟩ := kd_wd hF hL h
  simp only [kdT, List.length_append, List.length_cons, List.length_nil, cs_len]
  omega
def tokK (k : Kd) : List (List Nat) := cs k.fam :: [40] :: (tokT k.tm ++ [[41]])
theorem kd_pc {F L : List Str} (hF : ∀ z ∈ F, z ∈ FW) (hL : ∀ z ∈ L, z ∈ MW) {k : Kd} (h : KdOk F L KN k) : Pc (kdT k) (tokK k) := by
  obtain ⟨a, b, _⟩ := kd_wd hF hL h
  exact Pc.par a b
theorem kd_ok {F L : List Str} (hF : ∀ z ∈ F, z ∈ FW) (hL : ∀ z ∈ L, z ∈ MW) {k : Kd} (h : KdOk F L KN k) : Ok (kdT k) := by
  obtain ⟨a, _, b, _⟩ := kd_wd hF hL h
  exact .app a.2.2 (.cons (by decide) (.app b (.cons (by decide) .nil)))
theorem kd_opn {F L : List Str} (hF : ∀ z ∈ F, z ∈ FW) (hL : ∀ z ∈ L, z ∈ MW) {k : Kd} (h : KdOk F L KN k) : opn (tokK k) ≤ 2 := by
  obtain ⟨a, _, _, _, b, _⟩ := kd_wd hF hL h
  unfold tokK
  rw [opn_cons (wd_no a)]
  have e : opn ([40] :: (tokT k.tm ++ [[41]])) = opn (tokT k.tm ++ [[41]]) + 1 := by unfold opn; rw [List.count_cons]; rfl
  rw [e, opn_app, show opn [[41]] = 0 by decide]
  omega
def arTok (ps : List Kd) (md : Kd) : List (List Nat) := sepT (ps.map tokK) ++ [45, 62] :: tokK md
theorem Pc.nil : Pc [] [] := fun l U s t => t
theorem toks_end {x : List Nat} {T : List (List Nat)} (h : Pc x T) : Toks x T := by
  have := h [] [] stp_nil .nil
  simpa using this
theorem ar_toks {F L : List Str} (hF : ∀ z ∈ F, z ∈ FW) (hL : ∀ z ∈ L, z ∈ MW) {ps : List Kd} {md : Kd} (h : ∀ k ∈ ps, KdOk F L KN k) (hm : KdOk F L KN md) : Toks (arT ps md) (arTok ps md) := by
  have h1 : Toks (45 :: 62 :: 32 :: kdT md) ([45, 62] :: tokK md) := .arrow (.sp (toks_end (kd_pc hF hL hm)))
  have pr : ∀ {r : List Kd}, (∀ k ∈ r, KdOk F L KN k) → Paired Pc (r.map kdT) (r.map tokK) := by
    intro r
    induction r with
    | nil => intro _; exact .nil
    | cons a r ih => intro h; exact .cons (kd_pc hF hL (h a (List.mem_cons_self ..))) (ih fun k hk => h k (List.mem_cons_of_mem _ hk))
  cases ps with
  | nil => exact h1
  | cons p r =>
    have := Pc.sep (pr h) (32 :: (45 :: 62 :: 32 :: kdT md)) ([45, 62] :: tokK md) (stp_cons al_32) (.sp h1)
    simpa only [arT, arTok, List.isEmpty_cons, Bool.false_eq_true, if_false, List.append_assoc, List.cons_append, List.nil_append] using this
theorem ar_len {F L : List Str} (hF : ∀ z ∈ F, z ∈ FW) (hL : ∀ z ∈ L, z ∈ MW) {ps : List Kd} {md : Kd} (h : ∀ k ∈ ps, KdOk F L KN k) (hm : KdOk F L KN md) (l : ps.length ≤ 3) : (arT ps md).length ≤ 132 := by
  have h1 := kd_len hF hL hm
  have h2 := sepJ_len (ps.map kdT) 31 fun x hx => by obtain ⟨k, hk, rfl⟩ := List.mem_map.mp hx; exact kd_len hF hL (h k hk)
  rw [List.length_map] at h2
  have h3 : ps.length * 31 ≤ 3 * 31 := Nat.mul_le_mul_right _ l
  unfold arT
  split <;> simp only [List.length_append, List.length_cons, List.length_nil] <;> omega
theorem ar_ok {F L : List Str} (hF : ∀ z ∈ F, z ∈ FW) (hL : ∀ z ∈ L, z ∈ MW) {ps : List Kd} {md : Kd} (h : ∀ k ∈ ps, KdOk F L KN k) (hm : KdOk F L KN md) : Ok (arT ps md) := by
  have h1 : Ok (45 :: 62 :: 32 :: kdT md) := .cons (by decide) (.cons (by decide) (.cons (by decide) (kd_ok hF hL hm)))
  have h2 : Ok (sepJ (ps.map kdT)) := .sep fun x hx => by obtain ⟨k, hk, rfl⟩ := List.mem_map.mp hx; exact kd_ok hF hL (h k hk)
  unfold arT
  split
  · exact h1
  · exact .app (.app h2 (.cons (by decide) .nil)) h1
theorem ar_opn {F L : List Str} (hF : ∀ z ∈ F, z ∈ FW) (hL : ∀ z ∈ L, z ∈ MW) {ps : List Kd} {md : Kd} (h : ∀ k ∈ ps, KdOk F L KN k) (hm : KdOk F L KN md) (l : ps.length ≤ 3) : opn (arTok ps md) ≤ 8 := by
  have h1 := kd_opn hF hL hm
  have h2 := opn_sep (xs := ps.map tokK) (c := 2) fun x hx => by obtain ⟨k, hk, rfl⟩ := List.mem_map.mp hx; exact kd_opn hF hL (h k hk)
  rw [List.length_map] at h2
  unfold arTok
  rw [opn_app, opn_cons (by decide)]
  omega
/-- a line: its signs, its tokens, its length -/
structure LnOk (x : List Nat) (T : List (List Nat)) (n : Nat) : Prop where
  tk : Toks x T
  ok : Ok x
  len : x.length ≤ n
  op : opn T ≤ 40
def tokM (m : Str × Nat) : List (List Nat) := [cs "maker", cs m.1, num m.2]
def tokF (z : Str) : List (List Nat) := [cs "family", cs z]
def tokC (c : Cn) : List (List Nat) := cs "con" :: cs c.w :: [58] :: arTok c.ps c.md
def tokH (f : Fn) : List (List Nat) := cs "fun" :: cs f.w :: cs "falls" :: num f.falls :: [58] :: arTok f.ps f.md
def tokL (w : Str) (c : Cl) : List (List Nat) := cs w :: [40] :: (sepT (c.ps.map tokT) ++ [41] :: [61] :: tokT c.b)
theorem wd_maker : WdP (cs "maker") := by decide +kernel
theorem wd_family : WdP (cs "family") := by decide +kernel
theorem wd_con : WdP (cs "con") := by decide +kernel
theorem wd_fun : WdP (cs "fun") := by decide +kernel
theorem wd_falls : WdP (cs "falls") := by decide +kernel
theorem lnM {m : Str × Nat} (h1 : m.1 ∈ MW) (h2 : m.2 ∈ NW) : LnOk (lineM m) (tokM m) 13 := by
  have w := wd_MW _ h1
  have n := wd_num _ (nw_lt _ h2)
  refine ⟨?_, ?_, ?_, ?_⟩
  · exact Toks.wd wd_maker (stp_cons al_32) (.sp (Toks.wd w (stp_cons al_32) (.sp (toks_end (Pc.wd n)))))
  · exact .app wd_maker.2.2 (.cons (by decide) (.app w.2.2 (.cons (by decide) n.2.2)))
  · have := num_len _ (nw_lt _ h2)
    have l := (by decide +kernel : ∀ z ∈ MW, z.length ≤ 4) _ h1
    have l2 : (cs "maker").length = 5 := by decide
    simp only [lineM, List.length_append, List.length_cons, l2, cs_len]
    omega
  · unfold tokM
    rw [opn_cons (wd_no wd_maker), opn_cons (wd_no w), opn_cons (wd_no n)]
    decide
theorem lnF {z : Str} (h1 : z ∈ FW) : LnOk (lineF z) (tokF z) 13 := by
  have w := wd_FW _ h1
  refine ⟨?_, ?_, ?_, ?_⟩
  · exact Toks.wd wd_family (stp_cons al_32) (.sp (toks_end (Pc.wd w)))
  · exact .app wd_family.2.2 (.cons (by decide) w.2.2)
  · have l := (by decide +kernel : ∀ z ∈ FW, z.length ≤ 6) _ h1
    have l2 : (cs "family").length = 6 := by decide
    simp only [lineF, List.length_append, List.length_cons, l2, cs_len]
    omega
  · unfold tokF
    rw [opn_cons (wd_no wd_family), opn_cons (wd_no w)]
    decide
theorem Toks.c58 {l : List Nat} {T : List (List Nat)} (t : Toks l T) : Toks (58 :: l) ([58] :: T) := .sign al_58 (by decide) (by decide) t
theorem Toks.c61 {l : List Nat} {T : List (List Nat)} (t : Toks l T) : Toks (61 :: l) ([61] :: T) := .sign al_61 (by decide) (by decide) t
theorem lnC {F L : List Str} (hF : ∀ z ∈ F, z ∈ FW) (hL : ∀ z ∈ L, z ∈ MW) {c : Cn} (h : CnOk F L c) : LnOk (lineC c) (tokC c) 151 := by
  have w := wd_CW _ h.w
  refine ⟨?_, ?_, ?_, ?_⟩
  · exact Toks.wd wd_con (stp_cons al_32) (.sp (Toks.wd w (stp_cons al_32) (.sp (.c58 (.sp (ar_toks hF hL h.ps h.md))))))
  · exact .app wd_con.2.2 (.cons (by decide) (.app w.2.2 (.cons (by decide) (.cons (by decide) (.cons (by decide) (ar_ok hF hL h.ps h.md))))))
  · have := ar_len hF hL h.ps h.md h.l3
    have l := (by decide +kernel : ∀ z ∈ CW, z.length ≤ 12) _ h.w
    have l2 : (cs "con").length = 3 := by decide
    simp only [lineC, List.length_append, List.length_cons, l2, cs_len]
    omega
  · have := ar_opn hF hL h.ps h.md h.l3
    unfold tokC
    rw [opn_cons (wd_no wd_con), opn_cons (wd_no w), opn_cons (by decide)]
    omega
theorem lnH {t : Tb} (hF : ∀ z ∈ t.fams, z ∈ FW) (hL : ∀ z ∈ t.mw, z ∈ MW) {f : Fn} (h : FnOkk t f) : LnOk (lineH f) (tokH f) 153 := by
  have w := wd_GW _ h.w
  have n := wd_num _ h.falls
  refine ⟨?_, ?_, ?_, ?_⟩
  · exact Toks.wd wd_fun (stp_cons al_32) (.sp (Toks.wd w (stp_cons al_32) (.sp (Toks.wd wd_falls (stp_cons al_32) (.sp (Toks.wd n (stp_cons al_32) (.sp (.c58 (.sp (ar_toks hF hL h.ps h.md))))))))))
  · exact .app wd_fun.2.2 (.cons (by decide) (.app w.2.2 (.cons (by decide) (.app wd_falls.2.2 (.cons (by decide) (.app n.2.2 (.cons (by decide) (.cons (by decide) (.cons (by decide) (ar_ok hF hL h.ps h.md))))))))))
  · have := ar_len hF hL h.ps h.md h.l3
    have l := (by decide +kernel : ∀ z ∈ GW, z.length ≤ 5) _ h.w
    have l2 : (cs "fun").length = 3 := by decide
    have l3 : (cs "falls").length = 5 := by decide
    have l4 := num_len _ h.falls
    simp only [lineH, List.length_append, List.length_cons, l2, l3, cs_len]
    omega
  · have := ar_opn hF hL h.ps h.md h.l3
    unfold tokH
    rw [opn_cons (wd_no wd_fun), opn_cons (wd_no w), opn_cons (wd_no wd_falls), opn_cons (wd_no n), opn_cons (by decide)]
    omega
theorem cl_pc {C M : List Str} (hC : ∀ z ∈ C, z ∈ CW) (hM : ∀ z ∈ M, WdP (cs z) ∧ z.length ≤ 12) {p : PV} (h : Tr C CN (C ++ M) 2 p) : Pc (txt p) (tokT p) ∧ Ok (txt p) ∧ (txt p).length ≤ 180 ∧ opn (tokT p) ≤ 4 := by
  have h1 : ∀ z ∈ C, WdP (cs z) := fun z hz => wd_CW z (hC z hz)
  have h2 : ∀ z ∈ C ++ M, WdP (cs z) := fun z hz => (List.mem_append.mp hz).elim (h1 z) fun h => (hM z h).1
  have l1 : ∀ z ∈ C, z.length ≤ 12 := fun z hz => (by decide +kernel : ∀ z ∈ CW, z.length ≤ 12) z (hC z hz)
  have l2 : ∀ z ∈ C ++ M, z.length ≤ 12 := fun z hz => (List.mem_append.mp hz).elim (l1 z) fun h => (hM z h).2
  exact ⟨h.pc h1 wd_CN h2, h.ok h1 wd_CN h2, h.len (a := 12) (b := 12) l1 (by decide +kernel) l2, h.opn h1 wd_CN h2⟩
theorem lnL {C : List Str} (hC : ∀ z ∈ C, z ∈ CW) {w : Str} {n : Nat} {c : Cl} (hw : w ∈ GW) (h : ClOk C n c) (n3 : n ≤ 3) : LnOk (lineL w c) (tokL w c) 734 := by
  have w' := wd_GW _ hw
  have P : ∀ p ∈ c.ps, _ := fun p hp => cl_pc hC (M := ["Other"]) (by decide +kernel) (h.ps p hp)
  have B := cl_pc hC (M := ["f", "g", "con"]) (by decide +kernel) h.b
  have l3 : c.ps.length ≤ 3 := by rw [h.l]; exact n3
  refine ⟨?_, ?_, ?_, ?_⟩
  · have pr : ∀ {r : List PV}, (∀ p ∈ r, Pc (txt p) (tokT p)) → Paired Pc (r.map txt) (r.map tokT) := by
      intro r
      induction r with
      | nil => intro _; exact .nil
      | cons a r ih => intro h; exact .cons (h a (List.mem_cons_self ..)) (ih fun k hk => h k (List.mem_cons_of_mem _ hk))
    have := Pc.sep (pr fun p hp => (P p hp).1) (41 :: 32 :: 61 :: 32 :: txt c.b) ([41] :: [61] :: tokT c.b) (stp_cons al_41) (.cl (.sp (.c61 (.sp (toks_end B.1)))))
    exact Toks.wd w' (stp_cons al_40) (.op this)
  · exact .app w'.2.2 (.cons (by decide) (.app (.sep fun x hx => by obtain ⟨p, hp, rfl⟩ := List.mem_map.mp hx; exact (P p hp).2.1) (.cons (by decide) (.cons (by decide) (.cons (by decide) (.cons (by decide) B.2.1))))))
  · have h2 := sepJ_len (c.ps.map txt) 180 fun x hx => by obtain ⟨p, hp, rfl⟩ := List.mem_map.mp hx; exact (P p hp).2.2.1
    rw [List.length_map] at h2
    have h3 : c.ps.length * 180 ≤ 3 * 180 := Nat.mul_le_mul_right _ l3
    have l := (by decide +kernel : ∀ z ∈ GW, z.length ≤ 5) _ hw
    have h4 := B.2.2.1
    simp only [lineL, List.length_append, List.length_cons, cs_len]
    omega
  · have h2 := opn_sep (xs := c.ps.map tokT) (c := 4) fun x hx => by obtain ⟨p, hp, rfl⟩ := List.mem_map.mp hx; exact (P p hp).2.2.2
    rw [List.length_map] at h2
    have h4 := B.2.2.2
    have e : opn ([40] :: (sepT (c.ps.map tokT) ++ [41] :: [61] :: tokT c.b)) = opn (sepT (c.ps.map tokT) ++ [41] :: [61] :: tokT c.b) + 1 := by unfold opn; rw [List.count_cons]; rfl
    unfold tokL
    rw [opn_cons (wd_no w'), e, opn_app, opn_cons (by decide), opn_cons (by decide)]
    omega
end Kx
namespace Kx
open PySem PySem.Spec PyProof.Rows L2
section
variable {P : Program} {w : World} {K : PySem.W.Frag} {mg : Str → Option Value} {base : Heap}
set_option pp.maxSteps 1500
/-! ### expressions that make texts -/
def SV (l : List Nat) : V := .str (mkS l)
theorem slen (a b : Str) : (a ++ b).length = a.length + b.length := by rw [← cs_len, cs_app, List.length_append, cs_len, cs_len]
theorem small7 {n : Nat} (h : n ≤ 20000) : n ≤ sizeLine := by rw [sizeLine_eq]; omega
theorem sqt_same {K : PySem.W.Frag} {H H' : Hp} {a : Addr} {xs : List V} (s : Same H H') (h : SqT K H a xs) : SqT K H' a xs := by
  rcases h with (e | ⟨o, e⟩) | e
  · exact .inl (.inl (s _ _ e))
  · exact .inl (.inr ⟨o, s _ _ e⟩)
  · exact .inr e
def rAddS : R2 := fun x y H Q => ∃ i j, x = .str i ∧ y = .str j ∧ i.length + j.length ≤ sizeLine ∧ Q (.str (i ++ j)) H
def TxE (σ : L2.St) (H0 : Hp) (te : TE) (l : List Nat) : Prop := ∀ (H : Hp) (Q : VK), Same H0 H → (∀ H', Same H H' → Q (SV l) H') → te σ H Q
def LxE (σ : L2.St) (H0 : Hp) (te : TE) (ls : List (List Nat)) : Prop := ∀ (H : Hp) (Q : VK), Same H0 H → (∀ p H', Same H H' → H' p = some (.lst (ls.map SV)) → Q (.ref p) H') → te σ H Q
def TlE (K : PySem.W.Frag) (σ : L2.St) (H0 : Hp) (te : TE) (xs : List V) : Prop := ∀ (H : Hp) (Q : VK), Same H0 H → (∀ a H', Same H H' → SqT K H' a xs → Q (.ref a) H') → te σ H Q
theorem TxE.to {σ : L2.St} {H0 : Hp} {te : TE} {l l2 : List Nat} (h : TxE σ H0 te l) (e : l = l2) : TxE σ H0 te l2 := e ▸ h
theorem TxE.same {σ : L2.St} {H0 H1 : Hp} {te : TE} {l : List Nat} (h : TxE σ H0 te l) (s : Same H0 H1) : TxE σ H1 te l := fun H Q s2 q => h H Q (s.trans s2) q
theorem tx_lit {σ : L2.St} {H0 : Hp} {z : Str} : TxE σ H0 (tC (.str z)) (cs z) := fun H Q s q => by
  have := q H (.refl _)
  unfold SV at this
  rw [mk_cs] at this
  exact this
theorem tx_var {σ : L2.St} {H0 : Hp} {i : Nat} {l : List Nat} (e : σ[i]? = some (some (SV l))) : TxE σ H0 (tVar i) l := fun H Q s q => ⟨_, e, q H (.refl _)⟩
theorem tx_varS {σ : L2.St} {H0 : Hp} {i : Nat} {z : Str} (e : σ[i]? = some (some (.str z))) : TxE σ H0 (tVar i) (cs z) := tx_var (by rw [e]; unfold SV; rw [mk_cs])
theorem tx_add {σ : L2.St} {H0 : Hp} {ta tb : TE} {a b : List Nat} (ha : TxE σ H0 ta a) (hb : TxE σ H0 tb b) (l : a.length + b.length ≤ 20000) : TxE σ H0 (tOp rAddS ta tb) (a ++ b) := fun H Q s q =>
  ha H _ s fun H1 s1 => hb H1 _ (s.trans s1) fun H2 s2 => ⟨_, _, rfl, rfl, by rw [mk_len, mk_len]; exact small7 l, by rw [mk_app]; exact q H2 (s1.trans s2)⟩
def rJoinS (K : PySem.W.Frag) : V → List V → Hp → VK → Prop := fun x xs H Q => ∃ a p, ∃ ys : List Str, x = .str a ∧ xs = [.ref p] ∧ (SqL K H p (ys.map V.str) ∨ SqT K H p (ys.map V.str)) ∧ (ys.map (·.length)).sum + ys.length * a.length ≤ 16777216 ∧ Q (.str (Txt.join a ys)) H
theorem tx_join {K : PySem.W.Frag} {σ : L2.St} {H0 : Hp} {g : Str} {te : TE} {ls : List (List Nat)} (h : LxE σ H0 te ls) (l : (ls.map List.length).sum + ls.length * g.length ≤ 16777216) : TxE σ H0 (tM1 (rJoinS K) (tC (.str g)) te) (gj (cs g) ls) := fun H Q s q =>
  ⟨⟨_, rfl⟩, h H _ s fun p H1 s1 e1 => ⟨g, p, ls.map mkS, rfl, rfl, .inl (SqL.of (by rw [List.map_map]; exact e1)), by
    rw [List.map_map, List.length_map]
    have : (List.map ((fun x : Str => x.length) ∘ mkS) ls) = ls.map List.length := List.map_congr_left fun x _ => mk_len x
    rw [this]; exact l, by
    have e : Txt.join g (ls.map mkS) = mkS (gj (cs g) ls) := cs_inj (by
      rw [cs_join, cs_mk, List.map_map]
      congr 1
      exact (List.map_congr_left (g := fun x => x) fun x _ => cs_mk x).trans (List.map_id' ls))
    rw [e]; exact q H1 s1⟩⟩
theorem tl_var {K : PySem.W.Frag} {σ : L2.St} {H0 : Hp} {i : Nat} {a : Addr} {xs : List V} (e : σ[i]? = some (some (.ref a))) (h : SqT K H0 a xs) : TlE K σ H0 (tVar i) xs := fun H Q s q => ⟨_, e, q a H (.refl _) (sqt_same s h)⟩
/-- a list of the texts of a tuple's items -/
theorem lx_lcT {K : PySem.W.Frag} {σ : L2.St} {H0 : Hp} {tl te : TE} {xs : List V} {L : List (List Nat)} {k : Nat} (ht : TlE K σ H0 tl xs) (hl : L.length = xs.length) (hb : xs.length ≤ 1000)
    (hs : ∀ (i : Nat) (x : V) (y : List Nat) (H' : Hp), xs[i]? = some x → L[i]? = some y → Same H0 H' → TxE ((σ.set k none).set k (some x)) H' te y) :
    LxE σ H0 (tLc (iTup K tl) (gName k) tYes te [k]) L := fun H Q s q => by
  refine ht H _ s fun a H1 s1 ha => ⟨a, rfl, ⟨xs, ha⟩, fun D hD => ?_⟩
  refine lc_tup (K := K) (a := a) (xs := xs) (fun i H4 => Same H1 H4 ∧ H4 D = some (.lst ((L.take i).map SV))) ?_ ?_ ?_ ?_
  · exact ⟨same_upd hD _, upd_same⟩
  · exact fun i H' _ ⟨s, _⟩ => sqt_same s ha
  · rintro i x H4 hx ⟨s4, e4⟩
    have hi := (List.getElem?_eq_some_iff.mp hx).1
    have hy : L[i]? = some (L[i]'(by omega)) := List.getElem?_eq_getElem _
    refine ⟨by show ((σ.set k none).set k (some x)).set k none = σ.set k none; simp only [List.set_set], yes_if ?_⟩
    refine hs i x _ H4 hx hy ((s.trans s1).trans s4) H4 _ (.refl _) fun H5 s5 => ⟨_, s5 _ _ e4, ?_, Kx.Same.own (s4.trans s5) hD _, ?_⟩
    · rw [List.length_map]; exact small1000 (by have : (L.take i).length ≤ i := List.length_take_le ..; omega)
    · rw [upd_same, List.take_add_one, hy, List.map_append]; rfl
  · rintro H4 ⟨s4, e4⟩
    rw [← hl, List.take_length] at e4
    exact q D H4 (s1.trans s4) e4
/-- the same over a list or a tuple -/
theorem lx_lcS {K : PySem.W.Frag} {σ : L2.St} {H0 : Hp} {te : TE} {a : Addr} {xs : List V} {L : List (List Nat)} {j k : Nat} (e : σ[j]? = some (some (.ref a))) (ha : SqL K H0 a xs ∨ SqT K H0 a xs) (hl : L.length = xs.length) (hb : xs.length ≤ 1000)
    (hs : ∀ (i : Nat) (x : V) (y : List Nat) (H' : Hp), xs[i]? = some x → L[i]? = some y → Same H0 H' → TxE ((σ.set k none).set k (some x)) H' te y) :
    LxE σ H0 (tLc (iSeq K (tVar j)) (gName k) tYes te [k]) L := fun H Q s q => by
  have step : ∀ (D : Addr) (i : Nat) (x : V) (H4 : Hp), H D = none → xs[i]? = some x → Same H H4 ∧ H4 D = some (.lst ((L.take i).map SV)) → gName k x (wipe σ [k]) H4 fun σ2 H2 => wipe σ2 [k] = wipe σ [k] ∧ tYes σ2 H2 fun b H3 =>
      if b = true then te σ2 H3 fun y H4 => ∃ acc, H4 D = some (.lst acc) ∧ acc.length < sizeLine ∧ (Same H (upd H4 D (.lst (acc ++ [y]))) ∧ (upd H4 D (.lst (acc ++ [y]))) D = some (.lst ((L.take (i + 1)).map SV))) else (Same H H3 ∧ H3 D = some (.lst ((L.take (i + 1)).map SV))) := by
    rintro D i x H4 hD hx ⟨s4, e4⟩
    have hi := (List.getElem?_eq_some_iff.mp hx).1
    have hy : L[i]? = some (L[i]'(by omega)) := List.getElem?_eq_getElem _
    refine ⟨by show ((σ.set k none).set k (some x)).set k none = σ.set k none; simp only [List.set_set], yes_if ?_⟩
    refine hs i x _ H4 hx hy (s.trans s4) H4 _ (.refl _) fun H5 s5 => ⟨_, s5 _ _ e4, ?_, Kx.Same.own (s4.trans s5) hD _, ?_⟩
    · rw [List.length_map]; exact small1000 (by have : (L.take i).length ≤ i := List.length_take_le ..; omega)
    · rw [upd_same, List.take_add_one, hy, List.map_append]; rfl
  rcases ha with ha | ha
  · refine ⟨_, e, a, rfl, .inl ⟨⟨xs, s.seq ha⟩, fun D hD => ?_⟩⟩
    refine lc_list (K := K) (a := a) (xs := xs) (fun i H4 => Same H H4 ∧ H4 D = some (.lst ((L.take i).map SV))) ⟨same_upd hD _, upd_same⟩ (fun i H' _ ⟨s2, _⟩ => (s.trans s2).seq ha) (fun i x H4 hx p => step D i x H4 hD hx p) ?_
    rintro H4 ⟨s4, e4⟩
    rw [← hl, List.take_length] at e4
    exact q D H4 s4 e4
  · refine ⟨_, e, a, rfl, .inr ⟨⟨xs, sqt_same s ha⟩, fun D hD => ?_⟩⟩
    refine lc_tup (K := K) (a := a) (xs := xs) (fun i H4 => Same H H4 ∧ H4 D = some (.lst ((L.take i).map SV))) ⟨same_upd hD _, upd_same⟩ (fun i H' _ ⟨s2, _⟩ => sqt_same (s.trans s2) ha) (fun i x H4 hx p => step D i x H4 hD hx p) ?_
    rintro H4 ⟨s4, e4⟩
    rw [← hl, List.take_length] at e4
    exact q D H4 s4 e4
theorem tx_ixT {K : PySem.W.Frag} {σ : L2.St} {H0 : Hp} {i j : Nat} {a : Addr} {w : Str} {xs : List V} (e : σ[i]? = some (some (.ref a))) (h : SqT K H0 a xs) (g : xs[j]? = some (.str w)) : TxE σ H0 (tOp (rIxT K) (tVar i) (tC (.int j))) (cs w) := fun H Q s q =>
  ⟨_, e, a, _, _, _, rfl, rfl, sqt_same s h, atI_nat g, by have := q H (.refl _); unfold SV at this; rw [mk_cs] at this; exact this⟩
def TrG (n : Nat) (t : PV) : Prop := ∃ (L N B : List Str) (m : Nat), m < n ∧ m ≤ 2 ∧ Tr L N B m t ∧ (∀ z ∈ L, z.length ≤ 12) ∧ (∀ z ∈ N, z.length ≤ 12) ∧ ∀ z ∈ B, z.length ≤ 12
theorem slice1 {x : V} {vs : List V} : ¬ (HT.sIx (x :: vs).length 0 (some (1 : Int)) = 0 ∧ HT.sIx (x :: vs).length (x :: vs).length none = (x :: vs).length) := by
  intro e
  have h := e.1
  rw [show (1 : Int) = ((1 : Nat) : Int) from rfl, HT.sIx_nat, List.length_cons] at h
  omega
theorem cut_from (xs : List V) {k : Nat} (h : k ≤ xs.length) : cutV xs (some (k : Int)) none = xs.drop k := by
  unfold cutV
  rw [HT.sIx_nat, HT.sIx_none, Nat.min_eq_left h, List.take_of_length_le (by rw [List.length_drop]; exact Nat.le_refl _)]
theorem cut1 {x : V} {vs : List V} : cutV (x :: vs) (some (1 : Int)) none = vs := cut_from (k := 1) (x :: vs) (by rw [List.length_cons]; omega)
theorem TxE.go {σ : L2.St} {H : Hp} {te : TE} {l : List Nat} {Q : VK} (h : TxE σ H te l) (q : ∀ H', Same H H' → Q (SV l) H') : te σ H Q := h H Q (.refl _) q
theorem tx_ix0 {K : PySem.W.Frag} {σ : L2.St} {H0 : Hp} {i : Nat} {a : Addr} {w : Str} {xs : List V} (e : σ[i]? = some (some (.ref a))) (h : SqT K H0 a (.str w :: xs)) : TxE σ H0 (tOp (rIx K) (tVar i) (tC (.int 0))) (cs w) := fun H Q s q =>
  ⟨_, e, .inr (.inl ⟨a, _, _, _, rfl, rfl, sqt_same s h, atI_nat (j := 0) rfl, by have := q H (.refl _); unfold SV at this; rw [mk_cs] at this; exact this⟩)⟩
theorem tl_drop1 {K : PySem.W.Frag} {σ : L2.St} {H0 : Hp} {i : Nat} {a : Addr} {x : V} {xs : List V} (e : σ[i]? = some (some (.ref a))) (h : SqT K H0 a (x :: xs)) : TlE K σ H0 (tSl (rSlT K) (tVar i) (tPart (tC (.int 1))) tNoPart) xs := fun H Q s q =>
  ⟨_, e, 1, rfl, a, x :: xs, rfl, sqt_same s h, slice1, fun p hp => q p _ (same_upd hp _) (by rw [cut1]; exact .inl (.inl upd_same))⟩
theorem sum_le {l : List (List Nat)} {c : Nat} (h : ∀ x ∈ l, x.length ≤ c) : (l.map List.length).sum ≤ l.length * c := by
  induction l with
  | nil => simp
  | cons a r ih =>
    have h1 := h a (List.mem_cons_self ..)
    have h2 := ih fun x hx => h x (List.mem_cons_of_mem _ hx)
    rw [List.map_cons, List.sum_cons, List.length_cons, Nat.add_mul, Nat.one_mul]
    omega
theorem bd_le : ∀ m, m ≤ 2 → Bd 12 12 m ≤ 180 := by decide
theorem TrG.len {n : Nat} {t : PV} (h : TrG n t) : (txt t).length ≤ 180 := by
  obtain ⟨L, N, B, m, _, m2, h, a, b, c⟩ := h
  exact Nat.le_trans (h.len a b c) (bd_le m m2)
theorem TrG.up {n k : Nat} {t : PV} (h : TrG n t) (l : n ≤ k) : TrG k t := by
  obtain ⟨L, N, B, m, a, b⟩ := h
  exact ⟨L, N, B, m, by omega, b⟩
theorem TrG.cases {n : Nat} {t : PV} (h : TrG (n + 1) t) : (∃ z, t = .str z ∧ z.length ≤ 12) ∨ (∃ w, t = .tup [.str w] ∧ w.length ≤ 12) ∨ ∃ w r, t = .tup (.str w :: r) ∧ r ≠ [] ∧ w.length ≤ 12 ∧ r.length ≤ 3 ∧ ∀ t ∈ r, TrG n t := by
  obtain ⟨L, N, B, m, mn, m2, h, hL, hN, hB⟩ := h
  rcases h.cases with ⟨z, rfl, hz⟩ | ⟨w, rfl, hw⟩ | ⟨w, r, k, rfl, e, hr, hw, hl, ht⟩
  · exact .inl ⟨z, rfl, hN z hz⟩
  · exact .inr (.inl ⟨w, rfl, hL w hw⟩)
  · exact .inr (.inr ⟨w, r, rfl, hr, hB w hw, hl, fun t h => ⟨L, N, B, k, by omega, by omega, ht t h, hL, hN, hB⟩⟩)
def spText (n : Nat) : Sp := fun vs H Q _ => ∃ v t, vs = [v] ∧ Is H v t ∧ TrG n t ∧ ∀ H', Same H H' → Q (SV (txt t)) H'
theorem ok_law_text {n : Nat}(T : Txt K mg) (G_law_text : FnOk P w K mg base CX0 (n+1) T.a_law_text T.d_law_text ["tree"] (spText n)) : FnOk P w K mg base CX0 (n+2) T.a_law_text T.d_law_text ["tree"] (spText (n+1)) := by
  refine T.F_law_text.ok sc_law_text (fun vs H Q E h => ?_) (fun cdv A outer s H vs Q E hr h => ?_)
  · obtain ⟨v, t, rfl, _⟩ := h; rfl
  · obtain ⟨v, t, rfl, hI, hT, q⟩ := h
    have hr_law_text := hr
    refine ⟨_, (pss_cons (ps_if (pt_val (pe_callB call_isi (by rfl) T.z_isinstance (by decide +kernel) (pa_cons (pv 0) (pa_cons (pe_bltn rfl T.z_str (by decide +kernel) (show RelV (V.ty "str") (Value.type "str") from rfl)) pa_nil)))) (pss_one (ps_ret (pv 0))) pss_nil)
    (pss_cons (ps_if (pt_cmpR op_eq (pe_callB call_len_seq (by rfl) T.z_len (by decide +kernel) (pa_cons (pv 0) pa_nil)) pe_int (nomark _)) (pss_one (ps_ret (pe_ix ix_seq (pv 0) pe_int (fun _ _ => rfl)))) pss_nil)
    (pss_one (ps_ret (pe_op op_add_str (pe_op op_add_str (pe_op op_add_str (pe_ix ix_seq (pv 0) pe_int (fun _ _ => rfl)) pe_str) (pe_join pe_str (pe_lc (own := [("part", 1)]) (g := (gName 1)) (tt := tYes) rfl sc_law_text.nd (pi_tup (pe_slice sl_tup (pv 0) (po_some pe_int) po_none)) (blkOk_by (own := [("part", 1)]) (N := ["tree", "part"]) (sc := defScope s_law_text) (by decide +kernel)) (fun _ _ _ _ _ => (pg_name (i := 1) sc_law_text.nd rfl (Or.inl rfl))) (fun _ _ _ _ _ => pts_nil) (fun _ _ _ _ _ => (pe_call G_law_text hr_law_text rfl T.m_law_text T.F_law_text.kp T.b_law_text .nil pass0 (pa_cons (pv 1) pa_nil)))))) pe_str))))), ?_⟩
    have hl180 := hT.len
    obtain ⟨u, ty, kt⟩ := hI.ty (K := K)
    refine ⟨_, rfl, _, _, u, _, _, rfl, .ty _, ty, kit_str kt, _, rfl, ?_⟩
    rcases hT.cases with ⟨z, rfl, hz⟩ | ⟨w, rfl, hw⟩ | ⟨w, r, rfl, hne, hw, hl, ht⟩
    · have := q H (.refl _)
      unfold SV txt at this
      rw [mk_cs] at this
      cases hI.str_inv
      exact iteT ⟨_, rfl, this⟩
    · obtain ⟨a, vs, rfl, ea, il⟩ := hI.tup_inv
      cases il with
      | cons h0 h1 =>
      cases h1
      cases h0.str_inv
      have := q H (.refl _)
      unfold SV txt at this
      simp only [List.isEmpty_nil, if_true, mk_cs] at this
      exact iteF ⟨_, rfl, a, _, rfl, .inr (.inl (.inl ea)), rfl, _, rfl, iteT ⟨_, rfl, .inr (.inl ⟨a, _, _, _, rfl, rfl, .inl (.inl ea), atI_nat (j := 0) rfl, this⟩)⟩⟩
    · obtain ⟨a, vs, rfl, ea, il⟩ := hI.tup_inv
      cases il with
      | cons h0 h1 =>
      cases h0.str_inv
      rename_i us
      have hlen := h1.len
      have l1 : 1 ≤ r.length := by cases r with | nil => exact absurd rfl hne | cons _ _ => simp
      refine iteF ⟨_, rfl, a, _, rfl, .inr (.inl (.inl ea)), rfl, _, rfl, ?_⟩
      have e0 : decide (V.int (((V.str w :: us).length : Nat) : Int) = V.int 1) = false := by
        rw [dec_int, List.length_cons]
        have : ¬ (((us.length + 1 : Nat) : Int) = 1) := by omega
        simpa using this
      rw [e0]
      have he : r.isEmpty = false := by cases r with | nil => exact absurd rfl hne | cons _ _ => rfl
      have seplen : (sepJ (txtL r)).length ≤ 180 := by
        simp only [txt, he, Bool.false_eq_true, if_false, List.length_append, List.length_cons] at hl180
        omega
      refine iteF (TxE.go (l := txt (.tup (.str w :: r))) (TxE.to (tx_add (tx_add (tx_add (tx_ix0 rfl (.inl (.inl ea))) tx_lit ?_) (tx_join (lx_lcT (L := txtL r) (tl_drop1 rfl (.inl (.inl ea))) (by rw [txtL_map, List.length_map, hlen]) (by omega) fun i x y H' hx hy s' H2 Q2 s2 q2 => ?_) ?_) ?_) tx_lit ?_) ?_) q)
      all_goals try rw [show gj (cs ", ") (txtL r) = sepJ (txtL r) from gj_sep _]
      all_goals try rw [show cs "(" = [40] from rfl]
      all_goals try rw [show cs ")" = [41] from rfl]
      · rw [cs_len]; simp; omega
      · obtain ⟨t, ht', it⟩ := h1.get hx
        rw [txtL_map, List.getElem?_map, ht'] at hy
        cases hy
        exact ⟨_, rfl, x, t, rfl, it.same (s'.trans s2), ht t (List.mem_of_getElem? ht'), q2⟩
      · have h2 : ((txtL r).map List.length).sum ≤ (txtL r).length * 180 := sum_le fun x hx => by
          rw [txtL_map] at hx
          obtain ⟨t, ht', rfl⟩ := List.mem_map.mp hx
          exact (ht t ht').len
        have h3 : (txtL r).length = r.length := by rw [txtL_map, List.length_map]
        have h4 : (", " : Str).length = 2 := rfl
        rw [h4]
        omega
      · have := seplen
        simp only [List.length_append, List.length_cons, List.length_nil, cs_len]; omega
      · have := seplen
        simp only [List.length_append, List.length_cons, List.length_nil, cs_len]; omega
      · simp only [txt, he, Bool.false_eq_true, if_false, List.append_assoc, List.cons_append, List.nil_append]
theorem all_text (T : Txt K mg) : ∀ n, FnOk P w K mg base CX0 (n + 1) T.a_law_text T.d_law_text ["tree"] (spText n)
  | 0 => no_left fun vs H Q E ⟨_, _, _, _, ⟨_, _, _, _, h, _⟩, _⟩ => by omega
  | n + 1 => ok_law_text T (all_text T n)
/-! ### pairs and lines -/
def KdL (ks : List Kd) : Prop := ks.length ≤ 3 ∧ ∀ k ∈ ks, TrG 3 k.tm ∧ k.fam.length ≤ 12
def spPairs : Sp := fun vs H Q _ => ∃ (a : Addr) (xs : List V) (ks : List Kd), vs = [.ref a] ∧ (SqL K H a xs ∨ SqT K H a xs) ∧ IsL H xs (ks.map kdP) ∧ KdL ks ∧ ∀ H', Same H H' → Q (SV (sepJ (ks.map kdT))) H'
theorem ok_law_pairs (T : Txt K mg) (G_law_text : FnOk P w K mg base CX0 4 T.a_law_text T.d_law_text ["tree"] (spText 3)) : FnOk P w K mg base CX0 5 T.a_law_pairs T.d_law_pairs ["pairs"] (spPairs (K := K)) := by
  refine T.F_law_pairs.ok sc_law_pairs (fun vs H Q E h => ?_) (fun cdv A outer s H vs Q E hr h => ?_)
  · obtain ⟨a, xs, ks, rfl, _⟩ := h; rfl
  · obtain ⟨a, xs, ks, rfl, hS, hI, hK, q⟩ := h
    have hr_law_text := hr
    refine ⟨_, (pss_one (ps_ret (pe_join pe_str (pe_lc (own := [("pair", 1)]) (g := (gName 1)) (tt := tYes) rfl sc_law_pairs.nd (pi_seq (pv 0)) (blkOk_by (own := [("pair", 1)]) (N := ["pairs", "pair"]) (sc := defScope s_law_pairs) (by decide +kernel)) (fun _ _ _ _ _ => (pg_name (i := 1) sc_law_pairs.nd rfl (Or.inl rfl))) (fun _ _ _ _ _ => pts_nil) (fun _ _ _ _ _ => (pe_op op_add_str (pe_op op_add_str (pe_op op_add_str (pe_ix (ixTK (K := K)) (pv 1) pe_int (fun _ _ => rfl)) pe_str) (pe_call G_law_text hr_law_text rfl T.m_law_text T.F_law_text.kp T.b_law_text .nil pass0 (pa_cons (pe_ix (ixTK (K := K)) (pv 1) pe_int (fun _ _ => rfl)) pa_nil))) pe_str)))))), ?_⟩
    have hlen := hI.len
    rw [List.length_map] at hlen
    have l3 := hK.1
    refine TxE.go (l := sepJ (ks.map kdT)) (TxE.to (tx_join (lx_lcS (L := ks.map kdT) rfl hS (by rw [List.length_map, hlen]) (by omega) fun i x y H' hx hy s' => ?_) ?_) ?_) q
    · obtain ⟨t, ht', it⟩ := hI.get hx
      rw [List.getElem?_map] at ht' hy
      obtain ⟨k, hk, rfl⟩ : ∃ k, ks[i]? = some k ∧ kdP k = t := by cases h : ks[i]? with | none => rw [h] at ht'; cases ht' | some k => rw [h] at ht'; exact ⟨k, rfl, Option.some.inj ht'⟩
      rw [hk] at hy
      cases hy
      obtain ⟨p, us, rfl, ep, iu⟩ := (it.same s').tup_inv
      cases iu with
      | cons h0 h1 =>
      cases h1 with
      | cons h1 h2 =>
      cases h2
      cases h0.str_inv
      obtain ⟨g, f12⟩ := hK.2 k (List.mem_of_getElem? hk)
      have g180 := g.len
      refine TxE.to (tx_add (tx_add (tx_add (tx_ixT (j := 0) rfl (.inl (.inl ep)) rfl) tx_lit ?_) (fun H2 Q2 s2 q2 => ⟨_, rfl, p, _, _, _, rfl, rfl, .inl (.inl (s2 _ _ ep)), atI_nat (j := 1) rfl, _, k.tm, rfl, h1.same s2, g, q2⟩) ?_) tx_lit ?_) ?_
      · rw [cs_len, show cs "(" = [40] from rfl]; simp; omega
      · rw [show cs "(" = [40] from rfl]; simp only [List.length_append, List.length_cons, List.length_nil, cs_len]; omega
      · rw [show cs "(" = [40] from rfl, show cs ")" = [41] from rfl]; simp only [List.length_append, List.length_cons, List.length_nil, cs_len]; omega
      · rw [show cs "(" = [40] from rfl, show cs ")" = [41] from rfl]
        simp only [kdT, List.append_assoc, List.cons_append, List.nil_append]
    · have h2 : ((ks.map kdT).map List.length).sum ≤ (ks.map kdT).length * 200 := sum_le fun x hx => by
        obtain ⟨k, hk, rfl⟩ := List.mem_map.mp hx
        obtain ⟨g, f12⟩ := hK.2 k hk
        have := g.len
        simp only [kdT, List.length_append, List.length_cons, List.length_nil, cs_len]
        omega
      rw [List.length_map] at h2 ⊢
      have h4 : (", " : Str).length = 2 := rfl
      rw [h4]
      omega
    · exact gj_sep _
end
end Kx
namespace Kx
open PySem PySem.Spec PyProof.Rows L2
section
variable {P : Program} {w : World} {K : PySem.W.Frag} {mg : Str → Option Value} {base : Heap}
set_option pp.maxSteps 1500
/-! ### the law's lines -/
theorem go_lx {σ : L2.St} {H : Hp} {te : TE} {ls : List (List Nat)} {g : TG} {rest : TS} {D : Ends} (h : LxE σ H te ls) (q : ∀ p H1, Same H H1 → H1 p = some (.lst (ls.map SV)) → g (.ref p) σ H1 fun σ2 H2 => rest D σ2 H2) : tSeq (tAsg te g) rest D σ H := h H _ (.refl _) q
theorem tl_ixT {K : PySem.W.Frag} {σ : L2.St} {H0 : Hp} {i j : Nat} {a m : Addr} {xs ys : List V} (e : σ[i]? = some (some (.ref a))) (h : SqT K H0 a xs) (g : xs[j]? = some (.ref m)) (h2 : SqT K H0 m ys) : TlE K σ H0 (tOp (rIxT K) (tVar i) (tC (.int j))) ys := fun H Q s q =>
  ⟨_, e, a, _, _, _, rfl, rfl, sqt_same s h, atI_nat g, q m H (.refl _) (sqt_same s h2)⟩
def TsE (σ : L2.St) (H0 : Hp) (ta : TA) (ls : List (List Nat)) : Prop := ∀ (H : Hp) (Q : List V → Hp → Prop), Same H0 H → (∀ H', Same H H' → Q (ls.map SV) H') → ta σ H Q
theorem ts_nil {σ : L2.St} {H0 : Hp} : TsE σ H0 tNil [] := fun H Q s q => q H (.refl _)
theorem ts_cons {σ : L2.St} {H0 : Hp} {te : TE} {ta : TA} {l : List Nat} {ls : List (List Nat)} (a : TxE σ H0 te l) (b : TsE σ H0 ta ls) : TsE σ H0 (tCons te ta) (l :: ls) := fun H Q s q =>
  a H _ s fun H1 s1 => b H1 _ (s.trans s1) fun H2 s2 => q H2 (s1.trans s2)
theorem lx_lst {σ : L2.St} {H0 : Hp} {ta : TA} {ls : List (List Nat)} (a : TsE σ H0 ta ls) (l : ls.length ≤ 1000) : LxE σ H0 (tLst ta) ls := fun H Q s q =>
  a H _ s fun H1 s1 => ⟨by rw [List.length_map]; exact Nat.le_of_lt (small1000 l), fun p hp => q p _ (s1.trans (same_upd hp _)) upd_same⟩
theorem lx_var {σ : L2.St} {H0 : Hp} {i : Nat} {p : Addr} {ls : List (List Nat)} (e : σ[i]? = some (some (.ref p))) (h : H0 p = some (.lst (ls.map SV))) : LxE σ H0 (tVar i) ls := fun H Q s q => ⟨_, e, q p H (.refl _) (s _ _ h)⟩
theorem lx_cat {σ : L2.St} {H0 : Hp} {ta tb : TE} {la lb : List (List Nat)} (a : LxE σ H0 ta la) (b : LxE σ H0 tb lb) (l : la.length + lb.length ≤ 1000) : LxE σ H0 (tOp rCat ta tb) (la ++ lb) := fun H Q s q =>
  a H _ s fun p H1 s1 e1 => b H1 _ (s.trans s1) fun p2 H2 s2 e2 => ⟨p, p2, _, _, rfl, rfl, s2 _ _ e1, e2, by rw [List.length_map, List.length_map]; exact Nat.le_of_lt (small1000 l), fun p3 hp3 => q p3 _ ((s1.trans s2).trans (same_upd hp3 _)) (by rw [upd_same, List.map_append])⟩
def LxF (σ : L2.St) (H0 : Hp) (te : TE) (ls : List (List Nat)) : Prop := ∀ (H : Hp) (Q : VK), Same H0 H → (∀ p H', H p = none → Same H H' → H' p = some (.lst (ls.map SV)) → Q (.ref p) H') → te σ H Q
theorem lx_catF {σ : L2.St} {H0 : Hp} {ta tb : TE} {la lb : List (List Nat)} (a : LxE σ H0 ta la) (b : LxE σ H0 tb lb) (l : la.length + lb.length ≤ 1000) : LxF σ H0 (tOp rCat ta tb) (la ++ lb) := fun H Q s q =>
  a H _ s fun p H1 s1 e1 => b H1 _ (s.trans s1) fun p2 H2 s2 e2 => ⟨p, p2, _, _, rfl, rfl, s2 _ _ e1, e2, by rw [List.length_map, List.length_map]; exact Nat.le_of_lt (small1000 l), fun p3 hp3 => q p3 _ ((s1.trans s2).free hp3) ((s1.trans s2).trans (same_upd hp3 _)) (by rw [upd_same, List.map_append])⟩
theorem go_lxF {σ : L2.St} {H : Hp} {te : TE} {ls : List (List Nat)} {g : TG} {rest : TS} {D : Ends} (h : LxF σ H te ls) (q : ∀ p H1, H p = none → Same H H1 → H1 p = some (.lst (ls.map SV)) → g (.ref p) σ H1 fun σ2 H2 => rest D σ2 H2) : tSeq (tAsg te g) rest D σ H := h H _ (.refl _) q
def toldC (ps : List Kd) : List (List Nat) := if ps.isEmpty then [] else [sepJ (ps.map kdT)]
theorem join_C (c : Cn) : gj [32] ([cs "con", cs c.w, [58]] ++ toldC c.ps ++ [[45, 62], kdT c.md]) = lineC c := by
  unfold toldC lineC arT
  cases c.ps.isEmpty <;> simp [gj]
theorem join_H (f : Fn) (h : f.ps ≠ []) : gj [32] ([cs "fun", cs f.w, cs "falls", num f.falls] ++ [[58], sepJ (f.ps.map kdT), [45, 62], kdT f.md]) = lineH f := by
  unfold lineH arT
  cases e : f.ps with
  | nil => exact absurd e h
  | cons a r => simp [gj]
def rStrC : List V → Hp → VK → Prop := fun xs H Q => ∃ i, xs = [.int i] ∧ i.natAbs.log2 < 1920 ∧ Q (.str (toString i)) H
theorem num_lg : ∀ n : Nat, n < 100 → ((n : Nat) : Int).natAbs.log2 < 1920 := by decide +kernel
theorem tx_numT {K : PySem.W.Frag} {σ : L2.St} {H0 : Hp} {i j n : Nat} {a : Addr} {xs : List V} (hn : n < 100) (e : σ[i]? = some (some (.ref a))) (h : SqT K H0 a xs) (g : xs[j]? = some (.int n)) : TxE σ H0 (tCB rStrC (tCons (tOp (rIxT K) (tVar i) (tC (.int j))) tNil)) (num n) := fun H Q s q =>
  ⟨_, e, a, _, _, _, rfl, rfl, sqt_same s h, atI_nat g, _, rfl, num_lg n hn, by have := q H (.refl _); unfold SV num at this; rw [mk_cs] at this; exact this⟩
theorem tx_num {σ : L2.St} {H0 : Hp} {i n : Nat} (hn : n < 100) (e : σ[i]? = some (some (.int n))) : TxE σ H0 (tCB rStrC (tCons (tVar i) tNil)) (num n) := fun H Q s q =>
  ⟨_, e, _, rfl, num_lg n hn, by have := q H (.refl _); unfold SV num at this; rw [mk_cs] at this; exact this⟩
/-! #### the parts of a program as the heap has them -/
theorem one_inv {H : Hp} {vs : List V} {t : PV} (h : IsL H vs [t]) : ∃ v, vs = [v] ∧ Is H v t := by
  cases h with
  | cons a b => cases b; exact ⟨_, rfl, a⟩
theorem two_inv {H : Hp} {vs : List V} {t u : PV} (h : IsL H vs [t, u]) : ∃ v w, vs = [v, w] ∧ Is H v t ∧ Is H w u := by
  cases h with
  | cons a b => obtain ⟨w, rfl, h⟩ := one_inv b; exact ⟨_, w, rfl, a, h⟩
theorem cn_inv {H : Hp} {v : V} {c : Cn} (h : Is H v (cnP c)) : ∃ (p q : Addr) (vs : List V) (i : V), v = .ref p ∧ H p = some (.tup [.str c.w, .ref q, .str c.md.fam, i]) ∧ H q = some (.tup vs) ∧ IsL H vs (c.ps.map kdP) ∧ Is H i c.md.tm ∧ sok c.w = true ∧ sok c.md.fam = true := by
  obtain ⟨p, us, rfl, ep, iu⟩ := h.tup_inv
  cases iu with
  | cons h0 iu =>
  cases iu with
  | cons h1 iu =>
  obtain ⟨v2, v3, rfl, h2, h3⟩ := two_inv iu
  have o1 : sok c.w = true := by cases h0 with | str _ k => exact k
  have o2 : sok c.md.fam = true := by cases h2 with | str _ k => exact k
  cases h0.str_inv
  cases h2.str_inv
  obtain ⟨q, vs, rfl, eq, il⟩ := h1.tup_inv
  exact ⟨p, q, vs, v3, rfl, ep, eq, il, h3, o1, o2⟩
theorem fn_inv {H : Hp} {v : V} {f : Fn} (h : Is H v (fnP f)) : ∃ (p q r : Addr) (vs us : List V) (i : V), v = .ref p ∧ H p = some (.tup [.str f.w, .ref q, .str f.md.fam, i, .int f.falls, .ref r]) ∧ H q = some (.tup vs) ∧ IsL H vs (f.ps.map kdP) ∧ Is H i f.md.tm ∧ H r = some (.tup us) ∧ IsL H us (f.cls.map clP) ∧ sok f.w = true ∧ sok f.md.fam = true := by
  obtain ⟨p, us, rfl, ep, iu⟩ := h.tup_inv
  cases iu with
  | cons h0 iu =>
  cases iu with
  | cons h1 iu =>
  cases iu with
  | cons h2 iu =>
  cases iu with
  | cons h3 iu =>
  obtain ⟨v4, v5, rfl, h4, h5⟩ := two_inv iu
  have o1 : sok f.w = true := by cases h0 with | str _ k => exact k
  have o2 : sok f.md.fam = true := by cases h2 with | str _ k => exact k
  cases h0.str_inv
  cases h2.str_inv
  cases h4
  obtain ⟨q, vs, rfl, eq, il⟩ := h1.tup_inv
  obtain ⟨r, us, rfl, er, ir⟩ := h5.tup_inv
  exact ⟨p, q, r, vs, us, _, rfl, ep, eq, il, h3, er, ir, o1, o2⟩
theorem cl_inv {H : Hp} {v : V} {c : Cl} (h : Is H v (clP c)) : ∃ (p q : Addr) (vs : List V) (b : V), v = .ref p ∧ H p = some (.tup [.ref q, b]) ∧ H q = some (.tup vs) ∧ IsL H vs c.ps ∧ Is H b c.b := by
  obtain ⟨p, us, rfl, ep, iu⟩ := h.tup_inv
  obtain ⟨v4, v5, rfl, h4, h5⟩ := two_inv iu
  obtain ⟨q, vs, rfl, eq, il⟩ := h4.tup_inv
  exact ⟨p, q, vs, _, rfl, ep, eq, il, h5⟩
theorem prg_inv {H : Hp} {v : V} {fs : List Fn} (h : Is H v (prgP fs)) : ∃ (p q : Addr) (vs : List V), v = .ref p ∧ H p = some (.tup [.str "program", .ref q]) ∧ H q = some (.tup vs) ∧ IsL H vs (fs.map fnP) := by
  obtain ⟨p, us, rfl, ep, iu⟩ := h.tup_inv
  obtain ⟨v4, v5, rfl, h4, h5⟩ := two_inv iu
  cases h4.str_inv
  obtain ⟨q, vs, rfl, eq, il⟩ := h5.tup_inv
  exact ⟨p, q, vs, rfl, ep, eq, il⟩
theorem map_at {α β : Type} {f : α → β} {l : List α} {i : Nat} {y : β} (h : (l.map f)[i]? = some y) : ∃ x, l[i]? = some x ∧ f x = y := by
  rw [List.getElem?_map] at h
  cases e : l[i]? with
  | none => rw [e] at h; cases h
  | some x => rw [e] at h; exact ⟨x, rfl, Option.some.inj h⟩
theorem kd_G {F L : List Str} (hF : ∀ z ∈ F, z ∈ FW) (hL : ∀ z ∈ L, z ∈ MW) {k : Kd} (h : KdOk F L KN k) : TrG 3 k.tm ∧ k.fam.length ≤ 12 := by
  have l1 : ∀ z ∈ L, z.length ≤ 12 := fun z hz => (by decide +kernel : ∀ z ∈ MW, z.length ≤ 12) z (hL z hz)
  exact ⟨⟨L, KN, L ++ (["other"] : List Str), 1, by decide, by decide, h.2, l1, by decide +kernel, fun z hz => (List.mem_append.mp hz).elim (l1 z) fun h => by rw [List.mem_singleton.mp h]; decide +kernel⟩, (by decide +kernel : ∀ z ∈ FW, z.length ≤ 12) _ (hF _ h.1)⟩
theorem cl_G {C M : List Str} (hC : ∀ z ∈ C, z ∈ CW) (hM : ∀ z ∈ M, z.length ≤ 12) {p : PV} (h : Tr C CN (C ++ M) 2 p) : TrG 3 p := by
  have l1 : ∀ z ∈ C, z.length ≤ 12 := fun z hz => (by decide +kernel : ∀ z ∈ CW, z.length ≤ 12) z (hC z hz)
  exact ⟨C, CN, C ++ M, 2, by decide, by decide, h, l1, by decide +kernel, fun z hz => (List.mem_append.mp hz).elim (l1 z) (hM z)⟩
/-- a program and its table, all well -/
structure PgOk (t : Tb) (fs : List Fn) : Prop where
  tb : TbOk t
  fn : ∀ f ∈ fs, FnOkk t f
  gw : (fs.map (·.w)).Sublist GW
theorem PgOk.hF {t : Tb} {fs : List Fn} (h : PgOk t fs) : ∀ z ∈ t.fams, z ∈ FW := fun z hz => h.tb.fw.subset hz
theorem PgOk.hL {t : Tb} {fs : List Fn} (h : PgOk t fs) : ∀ z ∈ t.mw, z ∈ MW := fun z hz => h.tb.mw.subset hz
theorem PgOk.hC {t : Tb} {fs : List Fn} (h : PgOk t fs) : ∀ z ∈ t.cw, z ∈ CW := fun z hz => h.tb.cw.subset hz
theorem PgOk.l5 {t : Tb} {fs : List Fn} (h : PgOk t fs) : t.mks.length ≤ 5 ∧ t.fams.length ≤ 5 ∧ t.cns.length ≤ 6 ∧ fs.length ≤ 3 := by
  have h1 := h.tb.mw.length_le
  have h2 := h.tb.cw.length_le
  have h3 := h.gw.length_le
  unfold Tb.mw at h1
  unfold Tb.cw at h2
  rw [List.length_map] at h1 h2 h3
  exact ⟨h1, h.tb.fw.length_le, h2, h3⟩
theorem PgOk.mkr {t : Tb} {fs : List Fn} (h : PgOk t fs) {m : Str × Nat} (hm : m ∈ t.mks) : m.1 ∈ MW ∧ m.2 ∈ NW ∧ m.1.length ≤ 4 ∧ m.2 < 100 := by
  have h1 : m.1 ∈ MW := h.hL _ (List.mem_map.mpr ⟨m, hm, rfl⟩)
  have h2 := h.tb.mn m hm
  exact ⟨h1, h2, (by decide +kernel : ∀ z ∈ MW, z.length ≤ 4) _ h1, nw_lt _ h2⟩
theorem tx_pairs {K : PySem.W.Frag} {σ : L2.St} {H0 : Hp} {i j : Nat} {md : Kd} {ix : V} {E : XK} (e1 : σ[i]? = some (some (.str md.fam))) (e2 : σ[j]? = some (some ix)) (ok : sok md.fam = true) (it : Is H0 ix md.tm) (g : TrG 3 md.tm ∧ md.fam.length ≤ 12) :
    TxE σ H0 (tCall (spPairs (K := K)) [] E (tCons (tLst (tCons (tTup (tCons (tVar i) (tCons (tVar j) tNil))) tNil)) tNil)) (kdT md) := fun H Q s q =>
  ⟨_, e1, _, e2, (by show 2 ≤ sizeLine; decide), fun p6 hp6 => ⟨(by show 1 ≤ sizeLine; decide), fun p7 hp7 => ⟨p7, [.ref p6], [md], rfl, .inl (SqL.of upd_same), .cons (.tup ((same_upd hp7 _) _ _ upd_same) (.cons (.str _ ok) (.cons (it.same ((s.trans (same_upd hp6 _)).trans (same_upd hp7 _))) .nil))) .nil, ⟨by simp, fun kd h => by rw [List.mem_singleton.mp h]; exact g⟩, fun H8 s8 => q H8 (((same_upd hp6 _).trans (same_upd hp7 _)).trans s8)⟩⟩⟩
theorem sumj {ls : List (List Nat)} {n c g : Nat} (h : ls.length ≤ n) (k : ∀ x ∈ ls, x.length ≤ c) (l : n * c + n * g ≤ 16777216) : (ls.map List.length).sum + ls.length * g ≤ 16777216 := by
  have h1 := sum_le k
  have h2 : ls.length * c ≤ n * c := Nat.mul_le_mul_right _ h
  have h3 : ls.length * g ≤ n * g := Nat.mul_le_mul_right _ h
  omega
def spLines : Sp := fun vs H Q _ => ∃ (tv gv : V) (t : Tb) (fs : List Fn), vs = [tv, gv] ∧ Is H tv (tabP t) ∧ Is H gv (prgP fs) ∧ PgOk t fs ∧ ∀ p H', Same H H' → H' p = some (.lst ((lines t fs).map SV)) → Q (.ref p) H'
theorem ok_law_lines (T : Txt K mg) (G_law_text : FnOk P w K mg base CX0 4 T.a_law_text T.d_law_text ["tree"] (spText 3)) (G_law_pairs : FnOk P w K mg base CX0 5 T.a_law_pairs T.d_law_pairs ["pairs"] (spPairs (K := K))) : FnOk P w K mg base CX0 6 T.a_law_lines T.d_law_lines ["table", "program"] spLines := by
  refine T.F_law_lines.ok sc_law_lines (fun vs H Q E h => ?_) (fun cdv A outer s H vs Q E hr h => ?_)
  · obtain ⟨tv, gv, t, fs, rfl, _⟩ := h; rfl
  · obtain ⟨tv, gv, t, fs, rfl, hI, hJ, hP, q⟩ := h
    have hr_law_text : Room 4 _ := hr.mono (by decide)
    have hr_law_pairs : Room 5 _ := hr
    refine ⟨_, (pss_cons (ps_setLc (i := 2) (own := [("maker", 13)]) (g := (gName 13)) (tt := tYes) rfl sc_law_lines.nd rfl rfl (sw_true rfl rfl rfl (by decide +kernel)) (pi_tup (pe_ix ix_tup (pv 0) pe_int (fun _ _ => rfl))) (blkOk_by (own := [("maker", 13)]) (N := ["table", "program", "lines", "family", "word", "parts", "index", "told", "params", "falls", "clauses", "patterns", "body", "maker", "one"]) (sc := defScope s_law_lines) (by decide +kernel)) (fun _ _ _ _ _ => (pg_name (i := 13) sc_law_lines.nd rfl (Or.inl rfl))) (fun _ _ _ _ _ => pts_nil) (fun _ _ _ _ _ => (pe_op op_add_str (pe_op op_add_str (pe_op op_add_str pe_str (pe_ix (ixTK (K := K)) (pv 13) pe_int (fun _ _ => rfl))) pe_str) (pe_callTy call_str_int (by rfl) T.z_str (by decide +kernel) (pa_cons (pe_ix (ixTK (K := K)) (pv 13) pe_int (fun _ _ => rfl)) pa_nil)))))
    (pss_cons (ps_set (i := 2) sc_law_lines.nd rfl (Or.inl rfl) (pe_op op_cat (pv 2) (pe_lc (own := [("family", 3)]) (g := (gName 3)) (tt := tYes) rfl sc_law_lines.nd (pi_tup (pe_ix ix_tup (pv 0) pe_int (fun _ _ => rfl))) (blkOk_by (own := [("family", 3)]) (N := ["table", "program", "lines", "family", "word", "parts", "index", "told", "params", "falls", "clauses", "patterns", "body", "maker", "one"]) (sc := defScope s_law_lines) (by decide +kernel)) (fun _ _ _ _ _ => (pg_name (i := 3) sc_law_lines.nd rfl (Or.inl rfl))) (fun _ _ _ _ _ => pts_nil) (fun _ _ _ _ _ => (pe_op op_add_str pe_str (pv 3))))))
    (pss_cons (ps_for PassesOwn.never rfl (pi_tup (pe_ix ix_tup (pv 0) pe_int (fun _ _ => rfl))) (pg_tup rfl (pgs_cons (pg_name (i := 4) sc_law_lines.nd rfl (Or.inl rfl)) (pgs_cons (pg_name (i := 5) sc_law_lines.nd rfl (Or.inl rfl)) (pgs_cons (pg_name (i := 3) sc_law_lines.nd rfl (Or.inl rfl)) (pgs_cons (pg_name (i := 6) sc_law_lines.nd rfl (Or.inl rfl)) pgs_nil)))))
    (pss_cons (ps_set (i := 7) sc_law_lines.nd rfl (Or.inl rfl) (pe_lst pa_nil))
    (Evl.pss_cut (ps_if (pt_cmpR op_gt (pe_callB call_len_seq (by rfl) T.z_len (by decide +kernel) (pa_cons (pv 5) pa_nil)) pe_int (nomark _)) (pss_one (ps_set (i := 7) sc_law_lines.nd rfl (Or.inl rfl) (pe_lst (pa_cons (pe_call G_law_pairs hr_law_pairs rfl T.m_law_pairs T.F_law_pairs.kp T.b_law_pairs .nil pass0 (pa_cons (pv 5) pa_nil)) pa_nil)))) pss_nil)
    (pss_one (ps_expr (pe_bm PySem.F.plainAttrs_list PySem.F.slot_list_append PySem.F.type_list_append mt_append (pv 2) (pa_cons (pe_join pe_str (pe_op op_cat (pe_op op_cat (pe_lst (pa_cons pe_str (pa_cons (pv 4) (pa_cons pe_str pa_nil)))) (pv 7)) (pe_lst (pa_cons pe_str (pa_cons (pe_call G_law_pairs hr_law_pairs rfl T.m_law_pairs T.F_law_pairs.kp T.b_law_pairs .nil pass0 (pa_cons (pe_lst (pa_cons (pe_tup (pa_cons (pv 3) (pa_cons (pv 6) pa_nil))) pa_nil)) pa_nil)) pa_nil))))) pa_nil)))))))
    (pss_cons (ps_for PassesOwn.never rfl (pi_tup (pe_ix ix_tup (pv 1) pe_int (fun _ _ => rfl))) (pg_tup rfl (pgs_cons (pg_name (i := 4) sc_law_lines.nd rfl (Or.inl rfl)) (pgs_cons (pg_name (i := 8) sc_law_lines.nd rfl (Or.inl rfl)) (pgs_cons (pg_name (i := 3) sc_law_lines.nd rfl (Or.inl rfl)) (pgs_cons (pg_name (i := 6) sc_law_lines.nd rfl (Or.inl rfl)) (pgs_cons (pg_name (i := 9) sc_law_lines.nd rfl (Or.inl rfl)) (pgs_cons (pg_name (i := 10) sc_law_lines.nd rfl (Or.inl rfl)) pgs_nil)))))))
    (pss_cons (ps_set (i := 7) sc_law_lines.nd rfl (Or.inl rfl) (pe_lst (pa_cons pe_str (pa_cons (pe_call G_law_pairs hr_law_pairs rfl T.m_law_pairs T.F_law_pairs.kp T.b_law_pairs .nil pass0 (pa_cons (pv 8) pa_nil)) (pa_cons pe_str (pa_cons (pe_call G_law_pairs hr_law_pairs rfl T.m_law_pairs T.F_law_pairs.kp T.b_law_pairs .nil pass0 (pa_cons (pe_lst (pa_cons (pe_tup (pa_cons (pv 3) (pa_cons (pv 6) pa_nil))) pa_nil)) pa_nil)) pa_nil))))))
    (pss_cons (ps_expr (pe_bm PySem.F.plainAttrs_list PySem.F.slot_list_append PySem.F.type_list_append mt_append (pv 2) (pa_cons (pe_join pe_str (pe_op op_cat (pe_lst (pa_cons pe_str (pa_cons (pv 4) (pa_cons pe_str (pa_cons (pe_callTy call_str_int (by rfl) T.z_str (by decide +kernel) (pa_cons (pv 9) pa_nil)) pa_nil))))) (pv 7))) pa_nil)))
    (pss_one (ps_for PassesOwn.never rfl (pi_tup (pv 10)) (pg_tup rfl (pgs_cons (pg_name (i := 11) sc_law_lines.nd rfl (Or.inl rfl)) (pgs_cons (pg_name (i := 12) sc_law_lines.nd rfl (Or.inl rfl)) pgs_nil)))
    (pss_one (ps_expr (pe_bm PySem.F.plainAttrs_list PySem.F.slot_list_append PySem.F.type_list_append mt_append (pv 2) (pa_cons (pe_op op_add_str (pe_op op_add_str (pe_op op_add_str (pe_op op_add_str (pv 4) pe_str) (pe_join pe_str (pe_lc (own := [("one", 14)]) (g := (gName 14)) (tt := tYes) rfl sc_law_lines.nd (pi_tup (pv 11)) (blkOk_by (own := [("one", 14)]) (N := ["table", "program", "lines", "family", "word", "parts", "index", "told", "params", "falls", "clauses", "patterns", "body", "maker", "one"]) (sc := defScope s_law_lines) (by decide +kernel)) (fun _ _ _ _ _ => (pg_name (i := 14) sc_law_lines.nd rfl (Or.inl rfl))) (fun _ _ _ _ _ => pts_nil) (fun _ _ _ _ _ => (pe_call G_law_text hr_law_text rfl T.m_law_text T.F_law_text.kp T.b_law_text .nil pass0 (pa_cons (pv 14) pa_nil)))))) pe_str) (pe_call G_law_text hr_law_text rfl T.m_law_text T.F_law_text.kp T.b_law_text .nil pass0 (pa_cons (pv 12) pa_nil))) pa_nil)))))))))
    (pss_one (ps_ret (pv 2))))))), ?_⟩
    obtain ⟨a, m, f, k, vm, vk, rfl, ea, em, im, ef, ek, ik⟩ := tab_inv hI
    obtain ⟨b, pf, vf, rfl, eb, epf, jf⟩ := prg_inv hJ
    obtain ⟨l5, l5', l6, l3⟩ := hP.l5
    have hlm := im.len
    have hlk := ik.len
    have hlf := jf.len
    rw [List.length_map] at hlm hlk hlf
    refine go_lx (lx_lcT (L := t.mks.map lineM) (tl_ixT (j := 1) rfl (.inl (.inl ea)) rfl (.inl (.inl em))) (by rw [List.length_map, hlm]) (by omega) fun i x y H' hx hy s' => ?_) fun p1 H1 s1 e1 => ?_
    · obtain ⟨u, hu, iu⟩ := im.get hx
      obtain ⟨mk, hmk, rfl⟩ := map_at hy
      obtain ⟨mk2, hmk2, rfl⟩ := map_at hu
      rw [hmk] at hmk2
      cases hmk2
      obtain ⟨h1, h2, h3, h4⟩ := hP.mkr (List.mem_of_getElem? hmk)
      obtain ⟨p, us, rfl, ep, iu⟩ := (iu.same s').tup_inv
      obtain ⟨u0, u1, rfl, i0, i1⟩ := two_inv iu
      cases i0.str_inv
      cases i1
      have n2 := num_len _ h4
      refine TxE.to (tx_add (tx_add (tx_add tx_lit (tx_ixT (j := 0) rfl (.inl (.inl ep)) rfl) ?_) tx_lit ?_) (tx_numT (j := 1) h4 rfl (.inl (.inl ep)) rfl) ?_) ?_
      · rw [cs_len, cs_len, show ("maker " : Str).length = 6 from rfl]; omega
      · rw [List.length_append, cs_len, cs_len, cs_len, show ("maker " : Str).length = 6 from rfl, show (" " : Str).length = 1 from rfl]; omega
      · rw [List.length_append, List.length_append, cs_len, cs_len, cs_len, show ("maker " : Str).length = 6 from rfl, show (" " : Str).length = 1 from rfl]; omega
      · rw [show cs "maker " = cs "maker" ++ [32] from rfl, show cs " " = [32] from rfl]
        simp only [lineM, List.append_assoc, List.cons_append, List.nil_append]
    refine go_lxF (lx_catF (lx_var rfl e1) (lx_lcT (L := t.fams.map lineF) (tl_ixT (j := 2) rfl (.inl (.inl (s1 _ _ ea))) rfl (.inl (.inl (s1 _ _ ef)))) (by rw [List.length_map, List.length_map]) (by rw [List.length_map]; omega) fun i x y H' hx hy s' => ?_) (by rw [List.length_map, List.length_map]; omega)) fun p2 H2 n2 s2 e2 => ?_
    · obtain ⟨z, hz, rfl⟩ := map_at hx
      obtain ⟨z2, hz2, rfl⟩ := map_at hy
      rw [hz] at hz2
      cases hz2
      have := (by decide +kernel : ∀ z ∈ FW, z.length ≤ 12) _ (hP.hF _ (List.mem_of_getElem? hz))
      refine TxE.to (tx_add tx_lit (tx_varS rfl) ?_) ?_
      · rw [cs_len, cs_len, show ("family " : Str).length = 7 from rfl]; omega
      · rw [show cs "family " = cs "family" ++ [32] from rfl]
        simp only [lineF, List.append_assoc, List.cons_append, List.nil_append]
    have s12 := s1.trans s2
    have np2 : H p2 = none := s1.free n2
    -- constructors
    refine ⟨_, rfl, a, _, _, _, rfl, rfl, .inl (.inl (s12 _ _ ea)), atI_nat (j := 3) rfl, k, rfl, ⟨_, .inl (.inl (s12 _ _ ek))⟩, ?_⟩
    refine for_tup (K := K) (a := k) (xs := vk) (fun i σ H' => ∃ (y3 y4 y5 y6 y7 : Option V), σ = [some (.ref a), some (.ref b), some (.ref p2), y3, y4, y5, y6, y7, none, none, none, none, none, none, none] ∧ Same H H' ∧ H' p2 = some (.lst ((t.mks.map lineM ++ t.fams.map lineF ++ (t.cns.take i).map lineC).map SV))) ?_ ?_ ?_ ?_
    · exact ⟨_, _, _, _, _, rfl, s12, by rw [List.take_zero, List.map_nil, List.append_nil]; exact e2⟩
    · exact fun i σ H' _ ⟨_, _, _, _, _, _, s, _⟩ => .inl (.inl (s _ _ ek))
    · rintro i x σ H3 hx ⟨y3, y4, y5, y6, y7, rfl, s3, e3⟩
      obtain ⟨u, hu, iu⟩ := ik.get hx
      obtain ⟨c, hc, rfl⟩ := map_at hu
      have hi := (List.getElem?_eq_some_iff.mp hx).1
      have okc := hP.tb.cn c (List.mem_of_getElem? hc)
      obtain ⟨p, q2, vs, ix, rfl, ep, eq, il, it, _, _⟩ := cn_inv (iu.same s3)
      have hlen := il.len
      rw [List.length_map] at hlen
      have KG : ∀ kd ∈ c.ps, TrG 3 kd.tm ∧ kd.fam.length ≤ 12 := fun kd h => kd_G hP.hF hP.hL (okc.ps kd h)
      have KM : TrG 3 c.md.tm ∧ c.md.fam.length ≤ 12 := kd_G hP.hF hP.hL okc.md
      have lw := (by decide +kernel : ∀ z ∈ CW, z.length ≤ 12) _ okc.w
      refine ⟨p, _, rfl, .inl (.inl ep), rfl, _, _, rfl, _, _, rfl, _, _, rfl, _, _, rfl, rfl, by decide, fun tq htq => ?_⟩
      have s4 := same_upd htq (.lst [])
      refine ⟨fun σ H' => ∃ tq : Addr, σ = [some (.ref a), some (.ref b), some (.ref p2), some (.str c.md.fam), some (.str c.w), some (.ref q2), some ix, some (.ref tq), none, none, none, none, none, none, none] ∧ Same H3 H' ∧ H' tq = some (.lst ((toldC c.ps).map SV)), ?_, ?_⟩
      · refine ⟨_, rfl, q2, vs, rfl, .inr (.inl (.inl (s4 _ _ eq))), _, _, rfl, rfl, _, rfl, ?_⟩
        cases hps : c.ps with
        | nil =>
          have : vs.length = 0 := by rw [hlen, hps]; rfl
          rw [show decide ((0 : Int) < (vs.length : Int)) = false by rw [this]; rfl]
          exact iteF ⟨tq, rfl, s4, upd_same⟩
        | cons kd r =>
          have h1 : 0 < vs.length := by rw [hlen, hps]; simp
          rw [show decide ((0 : Int) < (vs.length : Int)) = true by simp; omega]
          refine iteT ⟨_, rfl, q2, vs, c.ps, rfl, .inr (.inl (.inl (s4 _ _ eq))), il.same s4, ⟨okc.l3, KG⟩, fun H5 s5 => ⟨(by show 1 ≤ sizeLine; decide), fun tp htp => ⟨tp, rfl, (s4.trans s5).trans (same_upd htp _), by rw [upd_same]; simp [toldC, hps]⟩⟩⟩
      · rintro σ H4 ⟨tq, rfl, s4, e4⟩
        have e34 := s4 _ _ e3
        refine ⟨_, rfl, .inl ⟨rfl, _, SqL.of e34⟩, ?_⟩
        have l1 : (toldC c.ps).length ≤ 1 := by unfold toldC; split <;> simp
        have kl : ∀ kd ∈ c.ps, (kdT kd).length ≤ 200 := fun kd h => by
          have h1 := (KG kd h).1.len
          have h2 := (KG kd h).2
          simp only [kdT, List.length_append, List.length_cons, List.length_nil, cs_len]; omega
        have km : (kdT c.md).length ≤ 200 := by
          have h1 := KM.1.len
          have h2 := KM.2
          simp only [kdT, List.length_append, List.length_cons, List.length_nil, cs_len]; omega
        have tl : ∀ x ∈ toldC c.ps, x.length ≤ 1000 := fun x hx => by
          unfold toldC at hx
          split at hx
          · cases hx
          · rw [List.mem_singleton.mp hx]
            have h2 := sepJ_len (c.ps.map kdT) 200 fun x hx => by obtain ⟨k, hk, rfl⟩ := List.mem_map.mp hx; exact kl k hk
            rw [List.length_map] at h2
            have h3 : c.ps.length * 200 ≤ 3 * 200 := Nat.mul_le_mul_right _ okc.l3
            have := okc.l3
            omega
        refine tx_join (K := K) (lx_cat (lx_cat (lx_lst (ts_cons tx_lit (ts_cons (tx_varS rfl) (ts_cons tx_lit ts_nil))) (by simp)) (lx_var rfl e4) (by simp only [List.length_cons, List.length_nil]; omega)) (lx_lst (ts_cons tx_lit (ts_cons (tx_pairs (K := K) rfl rfl (by assumption) (it.same s4) KM) ts_nil)) (by simp)) (by simp only [List.length_append, List.length_cons, List.length_nil]; omega)) (sumj (n := 10) (c := 1000) ?_ (fun x hx => ?_) (by decide)) H4 _ (.refl _) fun H5 s5 => ?_
        · simp only [List.length_append, List.length_cons, List.length_nil]; omega
        · simp only [List.mem_append, List.mem_cons, List.not_mem_nil, or_false] at hx
          rcases hx with ((rfl | rfl | rfl) | hx) | (rfl | rfl)
          · decide
          · rw [cs_len]; omega
          · decide
          · exact tl x hx
          · decide
          · omega
        · have e5 := s5 _ _ e34
          have ln : (t.mks.map lineM ++ t.fams.map lineF ++ (t.cns.take i).map lineC).length ≤ 100 := by
            simp only [List.length_append, List.length_map]
            have : (t.cns.take i).length ≤ t.cns.length := List.length_take_le' ..
            omega
          refine ⟨p2, _, _, rfl, rfl, e5, by rw [List.length_map]; exact small1000 (by omega), _, _, _, _, _, rfl, Kx.Same.own ((s3.trans s4).trans s5) np2 _, ?_⟩
          rw [upd_same, List.take_add_one, hc]
          have := join_C c
          rw [show cs " " = [32] from rfl, show cs "con" = cs "con" from rfl, show cs ":" = [58] from rfl, show cs "->" = [45, 62] from rfl, this]
          simp only [Option.toList_some, List.map_append, List.map_cons, List.map_nil, List.append_assoc]
    rintro σ H3 ⟨y3, y4, y5, y6, y7, rfl, s3, e3⟩
    rw [hlk, List.take_length] at e3
    have ebC := s3 _ _ eb
    refine ⟨_, rfl, b, _, _, _, rfl, rfl, .inl (.inl ebC), atI_nat (j := 1) rfl, pf, rfl, ⟨_, .inl (.inl (s3 _ _ epf))⟩, ?_⟩
    have tfold : ∀ i f, fs[i]? = some f → linesF (fs.take (i + 1)) = linesF (fs.take i) ++ lineH f :: f.cls.map (lineL f.w) := fun i f h => by
      unfold linesF
      rw [List.take_add_one, h, List.flatMap_append]
      simp
    have lF : ∀ gs : List Fn, gs.length ≤ 3 → (∀ f ∈ gs, f.cls.length ≤ 2) → (linesF gs).length ≤ 9 := fun gs h1 h2 => by
      have : ∀ gs : List Fn, (∀ f ∈ gs, f.cls.length ≤ 2) → (linesF gs).length ≤ gs.length * 3 := by
        intro gs
        induction gs with
        | nil => intro _; simp [linesF]
        | cons g r ih =>
          intro h
          have h1 := h g (List.mem_cons_self ..)
          have h2 := ih fun x hx => h x (List.mem_cons_of_mem _ hx)
          unfold linesF at h2 ⊢
          rw [List.flatMap_cons, List.length_append, List.length_cons, List.length_map, List.length_cons]
          omega
      have := this gs h2
      omega
    refine for_tup (K := K) (a := pf) (xs := vf) (fun i σ H' => ∃ (y3 y4 y5 y6 y7 y8 y9 y10 y11 y12 : Option V), σ = [some (.ref a), some (.ref b), some (.ref p2), y3, y4, y5, y6, y7, y8, y9, y10, y11, y12, none, none] ∧ Same H H' ∧ H' p2 = some (.lst ((t.mks.map lineM ++ t.fams.map lineF ++ t.cns.map lineC ++ linesF (fs.take i)).map SV))) ?_ ?_ ?_ ?_
    · exact ⟨_, _, _, _, _, _, _, _, _, _, rfl, s3, by rw [List.take_zero]; simp only [linesF, List.flatMap_nil, List.append_nil]; exact e3⟩
    · exact fun i σ H' _ ⟨_, _, _, _, _, _, _, _, _, _, _, s, _⟩ => .inl (.inl (s _ _ epf))
    · rintro i x σ H4 hx ⟨z3, z4, z5, z6, z7, z8, z9, z10, z11, z12, rfl, s4, e4⟩
      obtain ⟨u, hu, iu⟩ := jf.get hx
      obtain ⟨f, hf, rfl⟩ := map_at hu
      have hi := (List.getElem?_eq_some_iff.mp hx).1
      have okf := hP.fn f (List.mem_of_getElem? hf)
      obtain ⟨p, q2, r2, vs, us, ix, rfl, ep, eq, il, it, er, ir, ow, ofm⟩ := fn_inv (iu.same s4)
      have hlen := il.len
      have hlen2 := ir.len
      rw [List.length_map] at hlen hlen2
      have KG : ∀ kd ∈ f.ps, TrG 3 kd.tm ∧ kd.fam.length ≤ 12 := fun kd h => kd_G hP.hF hP.hL (okf.ps kd h)
      have KM : TrG 3 f.md.tm ∧ f.md.fam.length ≤ 12 := kd_G hP.hF hP.hL okf.md
      have lw := (by decide +kernel : ∀ z ∈ GW, z.length ≤ 12) _ okf.w
      have km : (kdT f.md).length ≤ 200 := by
        have h1 := KM.1.len
        have h2 := KM.2
        simp only [kdT, List.length_append, List.length_cons, List.length_nil, cs_len]; omega
      have kp : (sepJ (f.ps.map kdT)).length ≤ 1000 := by
        have h2 := sepJ_len (f.ps.map kdT) 200 fun x hx => by
          obtain ⟨k, hk, rfl⟩ := List.mem_map.mp hx
          have h1 := (KG k hk).1.len
          have h2 := (KG k hk).2
          simp only [kdT, List.length_append, List.length_cons, List.length_nil, cs_len]; omega
        rw [List.length_map] at h2
        have h3 : f.ps.length * 200 ≤ 3 * 200 := Nat.mul_le_mul_right _ okf.l3
        have := okf.l3
        omega
      refine ⟨p, _, rfl, .inl (.inl ep), rfl, _, _, rfl, _, _, rfl, _, _, rfl, _, _, rfl, _, _, rfl, _, _, rfl, rfl, ?_⟩
      refine go_lx (ls := [[58], sepJ (f.ps.map kdT), [45, 62], kdT f.md]) (lx_lst (ts_cons (tx_lit (z := ":")) (ts_cons (fun H5 Q5 s5 q5 => ⟨_, rfl, q2, vs, f.ps, rfl, .inr (.inl (.inl (s5 _ _ eq))), il.same s5, ⟨okf.l3, KG⟩, q5⟩) (ts_cons (tx_lit (z := "->")) (ts_cons (tx_pairs (K := K) rfl rfl ofm it KM) ts_nil)))) (by simp)) fun tq H5 s5 e5 => ?_
      have e45 := s5 _ _ e4
      have lnb : (t.mks.map lineM ++ t.fams.map lineF ++ t.cns.map lineC ++ linesF (fs.take i)).length ≤ 100 := by
        have := lF (fs.take i) (Nat.le_trans (List.length_take_le' ..) l3) (fun f h => (hP.fn f (List.mem_of_mem_take h)).l2)
        simp only [List.length_append, List.length_map]
        omega
      refine ⟨_, rfl, .inl ⟨rfl, _, SqL.of e45⟩, ?_⟩
      refine tx_join (K := K) (lx_cat (lx_lst (ts_cons tx_lit (ts_cons (tx_varS rfl) (ts_cons tx_lit (ts_cons (tx_num okf.falls rfl) ts_nil)))) (by simp)) (lx_var rfl e5) (by simp)) (sumj (n := 10) (c := 1000) (by simp) (fun x hx => ?_) (by decide)) H5 _ (.refl _) fun H6 s6 => ?_
      · simp only [List.mem_append, List.mem_cons, List.not_mem_nil, or_false] at hx
        have := num_len _ okf.falls
        rcases hx with (rfl | rfl | rfl | rfl) | (rfl | rfl | rfl | rfl)
        · decide
        · rw [cs_len]; omega
        · decide
        · omega
        · decide
        · exact kp
        · decide
        · omega
      have e6 := s6 _ _ e45
      have s46 := (s4.trans s5).trans s6
      have s46' := s5.trans s6
      refine ⟨p2, _, _, rfl, rfl, e6, by rw [List.length_map]; exact small1000 (by omega), ?_⟩
      have np0 : f.ps ≠ [] := fun e => by have := okf.l1; rw [e] at this; simp at this
      rw [show cs " " = [32] from rfl, join_H f np0]
      have e7 : upd H6 p2 (.lst ((t.mks.map lineM ++ t.fams.map lineF ++ t.cns.map lineC ++ linesF (fs.take i)).map SV ++ [SV (lineH f)])) p2 = some (.lst ((t.mks.map lineM ++ t.fams.map lineF ++ t.cns.map lineC ++ linesF (fs.take i) ++ (lineH f :: (f.cls.take 0).map (lineL f.w))).map SV)) := by rw [upd_same]; simp
      have s7 : Same H (upd H6 p2 (.lst ((t.mks.map lineM ++ t.fams.map lineF ++ t.cns.map lineC ++ linesF (fs.take i)).map SV ++ [SV (lineH f)]))) := Kx.Same.own s46 np2 _
      -- the parts stand as they stood in the program at the start
      obtain ⟨p0, q0, r0, vs0, us0, ix0, epp, ep0, eq0, il0, it0, er0, ir0, _, _⟩ := fn_inv iu
      cases epp
      have tp := (s4 _ _ ep0).symm.trans ep
      cases tp
      have hus := (s4 _ _ er0).symm.trans er
      cases hus
      generalize upd H6 p2 (.lst ((t.mks.map lineM ++ t.fams.map lineF ++ t.cns.map lineC ++ linesF (fs.take i)).map SV ++ [SV (lineH f)])) = H7 at e7 s7 ⊢
      refine ⟨_, rfl, r2, rfl, ⟨_, .inl (.inl (s7 _ _ er0))⟩, ?_⟩
      refine for_tup (K := K) (a := r2) (xs := us) (fun j σ H' => ∃ (y11 y12 : Option V), σ = [some (.ref a), some (.ref b), some (.ref p2), some (.str f.md.fam), some (.str f.w), z5, some ix, some (.ref tq), some (.ref q2), some (.int f.falls), some (.ref r2), y11, y12, none, none] ∧ Same H H' ∧ H' p2 = some (.lst ((t.mks.map lineM ++ t.fams.map lineF ++ t.cns.map lineC ++ linesF (fs.take i) ++ (lineH f :: (f.cls.take j).map (lineL f.w))).map SV))) ?_ ?_ ?_ ?_
      · exact ⟨_, _, rfl, s7, e7⟩
      · exact fun i σ H' _ ⟨_, _, _, s, _⟩ => .inl (.inl (s _ _ er0))
      · rintro j x σ H8 hx ⟨y11, y12, rfl, s8, e8⟩
        obtain ⟨u, hu, iu8⟩ := ir0.get hx
        obtain ⟨c, hc, rfl⟩ := map_at hu
        have okc := okf.cls c (List.mem_of_getElem? hc)
        obtain ⟨pp, pq, ws, bv, rfl, epp, epq, iw, ib⟩ := cl_inv (iu8.same s8)
        have hlw := iw.len
        have l3' := okf.l3
        have lps : c.ps.length ≤ 3 := by rw [okc.l]; exact l3'
        have G1 : ∀ p ∈ c.ps, TrG 3 p := fun p hp => cl_G hP.hC (M := ["Other"]) (by decide +kernel) (okc.ps p hp)
        have G2 : TrG 3 c.b := cl_G hP.hC (M := ["f", "g", "con"]) (by decide +kernel) okc.b
        have lb := G2.len
        have lp : (sepJ (c.ps.map txt)).length ≤ 1000 := by
          have h2 := sepJ_len (c.ps.map txt) 180 fun x hx => by obtain ⟨p, hp, rfl⟩ := List.mem_map.mp hx; exact (G1 p hp).len
          rw [List.length_map] at h2
          have h3 : c.ps.length * 180 ≤ 3 * 180 := Nat.mul_le_mul_right _ lps
          omega
        refine ⟨pp, _, rfl, .inl (.inl epp), rfl, _, _, rfl, _, _, rfl, rfl, ?_⟩
        refine ⟨_, rfl, .inl ⟨rfl, _, SqL.of e8⟩, ?_⟩
        refine TxE.to (l2 := lineL f.w c) (tx_add (tx_add (tx_add (tx_add (tx_varS rfl) tx_lit ?_) (tx_join (K := K) (lx_lcT (L := c.ps.map txt) (tl_var rfl (.inl (.inl epq))) (by rw [List.length_map, hlw]) (by omega) fun i x y H' hx hy s' => ?_) (sumj (n := 3) (c := 180) (by rw [List.length_map]; exact lps) (fun x hx => ?_) (by decide))) ?_) tx_lit ?_) (fun H9 Q9 s9 q9 => ⟨_, rfl, bv, c.b, rfl, ib.same s9, G2, q9⟩) ?_) ?_ H8 _ (.refl _) fun H9 s9 => ?_
        all_goals try rw [show gj (cs ", ") (c.ps.map txt) = sepJ (c.ps.map txt) from gj_sep _]
        all_goals try rw [show cs "(" = [40] from rfl]
        all_goals try rw [show cs ") = " = [41, 32, 61, 32] from rfl]
        · rw [cs_len]; simp; omega
        · obtain ⟨tt, ht, itt⟩ := iw.get hx
          obtain ⟨tt2, ht2, rfl⟩ := map_at hy
          rw [ht] at ht2
          cases ht2
          exact fun H9 Q9 s9 q9 => ⟨_, rfl, x, tt, rfl, itt.same (s'.trans s9), G1 tt (List.mem_of_getElem? ht), q9⟩
        · obtain ⟨p, hp, rfl⟩ := List.mem_map.mp hx; exact (G1 p hp).len
        · simp only [List.length_append, List.length_cons, List.length_nil, cs_len]; omega
        · simp only [List.length_append, List.length_cons, List.length_nil, cs_len]; omega
        · simp only [List.length_append, List.length_cons, List.length_nil, cs_len]; omega
        · simp only [lineL, List.append_assoc, List.cons_append, List.nil_append]
        · have e9 := s9 _ _ e8
          have l2c := okf.l2
          refine ⟨p2, _, _, rfl, rfl, e9, ?_, _, _, rfl, Kx.Same.own (s8.trans s9) np2 _, ?_⟩
          · rw [List.length_map, List.length_append, List.length_cons, List.length_map]
            exact small1000 (by have : (f.cls.take j).length ≤ f.cls.length := List.length_take_le' ..; omega)
          · rw [upd_same, List.take_add_one, hc]
            simp only [Option.toList_some, List.map_append, List.map_cons, List.map_nil, List.append_assoc, List.cons_append]
      · rintro σ H8 ⟨y11, y12, rfl, s8, e8⟩
        rw [hlen2, List.take_length] at e8
        refine ⟨_, _, _, _, _, _, _, _, _, _, rfl, s8, ?_⟩
        rw [tfold i f hf, ← List.append_assoc]
        exact e8
    · rintro σ H4 ⟨z3, z4, z5, z6, z7, z8, z9, z10, z11, z12, rfl, s4, e4⟩
      rw [hlf, List.take_length] at e4
      refine ⟨_, rfl, q p2 H4 s4 ?_⟩
      unfold lines
      simp only [List.append_assoc] at e4 ⊢
      exact e4
end
end Kx
namespace Kx
open PySem PySem.Spec PyProof.Rows L2
section
variable {P : Program} {w : World} {K : PySem.W.Frag} {mg : Str → Option Value} {base : Heap}
set_option pp.maxSteps 1500
/-! ### what write makes -/
theorem go_tx {σ : L2.St} {H : Hp} {te : TE} {l : List Nat} {g : TG} {rest : TS} {D : Ends} (h : TxE σ H te l) (q : ∀ H1, Same H H1 → g (SV l) σ H1 fun σ2 H2 => rest D σ2 H2) : tSeq (tAsg te g) rest D σ H := h H _ (.refl _) q
def JsE (σ : L2.St) (H0 : Hp) (ts : List TE) (l : List Nat) : Prop := ∀ (acc : Str) (H : Hp) (Q : Str → Hp → Prop), acc.length + l.length ≤ 20000 → Same H0 H → (∀ H', Same H H' → Q (acc ++ mkS l) H') → tJs ts acc σ H Q
theorem js_nil {σ : L2.St} {H0 : Hp} : JsE σ H0 [] [] := fun acc H Q l s q => by
  have := q H (.refl _)
  rw [show acc ++ mkS [] = acc from cs_inj (by rw [cs_app, cs_mk, List.append_nil])] at this
  exact this
theorem js_cons {σ : L2.St} {H0 : Hp} {te : TE} {ts : List TE} {a b : List Nat} (ha : TxE σ H0 te a) (hb : JsE σ H0 ts b) : JsE σ H0 (te :: ts) (a ++ b) := fun acc H Q l s q => by
  rw [List.length_append] at l
  refine ha H _ s fun H1 s1 => ⟨mkS a, rfl, ?_, hb _ H1 _ ?_ (s.trans s1) fun H2 s2 => ?_⟩
  · rw [slen, mk_len]; exact small7 (by omega)
  · rw [slen, mk_len]; omega
  · have := q H2 (s1.trans s2)
    rw [← mk_app] at this
    rw [show (acc ++ mkS a) ++ mkS b = acc ++ (mkS a ++ mkS b) from cs_inj (by simp only [cs_app, List.append_assoc])]
    exact this
theorem go_c1 {σ : L2.St} {H : Hp} {te : TE} {l : List Nat} {R : List V → Hp → Prop} (h : TxE σ H te l) (q : ∀ H', Same H H' → R [SV l] H') : tCons te tNil σ H R := h H _ (.refl _) q
theorem JsE.to {σ : L2.St} {H0 : Hp} {ts : List TE} {l l2 : List Nat} (h : JsE σ H0 ts l) (e : l = l2) : JsE σ H0 ts l2 := e ▸ h
theorem go_js {σ : L2.St} {H : Hp} {ts : List TE} {l : List Nat} {R : VK} (h : JsE σ H ts l) (n : l.length ≤ 20000) (q : ∀ H', Same H H' → R (SV l) H') : tJs ts Str.empty σ H fun out H1 => R (.str out) H1 :=
  h Str.empty H _ (by show 0 + _ ≤ _; omega) (.refl _) fun H1 s1 => by
    have := q H1 s1
    rw [show Str.empty ++ mkS l = mkS l from cs_inj (by rw [cs_app]; rfl)]
    exact this
theorem tx_fs {σ : L2.St} {H0 : Hp} {ts : List TE} {l : List Nat} (h : JsE σ H0 ts l) (n : l.length ≤ 20000) : TxE σ H0 (fun σ H Q => tJs ts Str.empty σ H fun out H1 => Q (.str out) H1) l := fun H Q s q =>
  h Str.empty H _ (by show 0 + _ ≤ _; omega) s fun H1 s1 => by
    have := q H1 s1
    rw [show Str.empty ++ mkS l = mkS l from cs_inj (by rw [cs_app]; rfl)]
    exact this
theorem tx_fmt {σ : L2.St} {H0 : Hp} {te : TE} {l : List Nat} (h : TxE σ H0 te l) (n : l.length ≤ 20000) : TxE σ H0 (tFmt te) l := fun H Q s q => h H _ s fun H1 s1 => .inl ⟨_, rfl, by rw [mk_len]; exact small7 n, q H1 s1⟩
theorem tx_fmtN {σ : L2.St} {H0 : Hp} {i n : Nat} (hn : n < 100) (e : σ[i]? = some (some (.int n))) : TxE σ H0 (tFmt (tVar i)) (num n) := fun H Q s q =>
  ⟨_, e, .inr ⟨_, rfl, num_lg n hn, by have := q H (.refl _); unfold SV num at this; rw [mk_cs] at this; exact this⟩⟩
/-- a list of the texts of a tuple's pairs -/
theorem lx_lcP {K : PySem.W.Frag} {σ : L2.St} {H0 : Hp} {tl te : TE} {xs : List V} {L : List (List Nat)} {i1 i2 : Nat} (ht : TlE K σ H0 tl xs) (hl : L.length = xs.length) (hb : xs.length ≤ 1000)
    (hw : ∀ u v, wipe (((wipe σ [i1, i2]).set i1 (some u)).set i2 (some v)) [i1, i2] = wipe σ [i1, i2])
    (hs : ∀ (i : Nat) (x : V) (y : List Nat) (H' : Hp), xs[i]? = some x → L[i]? = some y → Same H0 H' → ∃ p u v, x = .ref p ∧ SqT K H' p [u, v] ∧ TxE (((wipe σ [i1, i2]).set i1 (some u)).set i2 (some v)) H' te y) :
    LxF σ H0 (tLc (iTup K tl) (gTup K 2 (gCons (gName i1) (gCons (gName i2) gNil))) tYes te [i1, i2]) L := fun H Q s q => by
  refine ht H _ s fun a H1 s1 ha => ⟨a, rfl, ⟨xs, ha⟩, fun D hD => ?_⟩
  refine lc_tup (K := K) (a := a) (xs := xs) (fun i H4 => Same H1 H4 ∧ H4 D = some (.lst ((L.take i).map SV))) ?_ ?_ ?_ ?_
  · exact ⟨same_upd hD _, upd_same⟩
  · exact fun i H' _ ⟨s, _⟩ => sqt_same s ha
  · rintro i x H4 hx ⟨s4, e4⟩
    have hi := (List.getElem?_eq_some_iff.mp hx).1
    have hy : L[i]? = some (L[i]'(by omega)) := List.getElem?_eq_getElem _
    obtain ⟨p, u, v, rfl, hp, htx⟩ := hs i x _ H4 hx hy ((s.trans s1).trans s4)
    refine ⟨p, _, rfl, hp, rfl, _, _, rfl, _, _, rfl, rfl, hw u v, yes_if ?_⟩
    refine htx H4 _ (.refl _) fun H5 s5 => ⟨_, s5 _ _ e4, ?_, Kx.Same.own (s4.trans s5) hD _, ?_⟩
    · rw [List.length_map]; exact small1000 (by have : (L.take i).length ≤ i := List.length_take_le ..; omega)
    · rw [upd_same, List.take_add_one, hy, List.map_append]; rfl
  · rintro H4 ⟨s4, e4⟩
    rw [← hl, List.take_length] at e4
    exact q D H4 (s1.free hD) (s1.trans s4) e4
theorem lx_lstF {σ : L2.St} {H0 : Hp} {ta : TA} {ls : List (List Nat)} (a : TsE σ H0 ta ls) (l : ls.length ≤ 1000) : LxF σ H0 (tLst ta) ls := fun H Q s q =>
  a H _ s fun H1 s1 => ⟨by rw [List.length_map]; exact Nat.le_of_lt (small1000 l), fun p hp => q p _ (s1.free hp) (s1.trans (same_upd hp _)) upd_same⟩
theorem LxF.to {σ : L2.St} {H0 : Hp} {te : TE} {l : List (List Nat)} (h : LxF σ H0 te l) : LxE σ H0 te l := fun H Q s q => h H Q s fun p H' _ s' e => q p H' s' e
end
end Kx
namespace Kx
open PySem PySem.Spec PyProof.Rows L2
section
variable {P : Program} {w : World} {K : PySem.W.Frag} {mg : Str → Option Value} {base : Heap}
set_option pp.maxSteps 1500
/-! ### the whole text -/
def fullT (ls : List (List Nat)) : List Nat := (ls.map (· ++ [10])).flatten
theorem gj_nil : ∀ l : List (List Nat), gj [] l = l.flatten
  | [] => rfl
  | [a] => by simp [gj]
  | a :: b :: r => by
    have := gj_nil (b :: r)
    simp only [gj, List.nil_append, this, List.flatten_cons]
theorem flat_len {l : List (List Nat)} {c : Nat} (h : ∀ x ∈ l, x.length ≤ c) : l.flatten.length ≤ l.length * c := by
  rw [List.length_flatten]
  exact sum_le h
theorem full_app (a b : List (List Nat)) : fullT (a ++ b) = fullT a ++ fullT b := by simp [fullT]
theorem full_le {l : List (List Nat)} {n c : Nat} (hn : l.length ≤ n) (h : ∀ x ∈ l, x.length ≤ c) : (fullT l).length ≤ n * (c + 1) := by
  have h1 := flat_len (l := l.map (· ++ [10])) (c := c + 1) fun x hx => by
    obtain ⟨y, hy, rfl⟩ := List.mem_map.mp hx
    have := h y hy
    rw [List.length_append, List.length_singleton]; omega
  rw [List.length_map] at h1
  exact Nat.le_trans h1 (Nat.mul_le_mul_right _ hn)
/-- each line is well -/
theorem PgOk.lnM {t : Tb} {fs : List Fn} (h : PgOk t fs) : ∀ m ∈ t.mks, LnOk (lineM m) (tokM m) 13 := fun m hm => Kx.lnM (h.mkr hm).1 (h.mkr hm).2.1
theorem PgOk.lnF {t : Tb} {fs : List Fn} (h : PgOk t fs) : ∀ z ∈ t.fams, LnOk (lineF z) (tokF z) 13 := fun z hz => Kx.lnF (h.hF z hz)
theorem PgOk.lnC {t : Tb} {fs : List Fn} (h : PgOk t fs) : ∀ c ∈ t.cns, LnOk (lineC c) (tokC c) 151 := fun c hc => Kx.lnC h.hF h.hL (h.tb.cn c hc)
theorem PgOk.lnH {t : Tb} {fs : List Fn} (h : PgOk t fs) : ∀ f ∈ fs, LnOk (lineH f) (tokH f) 153 := fun f hf => Kx.lnH h.hF h.hL (h.fn f hf)
theorem PgOk.lnL {t : Tb} {fs : List Fn} (h : PgOk t fs) : ∀ f ∈ fs, ∀ c ∈ f.cls, LnOk (lineL f.w c) (tokL f.w c) 734 := fun f hf c hc => Kx.lnL h.hC (h.fn f hf).w ((h.fn f hf).cls c hc) (h.fn f hf).l3
theorem PgOk.len {t : Tb} {fs : List Fn} (h : PgOk t fs) : (fullT (lines t fs)).length ≤ 5924 := by
  obtain ⟨l1, l2, l3, l4⟩ := h.l5
  have h1 : (fullT (t.mks.map lineM)).length ≤ 5 * 14 := full_le (by rw [List.length_map]; exact l1) fun x hx => by obtain ⟨m, hm, rfl⟩ := List.mem_map.mp hx; exact (h.lnM m hm).len
  have h2 : (fullT (t.fams.map lineF)).length ≤ 5 * 14 := full_le (by rw [List.length_map]; exact l2) fun x hx => by obtain ⟨m, hm, rfl⟩ := List.mem_map.mp hx; exact (h.lnF m hm).len
  have h3 : (fullT (t.cns.map lineC)).length ≤ 6 * 152 := full_le (by rw [List.length_map]; exact l3) fun x hx => by obtain ⟨m, hm, rfl⟩ := List.mem_map.mp hx; exact (h.lnC m hm).len
  have h4 : ∀ gs : List Fn, (∀ f ∈ gs, f ∈ fs) → (fullT (linesF gs)).length ≤ gs.length * 1624 := by
    intro gs
    induction gs with
    | nil => intro _; simp [fullT, linesF]
    | cons f r ih =>
      intro hm
      have h5 := ih fun x hx => hm x (List.mem_cons_of_mem _ hx)
      have hf := hm f (List.mem_cons_self ..)
      have h6 : (fullT [lineH f]).length ≤ 1 * 154 := full_le (by simp) fun x hx => by rw [List.mem_singleton.mp hx]; exact (h.lnH f hf).len
      have h7 : (fullT (f.cls.map (lineL f.w))).length ≤ 2 * 735 := full_le (by rw [List.length_map]; exact (h.fn f hf).l2) fun x hx => by obtain ⟨c, hc, rfl⟩ := List.mem_map.mp hx; exact (h.lnL f hf c hc).len
      have e : linesF (f :: r) = [lineH f] ++ (f.cls.map (lineL f.w) ++ linesF r) := by simp [linesF]
      rw [e, full_app, full_app, List.length_append, List.length_append, List.length_cons]
      omega
  have h5 := h4 fs fun f hf => hf
  unfold lines
  rw [full_app, full_app, full_app, List.length_append, List.length_append, List.length_append]
  omega
theorem lines_le {t : Tb} {fs : List Fn} (h : PgOk t fs) : (lines t fs).length ≤ 100 := by
  obtain ⟨l1, l2, l3, l4⟩ := h.l5
  have : ∀ gs : List Fn, (∀ f ∈ gs, f.cls.length ≤ 2) → (linesF gs).length ≤ gs.length * 3 := by
    intro gs
    induction gs with
    | nil => intro _; simp [linesF]
    | cons g r ih =>
      intro h
      have h1 := h g (List.mem_cons_self ..)
      have h2 := ih fun x hx => h x (List.mem_cons_of_mem _ hx)
      unfold linesF at h2 ⊢
      rw [List.flatMap_cons, List.length_append, List.length_cons, List.length_map, List.length_cons]
      omega
  have h5 := this fs fun f hf => (h.fn f hf).l2
  simp only [lines, List.length_append, List.length_map]
  omega
theorem nx_of {f : L2.St → Hp → Prop} {r : VK} {b c : L2.St → Hp → Prop} {σ : L2.St} {H : Hp} (h : f σ H) : (Ends.mk f r b c).nx σ H := h
theorem go_l1 {σ : L2.St} {H : Hp} {te : TE} {ls : List (List Nat)} {R : List V → Hp → Prop} (h : LxE σ H te ls) (q : ∀ p H', Same H H' → H' p = some (.lst (ls.map SV)) → R [.ref p] H') : tCons te tNil σ H R := h H _ (.refl _) q
/-- over a list of texts -/
theorem lx_lcL {K : PySem.W.Frag} {σ : L2.St} {H0 : Hp} {te : TE} {a : Addr} {xs : List V} {L : List (List Nat)} {j k : Nat} (e : σ[j]? = some (some (.ref a))) (ha : SqL K H0 a xs) (hl : L.length = xs.length) (hb : xs.length ≤ 1000)
    (hs : ∀ (i : Nat) (x : V) (y : List Nat) (H' : Hp), xs[i]? = some x → L[i]? = some y → Same H0 H' → TxE ((σ.set k none).set k (some x)) H' te y) :
    LxE σ H0 (tLc (iList K (tVar j)) (gName k) tYes te [k]) L := fun H Q s q => by
  refine ⟨_, e, a, rfl, ⟨xs, s.seq ha⟩, fun D hD => ?_⟩
  refine lc_list (K := K) (a := a) (xs := xs) (fun i H4 => Same H H4 ∧ H4 D = some (.lst ((L.take i).map SV))) ⟨same_upd hD _, upd_same⟩ (fun i H' _ ⟨s2, _⟩ => (s.trans s2).seq ha) ?_ ?_
  · rintro i x H4 hx ⟨s4, e4⟩
    have hi := (List.getElem?_eq_some_iff.mp hx).1
    have hy : L[i]? = some (L[i]'(by omega)) := List.getElem?_eq_getElem _
    refine ⟨by show ((σ.set k none).set k (some x)).set k none = σ.set k none; simp only [List.set_set], yes_if ?_⟩
    refine hs i x _ H4 hx hy (s.trans s4) H4 _ (.refl _) fun H5 s5 => ⟨_, s5 _ _ e4, ?_, Kx.Same.own (s4.trans s5) hD _, ?_⟩
    · rw [List.length_map]; exact small1000 (by have : (L.take i).length ≤ i := List.length_take_le ..; omega)
    · rw [upd_same, List.take_add_one, hy, List.map_append]; rfl
  · rintro H4 ⟨s4, e4⟩
    rw [← hl, List.take_length] at e4
    exact q D H4 s4 e4
end
end Kx
set_option maxHeartbeats 2000000
set_option pp.maxSteps 600
/-! The mathematics of reading: rows of tokens to items. -/
namespace Kx
open PySem PySem.Spec PyProof.Rows L2
abbrev Tok := List Nat
def wkb (z : Str) : Bool := decide (1 ≤ z.length) && (decide (z.length ≤ 12) && (Txt.isascii z && (Txt.isalnum z && match z.cps.toList with | c :: _ => Txt.isalpha ⟨#[c]⟩ | [] => false)))
def isW (t : Tok) : Bool := wkb (mkS t)
def numV (t : Tok) : Option Nat := (List.range 100).find? fun n => num n == t
theorem numV_some {t : Tok} {n : Nat} (h : numV t = some n) : t = num n ∧ n < 100 := by
  have h1 := List.find?_some h
  have h2 := List.mem_of_find?_eq_some h
  exact ⟨(beq_iff_eq.mp h1).symm, List.mem_range.mp h2⟩
/-! ### what stands open -/
def net (U : List Tok) : Int := (U.count [40] : Int) - (U.count [41] : Int)
def NetOk (U : List Tok) : Prop := ∀ i, net (U.take i) ≤ 40
theorem net_app (a b : List Tok) : net (a ++ b) = net a + net b := by
  unfold net
  rw [List.count_append, List.count_append]
  omega
theorem net_nil : net [] = 0 := rfl
theorem net_cons (a : Tok) (b : List Tok) : net (a :: b) = net [a] + net b := net_app [a] b
theorem net_one {t : Tok} (h1 : t ≠ [40]) (h2 : t ≠ [41]) : net [t] = 0 := by
  unfold net
  rw [List.count_singleton, List.count_singleton]
  simp [h1, h2]
def Nb (c b : Int) (U : List Tok) : Prop := ∀ i, c + net (U.take i) ≤ b
theorem Nb.app {c d : Int} {a b : List Tok} (h : Nb c d a) (k : Nb (c + net a) d b) : Nb c d (a ++ b) := fun i => by
  rw [List.take_append]
  rcases Nat.le_total i a.length with l | l
  · rw [show i - a.length = 0 by omega, List.take_zero, List.append_nil]
    exact h i
  · rw [List.take_of_length_le l, net_app]
    have := k (i - a.length)
    omega
theorem Nb.nil {c d : Int} (h : c ≤ d) : Nb c d [] := fun i => by rw [List.take_nil, net_nil]; omega
theorem Nb.le {c d : Int} {U : List Tok} (h : Nb c d U) : c ≤ d := by have := h 0; rw [List.take_zero, net_nil] at this; omega
theorem Nb.one {c d : Int} {t : Tok} (h : c ≤ d) (k : c + net [t] ≤ d) : Nb c d [t] := fun i => by
  cases i with
  | zero => rw [List.take_zero, net_nil]; omega
  | succ i => rw [List.take_succ_cons, List.take_nil]; exact k
theorem Nb.cons {c d : Int} {t : Tok} {b : List Tok} (h : c ≤ d) (k : Nb (c + net [t]) d b) : Nb c d (t :: b) := Nb.app (a := [t]) (.one h k.le) k
theorem Nb.mono {c d e f : Int} {U : List Tok} (h : Nb c d U) (k : e ≤ c) (l : d ≤ f) : Nb e f U := fun i => by have := h i; omega
theorem Nb.ok {U : List Tok} (h : Nb 0 40 U) : NetOk U := fun i => by have := h i; omega
theorem net_40 : net [[40]] = 1 := by decide
theorem net_41 : net [[41]] = -1 := by decide
theorem w_net {t : Tok} (h : isW t = true) : net [t] = 0 := by
  refine net_one (fun e => ?_) fun e => ?_
  · rw [e] at h; exact absurd h (by decide +kernel)
  · rw [e] at h; exact absurd h (by decide +kernel)
/-! ### trees -/
def pL (P : List Tok → Option (PV × List Tok)) : Nat → List Tok → Option (List PV × List Tok)
  | 0, _ => none
  | m + 1, X => match P X with
    | none => none
    | some (_, []) => none
    | some (t, a :: R) => if a = [41] then some ([t], R) else if a = [44] then (match pL P m R with
      | none => none
      | some (ts, R3) => some (t :: ts, R3)) else none
def pT : Nat → List Tok → Option (PV × List Tok)
  | 0, _ => none
  | _ + 1, [] => none
  | k + 1, t :: R => if isW t = true then (match R with
      | [] => some (.str (mkS t), [])
      | a :: R2 => if a = [40] then (match pL (pT k) (R2.length + 1) R2 with
        | none => none
        | some (ts, R3) => some (.tup (.str (mkS t) :: ts), R3)) else some (.str (mkS t), a :: R2)) else none
/-- as deep as n, with few parts -/
def RwT : Nat → PV → Prop
  | 0, _ => False
  | _ + 1, .str z => sok z = true
  | _ + 1, .int _ => False
  | _ + 1, .tup [] => False
  | _ + 1, .tup (.int _ :: _) => False
  | _ + 1, .tup (.tup _ :: _) => False
  | n + 1, .tup (.str w :: r) => sok w = true ∧ r ≠ [] ∧ r.length ≤ 6000 ∧ ∀ t ∈ r, RwT n t
theorem isW_sok {t : Tok} (h : isW t = true) : sok (mkS t) = true := by
  unfold isW wkb at h
  simp only [Bool.and_eq_true] at h
  have h3 := h.2.2.1
  show (mkS t).cps.all (· < 0x110000) = true
  rw [Array.all_eq_true']
  intro c hc
  have h4 : (mkS t).cps.all (· < 128) = true := h3
  rw [Array.all_eq_true'] at h4
  have := h4 c hc
  simp only [decide_eq_true_eq] at this ⊢
  omega
structure Eaten (k : Nat) (C : List Tok) : Prop where
  ne : C ≠ []
  net : net C = 0
  nb : Nb 1 k C
theorem pL_eat {k : Nat} (hP : ∀ X t R, pT k X = some (t, R) → ∃ C, X = C ++ R ∧ Eaten k C ∧ (X.length ≤ 6000 → RwT k t)) :
    ∀ (m : Nat) (X : List Tok) (ts : List PV) (R : List Tok), pL (pT k) m X = some (ts, R) → ∃ C, X = C ++ R ∧ net C = -1 ∧ Nb 1 k C ∧ ts ≠ [] ∧ ts.length ≤ C.length ∧ (X.length ≤ 6000 → ∀ t ∈ ts, RwT k t)
  | 0, X, ts, R, h => by cases h
  | m + 1, X, ts, R, h => by
    unfold pL at h
    cases e : pT k X with
    | none => rw [e] at h; cases h
    | some p =>
      obtain ⟨t, Y⟩ := p
      obtain ⟨C, rfl, E, hr⟩ := hP X t Y e
      rw [e] at h
      cases Y with
      | nil => cases h
      | cons a Y =>
        by_cases h41 : a = [41]
        · simp only [h41, if_true] at h
          cases h
          subst h41
          refine ⟨C ++ [[41]], by simp, by rw [net_app, E.net, net_41]; rfl, E.nb.app ?_, by simp, by have := List.length_pos_iff.mpr E.ne; simp, fun l x hx => by rw [List.mem_singleton.mp hx]; exact hr l⟩
          rw [E.net]
          exact .one E.nb.le (by rw [net_41]; have := E.nb.le; omega)
        · simp only [h41, if_false] at h
          by_cases h44 : a = [44]
          · simp only [h44, if_true] at h
            subst h44
            cases e2 : pL (pT k) m Y with
            | none => rw [e2] at h; cases h
            | some p =>
              obtain ⟨us, R3⟩ := p
              rw [e2] at h
              cases h
              obtain ⟨C2, rfl, n2, b2, ne2, l2, r2⟩ := pL_eat hP m Y us R e2
              refine ⟨C ++ ([44] :: C2), by simp, by rw [net_app, net_cons, E.net, n2]; decide, E.nb.app ?_, by simp, ?_, fun l x hx => ?_⟩
              · rw [E.net]
                exact .cons E.nb.le (by rw [show net [([44] : Tok)] = 0 by decide]; exact b2)
              · simp only [List.length_append, List.length_cons]; have := List.length_pos_iff.mpr E.ne; omega
              · rcases List.mem_cons.mp hx with rfl | hx
                · exact hr l
                · exact r2 (by rw [List.length_append, List.length_cons] at l; omega) x hx
          · simp only [h44, if_false] at h
            cases h
theorem pT_eat : ∀ (k : Nat) (X : List Tok) (t : PV) (R : List Tok), pT k X = some (t, R) → ∃ C, X = C ++ R ∧ Eaten k C ∧ (X.length ≤ 6000 → RwT k t)
  | 0, X, t, R, h => by cases h
  | k + 1, [], t, R, h => by cases h
  | k + 1, a :: X, t, R, h => by
    unfold pT at h
    by_cases w : isW a = true
    · have wn := w_net w
      have leaf : Eaten (k + 1) [a] := ⟨by simp, wn, .one (by omega) (by omega)⟩
      simp only [w, if_true] at h
      cases X with
      | nil =>
        cases h
        exact ⟨[a], rfl, leaf, fun _ => isW_sok w⟩
      | cons b X =>
        by_cases h40 : b = [40]
        · simp only [h40, if_true] at h
          subst h40
          cases e : pL (pT k) (X.length + 1) X with
          | none => rw [e] at h; cases h
          | some p =>
            obtain ⟨ts, R3⟩ := p
            rw [e] at h
            cases h
            obtain ⟨C, rfl, n, b, ne, l, r⟩ := pL_eat (pT_eat k) _ X ts R e
            refine ⟨a :: [40] :: C, rfl, ⟨by simp, by rw [net_cons a, net_cons [40] C, wn, net_40, n]; rfl, .cons (by omega) (.cons (by rw [wn]; omega) ?_)⟩, fun hl => ⟨isW_sok w, ne, ?_, fun t ht => ?_⟩⟩
            · rw [wn, net_40]
              exact fun i => by have := b i; omega
            · simp only [List.length_cons, List.length_append] at hl; omega
            · exact r (by simp only [List.length_cons] at hl; omega) t ht
        · simp only [h40, if_false] at h
          cases h
          exact ⟨[a], rfl, leaf, fun _ => isW_sok w⟩
    · simp only [w, if_false] at h
      cases h
/-! what stands behind a tree, in a list -/
def aft (k : Nat) : List Tok → Option (List PV × List Tok)
  | [] => none
  | a :: R => if a = [41] then some ([], R) else if a = [44] then pL (pT k) (R.length + 1) R else none
theorem pL_fuel {k : Nat} : ∀ (m n : Nat) (X : List Tok), X.length < m → X.length < n → pL (pT k) m X = pL (pT k) n X
  | 0, n, X, h, _ => by omega
  | m + 1, 0, X, _, h => by omega
  | m + 1, n + 1, X, h1, h2 => by
    unfold pL
    cases e : pT k X with
    | none => rfl
    | some p =>
      obtain ⟨t, Y⟩ := p
      obtain ⟨C, rfl, E, _⟩ := pT_eat k X t Y e
      have := List.length_pos_iff.mpr E.ne
      cases Y with
      | nil => rfl
      | cons a Y =>
        simp only [List.length_append, List.length_cons] at h1 h2
        have := pL_fuel (k := k) m n Y (by omega) (by omega)
        simp only [this]
theorem pL_eq (k : Nat) (X : List Tok) : pL (pT k) (X.length + 1) X = match pT k X with
    | none => none
    | some (t, R) => (aft k R).map fun p => (t :: p.1, p.2) := by
  conv => lhs; unfold pL
  cases e : pT k X with
  | none => rfl
  | some p =>
    obtain ⟨t, Y⟩ := p
    obtain ⟨C, rfl, E, _⟩ := pT_eat k X t Y e
    have := List.length_pos_iff.mpr E.ne
    cases Y with
    | nil => rfl
    | cons a Y =>
      by_cases h41 : a = [41]
      · simp [aft, h41]
      · by_cases h44 : a = [44]
        · simp only [aft, h44, if_true]
          rw [pL_fuel ((C ++ [44] :: Y).length) (Y.length + 1) Y (by simp only [List.length_append, List.length_cons]; omega) (by omega)]
          rw [if_neg (by decide), if_neg (by decide)]
          cases pL (pT k) (Y.length + 1) Y <;> rfl
        · simp [aft, h41, h44]
end Kx
set_option maxHeartbeats 2000000
set_option pp.maxSteps 600
/-! The mathematics of reading: kinds, items. -/
namespace Kx
open PySem PySem.Spec PyProof.Rows L2
def pK : List Tok → Option (Kd × List Tok)
  | f :: a :: R => if isW f = true then (if a = [40] then (match pT 40 R with
    | some (t, b :: R2) => if b = [41] then some (⟨mkS f, t⟩, R2) else none
    | _ => none) else none) else none
  | _ => none
def pKs : Nat → List Tok → Option (List Kd × List Tok)
  | 0, _ => none
  | m + 1, X => match pK X with
    | none => none
    | some (k, []) => some ([k], [])
    | some (k, a :: R) => if a = [44] then (match pKs m R with
      | none => none
      | some (ks, R3) => some (k :: ks, R3)) else some ([k], a :: R)
def aftK : List Tok → Option (List Kd × List Tok)
  | [] => some ([], [])
  | a :: R => if a = [44] then pKs (R.length + 1) R else some ([], a :: R)
structure KdE (X : List Tok) (k : Kd) : Prop where
  fam : sok k.fam = true
  tm : X.length ≤ 6000 → RwT 40 k.tm
structure Ate (C : List Tok) : Prop where
  ne : C ≠ []
  net : net C = 0
  nb : Nb 0 40 C
theorem pK_eat {X : List Tok} {k : Kd} {R : List Tok} (h : pK X = some (k, R)) : ∃ C, X = C ++ R ∧ Ate C ∧ KdE X k := by
  unfold pK at h
  split at h
  · rename_i f a Y
    by_cases w : isW f = true
    · simp only [w, if_true] at h
      by_cases h40 : a = [40]
      · simp only [h40, if_true] at h
        subst h40
        split at h
        · rename_i t b R2 e
          by_cases h41 : b = [41]
          · simp only [h41, if_true] at h
            cases h
            subst h41
            obtain ⟨C, rfl, E, hr⟩ := pT_eat 40 Y t _ e
            refine ⟨f :: [40] :: (C ++ [[41]]), by simp, ⟨by simp, ?_, ?_⟩, isW_sok w, fun l => hr (by simp only [List.length_cons] at l ⊢; omega)⟩
            · rw [net_cons f, net_cons [40], net_app, w_net w, net_40, E.net, net_41]; rfl
            · refine .cons (by decide) (.cons (by rw [w_net w]; decide) ?_)
              rw [w_net w, net_40]
              refine Nb.app (E.nb.mono (by decide) (by decide)) ?_
              rw [E.net]
              exact .one (by decide) (by rw [net_41]; decide)
          · simp only [h41, if_false] at h; cases h
        · cases h
      · simp only [h40, if_false] at h; cases h
    · simp only [w, if_false] at h; cases h
  · cases h
structure KsE (X : List Tok) (ks : List Kd) : Prop where
  ne : ks ≠ []
  len : ks.length ≤ X.length
  all : ∀ k ∈ ks, sok k.fam = true ∧ (X.length ≤ 6000 → RwT 40 k.tm)
theorem pKs_eat : ∀ (m : Nat) (X : List Tok) (ks : List Kd) (R : List Tok), pKs m X = some (ks, R) → ∃ C, X = C ++ R ∧ Ate C ∧ KsE X ks
  | 0, X, ks, R, h => by cases h
  | m + 1, X, ks, R, h => by
    unfold pKs at h
    cases e : pK X with
    | none => rw [e] at h; cases h
    | some p =>
      obtain ⟨k, Y⟩ := p
      obtain ⟨C, rfl, A, K⟩ := pK_eat e
      have c1 := List.length_pos_iff.mpr A.ne
      rw [e] at h
      cases Y with
      | nil =>
        cases h
        exact ⟨C, rfl, A, by simp, by simp; omega, fun x hx => by rw [List.mem_singleton.mp hx]; exact ⟨K.fam, K.tm⟩⟩
      | cons a Y =>
        by_cases h44 : a = [44]
        · simp only [h44, if_true] at h
          subst h44
          cases e2 : pKs m Y with
          | none => rw [e2] at h; cases h
          | some p =>
            obtain ⟨us, R3⟩ := p
            rw [e2] at h
            cases h
            obtain ⟨C2, rfl, A2, K2⟩ := pKs_eat m Y us R e2
            have n44 : net [([44] : Tok)] = 0 := by decide
            refine ⟨C ++ [44] :: C2, by simp, ⟨by simp, by rw [net_app, net_cons, A.net, A2.net, n44]; rfl, A.nb.app ?_⟩, by simp, ?_, fun x hx => ?_⟩
            · rw [A.net]
              exact .cons (by decide) (by rw [n44]; exact A2.nb)
            · have := K2.len
              simp only [List.length_append, List.length_cons] at this ⊢; omega
            · rcases List.mem_cons.mp hx with rfl | hx
              · exact ⟨K.fam, K.tm⟩
              · obtain ⟨g1, g2⟩ := K2.all x hx
                exact ⟨g1, fun l => g2 (by simp only [List.length_append, List.length_cons] at l ⊢; omega)⟩
        · simp only [h44, if_false] at h
          cases h
          exact ⟨C, rfl, A, by simp, by simp only [List.length_append, List.length_cons, List.length_nil]; omega, fun x hx => by rw [List.mem_singleton.mp hx]; exact ⟨K.fam, K.tm⟩⟩
theorem pKs_fuel : ∀ (m n : Nat) (X : List Tok), X.length < m → X.length < n → pKs m X = pKs n X
  | 0, n, X, h, _ => by omega
  | m + 1, 0, X, _, h => by omega
  | m + 1, n + 1, X, h1, h2 => by
    unfold pKs
    cases e : pK X with
    | none => rfl
    | some p =>
      obtain ⟨k, Y⟩ := p
      obtain ⟨C, rfl, A, _⟩ := pK_eat e
      have := List.length_pos_iff.mpr A.ne
      cases Y with
      | nil => rfl
      | cons a Y =>
        simp only [List.length_append, List.length_cons] at h1 h2
        have := pKs_fuel m n Y (by omega) (by omega)
        simp only [this]
theorem pKs_eq (X : List Tok) : pKs (X.length + 1) X = match pK X with
    | none => none
    | some (k, R) => (aftK R).map fun p => (k :: p.1, p.2) := by
  conv => lhs; unfold pKs
  cases e : pK X with
  | none => rfl
  | some p =>
    obtain ⟨k, Y⟩ := p
    obtain ⟨C, rfl, A, _⟩ := pK_eat e
    have := List.length_pos_iff.mpr A.ne
    cases Y with
    | nil => rfl
    | cons a Y =>
      by_cases h44 : a = [44]
      · simp only [aftK, h44, if_true]
        have := pKs_fuel ((C ++ [44] :: Y).length) (Y.length + 1) Y (by simp only [List.length_append, List.length_cons]; omega) (by omega)
        simp only [this]
        cases pKs (Y.length + 1) Y <;> rfl
      · simp [aftK, h44]
/-! ### items -/
inductive Item where
  | m (x : Str × Nat)
  | f (z : Str)
  | c (x : Cn)
  | h (x : Fn)
  | l (w : Str) (x : Cl)
def ARW : Tok := [45, 62]
/-- -> kind, and the end -/
def pEnd : List Tok → Option Kd
  | a :: R => if a = ARW then (match pK R with
    | some (k, []) => some k
    | _ => none) else none
  | [] => none
/-- the parts of a constructor -/
def pPs (X : List Tok) : Option (List Kd × List Tok) := if X.head? = some ARW then some ([], X) else pKs (X.length + 1) X
def pCon (w : Str) (X : List Tok) : Option Item := match pPs X with
  | some (ks, R) => (pEnd R).map fun md => .c ⟨w, ks, md⟩
  | none => none
def pFun (w : Str) (n : Nat) (X : List Tok) : Option Item :=
  match pKs (X.length + 1) X with
  | some (ks, R) => (pEnd R).map fun md => .h ⟨w, ks, md, n, []⟩
  | none => none
def pMk : List Tok → Option Item
  | [w, n] => if isW w = true then (numV n).map fun n => .m (mkS w, n) else none
  | _ => none
def pFm : List Tok → Option Item
  | [w] => if isW w = true then some (.f (mkS w)) else none
  | _ => none
def pCn : List Tok → Option Item
  | w :: b :: X => if isW w = true then (if b = [58] then pCon (mkS w) X else none) else none
  | _ => none
def pFn : List Tok → Option Item
  | w :: b :: n :: c :: X => if isW w = true then (if b = cs "falls" then (match numV n with
    | some n => if c = [58] then pFun (mkS w) n X else none
    | none => none) else none) else none
  | _ => none
def pCl : List Tok → Option Item
  | w :: a :: R => if isW w = true then (if a = [40] then (match pL (pT 40) (R.length + 1) R with
    | some (ps, b :: R2) => if b = [61] then (match pT 41 R2 with
      | some (t, []) => some (.l (mkS w) ⟨ps, t⟩)
      | _ => none) else none
    | _ => none) else none) else none
  | _ => none
def pI (U : List Tok) : Option Item :=
  if U[1]? = some [40] then pCl U
  else match U with
  | [] => none
  | a :: R => if a = cs "maker" then pMk R else if a = cs "family" then pFm R else if a = cs "con" then pCn R else if a = cs "fun" then pFn R else none
/-- what a draft tells so far -/
structure DS where
  ms : List (Str × Nat)
  fm : List Str
  cn : List Cn
  fs : List Fn
def addCl : List Fn → Cl → List Fn
  | [], _ => []
  | [f], c => [{ f with cls := f.cls ++ [c] }]
  | f :: g :: r, c => f :: addCl (g :: r) c
def stp (s : DS) : Item → Option DS
  | .m x => some { s with ms := s.ms ++ [x] }
  | .f z => some { s with fm := s.fm ++ [z] }
  | .c x => some { s with cn := s.cn ++ [x] }
  | .h x => some { s with fs := s.fs ++ [x] }
  | .l w x => match s.fs.getLast? with
    | some f => if f.w = w then some { s with fs := addCl s.fs x } else none
    | none => none
/-- a row of tokens -/
def rowS (s : DS) (U : List Tok) : Option DS := if U = [] then some s else match pI U with
  | some it => stp s it
  | none => none
def s0 : DS := ⟨[], [], [], []⟩
/-- rows: what they tell, or the number of the first that is refused -/
def rowsS : Nat → DS → List (List Tok) → Except Nat DS
  | _, s, [] => .ok s
  | n, s, U :: r => match rowS s U with
    | some s' => rowsS (n + 1) s' r
    | none => .error n
end Kx
namespace Kx
open PySem PySem.Spec PyProof.Rows L2
section
variable {P : Program} {w : World} {K : PySem.W.Frag} {mg : Str → Option Value} {base : Heap}
set_option pp.maxSteps 1200
/-! ### words, signs, rows, tokens -/
def spWord : Sp := fun vs H Q _ => ∃ t : Tok, vs = [SV t] ∧ t.length ≤ 10000 ∧ Q (.bl (isW t)) H
theorem ok_is_word (T : Txt K mg)  : FnOk P w K mg base CX0 1 T.a_is_word T.d_is_word ["value"] spWord := by
  refine T.F_is_word.ok sc_is_word (fun vs H Q E h => ?_) (fun cdv A outer s H vs Q E hr h => ?_)
  · obtain ⟨z, rfl, _⟩ := h; rfl
  · obtain ⟨t, rfl, hl, q⟩ := h
    refine ⟨_, (pss_cons (ps_if (PW.pt (pw_or (pt_not (pt_val (pe_callB call_isi (by rfl) T.z_isinstance (by decide +kernel) (pa_cons (pv 0) (pa_cons (pe_bltn rfl T.z_str (by decide +kernel) (show RelV (V.ty "str") (Value.type "str") from rfl)) pa_nil))))) (pw_or1 (pt_not (pt_chain op_le op_le pe_int (pe_callB call_len_str (by rfl) T.z_len (by decide +kernel) (pa_cons (pv 0) pa_nil)) (pe_glob (by rfl) T.g_MOST_NAME (show RelV (V.int 12) (.int 12 T.t_MOST_NAME) from ⟨_, rfl⟩)) (by with_unfolding_all rfl)))))) (pss_one (ps_ret pe_bl)) pss_nil)
    (pss_one (ps_ret (pe_and (pe_bm0 PySem.F.plainAttrs_str PySem.F.slot_str_isascii PySem.F.type_str_isascii mt_isascii (pv 0)) (pe_and (pe_m0 PySem.F.slot_str_isalnum PySem.F.type_str_isalnum mt_isalnum (pv 0)) (pe_one (pe_m0 PySem.F.slot_str_isalpha PySem.F.type_str_isalpha mt_isalpha (pe_ix ix_str (pv 0) pe_int (fun _ _ => rfl))))))))), ?_⟩
    have hz : (mkS t).length = t.length := mk_len t
    have hc : (mkS t).cps.toList = t := cs_mk t
    unfold isW wkb at q
    rw [hc] at q
    refine ⟨_, rfl, _, _, .type "str", _, true, rfl, .ty _, .base (.str (mkS t)), kit_ty (show kitB "str" "str" = some true by decide +kernel), _, rfl, iteF ?_⟩
    refine ⟨_, rfl, mkS t, rfl, small7 (by omega), _, _, rfl, rfl, _, rfl, ?_⟩
    by_cases h1 : 1 ≤ (mkS t).length
    case neg =>
      rw [show decide ((1 : Int) ≤ ((mkS t).length : Int)) = false from decide_eq_false (by omega)]
      rw [show decide (1 ≤ (mkS t).length) = false from decide_eq_false h1] at q
      exact iteF ⟨false, rfl, iteT q⟩
    rw [show decide ((1 : Int) ≤ ((mkS t).length : Int)) = true from decide_eq_true (by omega)]
    rw [show decide (1 ≤ (mkS t).length) = true from decide_eq_true h1] at q
    refine iteT ⟨_, _, rfl, rfl, _, rfl, ?_⟩
    by_cases h2 : (mkS t).length ≤ 12
    case neg =>
      rw [show decide (((mkS t).length : Int) ≤ 12) = false from decide_eq_false (by omega)]
      rw [show decide ((mkS t).length ≤ 12) = false from decide_eq_false h2] at q
      exact iteT q
    rw [show decide (((mkS t).length : Int) ≤ 12) = true from decide_eq_true (by omega)]
    rw [show decide ((mkS t).length ≤ 12) = true from decide_eq_true h2] at q
    refine iteF ⟨_, rfl, rfl, mkS t, rfl, rfl, trivial, _, rfl, ?_⟩
    cases h3 : Txt.isascii (mkS t) with
    | false => rw [h3] at q; exact iteF q
    | true =>
    rw [h3] at q
    refine iteT ⟨_, rfl, ⟨_, rfl⟩, mkS t, rfl, rfl, trivial, _, rfl, ?_⟩
    cases h4 : Txt.isalnum (mkS t) with
    | false => rw [h4] at q; exact iteF q
    | true =>
    rw [h4] at q
    obtain ⟨c, r, rfl⟩ : ∃ c r, t = c :: r := by
      cases t with
      | nil => rw [hz] at h1; exact absurd h1 (by simp)
      | cons c r => exact ⟨c, r, rfl⟩
    exact iteT ⟨_, rfl, mkS (c :: r), 0, c, rfl, rfl, small7 (by omega), atI_nat (j := 0) (by rw [hc]; rfl), ⟨_, rfl⟩, _, rfl, rfl, trivial, q⟩
/-- a sign of a row -/
def okr (c : Nat) : Prop := 32 ≤ c ∧ c ≤ 126 ∧ c ≠ 37
instance (c : Nat) : Decidable (okr c) := by unfold okr; infer_instance
theorem okc.r {c : Nat} (h : okc c) : okr c := ⟨h.1, h.2.1, h.2.2.1⟩
def OkR (l : List Nat) : Prop := ∀ c ∈ l, okr c
theorem Ok.r {l : List Nat} (h : Ok l) : OkR l := fun c hc => (h c hc).r
def spAllowed : Sp := fun vs H Q _ => ∃ c : Nat, vs = [.str ⟨#[c]⟩] ∧ (c = 10 ∨ okr c ∨ c = 9) ∧ Q (.bl (decide (c ≠ 9))) H
theorem le_facts : ∀ c : Nat, c < 127 → okr c → (!decide ([c] < [32])) = true ∧ (!decide ([126] < [c])) = true := by decide +kernel
theorem ok_is_allowed (T : Txt K mg)  : FnOk P w K mg base CX0 1 T.a_is_allowed T.d_is_allowed ["sign"] spAllowed := by
  refine T.F_is_allowed.ok sc_is_allowed (fun vs H Q E h => ?_) (fun cdv A outer s H vs Q E hr h => ?_)
  · obtain ⟨c, rfl, _⟩ := h; rfl
  · obtain ⟨c, rfl, hc, q⟩ := h
    refine ⟨_, (pss_one (ps_ret (pe_or (pe_cmpR op_eq (pv 0) pe_str (nomark _)) (pe_one (pe_and (pe_chain op_le_str op_le_str pe_str (pv 0) pe_str (by with_unfolding_all rfl)) (pe_one (pe_cmpR op_ne (pe_callB call_ord (by rfl) T.z_ord (by decide +kernel) (pa_cons (pv 0) pa_nil)) (pe_glob (by rfl) T.g_PERCENT_CODE (show RelV (V.int 37) (.int 37 T.t_PERCENT_CODE) from ⟨_, rfl⟩)) (nomark _)))))))), ?_⟩
    refine ⟨_, rfl, rfl, _, rfl, ?_⟩
    by_cases h10 : c = 10
    · subst h10
      rw [show decide (V.str ⟨#[10]⟩ = V.str "\n") = true by decide]
      exact iteT q
    · have hk := hc.resolve_left h10
      rw [show decide (V.str ⟨#[c]⟩ = V.str "\n") = false from decide_eq_false (fun e => by
        have e2 := congrArg cs (V.str.inj e)
        have e3 : [c] = [10] := e2
        exact h10 (by simpa using e3))]
      by_cases h9 : c = 9
      · subst h9
        refine iteF ⟨_, rfl, _, _, rfl, rfl, _, rfl, ?_⟩
        rw [show (!decide (({ cps := #[9] } : Str).cps.toList < (" " : Str).cps.toList)) = false by decide]
        exact iteF ⟨false, rfl, iteF q⟩
      have hk := hk.resolve_right h9
      rw [show decide (c ≠ 9) = true from decide_eq_true h9] at q
      obtain ⟨f1, f2⟩ := le_facts c (by have := hk.2.1; omega) hk
      refine iteF ⟨_, rfl, _, _, rfl, rfl, _, rfl, ?_⟩
      rw [show (!decide (({ cps := #[c] } : Str).cps.toList < (" " : Str).cps.toList)) = true from f1]
      refine iteT ⟨_, _, rfl, rfl, _, rfl, ?_⟩
      rw [show (!decide (("~" : Str).cps.toList < ({ cps := #[c] } : Str).cps.toList)) = true from f2]
      refine iteT ⟨_, rfl, _, rfl, rfl, rfl, ?_⟩
      have h37 : (!decide (V.int (((({ cps := #[c] } : Str).cps.getD 0 0 : Nat)) : Int) = V.int 37)) = true := by
        have : c ≠ 37 := hk.2.2
        have e : (({ cps := #[c] } : Str).cps.getD 0 0) = c := rfl
        rw [e, dec_int]
        have : ¬ ((c : Int) = 37) := by omega
        simpa using this
      rw [h37]; exact q
theorem for_str {z : Str} {g : TG} {tb : TS} {D : Ends} {σ : L2.St} {H : Hp} (Pv : Nat → L2.St → Hp → Prop) (h0 : Pv 0 σ H)
    (hs : ∀ (i : Nat) (c : Nat) (σ : L2.St) (H : Hp), z.cps[i]? = some c → Pv i σ H → g (.str ⟨#[c]⟩) σ H fun σ2 H2 => tb { D with nx := Pv (i + 1), ct := Pv (i + 1), bk := D.nx } σ2 H2) (hd : ∀ σ H, Pv z.cps.size σ H → D.nx σ H) :
    ∃ W : Nat → Nat → L2.St → Hp → Prop, (∃ m, W 0 m σ H) ∧ ∀ i m σ H, W i m σ H →
      ((Its z).stop i H ∧ D.nx σ H) ∨ ((Its z).go i H ∧ ∃ N : L2.St → Hp → Prop, (∀ σ' H', N σ' H' → ∃ m', m' < m ∧ W (i + 1) m' σ' H') ∧ ∀ v H', (Its z).yld i H v H' → g v σ H' fun σ2 H2 => tb { D with nx := N, ct := N, bk := D.nx } σ2 H2) := by
  refine ⟨fun i m σ H => m = z.cps.size - i ∧ i ≤ z.cps.size ∧ Pv i σ H, ⟨_, rfl, Nat.zero_le _, h0⟩, fun i m σ H w => ?_⟩
  obtain ⟨rfl, le, pv⟩ := w
  rcases Nat.lt_or_ge i z.cps.size with lt | ge
  · refine .inr ⟨lt, Pv (i + 1), fun σ' H' p' => ⟨z.cps.size - (i + 1), by omega, rfl, lt, p'⟩, ?_⟩
    rintro v H2 ⟨e2, c, ec, rfl⟩
    rw [e2]
    exact hs i c σ H ec pv
  · have e : i = z.cps.size := Nat.le_antisymm le ge
    exact .inl ⟨ge, hd σ H (e ▸ pv)⟩
theorem pre_ten {p : List Nat} (h : 10 ∉ p) (k : Nat) : TL.pre [10] (p.drop k) = false := by
  unfold TL.pre
  cases e : p.drop k with
  | nil => rfl
  | cons a r =>
    have ha : a ∈ p := List.mem_of_mem_drop (by rw [e]; exact List.mem_cons_self ..)
    have : a ≠ 10 := fun q => h (q ▸ ha)
    show ([a] == [10]) = false
    simpa using this
theorem pre_ten2 {p r : List Nat} (h : 10 ∉ p) {k : Nat} (hk : k < p.length) : TL.pre [10] ((p ++ ([10] ++ r)).drop k) = false := by
  unfold TL.pre
  rw [List.drop_append_of_le_length (Nat.le_of_lt hk)]
  cases e : p.drop k with
  | nil => have := congrArg List.length e; rw [List.length_drop] at this; simp at this; omega
  | cons a q =>
    have ha : a ∈ p := List.mem_of_mem_drop (by rw [e]; exact List.mem_cons_self ..)
    have : a ≠ 10 := fun q => h (q ▸ ha)
    show ([a] == [10]) = false
    simpa using this
theorem spl_lastK {p : List Nat} (h : 10 ∉ p) : TL.spl [10] 0 [] p = [p] := by
  have := TL.spl_last (S := [10]) (p := p) (acc := []) fun i _ => pre_ten h i
  rw [List.nil_append] at this
  exact this
theorem spl_full : ∀ ls : List (List Nat), (∀ l ∈ ls, 10 ∉ l) → TL.spl [10] 0 [] (fullT ls) = ls ++ [[]]
  | [], _ => rfl
  | a :: r, h => by
    have e : fullT (a :: r) = a ++ ([10] ++ fullT r) := by simp [fullT]
    rw [e, TL.spl_part (by simp) fun i hi => pre_ten2 (h a (List.mem_cons_self ..)) hi, spl_full r fun l hl => h l (List.mem_cons_of_mem _ hl)]
    rfl
theorem split_full (ls : List (List Nat)) (h : ∀ l ∈ ls, 10 ∉ l) : Txt.split (mkS (fullT ls)) "\n" = ls.map mkS ++ [Str.empty] := by
  have e := TL.split_spl (mkS (fullT ls)) "\n" (by decide +kernel) (TL.kind_ok (by decide +kernel))
  rw [show TL.tl ("\n" : Str) = [10] from rfl, show TL.tl (mkS (fullT ls)) = fullT ls from cs_mk _, spl_full ls h] at e
  have e2 : ((Txt.split (mkS (fullT ls)) "\n").map TL.tl).map mkS = (ls ++ [[]]).map mkS := by rw [e]
  rw [List.map_map] at e2
  rw [show (mkS ∘ TL.tl) = id from funext fun x => mk_cs x, List.map_id] at e2
  rw [e2, List.map_append]
  rfl
theorem full_mem {ls : List (List Nat)} (h : ∀ l ∈ ls, OkR l) : ∀ c ∈ fullT ls, c = 10 ∨ okr c := fun c hc => by
  unfold fullT at hc
  obtain ⟨l, hl, hc⟩ := List.mem_flatten.mp hc
  obtain ⟨x, hx, rfl⟩ := List.mem_map.mp hl
  rcases List.mem_append.mp hc with h1 | h1
  · exact .inr (h x hx c h1)
  · exact .inl (List.mem_singleton.mp h1)
theorem sIx_m1 (n d : Nat) : HT.sIx n d (some (-1)) = ((-1 : Int) + (n : Int)).toNat := by
  show (if (-1 : Int) < 0 then ((-1 : Int) + (n : Int)).toNat else min (-1 : Int).toNat n) = _
  rw [if_pos (by decide)]
theorem ok_no10 {l : List Nat} (h : OkR l) : 10 ∉ l := fun hm => by have := (h 10 hm).1; omega
/-- what a row's text is split into: full rows, and what stands behind the last end -/
theorem spl_rest : ∀ (ls : List (List Nat)) (p : List Nat), (∀ l ∈ ls, 10 ∉ l) → 10 ∉ p → TL.spl [10] 0 [] (fullT ls ++ p) = ls ++ [p]
  | [], p, _, hp => spl_lastK hp
  | a :: r, p, h, hp => by
    have e : fullT (a :: r) ++ p = a ++ ([10] ++ (fullT r ++ p)) := by simp [fullT]
    rw [e, TL.spl_part (by simp) fun i hi => pre_ten2 (h a (List.mem_cons_self ..)) hi, spl_rest r p (fun l hl => h l (List.mem_cons_of_mem _ hl)) hp]
    rfl
theorem split_rest (ls : List (List Nat)) (p : List Nat) (h : ∀ l ∈ ls, 10 ∉ l) (hp : 10 ∉ p) : Txt.split (mkS (fullT ls ++ p)) "\n" = ls.map mkS ++ [mkS p] := by
  have e := TL.split_spl (mkS (fullT ls ++ p)) "\n" (by decide +kernel) (TL.kind_ok (by decide +kernel))
  rw [show TL.tl ("\n" : Str) = [10] from rfl, show TL.tl (mkS (fullT ls ++ p)) = fullT ls ++ p from cs_mk _, spl_rest ls p h hp] at e
  have e2 : ((Txt.split (mkS (fullT ls ++ p)) "\n").map TL.tl).map mkS = (ls ++ [p]).map mkS := by rw [e]
  rw [List.map_map] at e2
  rw [show (mkS ∘ TL.tl) = id from funext fun x => mk_cs x, List.map_id] at e2
  rw [e2, List.map_append]
  rfl
/-! ### tokens -/
def wl : List Nat → Nat
  | [] => 0
  | c :: r => if isAl c = true then wl r + 1 else 0
def tlen (l : List Nat) : Nat := if 0 < wl l then wl l else if l.take 2 = [45, 62] then 2 else 1
theorem wl_no {c : Nat} {l : List Nat} (h : isAl c = false) : wl (c :: l) = 0 := by
  show (if isAl c = true then wl l + 1 else 0) = 0
  rw [h]; rfl
theorem wl_yes {c : Nat} {l : List Nat} (h : isAl c = true) : wl (c :: l) = wl l + 1 := by
  show (if isAl c = true then wl l + 1 else 0) = _
  rw [h]; rfl
theorem wl_app {w l : List Nat} (h : ∀ c ∈ w, isAl c = true) (s : Stp l) : wl (w ++ l) = w.length := by
  induction w with
  | nil =>
    cases l with
    | nil => rfl
    | cons c r => exact wl_no (s c r rfl)
  | cons a w ih => rw [List.cons_append, wl_yes (h a (List.mem_cons_self ..)), ih fun c hc => h c (List.mem_cons_of_mem _ hc)]; rfl
theorem wl_le : ∀ l : List Nat, wl l ≤ l.length
  | [] => Nat.le_refl _
  | c :: r => by
    have := wl_le r
    cases h : isAl c with
    | true => rw [wl_yes h, List.length_cons]; omega
    | false => rw [wl_no h]; exact Nat.zero_le _
theorem wl_al : ∀ {l : List Nat} {j c : Nat}, j < wl l → l[j]? = some c → isAl c = true
  | a :: r, j, c, h, e => by
    cases ha : isAl a with
    | false => rw [wl_no ha] at h; omega
    | true =>
      rw [wl_yes ha] at h
      cases j with
      | zero => cases e; exact ha
      | succ j => exact wl_al (l := r) (j := j) (by omega) (by simpa using e)
theorem wl_end : ∀ {l : List Nat} {c : Nat}, l[wl l]? = some c → isAl c = false
  | [], c, e => by simp [wl] at e
  | a :: r, c, e => by
    cases ha : isAl a with
    | false => rw [wl_no ha] at e; cases e; exact ha
    | true => rw [wl_yes ha] at e; exact wl_end (l := r) (by simpa using e)
theorem isal_one (c : Nat) : Txt.isalnum ⟨#[c]⟩ = isAl c := by simp [Txt.isalnum, Str.length]
theorem sw3 {x : List Nat} {k : Nat} (h : k ≤ x.length) : Txt.startswith3 (mkS x) "->" (k : Int) = decide ((x.drop k).take 2 = [45, 62]) := by
  have hf : fromIndex (mkS x).length (k : Int) = k := by unfold fromIndex; split <;> omega
  unfold Txt.startswith3
  rw [hf, StrLaws.subAt_eq, mk_len, show (mkS x).cps.toList = x from cs_mk x, show ("->" : Str).length = 2 from rfl, show ("->" : Str).cps.toList = [45, 62] from rfl]
  by_cases h2 : (x.drop k).take 2 = [45, 62]
  · have := congrArg List.length h2
    rw [List.length_take, List.length_drop] at this
    rw [decide_eq_true h2, decide_eq_true (show k + 2 ≤ x.length by simp at this; omega), h2]
    rfl
  · rw [decide_eq_false h2, show ((x.drop k).take 2 == [45, 62]) = false by simpa using h2, Bool.and_false]
def spEnd : Sp := fun vs H Q _ => ∃ (x : List Nat) (k : Nat), vs = [SV x, .int k] ∧ k < x.length ∧ x.length ≤ 10000 ∧ Q (.int ((k + tlen (x.drop k) : Nat) : Int)) H
theorem at_drop {x : List Nat} {k j : Nat} : (x.drop k)[j]? = x[k + j]? := List.getElem?_drop ..
theorem ok_token_end (T : Txt K mg)  : FnOk P w K mg base CX0 1 T.a_token_end T.d_token_end ["row", "start"] spEnd := by
  refine T.F_token_end.ok sc_token_end (fun vs H Q E h => ?_) (fun cdv A outer s H vs Q E hr h => ?_)
  · obtain ⟨x, k, rfl, _⟩ := h; rfl
  · obtain ⟨x, k, rfl, hk, hl, q⟩ := h
    refine ⟨_, (pss_cons (ps_set (i := 2) sc_token_end.nd rfl (Or.inl rfl) (pv 1))
    (Evl.pss_cut (ps_while PassesOwn.never (PW.pt (pw_and (pt_cmpR op_lt (pv 2) (pe_callB call_len_str (by rfl) T.z_len (by decide +kernel) (pa_cons (pv 0) pa_nil)) (nomark _)) (pw_and1 (pt_val (pe_m0 PySem.F.slot_str_isalnum PySem.F.type_str_isalnum mt_isalnum (pe_ix ix_str (pv 0) (pv 2) (fun _ _ => rfl)))))))
    (pss_one (ps_aug (i := 2) sc_token_end.nd rfl (Or.inl rfl) pe_int ip_add)))
    (pss_cons (ps_if (pt_cmpR op_gt (pv 2) (pv 1) (nomark _)) (pss_one (ps_ret (pv 2))) pss_nil)
    (pss_one (ps_ret (pe_ifExp (pt_val (pe_bm PySem.F.plainAttrs_str PySem.F.slot_str_startswith PySem.F.type_str_startswith mt_startswith3 (pv 0) (pa_cons pe_str (pa_cons (pv 1) pa_nil)))) (pe_op op_add (pv 1) pe_int) (pe_op op_add (pv 1) pe_int))))))), ?_⟩
    have hlen : (mkS x).length = x.length := mk_len _
    have hwl := wl_le (x.drop k)
    rw [List.length_drop] at hwl
    refine ⟨_, rfl, ?_⟩
    have hdl : (x.drop k).length = x.length - k := List.length_drop ..
    refine ⟨fun σ H' => σ = [some (SV x), some (.int k), some (.int ((k + wl (x.drop k) : Nat) : Int))] ∧ H' = H, ?_, ?_⟩
    · refine ⟨fun m σ H' => ∃ j, σ = [some (SV x), some (.int k), some (.int ((k + j : Nat) : Int))] ∧ H' = H ∧ j ≤ wl (x.drop k) ∧ m = wl (x.drop k) - j, ⟨_, 0, rfl, rfl, Nat.zero_le _, rfl⟩, ?_⟩
      rintro m σ H' ⟨j, rfl, rfl, hj, rfl⟩
      refine ⟨_, rfl, _, rfl, _, rfl, small7 (by omega), _, _, rfl, rfl, _, rfl, ?_⟩
      by_cases hjl : k + j < x.length
      case neg =>
        rw [show decide (((k + j : Nat) : Int) < ((mkS x).length : Int)) = false from decide_eq_false (by omega)]
        have : j = wl (x.drop k) := by omega
        exact iteF (iteF ⟨by rw [this], rfl⟩)
      rw [show decide (((k + j : Nat) : Int) < ((mkS x).length : Int)) = true from decide_eq_true (by omega)]
      obtain ⟨c, hc⟩ : ∃ c, x[k + j]? = some c := ⟨_, List.getElem?_eq_getElem hjl⟩
      refine iteT ⟨_, rfl, _, rfl, mkS x, ((k + j : Nat) : Int), c, rfl, rfl, small7 (by omega), atI_nat (by show (cs (mkS x))[k + j]? = _; rw [cs_mk]; exact hc), ⟨_, rfl⟩, _, rfl, rfl, trivial, _, rfl, ?_⟩
      rw [isal_one]
      by_cases hw : j < wl (x.drop k)
      case pos =>
        rw [wl_al hw (by rw [at_drop]; exact hc)]
        refine iteT ⟨fun σ H2 => ∃ j', σ = [some (SV x), some (.int k), some (.int ((k + j' : Nat) : Int))] ∧ H2 = H' ∧ j' = j + 1, fun σ' H' ⟨j', r1, r2, r3⟩ => ⟨wl (x.drop k) - j', by omega, j', r1, r2, by omega, rfl⟩, ?_⟩
        exact ⟨_, rfl, _, _, rfl, rfl, j + 1, rfl, rfl, rfl⟩
      have hje : j = wl (x.drop k) := by omega
      rw [wl_end (by rw [← hje, at_drop]; exact hc)]
      exact iteF ⟨by rw [hje], rfl⟩
    · rintro σ H' ⟨rfl, rfl⟩
      refine ⟨_, rfl, _, rfl, _, _, rfl, rfl, _, rfl, ?_⟩
      by_cases h0 : 0 < wl (x.drop k)
      case pos =>
        rw [show decide ((k : Int) < ((k + wl (x.drop k) : Nat) : Int)) = true from decide_eq_true (by omega)]
        rw [show tlen (x.drop k) = wl (x.drop k) from if_pos h0] at q
        exact iteT ⟨_, rfl, q⟩
      rw [show decide ((k : Int) < ((k + wl (x.drop k) : Nat) : Int)) = false from decide_eq_false (by omega)]
      rw [show tlen (x.drop k) = if (x.drop k).take 2 = [45, 62] then 2 else 1 from if_neg h0] at q
      refine iteF ⟨_, rfl, rfl, _, rfl, mkS x, "->", (k : Int), rfl, rfl, _, rfl, ?_⟩
      rw [sw3 (by omega)]
      by_cases h2 : (x.drop k).take 2 = [45, 62]
      · rw [if_pos h2] at q
        rw [decide_eq_true h2]
        exact iteT ⟨_, rfl, _, _, rfl, rfl, q⟩
      · rw [if_neg h2] at q
        rw [decide_eq_false h2]
        exact iteF ⟨_, rfl, _, _, rfl, rfl, q⟩
/-- the tokens of a text -/
def tkF : Nat → List Nat → List Tok
  | 0, _ => []
  | _ + 1, [] => []
  | n + 1, c :: l => if c = 32 then tkF n ((c :: l).drop (tlen (c :: l))) else (c :: l).take (tlen (c :: l)) :: tkF n ((c :: l).drop (tlen (c :: l)))
def tok (x : List Nat) : List Tok := tkF x.length x
theorem tlen_pos (l : List Nat) : 1 ≤ tlen l := by
  unfold tlen
  split
  · omega
  · split <;> omega
theorem tlen_le {l : List Nat} (ne : l ≠ []) : tlen l ≤ l.length := by
  have h1 := List.length_pos_iff.mpr ne
  unfold tlen
  split
  · exact wl_le l
  · split
    · rename_i h
      have := congrArg List.length h
      rw [List.length_take] at this
      simp at this
      omega
    · omega
theorem tkF_fuel : ∀ (n m : Nat) (x : List Nat), x.length ≤ n → x.length ≤ m → tkF n x = tkF m x
  | 0, 0, x, _, _ => rfl
  | 0, m + 1, [], _, _ => rfl
  | n + 1, 0, [], _, _ => rfl
  | n + 1, m + 1, [], _, _ => rfl
  | 0, m + 1, c :: l, h, _ => by simp at h
  | n + 1, 0, c :: l, _, h => by simp at h
  | n + 1, m + 1, c :: l, h1, h2 => by
    have hp := tlen_pos (c :: l)
    have := tkF_fuel n m ((c :: l).drop (tlen (c :: l))) (by rw [List.length_drop]; simp only [List.length_cons] at h1 ⊢; omega) (by rw [List.length_drop]; simp only [List.length_cons] at h2 ⊢; omega)
    unfold tkF
    rw [this]
theorem tok_nil : tok [] = [] := rfl
theorem tok_cons (c : Nat) (l : List Nat) : tok (c :: l) = (if c = 32 then [] else [(c :: l).take (tlen (c :: l))]) ++ tok ((c :: l).drop (tlen (c :: l))) := by
  have hp := tlen_pos (c :: l)
  unfold tok
  rw [tkF_fuel ((c :: l).drop (tlen (c :: l))).length l.length _ (Nat.le_refl _) (by rw [List.length_drop]; simp only [List.length_cons]; omega)]
  show tkF (l.length + 1) (c :: l) = _
  conv => lhs; unfold tkF
  split <;> rfl
theorem small7k {n : Nat} (h : n ≤ 7000) : n < sizeLine := by rw [sizeLine_eq]; omega
theorem tok_len : ∀ (n : Nat) (x : List Nat), x.length ≤ n → (tok x).length ≤ x.length
  | 0, [], _ => Nat.le_refl _
  | 0, c :: l, h => by simp at h
  | n + 1, [], _ => Nat.le_refl _
  | n + 1, c :: l, h => by
    have hp := tlen_pos (c :: l)
    have := tok_len n ((c :: l).drop (tlen (c :: l))) (by rw [List.length_drop]; simp only [List.length_cons] at h ⊢; omega)
    rw [tok_cons, List.length_append]
    rw [List.length_drop] at this
    split <;> simp only [List.length_nil, List.length_cons] at this ⊢ <;> omega
theorem tok_ne : ∀ (n : Nat) (x : List Nat), x.length ≤ n → ∀ t ∈ tok x, t ≠ [] ∧ t.length ≤ x.length ∧ ∀ c ∈ t, c ∈ x
  | 0, [], _, t, h => by cases h
  | 0, c :: l, h, _, _ => by simp at h
  | n + 1, [], _, t, h => by cases h
  | n + 1, c :: l, h, t, ht => by
    have hp := tlen_pos (c :: l)
    rw [tok_cons] at ht
    rcases List.mem_append.mp ht with ht | ht
    · split at ht
      · cases ht
      · rw [List.mem_singleton.mp ht]
        refine ⟨fun e => ?_, by rw [List.length_take]; exact Nat.min_le_right _ _, fun d hd => List.mem_of_mem_take hd⟩
        have := congrArg List.length e
        rw [List.length_take] at this
        simp only [List.length_cons, List.length_nil] at this
        omega
    · obtain ⟨h1, h2, h3⟩ := tok_ne n ((c :: l).drop (tlen (c :: l))) (by rw [List.length_drop]; simp only [List.length_cons] at h ⊢; omega) t ht
      exact ⟨h1, Nat.le_trans h2 (by rw [List.length_drop]; omega), fun d hd => List.mem_of_mem_drop (h3 d hd)⟩
theorem cut_mid {x : List Nat} {k e : Nat} (h1 : k ≤ e) (h2 : e ≤ x.length) : cutS (mkS x) (some (k : Int)) (some (e : Int)) = mkS ((x.drop k).take (e - k)) := by
  unfold cutS
  rw [HT.sIx_nat, HT.sIx_nat, mk_len, Nat.min_eq_left h2, Nat.min_eq_left (Nat.le_trans h1 h2)]
  rfl
def spTokens : Sp := fun vs H Q _ => ∃ (x : List Nat), vs = [SV x] ∧ x.length ≤ 6000 ∧ ∀ p H', H p = none → Same H H' → H' p = some (.lst ((tok x).map SV)) → Q (.ref p) H'
theorem ok_tokens_of (T : Txt K mg) (G_token_end : FnOk P w K mg base CX0 1 T.a_token_end T.d_token_end ["row", "start"] spEnd) : FnOk P w K mg base CX0 2 T.a_tokens_of T.d_tokens_of ["row"] spTokens := by
  refine T.F_tokens_of.ok sc_tokens_of (fun vs H Q E h => ?_) (fun cdv A outer s H vs Q E hr h => ?_)
  · obtain ⟨x, rfl, _⟩ := h; rfl
  · obtain ⟨x, rfl, hl, q⟩ := h
    have hr_token_end := hr
    refine ⟨_, (pss_cons (ps_set (i := 1) sc_tokens_of.nd rfl (Or.inl rfl) (pe_lst pa_nil))
    (pss_cons (ps_set (i := 2) sc_tokens_of.nd rfl (Or.inl rfl) pe_int)
    (pss_cons (ps_while PassesOwn.never (pt_cmpR op_lt (pv 2) (pe_callB call_len_str (by rfl) T.z_len (by decide +kernel) (pa_cons (pv 0) pa_nil)) (nomark _))
    (pss_cons (ps_set (i := 3) sc_tokens_of.nd rfl (Or.inl rfl) (pe_call G_token_end hr_token_end rfl T.m_token_end T.F_token_end.kp T.b_token_end .nil pass0 (pa_cons (pv 0) (pa_cons (pv 2) pa_nil))))
    (pss_cons (ps_if (pt_cmpR op_ne (pe_ix ix_str (pv 0) (pv 2) (fun _ _ => rfl)) pe_str (nomark _)) (pss_one (ps_expr (pe_bm PySem.F.plainAttrs_list PySem.F.slot_list_append PySem.F.type_list_append mt_append (pv 1) (pa_cons (pe_slice sl_str (pv 0) (po_some (pv 2)) (po_some (pv 3))) pa_nil)))) pss_nil)
    (pss_one (ps_set (i := 2) sc_tokens_of.nd rfl (Or.inl rfl) (pv 3))))))
    (pss_one (ps_ret (pv 1)))))), ?_⟩
    have hlen : (mkS x).length = x.length := mk_len x
    refine ⟨by decide, fun p hp => ?_⟩
    refine ⟨fun m σ H' => ∃ (k : Nat) (T1 : List Tok) (y : Option V), σ = [some (SV x), some (.ref p), some (.int k), y] ∧ k ≤ x.length ∧ tok x = T1 ++ tok (x.drop k) ∧ T1.length ≤ k ∧ Same H H' ∧ H' p = some (.lst (T1.map SV)) ∧ m = x.length - k, ⟨_, 0, [], _, rfl, Nat.zero_le _, rfl, Nat.zero_le _, same_upd hp _, upd_same, rfl⟩, ?_⟩
    rintro m σ H' ⟨k, T1, y, rfl, hk, eU, h1, s1, e1, rfl⟩
    refine ⟨_, rfl, _, rfl, _, rfl, small7 (by omega), _, _, rfl, rfl, _, rfl, ?_⟩
    by_cases hkl : k < x.length
    case neg =>
      rw [show decide ((k : Int) < ((mkS x).length : Int)) = false from decide_eq_false (by omega)]
      have e0 : x.drop k = [] := List.drop_eq_nil_of_le (by omega)
      rw [e0, tok_nil, List.append_nil] at eU
      rw [← eU] at e1
      exact iteF ⟨_, rfl, q p H' hp s1 e1⟩
    rw [show decide ((k : Int) < ((mkS x).length : Int)) = true from decide_eq_true (by omega)]
    have ne : x.drop k ≠ [] := fun e => by have := congrArg List.length e; rw [List.length_drop] at this; simp at this; omega
    have t0 := tlen_pos (x.drop k)
    have t1 := tlen_le ne
    have hdl : (x.drop k).length = x.length - k := List.length_drop ..
    have dd : (x.drop k).drop (tlen (x.drop k)) = x.drop (k + tlen (x.drop k)) := List.drop_drop ..
    obtain ⟨c, hc⟩ : ∃ c, x[k]? = some c := ⟨_, List.getElem?_eq_getElem hkl⟩
    have hc0 : (x.drop k)[0]? = some c := by rw [at_drop]; exact hc
    obtain ⟨l, el⟩ : ∃ l, x.drop k = c :: l := by
      cases e : x.drop k with
      | nil => exact absurd e ne
      | cons a l => rw [e] at hc0; cases hc0; exact ⟨l, rfl⟩
    have step := tok_cons c l
    rw [← el, dd] at step
    rw [step] at eU
    refine iteT ⟨fun σ' H2 => ∃ (T3 : List Tok) (y : Option V), σ' = [some (SV x), some (.ref p), some (.int ((k + tlen (x.drop k) : Nat) : Int)), y] ∧ tok x = T3 ++ tok (x.drop (k + tlen (x.drop k))) ∧ T3.length ≤ k + tlen (x.drop k) ∧ Same H H2 ∧ H2 p = some (.lst (T3.map SV)),
      fun σ' H2 ⟨T3, y, r1, r2, r3, r4, r5⟩ => ⟨x.length - (k + tlen (x.drop k)), by omega, _, T3, y, r1, by omega, r2, r3, r4, r5, rfl⟩, ?_⟩
    refine ⟨_, rfl, _, rfl, x, k, rfl, hkl, by omega, ?_⟩
    refine ⟨_, rfl, _, rfl, mkS x, (k : Int), c, rfl, rfl, small7 (by omega), atI_nat (by show (cs (mkS x))[k]? = _; rw [cs_mk]; exact hc), rfl, _, rfl, ?_⟩
    by_cases h32 : c = 32
    · subst h32
      rw [if_pos rfl, List.nil_append] at eU
      rw [show (!decide (V.str ⟨#[32]⟩ = V.str " ")) = false by decide]
      exact iteF ⟨_, rfl, T1, _, rfl, eU, by omega, s1, e1⟩
    · rw [if_neg h32, ← List.append_assoc] at eU
      rw [show (!decide (V.str ⟨#[c]⟩ = V.str " ")) = true by
        have : ¬ (V.str ⟨#[c]⟩ = V.str " ") := fun e => by
          have e3 : [c] = [32] := congrArg cs (V.str.inj e)
          exact h32 (by simpa using e3)
        simpa using this]
      refine iteT ⟨_, rfl, .inl ⟨rfl, _, SqL.of e1⟩, _, rfl, _, rfl, _, rfl, _, rfl, _, rfl, mkS x, rfl, small7 (by omega), ?_⟩
      rw [cut_mid (by omega) (by omega), show k + tlen (x.drop k) - k = tlen (x.drop k) by omega]
      refine ⟨p, _, _, rfl, rfl, e1, ?_, _, rfl, T1 ++ [(x.drop k).take (tlen (x.drop k))], _, rfl, eU, ?_, Kx.Same.own s1 hp _, ?_⟩
      · rw [List.length_map]; exact small7k (by omega)
      · rw [List.length_append, List.length_singleton]; omega
      · rw [upd_same, List.map_append]; rfl
end
end Kx
namespace Kx
open PySem PySem.Spec PyProof.Rows L2
section
variable {P : Program} {w : World} {K : PySem.W.Frag} {mg : Str → Option Value} {base : Heap}
set_option pp.maxSteps 1200
/-! ### numbers -/
theorem num_facts : ∀ n : Nat, n < 100 → Txt.isdigit (mkS (num n)) = true ∧ (mkS (num n)).length ≤ 2 ∧ 1 ≤ (num n).length ∧ (mkS (num n) = "0" ∨ (num n).head? ≠ some 48) ∧ PySem.intText? (mkS (num n)) = some (n : Int) := by decide +kernel
theorem dig_one : ∀ c, c < 127 → Txt.isdigit ⟨#[c]⟩ = decide (48 ≤ c ∧ c ≤ 57) := by decide +kernel
theorem num_one : ∀ c, c < 127 → (numV [c]).isSome = decide (48 ≤ c ∧ c ≤ 57) := by decide +kernel
theorem num_two : ∀ c, c < 10 → ∀ d, d < 10 → (numV [48 + c, 48 + d]).isSome = decide (c ≠ 0) := by decide +kernel
theorem num_lens : ∀ n, n < 100 → (num n).length ≤ 2 ∧ 1 ≤ (num n).length ∧ ∀ c ∈ num n, 48 ≤ c ∧ c ≤ 57 := by decide +kernel
theorem dig_two (c d : Nat) : Txt.isdigit (mkS [c, d]) = (Txt.isdigit ⟨#[c]⟩ && Txt.isdigit ⟨#[d]⟩) := by
  simp [Txt.isdigit, mkS, Str.length]
theorem dig_nil : Txt.isdigit (mkS []) = false := by decide +kernel
/-- as the program tests a number -/
def nmb (t : Tok) : Bool := if Txt.isdigit (mkS t) = true ∧ t.length ≤ 2 then (decide (t = [48]) || decide (t.head? ≠ some 48)) else false
theorem nmb_eq {t : Tok} (h : Ok t) : nmb t = (numV t).isSome := by
  have lt : ∀ c ∈ t, c < 127 := fun c hc => by have := (h c hc).2.1; omega
  unfold nmb
  match t, h, lt with
  | [], _, _ => decide +kernel
  | [c], _, lt =>
    have hc := lt c (by simp)
    have e1 : Txt.isdigit (mkS [c]) = decide (48 ≤ c ∧ c ≤ 57) := dig_one c hc
    rw [num_one c hc, e1]
    by_cases k : 48 ≤ c ∧ c ≤ 57
    · rw [decide_eq_true k, if_pos ⟨rfl, by simp⟩]
      by_cases h0 : c = 48
      · simp [h0]
      · simp [h0]
    · rw [decide_eq_false k, if_neg (by simp)]
  | [c, d], _, lt =>
    have hc := lt c (by simp)
    have hd := lt d (by simp)
    rw [dig_two, dig_one c hc, dig_one d hd]
    by_cases k1 : 48 ≤ c ∧ c ≤ 57
    · by_cases k2 : 48 ≤ d ∧ d ≤ 57
      · rw [decide_eq_true k1, decide_eq_true k2, if_pos ⟨rfl, by simp⟩]
        have := num_two (c - 48) (by omega) (d - 48) (by omega)
        rw [show 48 + (c - 48) = c by omega, show 48 + (d - 48) = d by omega] at this
        rw [this]
        by_cases h0 : c = 48
        · simp [h0]
        · have : c - 48 ≠ 0 := by omega
          simp [h0, this]
      · rw [decide_eq_false k2, if_neg (by simp)]
        symm
        rw [Option.isSome_eq_false_iff, Option.isNone_iff_eq_none]
        cases e : numV [c, d] with
        | none => rfl
        | some n =>
          obtain ⟨e1, e2⟩ := numV_some e
          exact absurd ((num_lens n e2).2.2 d (by rw [← e1]; simp)) k2
    · rw [decide_eq_false k1, if_neg (by simp)]
      symm
      rw [Option.isSome_eq_false_iff, Option.isNone_iff_eq_none]
      cases e : numV [c, d] with
      | none => rfl
      | some n =>
        obtain ⟨e1, e2⟩ := numV_some e
        exact absurd ((num_lens n e2).2.2 c (by rw [← e1]; simp)) k1
  | c :: d :: e :: r, _, _ =>
    rw [if_neg (by simp)]
    symm
    rw [Option.isSome_eq_false_iff, Option.isNone_iff_eq_none]
    cases q : numV (c :: d :: e :: r) with
    | none => rfl
    | some n =>
      obtain ⟨e1, e2⟩ := numV_some q
      have := (num_lens n e2).1
      rw [← e1] at this
      simp at this
theorem sv_eq (a b : List Nat) : decide (SV a = SV b) = decide (a = b) := by
  apply decide_eq_decide.mpr
  constructor
  · intro h
    have := congrArg cs (V.str.inj h)
    rwa [cs_mk, cs_mk] at this
  · intro h; rw [h]
theorem sv_lit (a : List Nat) (z : Str) : decide (SV a = V.str z) = decide (a = cs z) := by
  have := sv_eq a (cs z)
  rw [show SV (cs z) = V.str z by unfold SV; rw [mk_cs]] at this
  exact this
def spNumber : Sp := fun vs H Q _ => ∃ t : Tok, vs = [SV t] ∧ Ok t ∧ t ≠ [] ∧ t.length ≤ 6000 ∧ Q (.bl (numV t).isSome) H
theorem ok_is_number (T : Txt K mg)  : FnOk P w K mg base CX0 1 T.a_is_number T.d_is_number ["token"] spNumber := by
  refine T.F_is_number.ok sc_is_number (fun vs H Q E h => ?_) (fun cdv A outer s H vs Q E hr h => ?_)
  · obtain ⟨n, rfl, _⟩ := h; rfl
  · obtain ⟨t, rfl, ho, hne, hl, q⟩ := h
    refine ⟨_, (pss_cons (ps_if (PW.pt (pw_or (pt_not (pt_val (pe_m0 PySem.F.slot_str_isdigit PySem.F.type_str_isdigit mt_isdigit (pv 0)))) (pw_or1 (pt_cmpR op_gt (pe_callB call_len_str (by rfl) T.z_len (by decide +kernel) (pa_cons (pv 0) pa_nil)) (pe_glob (by rfl) T.g_MOST_DIGITS (show RelV (V.int 2) (.int 2 T.t_MOST_DIGITS) from ⟨_, rfl⟩)) (nomark _))))) (pss_one (ps_ret pe_bl)) pss_nil)
    (pss_one (ps_ret (pe_or (pe_cmpR op_eq (pv 0) pe_str (nomark _)) (pe_one (pe_cmpR op_ne (pe_ix ix_str (pv 0) pe_int (fun _ _ => rfl)) pe_str (nomark _))))))), ?_⟩
    rw [← nmb_eq ho] at q
    unfold nmb at q
    have hz : (mkS t).length = t.length := mk_len t
    refine ⟨_, rfl, ⟨_, rfl⟩, mkS t, rfl, rfl, trivial, _, rfl, ?_⟩
    cases hd : Txt.isdigit (mkS t) with
    | false =>
      rw [hd, if_neg (by simp)] at q
      exact iteT q
    | true =>
    rw [hd] at q
    refine iteF ⟨_, rfl, _, rfl, small7 (by omega), _, _, rfl, rfl, _, rfl, ?_⟩
    by_cases h2 : t.length ≤ 2
    case neg =>
      rw [if_neg (fun z => h2 z.2)] at q
      rw [show decide ((2 : Int) < ((mkS t).length : Int)) = true from decide_eq_true (by omega)]
      exact iteT q
    rw [if_pos ⟨rfl, h2⟩] at q
    rw [show decide ((2 : Int) < ((mkS t).length : Int)) = false from decide_eq_false (by omega)]
    refine iteF ⟨_, rfl, rfl, _, rfl, ?_⟩
    rw [sv_lit]
    by_cases h0 : t = [48]
    · rw [show decide (t = cs "0") = true from decide_eq_true h0]
      rw [decide_eq_true h0] at q
      exact iteT q
    · rw [show decide (t = cs "0") = false from decide_eq_false h0]
      rw [decide_eq_false h0] at q
      obtain ⟨c, r, rfl⟩ : ∃ c r, t = c :: r := by cases t with | nil => exact absurd rfl hne | cons c r => exact ⟨c, r, rfl⟩
      refine iteF ⟨_, rfl, mkS (c :: r), 0, c, rfl, rfl, small7 (by omega), atI_nat (j := 0) (by show (cs (mkS (c :: r)))[0]? = _; rw [cs_mk]; rfl), rfl, ?_⟩
      have e : (!decide (V.str ⟨#[c]⟩ = V.str "0")) = (false || decide ((c :: r).head? ≠ some 48)) := by
        by_cases k : c = 48
        · subst k
          rw [show (!decide (V.str ⟨#[48]⟩ = V.str "0")) = false by decide]
          simp
        · have k1 : ¬ (V.str ⟨#[c]⟩ = V.str "0") := fun e => by
            have e3 : [c] = [48] := congrArg cs (V.str.inj e)
            exact k (by simpa using e3)
          rw [decide_eq_false k1]
          simp [k]
      rw [e]; exact q
theorem net_snoc (U : List Tok) (t : Tok) : net (U ++ [t]) = net U + net [t] := net_app U [t]
def spMost : Sp := fun vs H Q _ => ∃ (p : Addr) (U : List Tok), vs = [.ref p] ∧ H p = some (.lst (U.map SV)) ∧ ∀ m : Int, (∀ i, i ≤ U.length → net (U.take i) ≤ m) → (NetOk U → m ≤ 40) → Q (.int m) H
theorem ok_most_open (T : Txt K mg)  : FnOk P w K mg base CX0 1 T.a_most_open T.d_most_open ["tokens"] spMost := by
  refine T.F_most_open.ok sc_most_open (fun vs H Q E h => ?_) (fun cdv A outer s H vs Q E hr h => ?_)
  · obtain ⟨p, U, rfl, _⟩ := h; rfl
  · obtain ⟨p, U, rfl, e, q⟩ := h
    refine ⟨_, (pss_cons (ps_set (i := 1) sc_most_open.nd rfl (Or.inl rfl) pe_int)
    (pss_cons (ps_set (i := 2) sc_most_open.nd rfl (Or.inl rfl) pe_int)
    (pss_cons (ps_for PassesOwn.never rfl (pi_list (pv 0)) (pg_name (i := 3) sc_most_open.nd rfl (Or.inl rfl))
    (pss_cons (ps_if (pt_cmpR op_eq (pv 3) pe_str (nomark _)) (pss_one (ps_aug (i := 1) sc_most_open.nd rfl (Or.inl rfl) pe_int ip_add)) (pss_one (ps_if (pt_cmpR op_eq (pv 3) pe_str (nomark _)) (pss_one (ps_aug (i := 1) sc_most_open.nd rfl (Or.inl rfl) pe_int ip_sub)) pss_nil)))
    (pss_one (ps_set (i := 2) sc_most_open.nd rfl (Or.inl rfl) (pe_callB (call_max2 rfl) (by rfl) T.z_max (by decide +kernel) (pa_cons (pv 2) (pa_cons (pv 1) pa_nil)))))))
    (pss_one (ps_ret (pv 2)))))), ?_⟩
    refine ⟨_, rfl, p, rfl, ⟨_, SqL.of e⟩, ?_⟩
    refine for_list (K := K) (a := p) (xs := U.map SV) (fun i σ H' => ∃ (c m : Int) (y : Option V), σ = [some (.ref p), some (.int c), some (.int m), y] ∧ H' = H ∧ c = net (U.take i) ∧ (∀ j, j ≤ i → net (U.take j) ≤ m) ∧ (NetOk U → m ≤ 40)) ?_ ?_ ?_ ?_
    · refine ⟨0, 0, _, rfl, rfl, rfl, fun j hj => ?_, fun _ => by decide⟩
      have : j = 0 := by omega
      subst this
      exact Int.le_refl _
    · exact fun i σ H' _ ⟨_, _, _, _, e2, _⟩ => by rw [e2]; exact SqL.of e
    · rintro i x σ H' hx ⟨c, m, y, rfl, rfl, hc, hm, hk⟩
      obtain ⟨t, ht, rfl⟩ := map_at hx
      have tk : U.take (i + 1) = U.take i ++ [t] := by rw [List.take_add_one, ht]; rfl
      have o1 : net (U.take (i + 1)) = net (U.take i) + net [t] := by rw [tk, net_snoc]
      have fin : ∀ c' : Int, c' = net (U.take (i + 1)) → (∀ j, j ≤ i + 1 → net (U.take j) ≤ (if c' > m then c' else m)) ∧ (NetOk U → (if c' > m then c' else m) ≤ 40) := fun c' h => by
        refine ⟨fun j hj => ?_, fun k => ?_⟩
        · by_cases e1 : j = i + 1
          · rw [e1, ← h]
            split <;> omega
          · have := hm j (by omega)
            split <;> omega
        · have h1 := hk k
          have h2 := k (i + 1)
          rw [← h] at h2
          split
          · exact h2
          · exact h1
      refine ⟨_, rfl, rfl, _, rfl, ?_⟩
      rw [sv_lit]
      by_cases h1 : t = cs "("
      · rw [decide_eq_true h1]
        have : net [t] = 1 := by rw [h1]; decide
        refine iteT ⟨_, rfl, _, _, rfl, rfl, _, rfl, _, rfl, _, _, rfl, ?_⟩
        have hc' : (fun i j => (i + j : Int)) c 1 = net (U.take (i + 1)) := by show c + 1 = _; omega
        exact ⟨_, _, _, rfl, rfl, hc', fin _ hc'⟩
      · rw [decide_eq_false h1]
        refine iteF ⟨_, rfl, rfl, _, rfl, ?_⟩
        rw [sv_lit]
        by_cases h2 : t = cs ")"
        · rw [decide_eq_true h2]
          have : net [t] = -1 := by rw [h2]; decide
          refine iteT ⟨_, rfl, _, _, rfl, rfl, _, rfl, _, rfl, _, _, rfl, ?_⟩
          have hc' : (fun i j => (i - j : Int)) c 1 = net (U.take (i + 1)) := by show c - 1 = _; omega
          exact ⟨_, _, _, rfl, rfl, hc', fin _ hc'⟩
        · rw [decide_eq_false h2]
          have : net [t] = 0 := by
            have h1' : ¬ t = [40] := h1
            have h2' : ¬ t = [41] := h2
            unfold net
            rw [List.count_singleton, List.count_singleton]
            simp [h1', h2']
          refine iteF ⟨_, rfl, _, rfl, _, _, rfl, ?_⟩
          exact ⟨_, _, _, rfl, rfl, by omega, fin _ (by omega)⟩
    · rintro σ H' ⟨c, m, y, rfl, rfl, hc, hm, hk⟩
      rw [List.length_map] at hm
      exact ⟨_, rfl, q m hm hk⟩
/-! ### a line -/
def lnD (n : Int) (i : Nat) (l : Addr) : List (Str × V) := [("number", .int n), ("at", .int i), ("tokens", .ref l)]
structure LnAt (C o dx l : Addr) (n : Int) (i : Nat) (U : List Tok) (H : Hp) : Prop where
  ins : H o = some (.ins C dx (lnD n i l))
  lst : H l = some (.lst (U.map SV))
  len : U.length ≤ 6000
  ok : ∀ t ∈ U, Ok t ∧ t ≠ [] ∧ t.length ≤ 6000
  net : NetOk U
  le : i ≤ U.length
/-- all but the line stands -/
def Lx (o : Addr) (H H' : Hp) : Prop := ∀ b u, b ≠ o → H b = some u → H' b = some u
theorem Lx.refl (o : Addr) (H : Hp) : Lx o H H := fun _ _ _ h => h
theorem Lx.trans {o : Addr} {H H1 H2 : Hp} (a : Lx o H H1) (b : Lx o H1 H2) : Lx o H H2 := fun c u n h => b c u n (a c u n h)
theorem Lx.of {o : Addr} {H H' : Hp} (s : Same H H') : Lx o H H' := fun b u _ h => s b u h
theorem Lx.own {o p : Addr} {H H1 : Hp} (x : Lx o H H1) (hp : H p = none) (u : HO) : Lx o H (upd H1 p u) := fun b v n h => by rw [upd_ne (ne_of_none h hp)]; exact x b v n h
section
variable {C o dx l : Addr} {n : Int} {i : Nat} {U : List Tok} {H H' : Hp}
theorem LnAt.ne (L : LnAt C o dx l n i U H) : l ≠ o := fun e => by have := L.lst; rw [e, L.ins] at this; cases this
theorem LnAt.same (L : LnAt C o dx l n i U H) (s : Same H H') : LnAt C o dx l n i U H' := ⟨s _ _ L.ins, s _ _ L.lst, L.len, L.ok, L.net, L.le⟩
theorem LnAt.tk (L : LnAt C o dx l n i U H) (x : Lx o H H') : Tk H H' := fun a vs h => x a _ (fun q => by rw [q, L.ins] at h; cases h) h
theorem LnAt.put (L : LnAt C o dx l n i U H) {j : Nat} (hj : j ≤ U.length) : LnAt C o dx l n j U (upd H o (.ins C dx (lnD n j l))) ∧ Lx o H (upd H o (.ins C dx (lnD n j l))) :=
  ⟨⟨upd_same, by rw [upd_ne L.ne]; exact L.lst, L.len, L.ok, L.net, hj⟩, fun b u nb h => by rw [upd_ne nb]; exact h⟩
theorem LnAt.at (L : LnAt C o dx l n i U H) {t : Tok} (h : U[i]? = some t) : Ok t ∧ t ≠ [] ∧ t.length ≤ 6000 := L.ok t (List.mem_of_getElem? h)
end
theorem get_drop {U R : List (List Nat)} {i : Nat} {t : List Nat} (h : U.drop i = t :: R) : U[i]? = some t ∧ U.drop (i + 1) = R ∧ i < U.length := by
  have h0 : (U.drop i)[0]? = some t := by rw [h]; rfl
  rw [List.getElem?_drop] at h0
  refine ⟨h0, ?_, (List.getElem?_eq_some_iff.mp h0).1⟩
  rw [← List.drop_drop, h]; rfl
theorem drop_app {U X R : List (List Nat)} {i : Nat} (h : U.drop i = X ++ R) : U.drop (i + X.length) = R := by
  rw [← List.drop_drop, h, List.drop_left]
/-! ### bad lines: what is raised -/
def Bad (B : Addr) (n : Int) (R : Hp → Prop) (E : XK) : Prop := ∀ d H', H' d = some (lineD (.int n)) → R H' → E (.ref B) (some d) H'
theorem Bad.imp {B : Addr} {n : Int} {R S : Hp → Prop} {E : XK} (h : Bad B n R E) (k : ∀ H', S H' → R H') : Bad B n S E := fun d H' e s => h d H' e (k H' s)
theorem FnOk.wide {f : Addr} {fd : FuncData} {ps : List Str} {k : Nat} {sp : Sp} {CX : CXT} (F : FnOk P w K mg base CX0 k f fd ps sp) : FnOk P w K mg base CX k f fd ps sp :=
  ⟨F.len, fun A outer s H args us vs Q E hr he hb hv hs => codeAny_mono (F.run A outer s H args us vs Q E hr he hb hv hs) fun r s' z => by
    rcases r with e | v
    · exact absurd z id
    · cases v <;> exact z⟩
theorem FnOk.or {f : Addr} {fd : FuncData} {ps : List Str} {k : Nat} {s1 s2 : Sp} {CX : CXT} (F : FnOk P w K mg base CX k f fd ps s1) (G : FnOk P w K mg base CX k f fd ps s2) : FnOk P w K mg base CX k f fd ps (fun vs H Q E => s1 vs H Q E ∨ s2 vs H Q E) :=
  ⟨fun vs H Q E h => h.elim (F.len vs H Q E) (G.len vs H Q E), fun A outer s H args us vs Q E hr he hb hv hs => hs.elim (F.run A outer s H args us vs Q E hr he hb hv) (G.run A outer s H args us vs Q E hr he hb hv)⟩
def spRefuse (C B : Addr) : Sp := fun vs H Q E => ∃ (o dx : Addr) (fs : List (Str × V)) (n : Int), vs = [.ref o] ∧ H o = some (.ins C dx fs) ∧ fs.lookup ("number" : Str) = some (V.int n) ∧ Bad B n (Same H) E
theorem okx_Line_refuse (T : Txt K mg)  : FnOk P w K mg base (L2.CX P w) 3 T.a_Line_refuse T.d_Line_refuse ["self"] (spRefuse T.c_Line T.c_BadText) := by
  refine T.F_Line_refuse.okX sc_Line_refuse (fun vs H Q E h => ?_) (fun cdv A outer s H vs Q E hr h => ?_)
  · obtain ⟨o, dx, fs, n, rfl, _⟩ := h; rfl
  · obtain ⟨o, dx, fs, n, rfl, e, l, q⟩ := h
    refine ⟨_, (pss_one (ps_raiseB rfl T.low_BadText hr (takes_of rfl rfl rfl rfl) (pa_cons (pe_fld (pv 0) rfl) pa_nil))), ?_⟩
    exact ⟨_, rfl, o, _, dx, _, _, rfl, e, T.cl_Line, T.no_Line_number, l, _, rfl, fun d hd => q d _ upd_same (same_upd hd _)⟩
def spTake (C B : Addr) : Sp := fun vs H Q E => ∃ (o dx l : Addr) (n : Int) (i : Nat) (U : List Tok), vs = [.ref o] ∧ LnAt C o dx l n i U H ∧
  match U[i]? with
  | some t => ∀ H', Lx o H H' → LnAt C o dx l n (i + 1) U H' → Q (SV t) H'
  | none => Bad B n (Lx o H) E
theorem okx_Line_take (T : Txt K mg) (G_Line_refuse : FnOk P w K mg base (L2.CX P w) 3 T.a_Line_refuse T.d_Line_refuse ["self"] (spRefuse T.c_Line T.c_BadText)) : FnOk P w K mg base (L2.CX P w) 4 T.a_Line_take T.d_Line_take ["self"] (spTake T.c_Line T.c_BadText) := by
  refine T.F_Line_take.okX sc_Line_take (fun vs H Q E h => ?_) (fun cdv A outer s H vs Q E hr h => ?_)
  · obtain ⟨o, dx, l, n, i, U, rfl, _⟩ := h; rfl
  · obtain ⟨o, dx, l, n, i, U, rfl, L, q⟩ := h
    have hr_Line_refuse : Room 3 _ := hr
    refine ⟨_, (pss_cons (ps_if (pt_cmpR op_eq (pe_fld (pv 0) rfl) (pe_callB call_len_seq (by rfl) T.z_len (by decide +kernel) (pa_cons (pe_fld (pv 0) rfl) pa_nil)) (nomark _)) (pss_one (ps_expr (pe_meth0 (pv 0) T.cl_Line T.me_Line_refuse G_Line_refuse hr_Line_refuse T.b_Line_refuse .nil (passes_call (takes_of rfl rfl rfl rfl) fun _ _ _ _ h => h)))) pss_nil)
    (pss_cons (ps_fldaug (pv 0) pe_int in_add)
    (pss_one (ps_ret (pe_ix ix_list (pe_fld (pv 0) rfl) (pe_op op_sub (pe_fld (pv 0) rfl) pe_int) (fun _ _ => rfl)))))), ?_⟩
    refine ⟨_, rfl, o, _, dx, _, _, rfl, L.ins, T.cl_Line, T.no_Line_at, rfl, _, rfl, o, _, dx, _, _, rfl, L.ins, T.cl_Line, T.no_Line_tokens, rfl, l, _, rfl, .inl (SqL.of L.lst), rfl, _, rfl, ?_⟩
    have li := L.le
    cases ht : U[i]? with
    | none =>
      rw [ht] at q
      have : i = U.length := by have := List.getElem?_eq_none_iff.mp ht; omega
      rw [List.length_map, show decide (V.int (i : Int) = V.int (U.length : Int)) = true by rw [dec_int, this]; simp]
      exact iteT ⟨_, rfl, o, dx, _, rfl, L.ins, rfl, o, dx, _, n, rfl, L.ins, rfl, q.imp fun H' s' => .of s'⟩
    | some t =>
    rw [ht] at q
    have hi := (List.getElem?_eq_some_iff.mp ht).1
    rw [List.length_map, show decide (V.int (i : Int) = V.int (U.length : Int)) = false by rw [dec_int]; exact beq_eq_false_iff_ne.mpr (by omega)]
    obtain ⟨L1, x1⟩ := L.put (j := i + 1) (by omega)
    refine iteF ⟨_, rfl, o, _, dx, _, _, rfl, L.ins, T.cl_Line, T.no_Line_at, rfl, _, _, rfl, rfl, dx, _, L.ins, by show 3 < 1000; decide, ?_⟩
    rw [show putF "at" ((fun i j => V.int (i + j)) (i : Int) 1) (lnD n i l) = lnD n (i + 1) l from rfl]
    refine ⟨_, rfl, o, _, dx, _, _, rfl, L1.ins, T.cl_Line, T.no_Line_tokens, rfl, _, rfl, o, _, dx, _, _, rfl, L1.ins, T.cl_Line, T.no_Line_at, rfl, _, _, rfl, rfl, l, _, _, _, rfl, rfl, SqL.of L1.lst, ?_, q _ x1 L1⟩
    show atI (U.map SV) (((i + 1 : Nat) : Int) - 1) = _
    rw [show (((i + 1 : Nat) : Int) - 1) = (i : Int) by omega]
    exact atI_nat (by rw [List.getElem?_map, ht]; rfl)
def spComes (C : Addr) : Sp := fun vs H Q _ => ∃ (o dx l : Addr) (n : Int) (i : Nat) (U : List Tok) (z : Str), vs = [.ref o, .str z] ∧ LnAt C o dx l n i U H ∧ sok z = true ∧ ∀ H', Same H H' → Q (.bl (decide (U[i]? = some (cs z)))) H'
theorem sok_ok {t : List Nat} (h : Ok t) : sok (mkS t) = true := by
  show (mkS t).cps.all (· < 0x110000) = true
  rw [Array.all_eq_true']
  intro c hc
  have := h c (by simpa [mkS] using hc)
  simp only [decide_eq_true_eq]
  have := this.2.1
  omega
theorem one_shaped {w : Str} (h : sok w = true) : SeqAt.shaped (.list [.str w]) = true := by
  simp only [SeqAt.shaped, PyData.canLay0, PyData.canLayAll0, PyData.depth, PyData.depthAll, show PyData.strOk w = true from h]
  rfl
theorem cut_one {U : List Tok} {i : Nat} (h : i ≤ U.length) : cutV (U.map SV) (some (i : Int)) (some ((i : Int) + 1)) = (match U[i]? with | some t => [SV t] | none => []) := by
  unfold cutV
  rw [show ((i : Int) + 1) = ((i + 1 : Nat) : Int) by omega, HT.sIx_nat, HT.sIx_nat, List.length_map, Nat.min_eq_left h]
  cases e : U[i]? with
  | none =>
    have : U.length ≤ i := List.getElem?_eq_none_iff.mp e
    rw [List.drop_eq_nil_of_le (by rw [List.length_map]; exact this)]
    exact List.take_nil
  | some t =>
    have hi := (List.getElem?_eq_some_iff.mp e).1
    rw [Nat.min_eq_left hi, show i + 1 - i = 1 by omega]
    have : (U.map SV).drop i = SV t :: (U.map SV).drop (i + 1) := by
      have h2 : (U.map SV)[i]? = some (SV t) := by rw [List.getElem?_map, e]; rfl
      rw [List.drop_eq_getElem_cons (by rw [List.length_map]; exact hi)]
      congr 1
      have := List.getElem?_eq_getElem (l := U.map SV) (i := i) (by rw [List.length_map]; exact hi)
      rw [h2] at this
      exact (Option.some.inj this).symm
    rw [this]; rfl
theorem ok_Line_comes (T : Txt K mg)  : FnOk P w K mg base CX0 1 T.a_Line_comes T.d_Line_comes ["self", "token"] (spComes T.c_Line) := by
  refine T.F_Line_comes.ok sc_Line_comes (fun vs H Q E h => ?_) (fun cdv A outer s H vs Q E hr h => ?_)
  · obtain ⟨o, dx, l, n, i, U, z, rfl, _⟩ := h; rfl
  · obtain ⟨o, dx, l, n, i, U, z, rfl, L, hz, q⟩ := h
    have hi := L.le
    refine ⟨_, (pss_one (ps_ret (pe_cmpR (op_eqD (u64 hr)) (pe_slice sl_list (pe_fld (pv 0) rfl) (po_some (pe_fld (pv 0) rfl)) (po_some (pe_op op_add (pe_fld (pv 0) rfl) pe_int))) (pe_lst (pa_cons (pv 1) pa_nil)) (nomark _)))), ?_⟩
    refine ⟨_, rfl, o, _, dx, _, _, rfl, L.ins, T.cl_Line, T.no_Line_tokens, rfl, _, rfl, o, _, dx, _, _, rfl, L.ins, T.cl_Line, T.no_Line_at, rfl, _, rfl, _, rfl, o, _, dx, _, _, rfl, L.ins, T.cl_Line, T.no_Line_at, rfl, _, _, rfl, rfl, _, rfl, l, _, rfl, SqL.of L.lst, fun p hp => ?_⟩
    have s1 := same_upd hp (.lst (cutV (U.map SV) (some (i : Int)) (some ((i : Int) + 1))))
    refine ⟨_, rfl, (by show 1 ≤ sizeLine; decide), fun p2 hp2 => ?_⟩
    have s2 := same_upd hp2 (.lst [V.str z])
    have e1 := s2 _ _ (show upd H p (.lst (cutV (U.map SV) (some (i : Int)) (some ((i : Int) + 1)))) p = some (.lst (match U[i]? with | some t => [SV t] | none => [])) by rw [upd_same, cut_one hi])
    have dz : Dp K (upd (upd H p (.lst (cutV (U.map SV) (some (i : Int)) (some ((i : Int) + 1))))) p2 (.lst [V.str z])) (.ref p2) (.list [.str z]) := .lst (SqL.of upd_same) (.cons (.str z) .nil)
    generalize upd (upd H p (.lst (cutV (U.map SV) (some (i : Int)) (some ((i : Int) + 1))))) p2 (.lst [V.str z]) = H2 at *
    have fin := q H2 (s1.trans s2)
    cases e : U[i]? with
    | none =>
      rw [e] at e1 fin
      refine ⟨.list [], .list [.str z], .lst (SqL.of e1) .nil, dz, rfl, one_shaped hz, ?_⟩
      simpa [PyData.eqv, PyData.eqvAll] using fin
    | some t =>
      rw [e] at e1 fin
      refine ⟨.list [.str (mkS t)], .list [.str z], .lst (SqL.of e1) (.cons (.str _) .nil), dz, one_shaped (sok_ok (L.ok t (List.mem_of_getElem? e)).1), one_shaped hz, ?_⟩
      have : (PyData.list [.str (mkS t)]).eqv (.list [.str z]) = decide (some t = some (cs z)) := by
        rw [Bool.eq_iff_iff]
        simp only [PyData.eqv, PyData.eqvAll, Bool.and_true, beq_iff_eq, decide_eq_true_eq, Option.some.injEq]
        constructor
        · intro h; rw [← h, cs_mk]
        · intro h; rw [h, mk_cs]
      rw [this]; exact fin
def spSkip (C B : Addr) : Sp := fun vs H Q E => ∃ (o dx l : Addr) (n : Int) (i : Nat) (U : List Tok) (z : Str), vs = [.ref o, .str z] ∧ LnAt C o dx l n i U H ∧
  (U[i]? = some (cs z) → ∀ H', Lx o H H' → LnAt C o dx l n (i + 1) U H' → Q .non H') ∧ (U[i]? ≠ some (cs z) → Bad B n (Lx o H) E)
theorem okx_Line_skip (T : Txt K mg) (G_Line_take : FnOk P w K mg base (L2.CX P w) 4 T.a_Line_take T.d_Line_take ["self"] (spTake T.c_Line T.c_BadText)) (G_Line_refuse : FnOk P w K mg base (L2.CX P w) 3 T.a_Line_refuse T.d_Line_refuse ["self"] (spRefuse T.c_Line T.c_BadText)) : FnOk P w K mg base (L2.CX P w) 5 T.a_Line_skip T.d_Line_skip ["self", "token"] (spSkip T.c_Line T.c_BadText) := by
  refine T.F_Line_skip.okX sc_Line_skip (fun vs H Q E h => ?_) (fun cdv A outer s H vs Q E hr h => ?_)
  · obtain ⟨o, dx, l, n, i, U, z, rfl, _⟩ := h; rfl
  · obtain ⟨o, dx, l, n, i, U, z, rfl, L, q1, q2⟩ := h
    have hr_Line_take : Room 4 _ := hr
    have hr_Line_refuse : Room 3 _ := hr.mono (by decide)
    refine ⟨_, (pss_one (ps_if (pt_cmpR op_ne (pe_meth0 (pv 0) T.cl_Line T.me_Line_take G_Line_take hr_Line_take T.b_Line_take .nil (passes_call (takes_of rfl rfl rfl rfl) fun _ _ _ _ h => h)) (pv 1) (nomark _)) (pss_one (ps_expr (pe_meth0 (pv 0) T.cl_Line T.me_Line_refuse G_Line_refuse hr_Line_refuse T.b_Line_refuse .nil (passes_call (takes_of rfl rfl rfl rfl) fun _ _ _ _ h => h)))) pss_nil)), ?_⟩
    refine ⟨_, rfl, o, dx, _, rfl, L.ins, rfl, o, dx, l, n, i, U, rfl, L, ?_⟩
    cases ht : U[i]? with
    | none => exact q2 (by rw [ht]; simp)
    | some t =>
    refine fun H1 x1 L1 => ⟨_, rfl, rfl, _, rfl, ?_⟩
    rw [sv_lit]
    by_cases e : t = cs z
    · rw [decide_eq_true e]
      exact iteF (q1 (by rw [ht, e]) H1 x1 L1)
    · rw [decide_eq_false e]
      exact iteT ⟨_, rfl, o, dx, _, rfl, L1.ins, rfl, o, dx, _, n, rfl, L1.ins, rfl, (q2 (by rw [ht]; exact fun h => e (Option.some.inj h))).imp fun H' s' => x1.trans (.of s')⟩
def spFinish (C B : Addr) : Sp := fun vs H Q E => ∃ (o dx l : Addr) (n : Int) (i : Nat) (U : List Tok), vs = [.ref o] ∧ LnAt C o dx l n i U H ∧ (i = U.length → Q .non H) ∧ (i ≠ U.length → Bad B n (Same H) E)
theorem okx_Line_finish (T : Txt K mg) (G_Line_refuse : FnOk P w K mg base (L2.CX P w) 3 T.a_Line_refuse T.d_Line_refuse ["self"] (spRefuse T.c_Line T.c_BadText)) : FnOk P w K mg base (L2.CX P w) 4 T.a_Line_finish T.d_Line_finish ["self"] (spFinish T.c_Line T.c_BadText) := by
  refine T.F_Line_finish.okX sc_Line_finish (fun vs H Q E h => ?_) (fun cdv A outer s H vs Q E hr h => ?_)
  · obtain ⟨o, dx, l, n, i, U, rfl, _⟩ := h; rfl
  · obtain ⟨o, dx, l, n, i, U, rfl, L, q1, q2⟩ := h
    have hr_Line_refuse : Room 3 _ := hr
    refine ⟨_, (pss_one (ps_if (pt_cmpR op_ne (pe_fld (pv 0) rfl) (pe_callB call_len_seq (by rfl) T.z_len (by decide +kernel) (pa_cons (pe_fld (pv 0) rfl) pa_nil)) (nomark _)) (pss_one (ps_expr (pe_meth0 (pv 0) T.cl_Line T.me_Line_refuse G_Line_refuse hr_Line_refuse T.b_Line_refuse .nil (passes_call (takes_of rfl rfl rfl rfl) fun _ _ _ _ h => h)))) pss_nil)), ?_⟩
    refine ⟨_, rfl, o, _, dx, _, _, rfl, L.ins, T.cl_Line, T.no_Line_at, rfl, _, rfl, o, _, dx, _, _, rfl, L.ins, T.cl_Line, T.no_Line_tokens, rfl, l, _, rfl, .inl (SqL.of L.lst), rfl, _, rfl, ?_⟩
    rw [List.length_map]
    by_cases e : i = U.length
    · rw [show (!decide (V.int (i : Int) = V.int (U.length : Int))) = false by rw [e]; simp]
      exact iteF (q1 e)
    · rw [show (!decide (V.int (i : Int) = V.int (U.length : Int))) = true by rw [dec_int]; have : ¬ ((i : Int) = (U.length : Int)) := by omega
                                                                              simpa using this]
      exact iteT ⟨_, rfl, o, dx, _, rfl, L.ins, rfl, o, dx, _, n, rfl, L.ins, rfl, q2 e⟩
def spTakeWord (C B : Addr) : Sp := fun vs H Q E => ∃ (o dx l : Addr) (n : Int) (i : Nat) (U : List Tok), vs = [.ref o] ∧ LnAt C o dx l n i U H ∧
  (∀ t, U[i]? = some t → isW t = true → ∀ H', Lx o H H' → LnAt C o dx l n (i + 1) U H' → Q (SV t) H') ∧ ((∀ t, U[i]? = some t → isW t = false) → Bad B n (Lx o H) E)
theorem okx_Line_take_word (T : Txt K mg) (G_is_word : FnOk P w K mg base CX0 1 T.a_is_word T.d_is_word ["value"] spWord) (G_Line_take : FnOk P w K mg base (L2.CX P w) 4 T.a_Line_take T.d_Line_take ["self"] (spTake T.c_Line T.c_BadText)) (G_Line_refuse : FnOk P w K mg base (L2.CX P w) 3 T.a_Line_refuse T.d_Line_refuse ["self"] (spRefuse T.c_Line T.c_BadText)) : FnOk P w K mg base (L2.CX P w) 5 T.a_Line_take_word T.d_Line_take_word ["self"] (spTakeWord T.c_Line T.c_BadText) := by
  refine T.F_Line_take_word.okX sc_Line_take_word (fun vs H Q E h => ?_) (fun cdv A outer s H vs Q E hr h => ?_)
  · obtain ⟨o, dx, l, n, i, U, rfl, _⟩ := h; rfl
  · obtain ⟨o, dx, l, n, i, U, rfl, L, q1, q2⟩ := h
    have hr_Line_take : Room 4 _ := hr
    have hr_Line_refuse : Room 3 _ := hr.mono (by decide)
    have hr_is_word : Room 1 _ := hr.mono (by decide)
    refine ⟨_, (pss_cons (ps_set (i := 1) sc_Line_take_word.nd rfl (Or.inl rfl) (pe_meth0 (pv 0) T.cl_Line T.me_Line_take G_Line_take hr_Line_take T.b_Line_take .nil (passes_call (takes_of rfl rfl rfl rfl) fun _ _ _ _ h => h)))
    (pss_cons (ps_if (pt_not (pt_val (pe_call G_is_word hr_is_word rfl T.m_is_word T.F_is_word.kp T.b_is_word .nil pass0 (pa_cons (pv 1) pa_nil)))) (pss_one (ps_expr (pe_meth0 (pv 0) T.cl_Line T.me_Line_refuse G_Line_refuse hr_Line_refuse T.b_Line_refuse .nil (passes_call (takes_of rfl rfl rfl rfl) fun _ _ _ _ h => h)))) pss_nil)
    (pss_one (ps_ret (pv 1))))), ?_⟩
    refine ⟨_, rfl, o, dx, _, rfl, L.ins, rfl, o, dx, l, n, i, U, rfl, L, ?_⟩
    cases ht : U[i]? with
    | none => exact q2 fun t e => by rw [ht] at e; cases e
    | some t =>
    refine fun H1 x1 L1 => ⟨_, rfl, t, rfl, by have := (L.at ht).2.2; omega, _, rfl, ?_⟩
    cases hw : isW t with
    | true => exact iteF ⟨_, rfl, q1 t ht hw H1 x1 L1⟩
    | false => exact iteT ⟨_, rfl, o, dx, _, rfl, L1.ins, rfl, o, dx, _, n, rfl, L1.ins, rfl, (q2 fun t' e => by rw [ht] at e; cases e; exact hw).imp fun H' s' => x1.trans (.of s')⟩
def spTakeNum (C B : Addr) : Sp := fun vs H Q E => ∃ (o dx l : Addr) (n : Int) (i : Nat) (U : List Tok), vs = [.ref o] ∧ LnAt C o dx l n i U H ∧
  (∀ t k, U[i]? = some t → numV t = some k → ∀ H', Lx o H H' → LnAt C o dx l n (i + 1) U H' → Q (.int k) H') ∧ ((∀ t, U[i]? = some t → numV t = none) → Bad B n (Lx o H) E)
theorem okx_Line_take_number (T : Txt K mg) (G_is_number : FnOk P w K mg base CX0 1 T.a_is_number T.d_is_number ["token"] spNumber) (G_Line_take : FnOk P w K mg base (L2.CX P w) 4 T.a_Line_take T.d_Line_take ["self"] (spTake T.c_Line T.c_BadText)) (G_Line_refuse : FnOk P w K mg base (L2.CX P w) 3 T.a_Line_refuse T.d_Line_refuse ["self"] (spRefuse T.c_Line T.c_BadText)) : FnOk P w K mg base (L2.CX P w) 5 T.a_Line_take_number T.d_Line_take_number ["self"] (spTakeNum T.c_Line T.c_BadText) := by
  refine T.F_Line_take_number.okX sc_Line_take_number (fun vs H Q E h => ?_) (fun cdv A outer s H vs Q E hr h => ?_)
  · obtain ⟨o, dx, l, n, i, U, rfl, _⟩ := h; rfl
  · obtain ⟨o, dx, l, n, i, U, rfl, L, q1, q2⟩ := h
    have hr_Line_take : Room 4 _ := hr
    have hr_Line_refuse : Room 3 _ := hr.mono (by decide)
    have hr_is_number : Room 1 _ := hr.mono (by decide)
    refine ⟨_, (pss_cons (ps_set (i := 1) sc_Line_take_number.nd rfl (Or.inl rfl) (pe_meth0 (pv 0) T.cl_Line T.me_Line_take G_Line_take hr_Line_take T.b_Line_take .nil (passes_call (takes_of rfl rfl rfl rfl) fun _ _ _ _ h => h)))
    (pss_cons (ps_if (pt_not (pt_val (pe_call G_is_number hr_is_number rfl T.m_is_number T.F_is_number.kp T.b_is_number .nil pass0 (pa_cons (pv 1) pa_nil)))) (pss_one (ps_expr (pe_meth0 (pv 0) T.cl_Line T.me_Line_refuse G_Line_refuse hr_Line_refuse T.b_Line_refuse .nil (passes_call (takes_of rfl rfl rfl rfl) fun _ _ _ _ h => h)))) pss_nil)
    (pss_one (ps_ret (pe_callTy call_int_str (by rfl) T.z_int (by decide +kernel) (pa_cons (pv 1) pa_nil)))))), ?_⟩
    refine ⟨_, rfl, o, dx, _, rfl, L.ins, rfl, o, dx, l, n, i, U, rfl, L, ?_⟩
    cases ht : U[i]? with
    | none => exact q2 fun t e => by rw [ht] at e; cases e
    | some t =>
    obtain ⟨o1, o2, o3⟩ := L.at ht
    refine fun H1 x1 L1 => ⟨_, rfl, t, rfl, o1, o2, o3, _, rfl, ?_⟩
    cases hw : numV t with
    | some k =>
      obtain ⟨rfl, k100⟩ := numV_some hw
      obtain ⟨_, f2, _, _, f5⟩ := num_facts k k100
      exact iteF ⟨_, rfl, mkS (num k), _, rfl, f5, by omega, q1 _ k ht hw H1 x1 L1⟩
    | none => exact iteT ⟨_, rfl, o, dx, _, rfl, L1.ins, rfl, o, dx, _, n, rfl, L1.ins, rfl, (q2 fun t' e => by rw [ht] at e; cases e; exact hw).imp fun H' s' => x1.trans (.of s')⟩
end
end Kx
namespace Kx
open PySem PySem.Spec PyProof.Rows L2
section
variable {P : Program} {w : World} {K : PySem.W.Frag} {mg : Str → Option Value} {base : Heap}
set_option pp.maxSteps 1200
/-! ### a line is made; the rows of a text -/
theorem pre35 {x r : List Nat} (h : 35 ∉ x) {k : Nat} (hk : k < x.length) : TL.pre [35] ((x ++ r).drop k) = false := by
  unfold TL.pre
  rw [List.drop_append_of_le_length (Nat.le_of_lt hk)]
  cases e : x.drop k with
  | nil => have := congrArg List.length e; rw [List.length_drop] at this; simp at this; omega
  | cons a q =>
    have ha : a ∈ x := List.mem_of_mem_drop (by rw [e]; exact List.mem_cons_self ..)
    have : a ≠ 35 := fun q => h (q ▸ ha)
    show ([a] == [35]) = false
    simpa using this
/-- what stands behind the signs of a line: nothing, or a comment -/
def Cm (cm : List Nat) : Prop := OkR cm ∧ (cm = [] ∨ ∃ r, cm = 35 :: r)
theorem part_cm {x cm : List Nat} (h : 35 ∉ x) (hc : Cm cm) : (Txt.partition (mkS (x ++ cm)) "#").1 = mkS x := by
  have run := TL.par_run [35] (x ++ cm) x.length 0 [] (by rw [List.length_append]; omega) fun k _ hk => by
    rw [Nat.zero_add] at hk
    exact pre35 h hk
  rw [List.drop_zero, Nat.zero_add, List.drop_left, List.take_left, List.nil_append] at run
  rcases hc.2 with rfl | ⟨r, rfl⟩
  · have e : TL.par [35] [] (x ++ []) = none := by rw [run]; rfl
    rw [TL.partition_par _ _ (by decide +kernel), show TL.tl ("#" : Str) = [35] from rfl, show TL.tl (mkS (x ++ [])) = x ++ [] from cs_mk _, e, List.append_nil]
  · have e : TL.par [35] [] (x ++ 35 :: r) = some (x, r) := by rw [run]; rfl
    rw [TL.partition_par _ _ (by decide +kernel), show TL.tl ("#" : Str) = [35] from rfl, show TL.tl (mkS (x ++ 35 :: r)) = x ++ 35 :: r from cs_mk _, e]
    all_goals rfl
def hd35 (r : List Nat) : List Nat := r.takeWhile (· != 35)
def tl35 (r : List Nat) : List Nat := r.dropWhile (· != 35)
theorem hd_tl (r : List Nat) : hd35 r ++ tl35 r = r := List.takeWhile_append_dropWhile
theorem tl_cm {r : List Nat} (h : OkR r) : Cm (tl35 r) := by
  refine ⟨fun c hc => h c (by rw [← hd_tl r]; exact List.mem_append_right _ hc), ?_⟩
  unfold tl35
  cases e : r.dropWhile (· != 35) with
  | nil => exact .inl rfl
  | cons a l =>
    have := List.head?_dropWhile_not (fun x : Nat => x != 35) r
    rw [e] at this
    simp only [List.head?_cons] at this
    have h2 : a = 35 := by simpa using this
    exact .inr ⟨l, by rw [h2]⟩
theorem hd_ok {r : List Nat} (h : OkR r) : Ok (hd35 r) := fun c hc => by
  have h1 := h c (by rw [← hd_tl r]; exact List.mem_append_left _ hc)
  have h2 : c ≠ 35 := by
    have : ∀ x ∈ r.takeWhile (fun x : Nat => x != 35), (x != 35) = true := fun x hx => List.all_eq_true.mp List.all_takeWhile x hx
    have := this c hc
    simpa using this
  exact ⟨h1.1, h1.2.1, h1.2.2, h2⟩
/-- the tokens of a row -/
def toks (r : List Nat) : List Tok := tok (hd35 r)
theorem toks_ok {r : List Nat} (h : OkR r) (l : r.length ≤ 6000) : (toks r).length ≤ 6000 ∧ ∀ t ∈ toks r, Ok t ∧ t ≠ [] ∧ t.length ≤ 6000 := by
  have hl : (hd35 r).length ≤ 6000 := by
    have := congrArg List.length (hd_tl r)
    rw [List.length_append] at this
    omega
  refine ⟨Nat.le_trans (tok_len _ _ (Nat.le_refl _)) hl, fun t ht => ?_⟩
  obtain ⟨h1, h2, h3⟩ := tok_ne _ _ (Nat.le_refl _) t ht
  exact ⟨fun c hc => hd_ok h c (h3 c hc), h1, by omega⟩
theorem net_bad {U : List Tok} (h : ¬ NetOk U) : ∃ i, i ≤ U.length ∧ 40 < net (U.take i) := by
  unfold NetOk at h
  obtain ⟨i, hi⟩ := Classical.not_forall.mp h
  rcases Nat.le_total i U.length with l | l
  · exact ⟨i, l, by omega⟩
  · refine ⟨U.length, Nat.le_refl _, ?_⟩
    rw [List.take_of_length_le (Nat.le_refl _)]
    rw [List.take_of_length_le l] at hi
    omega
def spLInit (C B : Addr) : Sp := fun vs H Q E => ∃ (o dx : Addr) (n : Int) (r : List Nat), vs = [.ref o, SV r, .int n] ∧ H o = some (.ins C dx []) ∧ OkR r ∧ r.length ≤ 6000 ∧ (NetOk (toks r) → ∀ l H', H l = none → Lx o H H' → LnAt C o dx l n 0 (toks r) H' → Q .non H') ∧ (¬ NetOk (toks r) → Bad B n (Lx o H) E)
theorem okx_Line_init (T : Txt K mg) (G_most_open : FnOk P w K mg base CX0 1 T.a_most_open T.d_most_open ["tokens"] spMost) (G_tokens_of : FnOk P w K mg base CX0 2 T.a_tokens_of T.d_tokens_of ["row"] spTokens) (G_Line_refuse : FnOk P w K mg base (L2.CX P w) 3 T.a_Line_refuse T.d_Line_refuse ["self"] (spRefuse T.c_Line T.c_BadText)) : FnOk P w K mg base (L2.CX P w) 4 T.a_Line_init T.d_Line_init ["self", "row", "number"] (spLInit T.c_Line T.c_BadText) := by
  refine T.F_Line_init.okX sc_Line_init (fun vs H Q E h => ?_) (fun cdv A outer s H vs Q E hr h => ?_)
  · obtain ⟨o, dx, n, r, rfl, _⟩ := h; rfl
  · obtain ⟨o, dx, n, r, rfl, e, hR, hl, q1, q2⟩ := h
    have hr_tokens_of : Room 2 _ := hr.mono (by decide)
    have hr_most_open : Room 1 _ := hr.mono (by decide)
    have hr_Line_refuse : Room 3 _ := hr
    refine ⟨_, (pss_cons (ps_fld (pv 0) (pv 2) rfl)
    (pss_cons (ps_fld (pv 0) pe_int rfl)
    (pss_cons (ps_fld (pv 0) (pe_call G_tokens_of hr_tokens_of rfl T.m_tokens_of T.F_tokens_of.kp T.b_tokens_of .nil pass0 (pa_cons (pe_ix ix_tup (pe_partition (pv 1) pe_str) pe_int (fun _ _ => rfl)) pa_nil)) rfl)
    (pss_one (ps_if (pt_cmpR op_gt (pe_call G_most_open hr_most_open rfl T.m_most_open T.F_most_open.kp T.b_most_open .nil pass0 (pa_cons (pe_fld (pv 0) rfl) pa_nil)) (pe_glob (by rfl) T.g_MOST_OPEN (show RelV (V.int 40) (.int 40 T.t_MOST_OPEN) from ⟨_, rfl⟩)) (nomark _)) (pss_one (ps_expr (pe_meth0 (pv 0) T.cl_Line T.me_Line_refuse G_Line_refuse hr_Line_refuse T.b_Line_refuse .nil (passes_call (takes_of rfl rfl rfl rfl) fun _ _ _ _ h => h)))) pss_nil))))), ?_⟩
    refine ⟨_, rfl, _, rfl, o, T.c_Line, dx, [], rfl, e, T.cl_Line, T.no_Line_number, by decide, ?_⟩
    refine ⟨_, rfl, o, T.c_Line, dx, _, rfl, upd_same, T.cl_Line, T.no_Line_at, by show 1 < 1000; decide, ?_⟩
    have x1 : Lx o H (upd (upd H o (.ins T.c_Line dx (putF "number" (.int n) []))) o (.ins T.c_Line dx (putF "at" (.int 0) (putF "number" (.int n) [])))) := fun b u nb h => by rw [upd_ne nb, upd_ne nb]; exact h
    have e1 : (upd (upd H o (.ins T.c_Line dx (putF "number" (.int n) []))) o (.ins T.c_Line dx (putF "at" (.int 0) (putF "number" (.int n) [])))) o = some (.ins T.c_Line dx [("number", .int n), ("at", .int 0)]) := upd_same
    generalize (upd (upd H o (.ins T.c_Line dx (putF "number" (.int n) []))) o (.ins T.c_Line dx (putF "at" (.int 0) (putF "number" (.int n) [])))) = H1 at x1 e1 ⊢
    have hO := hd_ok hR
    have h35 : 35 ∉ hd35 r := fun hm => by have := (hO 35 hm).2.2.2; omega
    have hp1 : (Txt.partition (mkS r) "#").1 = mkS (hd35 r) := by
      have := part_cm h35 (tl_cm hR)
      rwa [hd_tl] at this
    have hl2 : (hd35 r).length ≤ 6000 := by
      have := congrArg List.length (hd_tl r)
      rw [List.length_append] at this
      omega
    refine ⟨_, rfl, ⟨_, rfl⟩, mkS r, _, rfl, rfl, rfl, by rw [mk_len]; exact small7 (by omega), fun p hp => ⟨p, _, _, _, rfl, rfl, .inl (.inl upd_same), atI_nat (j := 0) rfl, hd35 r, by rw [hp1]; rfl, hl2, fun l H2 nl s2 el => ?_⟩⟩
    have s1 := same_upd hp (.tup [.str (Txt.partition (mkS r) "#").1, .str (Txt.partition (mkS r) "#").2.1, .str (Txt.partition (mkS r) "#").2.2])
    have e2 := s2 _ _ (s1 _ _ e1)
    have x2 : Lx o H H2 := (x1.trans (.of s1)).trans (.of s2)
    have nlo : l ≠ o := fun z => by rw [z, e2] at el; cases el
    refine ⟨_, rfl, o, T.c_Line, dx, _, rfl, e2, T.cl_Line, T.no_Line_tokens, by show 2 < 1000; decide, ?_⟩
    rw [show putF "tokens" (.ref l) [("number", V.int n), ("at", V.int 0)] = lnD n 0 l from rfl]
    have xl : Lx o H (upd H2 o (.ins T.c_Line dx (lnD n 0 l))) := x2.trans fun b u nb h => by rw [upd_ne nb]; exact h
    have ell : (upd H2 o (.ins T.c_Line dx (lnD n 0 l))) l = some (.lst ((toks r).map SV)) := by rw [upd_ne nlo]; exact el
    obtain ⟨k1, k2⟩ := toks_ok hR hl
    refine ⟨_, rfl, o, _, dx, _, _, rfl, upd_same, T.cl_Line, T.no_Line_tokens, rfl, l, toks r, rfl, ell, fun m hm hk => ⟨_, _, rfl, rfl, _, rfl, ?_⟩⟩
    by_cases hN : NetOk (toks r)
    · have := hk hN
      rw [show decide ((40 : Int) < m) = false from decide_eq_false (by omega)]
      have nl0 : H l = none := by
        cases e : H l with
        | none => rfl
        | some u => have := s1 _ _ (x1 _ _ nlo e); rw [nl] at this; cases this
      exact iteF (q1 hN l _ nl0 xl ⟨upd_same, ell, k1, k2, hN, Nat.zero_le _⟩)
    · obtain ⟨io, il, ig⟩ := net_bad hN
      have := hm io il
      rw [show decide ((40 : Int) < m) = true from decide_eq_true (by omega)]
      exact iteT ⟨_, rfl, o, dx, _, rfl, upd_same, rfl, o, dx, _, n, rfl, upd_same, rfl, (q2 hN).imp fun H' s' => xl.trans (.of s')⟩
def spRowsOf (B : Addr) : Sp := fun vs H Q E =>
  (∃ (ls : List (List Nat)) (z : List Nat), vs = [SV (fullT ls ++ z)] ∧ (fullT ls ++ z).length ≤ 6000 ∧ (∀ l ∈ ls, OkR l) ∧ OkR z ∧ ∀ p H', Same H H' → H p = none → H' p = some (.lst (ls.map SV)) → Q (.ref p) H') ∨
  (Bad B 0 (Same H) E ∧ ((∃ (v : V) (u : Value), vs = [v] ∧ TyX K H v u ∧ PySem.W.kitOne K u (.type "str") = some false) ∨ (∃ z : Str, vs = [.str z] ∧ 6000 < z.length ∧ z.length ≤ 20000) ∨ ∃ a b : List Nat, vs = [SV (a ++ 9 :: b)] ∧ (a ++ 9 :: b).length ≤ 6000 ∧ ∀ c ∈ a, c = 10 ∨ okr c))
theorem rest_mem {ls : List (List Nat)} {z : List Nat} (h : ∀ l ∈ ls, OkR l) (hz : OkR z) : ∀ c ∈ fullT ls ++ z, c = 10 ∨ okr c := fun c hc => by
  rcases List.mem_append.mp hc with h1 | h1
  · exact full_mem h c h1
  · exact .inr (hz c h1)
theorem ok9 {c : Nat} (h : c = 10 ∨ okr c) : c ≠ 9 := by
  rcases h with h | h
  · omega
  · have := h.1; omega
theorem okx_rows_of (T : Txt K mg) (G_is_allowed : FnOk P w K mg base CX0 1 T.a_is_allowed T.d_is_allowed ["sign"] spAllowed) : FnOk P w K mg base (L2.CX P w) 3 T.a_rows_of T.d_rows_of ["text"] (spRowsOf (K := K) T.c_BadText) := by
  refine T.F_rows_of.okX sc_rows_of (fun vs H Q E h => ?_) (fun cdv A outer s H vs Q E hr h => ?_)
  · rcases h with ⟨ls, z, rfl, _⟩ | ⟨_, ⟨v, u, rfl, _⟩ | ⟨z, rfl, _⟩ | ⟨a, b, rfl, _⟩⟩ <;> rfl
  · have hr_is_allowed : Room 1 _ := hr.mono (by decide)
    refine ⟨_, (pss_cons (ps_if (PW.pt (pw_or (pt_not (pt_val (pe_callB call_isi (by rfl) T.z_isinstance (by decide +kernel) (pa_cons (pv 0) (pa_cons (pe_bltn rfl T.z_str (by decide +kernel) (show RelV (V.ty "str") (Value.type "str") from rfl)) pa_nil))))) (pw_or1 (pt_cmpR op_gt (pe_callB call_len_str (by rfl) T.z_len (by decide +kernel) (pa_cons (pv 0) pa_nil)) (pe_glob (by rfl) T.g_MOST_TEXT (show RelV (V.int 6000) (.int 6000 T.t_MOST_TEXT) from ⟨_, rfl⟩)) (nomark _))))) (pss_one (ps_raiseB rfl T.low_BadText hr (takes_of rfl rfl rfl rfl) (pa_cons pe_int pa_nil))) pss_nil)
    (pss_cons (ps_for (passes_of rfl) rfl (pi_str (pv 0)) (pg_name (i := 1) sc_rows_of.nd rfl (Or.inl rfl))
    (pss_one (ps_if (pt_not (pt_val (pe_call G_is_allowed hr_is_allowed rfl T.m_is_allowed T.F_is_allowed.kp T.b_is_allowed .nil pass0 (pa_cons (pv 1) pa_nil)))) (pss_one (ps_raiseB rfl T.low_BadText hr (takes_of rfl rfl rfl rfl) (pa_cons pe_int pa_nil))) pss_nil)))
    (pss_one (ps_ret (pe_slice sl_list (pe_split (pv 0) pe_str) po_none (po_some (pe_un un_neg pe_int))))))), ?_⟩
    rcases h with ⟨ls, z, rfl, hl, hk, hz, q⟩ | ⟨q, ⟨v, u, rfl, ty, kt⟩ | ⟨z, rfl, h1, h2⟩ | ⟨a, b, rfl, hl, ha⟩⟩
    · have hlen : (mkS (fullT ls ++ z)).length = (fullT ls ++ z).length := mk_len _
      refine ⟨_, rfl, _, _, .type "str", _, true, rfl, .ty _, .base (.str _), kit_ty (show kitB "str" "str" = some true by decide +kernel), _, rfl, iteF ?_⟩
      refine ⟨_, rfl, _, rfl, small7 (by omega), _, _, rfl, rfl, _, rfl, ?_⟩
      rw [show decide ((6000 : Int) < ((mkS (fullT ls ++ z)).length : Int)) = false from decide_eq_false (by omega)]
      refine iteF ⟨_, rfl, _, rfl, ?_⟩
      refine for_str (fun i σ H' => ∃ y, σ = [some (SV (fullT ls ++ z)), y] ∧ H' = H) ?_ ?_ ?_
      · exact ⟨_, rfl, rfl⟩
      · rintro i c σ H' hc ⟨y, rfl, rfl⟩
        have hm : c ∈ fullT ls ++ z := by
          have := Array.mem_of_getElem? hc
          simpa [mkS] using this
        have hc2 := rest_mem hk hz c hm
        refine ⟨_, rfl, c, rfl, hc2.imp id .inl, _, rfl, ?_⟩
        rw [show decide (c ≠ 9) = true from decide_eq_true (ok9 hc2)]
        exact iteF ⟨_, rfl, rfl⟩
      · rintro σ H' ⟨y, rfl, rfl⟩
        have hsp := split_rest ls z (fun l hl => ok_no10 (hk l hl)) (ok_no10 hz)
        refine ⟨_, rfl, ⟨_, rfl⟩, _, _, rfl, rfl, rfl, by rw [hlen]; exact small7 (by omega), fun p hp => ⟨_, rfl, _, rfl, p, _, rfl, SqL.of upd_same, fun p2 hp2 => ?_⟩⟩
        have s1 := same_upd hp (.lst ((Txt.split (mkS (fullT ls ++ z)) "\n").map V.str))
        refine q p2 _ (s1.trans (same_upd hp2 _)) (s1.free hp2) ?_
        rw [upd_same, hsp]
        congr 2
        unfold cutV
        rw [List.map_append, List.map_map]
        have e1 : HT.sIx ((ls.map (V.str ∘ mkS)) ++ [mkS z].map V.str).length ((ls.map (V.str ∘ mkS)) ++ [mkS z].map V.str).length (some (-1)) = ls.length := by
          rw [sIx_m1]
          simp only [List.length_append, List.length_map, List.length_cons, List.length_nil]
          omega
        rw [e1, HT.sIx_none, List.drop_zero, Nat.sub_zero, List.take_left' (by rw [List.length_map])]
        rfl
    · refine ⟨_, rfl, _, _, u, _, false, rfl, .ty _, ty, kt, _, rfl, ?_⟩
      exact iteT (iteT ⟨_, rfl, fun d hd => q d _ upd_same (same_upd hd _)⟩)
    · refine ⟨_, rfl, _, _, .type "str", _, true, rfl, .ty _, .base (.str _), kit_ty (show kitB "str" "str" = some true by decide +kernel), _, rfl, iteF ?_⟩
      refine ⟨_, rfl, _, rfl, small7 (by omega), _, _, rfl, rfl, _, rfl, ?_⟩
      rw [show decide ((6000 : Int) < (z.length : Int)) = true from decide_eq_true (by omega)]
      exact iteT ⟨_, rfl, fun d hd => q d _ upd_same (same_upd hd _)⟩
    · have hlen : (mkS (a ++ 9 :: b)).length = (a ++ 9 :: b).length := mk_len _
      refine ⟨_, rfl, _, _, .type "str", _, true, rfl, .ty _, .base (.str _), kit_ty (show kitB "str" "str" = some true by decide +kernel), _, rfl, iteF ?_⟩
      refine ⟨_, rfl, _, rfl, small7 (by omega), _, _, rfl, rfl, _, rfl, ?_⟩
      rw [show decide ((6000 : Int) < ((mkS (a ++ 9 :: b)).length : Int)) = false from decide_eq_false (by omega)]
      refine iteF ⟨_, rfl, _, rfl, ?_⟩
      refine for_str (fun i σ H' => i ≤ a.length ∧ ∃ y, σ = [some (SV (a ++ 9 :: b)), y] ∧ H' = H) ?_ ?_ ?_
      · exact ⟨Nat.zero_le _, _, rfl, rfl⟩
      · rintro i c σ H' hc ⟨hi, y, rfl, rfl⟩
        have hc2 : (a ++ 9 :: b)[i]? = some c := by
          have : (mkS (a ++ 9 :: b)).cps.toList[i]? = some c := by rw [Array.getElem?_toList]; exact hc
          rwa [show (mkS (a ++ 9 :: b)).cps.toList = a ++ 9 :: b from cs_mk _] at this
        rcases Nat.lt_or_ge i a.length with hlt | hge
        · rw [List.getElem?_append_left hlt] at hc2
          have hk := ha c (List.mem_of_getElem? hc2)
          refine ⟨_, rfl, c, rfl, hk.imp id .inl, _, rfl, ?_⟩
          rw [show decide (c ≠ 9) = true from decide_eq_true (ok9 hk)]
          exact iteF ⟨hlt, _, rfl, rfl⟩
        · have ei : i = a.length := by omega
          subst ei
          rw [List.getElem?_append_right (Nat.le_refl _), Nat.sub_self] at hc2
          cases hc2
          refine ⟨_, rfl, 9, rfl, .inr (.inr rfl), _, rfl, ?_⟩
          rw [show decide ((9 : Nat) ≠ 9) = false by decide]
          exact iteT ⟨_, rfl, fun d hd => q d _ upd_same (same_upd hd _)⟩
      · rintro σ H' ⟨hi, y, rfl, rfl⟩
        have : (mkS (a ++ 9 :: b)).cps.size = (a ++ 9 :: b).length := by simp [mkS]
        rw [this, List.length_append, List.length_cons] at hi
        omega
end
end Kx
namespace Kx
open PySem PySem.Spec PyProof.Rows L2
section
variable {P : Program} {w : World} {K : PySem.W.Frag} {mg : Str → Option Value} {base : Heap}
set_option pp.maxSteps 900
/-! ### trees -/
theorem net_take (U : List Tok) (i : Nat) : net U = net (U.take i) + net (U.drop i) := by
  conv => lhs; rw [← List.take_append_drop i U]
  exact net_app _ _
theorem net_at {U C R : List Tok} {i j : Nat} (h : U.drop i = C ++ R) (k : U.drop j = R) : net (U.take j) = net (U.take i) + net C := by
  have h1 := net_take U i
  have h2 := net_take U j
  rw [h, net_app] at h1
  rw [k] at h2
  omega
theorem head_at {U : List Tok} {i : Nat} : U[i]? = (U.drop i).head? := by rw [List.head?_drop]
theorem wr_tk {H : Hp} {b : Addr} {xs ys : List V} (e : H b = some (.lst xs)) : Tk H (upd H b (.lst ys)) := fun a us e2 => by rw [upd_ne (fun q => by rw [q, e] at e2; cases e2)]; exact e2
def pLs (k : Nat) : List Tok → Option (List PV × List Tok)
  | [] => none
  | a :: R => if a = [40] then pL (pT k) (R.length + 1) R else none
def spATree (C B : Addr) (k : Nat) : Sp := fun vs H Q E => ∃ (o dx l : Addr) (n : Int) (i : Nat) (U : List Tok), vs = [.ref o] ∧ LnAt C o dx l n i U H ∧ 41 ≤ (k : Int) + net (U.take i) ∧
  match pT k (U.drop i) with
  | some (t, R) => ∀ v j H', U.drop j = R → Is H' v t → Lx o H H' → LnAt C o dx l n j U H' → Q v H'
  | none => Bad B n (Lx o H) E
def spATrees (C B : Addr) (k : Nat) : Sp := fun vs H Q E => ∃ (o dx l : Addr) (n : Int) (i : Nat) (U : List Tok), vs = [.ref o] ∧ LnAt C o dx l n i U H ∧ 40 ≤ (k : Int) + net (U.take i) ∧
  match pLs k (U.drop i) with
  | some (ts, R) => ∀ p vs j H', U.drop j = R → H' p = some (.tup vs) → IsL H' vs ts → Lx o H H' → LnAt C o dx l n j U H' → Q (.ref p) H'
  | none => Bad B n (Lx o H) E
theorem cs_par : cs "(" = [40] := rfl
theorem okx_Line_take_tree {k : Nat}(T : Txt K mg) (G_Line_comes : FnOk P w K mg base CX0 1 T.a_Line_comes T.d_Line_comes ["self", "token"] (spComes T.c_Line)) (G_Line_take_trees : FnOk P w K mg base (L2.CX P w) (2*k+7) T.a_Line_take_trees T.d_Line_take_trees ["self"] (spATrees T.c_Line T.c_BadText k)) (G_Line_take_word : FnOk P w K mg base (L2.CX P w) 5 T.a_Line_take_word T.d_Line_take_word ["self"] (spTakeWord T.c_Line T.c_BadText)) : FnOk P w K mg base (L2.CX P w) (2*k+8) T.a_Line_take_tree T.d_Line_take_tree ["self"] (spATree T.c_Line T.c_BadText (k+1)) := by
  refine T.F_Line_take_tree.okX sc_Line_take_tree (fun vs H Q E h => ?_) (fun cdv A outer s H vs Q E hr h => ?_)
  · obtain ⟨o, dx, l, n, i, U, rfl, _⟩ := h; rfl
  · obtain ⟨o, dx, l, n, i, U, rfl, L, hn, q⟩ := h
    have hr_Line_comes : Room 1 _ := hr.mono (by omega)
    have hr_Line_take_word : Room 5 _ := hr.mono (by omega)
    have hr_Line_take_trees : Room (2*k+7) _ := hr
    refine ⟨_, (pss_cons (ps_set (i := 1) sc_Line_take_tree.nd rfl (Or.inl rfl) (pe_meth0 (pv 0) T.cl_Line T.me_Line_take_word G_Line_take_word hr_Line_take_word T.b_Line_take_word .nil (passes_call (takes_of rfl rfl rfl rfl) fun _ _ _ _ h => h)))
    (pss_cons (ps_if (pt_val (pe_meth (pv 0) T.cl_Line T.me_Line_comes G_Line_comes hr_Line_comes T.b_Line_comes .nil pass0 (pa_cons pe_str pa_nil))) (pss_one (ps_ret (pe_op op_catT (pe_tup (pa_cons (pv 1) pa_nil)) (pe_meth0 (pv 0) T.cl_Line T.me_Line_take_trees G_Line_take_trees hr_Line_take_trees T.b_Line_take_trees .nil (passes_call (takes_of rfl rfl rfl rfl) fun _ _ _ _ h => h))))) pss_nil)
    (pss_one (ps_ret (pv 1))))), ?_⟩
    refine ⟨_, rfl, o, dx, _, rfl, L.ins, rfl, o, dx, l, n, i, U, rfl, L, fun t ht hw H1 x1 L1 => ?_, fun hno => ?_⟩
    rotate_left
    · have e : pT (k + 1) (U.drop i) = none := by
        cases ed : U.drop i with
        | nil => rfl
        | cons a R =>
          have := hno a (by rw [head_at, ed]; rfl)
          unfold pT
          simp only [this, Bool.false_eq_true, if_false]
      rw [e] at q
      exact q
    obtain ⟨R, ed⟩ : ∃ R, U.drop i = t :: R := by
      rw [head_at] at ht
      cases ed : U.drop i with
      | nil => rw [ed] at ht; cases ht
      | cons a R => rw [ed] at ht; cases ht; exact ⟨R, rfl⟩
    obtain ⟨g1, g2, g3⟩ := get_drop ed
    refine ⟨_, rfl, o, dx, _, rfl, L1.ins, rfl, o, dx, l, n, i + 1, U, "(", rfl, L1, by decide +kernel, fun H2 s2 => ⟨_, rfl, ?_⟩⟩
    have L2 := L1.same s2
    have x2 := x1.trans (Lx.of s2)
    have wn := w_net hw
    have n1 : net (U.take (i + 1)) = net (U.take i) := by
      have := net_at (C := [t]) (R := R) (j := i + 1) (by rw [ed]; rfl) g2
      rw [this, wn]; omega
    rw [head_at, g2, cs_par]
    by_cases h40 : R.head? = some [40]
    · rw [decide_eq_true h40]
      obtain ⟨R0, rfl⟩ : ∃ R0, R = [40] :: R0 := by
        cases R with
        | nil => cases h40
        | cons a R0 => cases h40; exact ⟨R0, rfl⟩
      refine iteT ⟨_, rfl, (by show 1 ≤ sizeLine; decide), fun p1 hp1 => ?_⟩
      have s3 := same_upd hp1 (.tup [SV t])
      have L3 := L2.same s3
      have e : pT (k + 1) (U.drop i) = match pLs k ([40] :: R0) with
          | none => none
          | some (ts, R3) => some (.tup (.str (mkS t) :: ts), R3) := by
        rw [ed]
        conv => lhs; unfold pT
        simp only [hw, if_true, pLs]
        all_goals rfl
      rw [e] at q
      refine ⟨_, rfl, o, dx, _, rfl, L3.ins, rfl, o, dx, l, n, i + 1, U, rfl, L3, by rw [n1]; omega, ?_⟩
      rw [g2]
      cases er : pLs k ([40] :: R0) with
      | none => rw [er] at q; exact q.imp fun H' x' => (x2.trans (.of s3)).trans x'
      | some pr =>
      obtain ⟨ts, R3⟩ := pr
      rw [er] at q
      have hne : ts ≠ [] ∧ ts.length ≤ 6000 := by
        simp only [pLs, if_true] at er
        obtain ⟨C, e1, _, _, h3, h4, _⟩ := pL_eat (pT_eat k) _ _ _ _ er
        refine ⟨h3, ?_⟩
        have : (U.drop i).length ≤ 6000 := by rw [List.length_drop]; have := L.len; omega
        rw [ed, e1] at this
        simp only [List.length_cons, List.length_append] at this
        omega
      intro p2 vs j H4 ej e4 i4 x4 L4
      have e3 : H4 p1 = some (.tup [SV t]) := x4 _ _ (fun z => by rw [z, L2.ins] at hp1; cases hp1) upd_same
      have hlen := i4.len
      refine ⟨p1, p2, _, _, rfl, rfl, .inl (.inl e3), .inl (.inl e4), by simp, by rw [List.length_singleton]; have := small7k (n := 1 + vs.length) (by omega); omega, fun e => ?_, fun _ p5 hp5 => ?_⟩
      · rw [e] at hlen
        exact absurd (List.length_eq_zero_iff.mp hlen.symm) hne.1
      · have s5 := same_upd hp5 (.tup ([SV t] ++ vs))
        exact q _ j _ ej (.tup upd_same (.cons (.str _ (isW_sok hw)) (i4.same s5))) (((x2.trans (.of s3)).trans x4).trans (.of s5)) (L4.same s5)
    · rw [decide_eq_false h40]
      have e : pT (k + 1) (U.drop i) = some (.str (mkS t), R) := by
        rw [ed]
        unfold pT
        simp only [hw, if_true]
        cases R with
        | nil => rfl
        | cons a R0 =>
          have : a ≠ [40] := fun e => h40 (by rw [e]; rfl)
          simp only [this, if_false]
      rw [e] at q
      exact iteF ⟨_, rfl, q _ (i + 1) H2 g2 (.str _ (isW_sok hw)) x2 L2⟩
theorem aft_44 (k : Nat) (Z : List Tok) : aft k ([44] :: Z) = pL (pT k) (Z.length + 1) Z := by
  simp only [aft]
  rw [if_neg (by decide), if_pos trivial]
theorem aft_nil (k : Nat) : aft k [] = none := rfl
theorem ne_own {H H' : Hp} {o p : Addr} {u : HO} (x : Lx o H H') (np : p ≠ o) (h : H' p = none) : H p = none := by
  cases e : H p with
  | none => rfl
  | some u => have := x _ _ np e; rw [h] at this; cases this
theorem okx_Line_take_trees {k : Nat}(T : Txt K mg) (G_Line_comes : FnOk P w K mg base CX0 1 T.a_Line_comes T.d_Line_comes ["self", "token"] (spComes T.c_Line)) (G_Line_take_tree : FnOk P w K mg base (L2.CX P w) (2*k+6) T.a_Line_take_tree T.d_Line_take_tree ["self"] (spATree T.c_Line T.c_BadText k)) (G_Line_skip : FnOk P w K mg base (L2.CX P w) 5 T.a_Line_skip T.d_Line_skip ["self", "token"] (spSkip T.c_Line T.c_BadText)) : FnOk P w K mg base (L2.CX P w) (2*k+7) T.a_Line_take_trees T.d_Line_take_trees ["self"] (spATrees T.c_Line T.c_BadText k) := by
  refine T.F_Line_take_trees.okX sc_Line_take_trees (fun vs H Q E h => ?_) (fun cdv A outer s H vs Q E hr h => ?_)
  · obtain ⟨o, dx, l, n, i, U, rfl, _⟩ := h; rfl
  · obtain ⟨o, dx, l, n, i, U, rfl, L, hn, q⟩ := h
    have hr_Line_comes : Room 1 _ := hr.mono (by omega)
    have hr_Line_skip : Room 5 _ := hr.mono (by omega)
    have hr_Line_take_tree : Room (2*k+6) _ := hr
    refine ⟨_, (pss_cons (ps_expr (pe_meth (pv 0) T.cl_Line T.me_Line_skip G_Line_skip hr_Line_skip T.b_Line_skip .nil (passes_call (takes_of rfl rfl rfl rfl) fun _ _ _ _ h => h) (pa_cons pe_str pa_nil)))
    (pss_cons (ps_set (i := 1) sc_Line_take_trees.nd rfl (Or.inl rfl) (pe_lst (pa_cons (pe_meth0 (pv 0) T.cl_Line T.me_Line_take_tree G_Line_take_tree hr_Line_take_tree T.b_Line_take_tree .nil (passes_call (takes_of rfl rfl rfl rfl) fun _ _ _ _ h => h)) pa_nil)))
    (pss_cons (ps_while (passes_of rfl) (pt_val (pe_meth (pv 0) T.cl_Line T.me_Line_comes G_Line_comes hr_Line_comes T.b_Line_comes .nil pass0 (pa_cons pe_str pa_nil)))
    (pss_cons (ps_expr (pe_meth (pv 0) T.cl_Line T.me_Line_skip G_Line_skip hr_Line_skip T.b_Line_skip .nil (passes_call (takes_of rfl rfl rfl rfl) fun _ _ _ _ h => h) (pa_cons pe_str pa_nil)))
    (pss_one (ps_expr (pe_bm PySem.F.plainAttrs_list PySem.F.slot_list_append PySem.F.type_list_append mt_append (pv 1) (pa_cons (pe_meth0 (pv 0) T.cl_Line T.me_Line_take_tree G_Line_take_tree hr_Line_take_tree T.b_Line_take_tree .nil (passes_call (takes_of rfl rfl rfl rfl) fun _ _ _ _ h => h)) pa_nil))))))
    (pss_cons (ps_expr (pe_meth (pv 0) T.cl_Line T.me_Line_skip G_Line_skip hr_Line_skip T.b_Line_skip .nil (passes_call (takes_of rfl rfl rfl rfl) fun _ _ _ _ h => h) (pa_cons pe_str pa_nil)))
    (pss_one (ps_ret (pe_callTy call_tuple_of (by rfl) T.z_tuple (by decide +kernel) (pa_cons (pv 1) pa_nil)))))))), ?_⟩
    refine ⟨_, rfl, o, dx, _, rfl, L.ins, rfl, o, dx, l, n, i, U, "(", rfl, L, fun h40 H1 x1 L1 => ?_, fun h40 => ?_⟩
    rotate_left
    · have e : pLs k (U.drop i) = none := by
        rw [head_at, cs_par] at h40
        cases ed : U.drop i with
        | nil => rfl
        | cons a R =>
          rw [ed] at h40
          have : a ≠ [40] := fun e => h40 (by rw [e]; rfl)
          simp only [pLs, this, if_false]
      rw [e] at q
      exact q
    obtain ⟨R0, ed⟩ : ∃ R0, U.drop i = [40] :: R0 := by
      rw [head_at, cs_par] at h40
      cases ed : U.drop i with
      | nil => rw [ed] at h40; cases h40
      | cons a R => rw [ed] at h40; cases h40; exact ⟨R, rfl⟩
    obtain ⟨g1, g2, g3⟩ := get_drop ed
    have n1 : net (U.take (i + 1)) = net (U.take i) + 1 := by
      have := net_at (C := [[40]]) (R := R0) (j := i + 1) (by rw [ed]; rfl) g2
      rw [this, net_40]
    have hU : R0.length ≤ 6000 := by
      have : (U.drop i).length ≤ 6000 := by rw [List.length_drop]; have := L.len; omega
      rw [ed, List.length_cons] at this; omega
    rw [ed] at q
    simp only [pLs, if_true] at q
    rw [pL_eq] at q
    refine ⟨_, rfl, o, dx, _, rfl, L1.ins, rfl, o, dx, l, n, i + 1, U, rfl, L1, by rw [n1]; omega, ?_⟩
    rw [g2]
    cases er : pT k R0 with
    | none => rw [er] at q; exact q.imp fun H' x' => x1.trans x'
    | some pr =>
    obtain ⟨t0, Y0⟩ := pr
    rw [er] at q
    simp only at q
    obtain ⟨C0, ec0, E0, _⟩ := pT_eat k R0 t0 Y0 er
    intro v j0 H2 ej0 iv x2 L2
    have nj0 : net (U.take j0) = net (U.take i) + 1 := by
      have := net_at (C := C0) (R := Y0) (i := i + 1) (by rw [g2, ec0]) ej0
      rw [this, n1, E0.net]; omega
    refine ⟨(by show 1 ≤ sizeLine; decide), fun p hp => ?_⟩
    have s3 := same_upd hp (.lst [v])
    have L3 := L2.same s3
    have npo : p ≠ o := fun z => by rw [z, L2.ins] at hp; cases hp
    have x02 := x1.trans x2
    have hp0 : H p = none := ne_own (u := .lst []) x02 npo hp
    have len0 : Y0.length + 1 ≤ 6000 := by
      have := congrArg List.length ec0
      rw [List.length_append] at this
      have := List.length_pos_iff.mpr E0.ne
      omega
    generalize hres : (aft k Y0).map (fun p => (t0 :: p.1, p.2)) = res at q
    refine ⟨fun m σ H' => ∃ (ts0 : List PV) (Y : List Tok) (vs : List V) (j : Nat), σ = [some (.ref o), some (.ref p)] ∧ LnAt T.c_Line o dx l n j U H' ∧ U.drop j = Y ∧ H' p = some (.lst vs) ∧ IsL H' vs ts0 ∧ Lx o H H' ∧ (aft k Y).map (fun p => (ts0 ++ p.1, p.2)) = res ∧ ts0.length + Y.length ≤ 6000 ∧ net (U.take j) = net (U.take i) + 1 ∧ m = Y.length,
      ⟨_, [t0], Y0, [v], j0, rfl, L3, ej0, upd_same, .cons (iv.same s3) .nil, x02.trans (.of s3), hres, by simp only [List.length_singleton]; omega, nj0, rfl⟩, ?_⟩
    rintro m σ H' ⟨ts0, Y, vs, j, rfl, L', ej, ep, ivs, x', hr1, hlen, hnj, rfl⟩
    refine ⟨_, rfl, o, dx, _, rfl, L'.ins, rfl, o, dx, l, n, j, U, ",", rfl, L', by decide +kernel, fun H3 sc => ⟨_, rfl, ?_⟩⟩
    have Lc := L'.same sc
    have xc := x'.trans (Lx.of sc)
    have epc := sc _ _ ep
    have ivc := ivs.same sc
    have hvl := ivs.len
    rw [head_at, ej, show cs "," = [44] from rfl]
    by_cases h44 : Y.head? = some [44]
    case neg =>
      rw [decide_eq_false h44]
      refine iteF ⟨_, rfl, o, dx, _, rfl, Lc.ins, rfl, o, dx, l, n, j, U, ")", rfl, Lc, fun h41 H4 x4 L4 => ?_, fun h41 => ?_⟩
      · rw [head_at, ej, show cs ")" = [41] from rfl] at h41
        obtain ⟨Z, rfl⟩ : ∃ Z, Y = [41] :: Z := by
          cases Y with
          | nil => cases h41
          | cons a Z => cases h41; exact ⟨Z, rfl⟩
        have e2 : res = some (ts0, Z) := by
          rw [← hr1]
          simp [aft]
        rw [e2] at q
        have ep4 := x4 _ _ npo epc
        refine ⟨_, rfl, p, vs, rfl, .inl ⟨SqL.of ep4, fun q2 hq2 => ?_⟩⟩
        have s5 := same_upd hq2 (.tup vs)
        exact q q2 vs (j + 1) _ (get_drop ej).2.1 upd_same ((ivc.tk (Lc.tk x4)).same s5) ((xc.trans x4).trans (.of s5)) (L4.same s5)
      · rw [head_at, ej, show cs ")" = [41] from rfl] at h41
        have e2 : res = none := by
          rw [← hr1]
          cases Y with
          | nil => rfl
          | cons a Z =>
            have k1 : a ≠ [41] := fun e => h41 (by rw [e]; rfl)
            have k2 : a ≠ [44] := fun e => h44 (by rw [e]; rfl)
            simp only [aft, k1, k2, if_false]
            rfl
        rw [e2] at q
        exact q.imp fun H' x4 => xc.trans x4
    rw [decide_eq_true h44]
    obtain ⟨Z, rfl⟩ : ∃ Z, Y = [44] :: Z := by
      cases Y with
      | nil => cases h44
      | cons a Z => cases h44; exact ⟨Z, rfl⟩
    rw [aft_44, pL_eq] at hr1
    obtain ⟨y1, y2, y3⟩ := get_drop ej
    have n2 : net (U.take (j + 1)) = net (U.take i) + 1 := by
      have := net_at (C := [[44]]) (R := Z) (j := j + 1) (by rw [ej]; rfl) y2
      rw [this, hnj, show net [([44] : Tok)] = 0 by decide]; omega
    refine iteT ⟨fun σ' H5 => ∃ (ts0' : List PV) (Y' : List Tok) (vs' : List V) (j' : Nat), σ' = [some (.ref o), some (.ref p)] ∧ LnAt T.c_Line o dx l n j' U H5 ∧ U.drop j' = Y' ∧ H5 p = some (.lst vs') ∧ IsL H5 vs' ts0' ∧ Lx o H H5 ∧ (aft k Y').map (fun p => (ts0' ++ p.1, p.2)) = res ∧ ts0'.length + Y'.length ≤ 6000 ∧ net (U.take j') = net (U.take i) + 1 ∧ Y'.length < ([44] :: Z).length,
      fun σ' H5 ⟨ts0', Y', vs', j', a1, a2, a3, a4, a5, a6, a7, a8, a9, a10⟩ => ⟨Y'.length, a10, ts0', Y', vs', j', a1, a2, a3, a4, a5, a6, a7, a8, a9, rfl⟩, ?_⟩
    refine ⟨_, rfl, o, dx, _, rfl, Lc.ins, rfl, o, dx, l, n, j, U, ",", rfl, Lc, fun _ H4 x4 L4 => ?_, fun hx => absurd y1 hx⟩
    have ep4 := x4 _ _ npo epc
    refine ⟨_, rfl, .inl ⟨rfl, _, SqL.of ep4⟩, _, rfl, o, dx, _, rfl, L4.ins, rfl, o, dx, l, n, j + 1, U, rfl, L4, by rw [n2]; omega, ?_⟩
    rw [y2]
    cases ez : pT k Z with
    | none =>
      rw [ez] at hr1
      have : res = none := hr1.symm
      rw [this] at q
      exact q.imp fun H' x5 => (xc.trans x4).trans x5
    | some pr =>
    obtain ⟨t5, Y5⟩ := pr
    rw [ez] at hr1
    obtain ⟨C5, ec5, E5, _⟩ := pT_eat k Z t5 Y5 ez
    intro v5 j5 H5 ej5 iv5 x5 L5
    have ep5 := x5 _ _ npo ep4
    have nlp : l ≠ p := fun z => by
      have h1 := L2.lst
      rw [z, hp] at h1; cases h1
    have L6 : LnAt T.c_Line o dx l n j5 U (upd H5 p (.lst (vs ++ [v5]))) := ⟨by rw [upd_ne npo.symm]; exact L5.ins, by rw [upd_ne nlp]; exact L5.lst, L5.len, L5.ok, L5.net, L5.le⟩
    have l5 : Y5.length + 1 ≤ Z.length := by
      have := congrArg List.length ec5
      rw [List.length_append] at this
      have := List.length_pos_iff.mpr E5.ne
      omega
    simp only [List.length_cons] at hlen
    refine ⟨p, _, _, rfl, rfl, ep5, small7k (by omega), ts0 ++ [t5], Y5, vs ++ [v5], j5, rfl, L6, ej5, upd_same, ?_, (xc.trans (x4.trans x5)).own hp0 _, ?_, ?_, ?_, by simp only [List.length_cons]; omega⟩
    · exact IsL.tk (wr_tk ep5) (((ivc.tk (Lc.tk x4)).tk (L4.tk x5)).append (.cons iv5 .nil))
    · rw [← hr1]
      simp only [Option.map_map]
      congr 1
      funext pp
      simp
    · rw [List.length_append, List.length_singleton]; omega
    · have := net_at (C := C5) (R := Y5) (i := j + 1) (by rw [y2, ec5]) ej5
      rw [this, n2, E5.net]; omega
end
end Kx
namespace Kx
open PySem PySem.Spec PyProof.Rows L2
section
variable {P : Program} {w : World} {K : PySem.W.Frag} {mg : Str → Option Value} {base : Heap}
set_option pp.maxSteps 900
theorem allX_tree (T : Txt K mg) : ∀ k, FnOk P w K mg base (L2.CX P w) (2 * k + 6) T.a_Line_take_tree T.d_Line_take_tree ["self"] (spATree T.c_Line T.c_BadText k)
  | 0 => no_left fun vs H Q E ⟨o, dx, l, n, i, U, _, L, h, _⟩ => by have := L.net i; omega
  | k + 1 =>
    have rf := okx_Line_refuse (P := P) (w := w) (base := base) T
    have tk := okx_Line_take T rf
    okx_Line_take_tree T (ok_Line_comes T) (okx_Line_take_trees T (ok_Line_comes T) (allX_tree T k) (okx_Line_skip T tk rf)) (okx_Line_take_word T (ok_is_word T) tk rf)
theorem allX_trees (T : Txt K mg) (k : Nat) : FnOk P w K mg base (L2.CX P w) (2 * k + 7) T.a_Line_take_trees T.d_Line_take_trees ["self"] (spATrees T.c_Line T.c_BadText k) :=
  have rf := okx_Line_refuse (P := P) (w := w) (base := base) T
  okx_Line_take_trees T (ok_Line_comes T) (allX_tree T k) (okx_Line_skip T (okx_Line_take T rf) rf)
/-! ### kinds -/
def spAKind (C B : Addr) : Sp := fun vs H Q E => ∃ (o dx l : Addr) (n : Int) (i : Nat) (U : List Tok), vs = [.ref o] ∧ LnAt C o dx l n i U H ∧ 0 ≤ net (U.take i) ∧
  match pK (U.drop i) with
  | some (k, R) => ∀ v j H', U.drop j = R → Is H' v (kdP k) → Lx o H H' → LnAt C o dx l n j U H' → Q v H'
  | none => Bad B n (Lx o H) E
theorem drop_ex {U : List Tok} {i : Nat} {t : Tok} (h : U[i]? = some t) : ∃ R, U.drop i = t :: R := by
  rw [head_at] at h
  cases ed : U.drop i with
  | nil => rw [ed] at h; cases h
  | cons a R => rw [ed] at h; cases h; exact ⟨R, rfl⟩
theorem net_step {U R : List Tok} {i : Nat} {t : Tok} (h : U.drop i = t :: R) : net (U.take (i + 1)) = net (U.take i) + net [t] :=
  net_at (C := [t]) (R := R) h (get_drop h).2.1
theorem okx_take_kind (T : Txt K mg) (G_Line_skip : FnOk P w K mg base (L2.CX P w) 5 T.a_Line_skip T.d_Line_skip ["self", "token"] (spSkip T.c_Line T.c_BadText)) (G_Line_take_word : FnOk P w K mg base (L2.CX P w) 5 T.a_Line_take_word T.d_Line_take_word ["self"] (spTakeWord T.c_Line T.c_BadText)) (G_Line_take_tree : FnOk P w K mg base (L2.CX P w) 86 T.a_Line_take_tree T.d_Line_take_tree ["self"] (spATree T.c_Line T.c_BadText 40)) : FnOk P w K mg base (L2.CX P w) 87 T.a_take_kind T.d_take_kind ["line"] (spAKind T.c_Line T.c_BadText) := by
  refine T.F_take_kind.okX sc_take_kind (fun vs H Q E h => ?_) (fun cdv A outer s H vs Q E hr h => ?_)
  · obtain ⟨o, dx, l, n, i, U, rfl, _⟩ := h; rfl
  · obtain ⟨o, dx, l, n, i, U, rfl, L, hn, q⟩ := h
    have hr_Line_skip : Room 5 _ := hr.mono (by decide)
    have hr_Line_take_word : Room 5 _ := hr.mono (by decide)
    have hr_Line_take_tree : Room 86 _ := hr
    refine ⟨_, (pss_cons (ps_set (i := 1) sc_take_kind.nd rfl (Or.inl rfl) (pe_meth0 (pv 0) T.cl_Line T.me_Line_take_word G_Line_take_word hr_Line_take_word T.b_Line_take_word .nil (passes_call (takes_of rfl rfl rfl rfl) fun _ _ _ _ h => h)))
    (pss_cons (ps_expr (pe_meth (pv 0) T.cl_Line T.me_Line_skip G_Line_skip hr_Line_skip T.b_Line_skip .nil (passes_call (takes_of rfl rfl rfl rfl) fun _ _ _ _ h => h) (pa_cons pe_str pa_nil)))
    (pss_cons (ps_set (i := 2) sc_take_kind.nd rfl (Or.inl rfl) (pe_meth0 (pv 0) T.cl_Line T.me_Line_take_tree G_Line_take_tree hr_Line_take_tree T.b_Line_take_tree .nil (passes_call (takes_of rfl rfl rfl rfl) fun _ _ _ _ h => h)))
    (pss_cons (ps_expr (pe_meth (pv 0) T.cl_Line T.me_Line_skip G_Line_skip hr_Line_skip T.b_Line_skip .nil (passes_call (takes_of rfl rfl rfl rfl) fun _ _ _ _ h => h) (pa_cons pe_str pa_nil)))
    (pss_one (ps_ret (pe_tup (pa_cons (pv 1) (pa_cons (pv 2) pa_nil))))))))), ?_⟩
    refine ⟨_, rfl, o, dx, _, rfl, L.ins, rfl, o, dx, l, n, i, U, rfl, L, fun f hf hw H1 x1 L1 => ?_, fun hno => ?_⟩
    rotate_left
    · have e : pK (U.drop i) = none := by
        cases ed : U.drop i with
        | nil => rfl
        | cons a R =>
          have := hno a (by rw [head_at, ed]; rfl)
          cases R with
          | nil => rfl
          | cons b R => simp only [pK, this, Bool.false_eq_true, if_false]
      rw [e] at q
      exact q
    obtain ⟨R, ed⟩ := drop_ex hf
    obtain ⟨_, g2, _⟩ := get_drop ed
    have n1 := net_step ed
    rw [w_net hw] at n1
    rw [ed] at q
    refine ⟨_, rfl, o, dx, _, rfl, L1.ins, rfl, o, dx, l, n, i + 1, U, "(", rfl, L1, fun h40 H2 x2 L2 => ?_, fun h40 => ?_⟩
    rotate_left
    · have e : pK (f :: R) = none := by
        rw [head_at, g2, cs_par] at h40
        cases R with
        | nil => rfl
        | cons b R =>
          have : b ≠ [40] := fun e => h40 (by rw [e]; rfl)
          simp only [pK, hw, this, if_true, if_false]
      rw [e] at q
      exact q.imp fun H' x' => x1.trans x'
    obtain ⟨R2, ed2⟩ := drop_ex h40
    rw [cs_par] at ed2
    rw [g2] at ed2
    subst ed2
    obtain ⟨_, g4, _⟩ := get_drop g2
    have n2 := net_step g2
    rw [net_40] at n2
    simp only [pK, hw, if_true] at q
    have x02 := x1.trans x2
    refine ⟨_, rfl, o, dx, _, rfl, L2.ins, rfl, o, dx, l, n, i + 1 + 1, U, rfl, L2, by rw [n2, n1]; omega, ?_⟩
    rw [g4]
    cases er : pT 40 R2 with
    | none => rw [er] at q; exact q.imp fun H' x' => x02.trans x'
    | some pr =>
    obtain ⟨t, Y⟩ := pr
    rw [er] at q
    intro v j H3 ej iv x3 L3
    have x03 := x02.trans x3
    refine ⟨_, rfl, o, dx, _, rfl, L3.ins, rfl, o, dx, l, n, j, U, ")", rfl, L3, fun h41 H4 x4 L4 => ?_, fun h41 => ?_⟩
    rotate_left
    · rw [head_at, ej, show cs ")" = [41] from rfl] at h41
      cases Y with
      | nil => exact Bad.imp (R := Lx o H) q fun H' x' => x03.trans x'
      | cons a Y =>
        have : a ≠ [41] := fun e => h41 (by rw [e]; rfl)
        simp only [this, if_false] at q
        exact q.imp fun H' x' => x03.trans x'
    · rw [head_at, ej, show cs ")" = [41] from rfl] at h41
      obtain ⟨Z, rfl⟩ : ∃ Z, Y = [41] :: Z := by
        cases Y with
        | nil => cases h41
        | cons a Z => cases h41; exact ⟨Z, rfl⟩
      simp only [if_true] at q
      refine ⟨_, rfl, _, rfl, (by show 2 ≤ sizeLine; decide), fun p hp => ?_⟩
      have s5 := same_upd hp (.tup [SV f, v])
      refine q _ (j + 1) _ (get_drop ej).2.1 (.tup upd_same (.cons (.str _ (isW_sok hw)) (.cons ((iv.tk (L3.tk x4)).same s5) .nil))) ((x03.trans x4).trans (.of s5)) (L4.same s5)
def spAKinds (C B : Addr) : Sp := fun vs H Q E => ∃ (o dx l : Addr) (n : Int) (i : Nat) (U : List Tok), vs = [.ref o] ∧ LnAt C o dx l n i U H ∧ 0 ≤ net (U.take i) ∧
  match pKs ((U.drop i).length + 1) (U.drop i) with
  | some (ks, R) => ∀ p vs j H', U.drop j = R → H' p = some (.tup vs) → IsL H' vs (ks.map kdP) → Lx o H H' → LnAt C o dx l n j U H' → Q (.ref p) H'
  | none => Bad B n (Lx o H) E
theorem aftK_44 (Z : List Tok) : aftK ([44] :: Z) = pKs (Z.length + 1) Z := by
  simp only [aftK]
  rw [if_pos trivial]
theorem okx_take_kinds (T : Txt K mg) (G_take_kind : FnOk P w K mg base (L2.CX P w) 87 T.a_take_kind T.d_take_kind ["line"] (spAKind T.c_Line T.c_BadText)) (G_Line_skip : FnOk P w K mg base (L2.CX P w) 5 T.a_Line_skip T.d_Line_skip ["self", "token"] (spSkip T.c_Line T.c_BadText)) (G_Line_comes : FnOk P w K mg base CX0 1 T.a_Line_comes T.d_Line_comes ["self", "token"] (spComes T.c_Line)) : FnOk P w K mg base (L2.CX P w) 88 T.a_take_kinds T.d_take_kinds ["line"] (spAKinds T.c_Line T.c_BadText) := by
  refine T.F_take_kinds.okX sc_take_kinds (fun vs H Q E h => ?_) (fun cdv A outer s H vs Q E hr h => ?_)
  · obtain ⟨o, dx, l, n, i, U, rfl, _⟩ := h; rfl
  · obtain ⟨o, dx, l, n, i, U, rfl, L, hn, q⟩ := h
    have hr_Line_comes : Room 1 _ := hr.mono (by decide)
    have hr_Line_skip : Room 5 _ := hr.mono (by decide)
    have hr_take_kind : Room 87 _ := hr
    refine ⟨_, (pss_cons (ps_set (i := 1) sc_take_kinds.nd rfl (Or.inl rfl) (pe_lst (pa_cons (pe_call G_take_kind hr_take_kind rfl T.m_take_kind T.F_take_kind.kp T.b_take_kind .nil (passes_call (takes_of rfl rfl rfl rfl) fun _ _ _ _ h => h) (pa_cons (pv 0) pa_nil)) pa_nil)))
    (pss_cons (ps_while (passes_of rfl) (pt_val (pe_meth (pv 0) T.cl_Line T.me_Line_comes G_Line_comes hr_Line_comes T.b_Line_comes .nil pass0 (pa_cons pe_str pa_nil)))
    (pss_cons (ps_expr (pe_meth (pv 0) T.cl_Line T.me_Line_skip G_Line_skip hr_Line_skip T.b_Line_skip .nil (passes_call (takes_of rfl rfl rfl rfl) fun _ _ _ _ h => h) (pa_cons pe_str pa_nil)))
    (pss_one (ps_expr (pe_bm PySem.F.plainAttrs_list PySem.F.slot_list_append PySem.F.type_list_append mt_append (pv 1) (pa_cons (pe_call G_take_kind hr_take_kind rfl T.m_take_kind T.F_take_kind.kp T.b_take_kind .nil (passes_call (takes_of rfl rfl rfl rfl) fun _ _ _ _ h => h) (pa_cons (pv 0) pa_nil)) pa_nil))))))
    (pss_one (ps_ret (pe_callTy call_tuple_of (by rfl) T.z_tuple (by decide +kernel) (pa_cons (pv 1) pa_nil)))))), ?_⟩
    have hU : (U.drop i).length ≤ 6000 := by rw [List.length_drop]; have := L.len; omega
    rw [pKs_eq] at q
    refine ⟨_, rfl, o, dx, l, n, i, U, rfl, L, hn, ?_⟩
    cases er : pK (U.drop i) with
    | none => rw [er] at q; exact q
    | some pr =>
    obtain ⟨t0, Y0⟩ := pr
    rw [er] at q
    simp only at q
    obtain ⟨C0, ec0, E0, _⟩ := pK_eat er
    intro v j0 H2 ej0 iv x2 L2
    have nj0 : net (U.take j0) = net (U.take i) := by
      have := net_at (C := C0) (R := Y0) (i := i) ec0 ej0
      rw [this, E0.net]; omega
    refine ⟨(by show 1 ≤ sizeLine; decide), fun p hp => ?_⟩
    have s3 := same_upd hp (.lst [v])
    have L3 := L2.same s3
    have npo : p ≠ o := fun z => by rw [z, L2.ins] at hp; cases hp
    have hp0 : H p = none := ne_own (u := .lst []) x2 npo hp
    have len0 : Y0.length + 1 ≤ 6000 := by
      have := congrArg List.length ec0
      rw [List.length_append] at this
      have := List.length_pos_iff.mpr E0.ne
      omega
    generalize hres : (aftK Y0).map (fun p => (t0 :: p.1, p.2)) = res at q
    refine ⟨fun m σ H' => ∃ (ts0 : List Kd) (Y : List Tok) (vs : List V) (j : Nat), σ = [some (.ref o), some (.ref p)] ∧ LnAt T.c_Line o dx l n j U H' ∧ U.drop j = Y ∧ H' p = some (.lst vs) ∧ IsL H' vs (ts0.map kdP) ∧ Lx o H H' ∧ (aftK Y).map (fun p => (ts0 ++ p.1, p.2)) = res ∧ ts0.length + Y.length ≤ 6000 ∧ net (U.take j) = net (U.take i) ∧ m = Y.length,
      ⟨_, [t0], Y0, [v], j0, rfl, L3, ej0, upd_same, .cons (iv.same s3) .nil, x2.trans (.of s3), hres, by simp only [List.length_singleton]; omega, nj0, rfl⟩, ?_⟩
    rintro m σ H' ⟨ts0, Y, vs, j, rfl, L', ej, ep, ivs, x', hr1, hlen, hnj, rfl⟩
    refine ⟨_, rfl, o, dx, _, rfl, L'.ins, rfl, o, dx, l, n, j, U, ",", rfl, L', by decide +kernel, fun H3 sc => ⟨_, rfl, ?_⟩⟩
    have Lc := L'.same sc
    have xc := x'.trans (Lx.of sc)
    have epc := sc _ _ ep
    have ivc := ivs.same sc
    have hvl := ivs.len
    rw [List.length_map] at hvl
    rw [head_at, ej, show cs "," = [44] from rfl]
    by_cases h44 : Y.head? = some [44]
    case neg =>
      rw [decide_eq_false h44]
      have e2 : res = some (ts0, Y) := by
        rw [← hr1]
        cases Y with
        | nil => simp [aftK]
        | cons a Z =>
          have k2 : a ≠ [44] := fun e => h44 (by rw [e]; rfl)
          simp [aftK, k2]
      rw [e2] at q
      refine iteF ⟨_, rfl, p, vs, rfl, .inl ⟨SqL.of epc, fun q2 hq2 => ?_⟩⟩
      have s5 := same_upd hq2 (.tup vs)
      exact q q2 vs j _ ej upd_same (ivc.same s5) (xc.trans (.of s5)) (Lc.same s5)
    rw [decide_eq_true h44]
    obtain ⟨Z, rfl⟩ : ∃ Z, Y = [44] :: Z := by
      cases Y with
      | nil => cases h44
      | cons a Z => cases h44; exact ⟨Z, rfl⟩
    rw [aftK_44, pKs_eq] at hr1
    obtain ⟨y1, y2, y3⟩ := get_drop ej
    have n2 : net (U.take (j + 1)) = net (U.take i) := by
      have := net_at (C := [[44]]) (R := Z) (j := j + 1) (by rw [ej]; rfl) y2
      rw [this, hnj, show net [([44] : Tok)] = 0 by decide]; omega
    refine iteT ⟨fun σ' H5 => ∃ (ts0' : List Kd) (Y' : List Tok) (vs' : List V) (j' : Nat), σ' = [some (.ref o), some (.ref p)] ∧ LnAt T.c_Line o dx l n j' U H5 ∧ U.drop j' = Y' ∧ H5 p = some (.lst vs') ∧ IsL H5 vs' (ts0'.map kdP) ∧ Lx o H H5 ∧ (aftK Y').map (fun p => (ts0' ++ p.1, p.2)) = res ∧ ts0'.length + Y'.length ≤ 6000 ∧ net (U.take j') = net (U.take i) ∧ Y'.length < ([44] :: Z).length,
      fun σ' H5 ⟨ts0', Y', vs', j', a1, a2, a3, a4, a5, a6, a7, a8, a9, a10⟩ => ⟨Y'.length, a10, ts0', Y', vs', j', a1, a2, a3, a4, a5, a6, a7, a8, a9, rfl⟩, ?_⟩
    refine ⟨_, rfl, o, dx, _, rfl, Lc.ins, rfl, o, dx, l, n, j, U, ",", rfl, Lc, fun _ H4 x4 L4 => ?_, fun hx => absurd y1 hx⟩
    have ep4 := x4 _ _ npo epc
    refine ⟨_, rfl, .inl ⟨rfl, _, SqL.of ep4⟩, _, rfl, o, dx, l, n, j + 1, U, rfl, L4, by rw [n2]; omega, ?_⟩
    rw [y2]
    cases ez : pK Z with
    | none =>
      rw [ez] at hr1
      have : res = none := hr1.symm
      rw [this] at q
      exact q.imp fun H' x5 => (xc.trans x4).trans x5
    | some pr =>
    obtain ⟨t5, Y5⟩ := pr
    rw [ez] at hr1
    obtain ⟨C5, ec5, E5, _⟩ := pK_eat ez
    intro v5 j5 H5 ej5 iv5 x5 L5
    have ep5 := x5 _ _ npo ep4
    have nlp : l ≠ p := fun z => by
      have h1 := L2.lst
      rw [z, hp] at h1; cases h1
    have L6 : LnAt T.c_Line o dx l n j5 U (upd H5 p (.lst (vs ++ [v5]))) := ⟨by rw [upd_ne npo.symm]; exact L5.ins, by rw [upd_ne nlp]; exact L5.lst, L5.len, L5.ok, L5.net, L5.le⟩
    have l5 : Y5.length + 1 ≤ Z.length := by
      have := congrArg List.length ec5
      rw [List.length_append] at this
      have := List.length_pos_iff.mpr E5.ne
      omega
    simp only [List.length_cons] at hlen
    refine ⟨p, _, _, rfl, rfl, ep5, small7k (by omega), ts0 ++ [t5], Y5, vs ++ [v5], j5, rfl, L6, ej5, upd_same, ?_, (xc.trans (x4.trans x5)).own hp0 _, ?_, ?_, ?_, by simp only [List.length_cons]; omega⟩
    · rw [List.map_append]
      exact IsL.tk (wr_tk ep5) (((ivc.tk (Lc.tk x4)).tk (L4.tk x5)).append (.cons iv5 .nil))
    · rw [← hr1]
      simp only [Option.map_map]
      congr 1
      funext pp
      simp
    · rw [List.length_append, List.length_singleton]; omega
    · have := net_at (C := C5) (R := Y5) (i := j + 1) (by rw [y2, ec5]) ej5
      rw [this, n2, E5.net]; omega
end
end Kx
namespace Kx
open PySem PySem.Spec PyProof.Rows L2
section
variable {P : Program} {w : World} {K : PySem.W.Frag} {mg : Str → Option Value} {base : Heap}
set_option pp.maxSteps 900
/-! ### the draft -/
inductive FnL (H : Hp) : List V → List Addr → List Fn → Prop
  | nil : FnL H [] [] []
  | cons {p q : Addr} {kv ix : V} {vs us : List V} {qs : List Addr} {f : Fn} {fs : List Fn} (e : H p = some (.tup [.str f.w, kv, .str f.md.fam, ix, .int f.falls, .ref q])) (o1 : sok f.w = true) (o2 : sok f.md.fam = true) (ik : Is H kv (.tup (f.ps.map kdP))) (ii : Is H ix f.md.tm)
    (eq : H q = some (.lst us)) (il : IsL H us (f.cls.map clP)) (r : FnL H vs qs fs) : FnL H (.ref p :: vs) (q :: qs) (f :: fs)
theorem FnL.keep {H H' : Hp} (t : Tk H H') : ∀ {vs : List V} {qs : List Addr} {fs : List Fn}, FnL H vs qs fs → (∀ q ∈ qs, ∀ u, H q = some u → H' q = some u) → FnL H' vs qs fs
  | _, _, _, .nil, _ => .nil
  | _, _, _, .cons e o1 o2 ik ii eq il r, k => .cons (t _ _ e) o1 o2 (ik.tk t) (ii.tk t) (k _ (List.mem_cons_self ..) _ eq) (il.tk t) (r.keep t fun q hq => k q (List.mem_cons_of_mem _ hq))
theorem FnL.lst {H : Hp} : ∀ {vs : List V} {qs : List Addr} {fs : List Fn}, FnL H vs qs fs → ∀ q ∈ qs, ∃ us, H q = some (.lst us)
  | _, _, _, .cons _ _ _ _ _ eq _ r, q, hq => by
    rcases List.mem_cons.mp hq with rfl | hq
    · exact ⟨_, eq⟩
    · exact r.lst q hq
theorem FnL.len {H : Hp} : ∀ {vs : List V} {qs : List Addr} {fs : List Fn}, FnL H vs qs fs → vs.length = fs.length
  | _, _, _, .nil => rfl
  | _, _, _, .cons _ _ _ _ _ _ _ r => by rw [List.length_cons, List.length_cons, r.len]
theorem FnL.snoc {H : Hp} {p q : Addr} {kv ix : V} {us : List V} {f : Fn} (e : H p = some (.tup [.str f.w, kv, .str f.md.fam, ix, .int f.falls, .ref q])) (o1 : sok f.w = true) (o2 : sok f.md.fam = true) (ik : Is H kv (.tup (f.ps.map kdP))) (ii : Is H ix f.md.tm)
    (eq : H q = some (.lst us)) (il : IsL H us (f.cls.map clP)) : ∀ {vs : List V} {qs : List Addr} {fs : List Fn}, FnL H vs qs fs → FnL H (vs ++ [.ref p]) (qs ++ [q]) (fs ++ [f])
  | _, _, _, .nil => .cons e o1 o2 ik ii eq il .nil
  | _, _, _, .cons a b c d e2 f2 g r => .cons a b c d e2 f2 g (r.snoc e o1 o2 ik ii eq il)
theorem FnL.last {H : Hp} {f : Fn} : ∀ {fs : List Fn} {vs : List V} {qs : List Addr}, FnL H vs qs (fs ++ [f]) → ∃ vs' qs' p q kv ix us, vs = vs' ++ [.ref p] ∧ qs = qs' ++ [q] ∧ FnL H vs' qs' fs ∧ H p = some (.tup [.str f.w, kv, .str f.md.fam, ix, .int f.falls, .ref q]) ∧ sok f.w = true ∧ sok f.md.fam = true ∧ Is H kv (.tup (f.ps.map kdP)) ∧ Is H ix f.md.tm ∧ H q = some (.lst us) ∧ IsL H us (f.cls.map clP)
  | [], _, _, .cons e o1 o2 ik ii eq il .nil => ⟨[], [], _, _, _, _, _, rfl, rfl, .nil, e, o1, o2, ik, ii, eq, il⟩
  | g :: fs, _, _, .cons a b c d e2 f2 i r => by
    obtain ⟨vs', qs', p, q, kv, ix, us, rfl, rfl, h, t⟩ := FnL.last r
    exact ⟨_ :: vs', _ :: qs', p, q, kv, ix, us, rfl, rfl, .cons a b c d e2 f2 i h, t⟩
theorem ne_mem {x y : Addr} {l : List Addr} (h : x ∉ l) (hy : y ∈ l) : y ≠ x := fun z => h (z ▸ hy)
structure DA where
  d : Addr
  dx : Addr
  lm : Addr
  lf : Addr
  lc : Addr
  lg : Addr
  lq : Addr
  qs : List Addr
def DA.fp (a : DA) : List Addr := a.lm :: a.lf :: a.lc :: a.lg :: a.qs
def DA.flds (a : DA) : List (Str × V) := [("asks", .bl false), ("makers", .ref a.lm), ("families", .ref a.lf), ("constructors", .ref a.lc), ("functions", .ref a.lg), ("questions", .ref a.lq)]
structure DfAt (C : Addr) (a : DA) (s : DS) (H : Hp) : Prop where
  ins : H a.d = some (.ins C a.dx a.flds)
  nd : a.fp.Nodup
  mak : ∃ vs, H a.lm = some (.lst vs) ∧ IsL H vs (s.ms.map mkP)
  fm : H a.lf = some (.lst (s.fm.map V.str))
  fo : ∀ z ∈ s.fm, sok z = true
  cn : ∃ vs, H a.lc = some (.lst vs) ∧ IsL H vs (s.cn.map cnP)
  fn : ∃ vs, H a.lg = some (.lst vs) ∧ FnL H vs a.qs s.fs
section
variable {C : Addr} {a : DA} {s : DS} {H H' : Hp}
theorem DfAt.lst (D : DfAt C a s H) : ∀ b ∈ a.fp, ∃ xs, H b = some (.lst xs) := fun b hb => by
  unfold DA.fp at hb
  simp only [List.mem_cons] at hb
  rcases hb with rfl | rfl | rfl | rfl | hb
  · obtain ⟨vs, e, _⟩ := D.mak; exact ⟨_, e⟩
  · exact ⟨_, D.fm⟩
  · obtain ⟨vs, e, _⟩ := D.cn; exact ⟨_, e⟩
  · obtain ⟨vs, e, _⟩ := D.fn; exact ⟨_, e⟩
  · obtain ⟨vs, _, f⟩ := D.fn; exact f.lst b hb
theorem DfAt.keep (D : DfAt C a s H) (t : Tk H H') (k : ∀ b u, b = a.d ∨ b ∈ a.fp → H b = some u → H' b = some u) : DfAt C a s H' := by
  obtain ⟨vm, em, im⟩ := D.mak
  obtain ⟨vc, ec, ic⟩ := D.cn
  obtain ⟨vg, eg, ig⟩ := D.fn
  exact ⟨k _ _ (.inl rfl) D.ins, D.nd, ⟨vm, k _ _ (.inr (by simp [DA.fp])) em, im.tk t⟩, k _ _ (.inr (by simp [DA.fp])) D.fm, D.fo, ⟨vc, k _ _ (.inr (by simp [DA.fp])) ec, ic.tk t⟩, vg, k _ _ (.inr (by simp [DA.fp])) eg, ig.keep t fun q hq u => k q u (.inr (by simp [DA.fp, hq]))⟩
theorem DfAt.same (D : DfAt C a s H) (x : Same H H') : DfAt C a s H' := D.keep (.of x) fun b u _ => x b u
theorem DfAt.lx {o : Addr} (D : DfAt C a s H) {C2 dx l : Addr} {n : Int} {i : Nat} {U : List (List Nat)} (L : LnAt C2 o dx l n i U H) (x : Lx o H H') (ne : o ≠ a.d) : DfAt C a s H' :=
  D.keep (L.tk x) fun b u hb h => x b u (fun e => by
    subst e
    rcases hb with e | hb
    · exact ne e
    · obtain ⟨xs, e⟩ := D.lst b hb
      rw [L.ins] at e; cases e) h
theorem DfAt.addM (D : DfAt C a s H) {vs : List V} {v : V} {m : Str × Nat} (e : H a.lm = some (.lst vs)) (i : Is H v (mkP m)) : DfAt C a { s with ms := s.ms ++ [m] } (upd H a.lm (.lst (vs ++ [v]))) := by
  have t := wr_tk (ys := vs ++ [v]) e
  obtain ⟨vm, em, im⟩ := D.mak
  rw [em] at e
  cases e
  obtain ⟨vc, ec, ic⟩ := D.cn
  obtain ⟨vg, eg, ig⟩ := D.fn
  have nd := D.nd
  unfold DA.fp at nd
  simp only [List.nodup_cons, List.mem_cons, not_or] at nd
  obtain ⟨⟨n1, n2, n3, n4⟩, _⟩ := nd
  refine ⟨by rw [upd_ne (fun q => by have := D.ins; rw [q, em] at this; cases this)]; exact D.ins, D.nd, ⟨_, upd_same, ?_⟩, by rw [upd_ne (Ne.symm n1)]; exact D.fm, D.fo, ⟨vc, by rw [upd_ne (Ne.symm n2)]; exact ec, ic.tk t⟩, vg, by rw [upd_ne (Ne.symm n3)]; exact eg, ig.keep t fun q hq u h => by rw [upd_ne (ne_mem n4 hq)]; exact h⟩
  rw [List.map_append]
  exact (im.tk t).append (.cons (i.tk t) .nil)
theorem DfAt.addF (D : DfAt C a s H) {z : Str} (oz : sok z = true) : DfAt C a { s with fm := s.fm ++ [z] } (upd H a.lf (.lst (s.fm.map V.str ++ [.str z]))) := by
  have t := wr_tk (ys := s.fm.map V.str ++ [.str z]) D.fm
  obtain ⟨vm, em, im⟩ := D.mak
  obtain ⟨vc, ec, ic⟩ := D.cn
  obtain ⟨vg, eg, ig⟩ := D.fn
  have nd := D.nd
  unfold DA.fp at nd
  simp only [List.nodup_cons, List.mem_cons, not_or] at nd
  obtain ⟨⟨n1, n2, n3, n4⟩, ⟨m1, m2, m3⟩, _⟩ := nd
  refine ⟨by rw [upd_ne (fun q => by have := D.ins; rw [q, D.fm] at this; cases this)]; exact D.ins, D.nd, ⟨_, by rw [upd_ne n1]; exact em, im.tk t⟩, by rw [upd_same, List.map_append]; rfl, fun x hx => ?_, ⟨vc, by rw [upd_ne (Ne.symm m1)]; exact ec, ic.tk t⟩, vg, by rw [upd_ne (Ne.symm m2)]; exact eg, ig.keep t fun q hq u h => by rw [upd_ne (ne_mem m3 hq)]; exact h⟩
  rcases List.mem_append.mp hx with h | h
  · exact D.fo x h
  · rw [List.mem_singleton.mp h]; exact oz
theorem DfAt.addC (D : DfAt C a s H) {vs : List V} {v : V} {c : Cn} (e : H a.lc = some (.lst vs)) (i : Is H v (cnP c)) : DfAt C a { s with cn := s.cn ++ [c] } (upd H a.lc (.lst (vs ++ [v]))) := by
  have t := wr_tk (ys := vs ++ [v]) e
  obtain ⟨vm, em, im⟩ := D.mak
  obtain ⟨vc, ec, ic⟩ := D.cn
  rw [ec] at e
  cases e
  obtain ⟨vg, eg, ig⟩ := D.fn
  have nd := D.nd
  unfold DA.fp at nd
  simp only [List.nodup_cons, List.mem_cons, not_or] at nd
  obtain ⟨⟨n1, n2, n3, n4⟩, ⟨m1, m2, m3⟩, ⟨k1, k2⟩, _⟩ := nd
  refine ⟨by rw [upd_ne (fun q => by have := D.ins; rw [q, ec] at this; cases this)]; exact D.ins, D.nd, ⟨_, by rw [upd_ne n2]; exact em, im.tk t⟩, by rw [upd_ne m1]; exact D.fm, D.fo, ⟨_, upd_same, ?_⟩, vg, by rw [upd_ne (Ne.symm k1)]; exact eg, ig.keep t fun q hq u h => by rw [upd_ne (ne_mem k2 hq)]; exact h⟩
  rw [List.map_append]
  exact (ic.tk t).append (.cons (i.tk t) .nil)
theorem DfAt.addG (D : DfAt C a s H) {vs : List V} {p q : Addr} {kv ix : V} {f : Fn} (e : H a.lg = some (.lst vs)) (ep : H p = some (.tup [.str f.w, kv, .str f.md.fam, ix, .int f.falls, .ref q])) (o1 : sok f.w = true) (o2 : sok f.md.fam = true) (ik : Is H kv (.tup (f.ps.map kdP))) (ii : Is H ix f.md.tm)
    (eq : H q = some (.lst [])) (hc : f.cls = []) (nq : q ∉ a.fp) : DfAt C { a with qs := a.qs ++ [q] } { s with fs := s.fs ++ [f] } (upd H a.lg (.lst (vs ++ [.ref p]))) := by
  have t := wr_tk (ys := vs ++ [.ref p]) e
  obtain ⟨vm, em, im⟩ := D.mak
  obtain ⟨vc, ec, ic⟩ := D.cn
  obtain ⟨vg, eg, ig⟩ := D.fn
  rw [eg] at e
  cases e
  have nd := D.nd
  unfold DA.fp at nd nq
  simp only [List.nodup_cons, List.mem_cons, not_or] at nd nq
  obtain ⟨⟨n1, n2, n3, n4⟩, ⟨m1, m2, m3⟩, ⟨k1, k2⟩, j1, j2⟩ := nd
  obtain ⟨q1, q2, q3, q4, q5⟩ := nq
  refine ⟨by rw [upd_ne (fun q => by have := D.ins; rw [q, eg] at this; cases this)]; exact D.ins, ?_, ⟨_, by rw [upd_ne n3]; exact em, im.tk t⟩, by rw [upd_ne m2]; exact D.fm, D.fo, ⟨vc, by rw [upd_ne k1]; exact ec, ic.tk t⟩, _, upd_same, ?_⟩
  · unfold DA.fp
    simp only [List.nodup_cons, List.mem_cons, List.mem_append, List.not_mem_nil, or_false, not_or]
    refine ⟨⟨n1, n2, n3, n4, Ne.symm q1⟩, ⟨m1, m2, m3, Ne.symm q2⟩, ⟨k1, k2, Ne.symm q3⟩, ⟨j1, Ne.symm q4⟩, List.nodup_append.mpr ⟨j2, by simp, fun x hx y hy => ?_⟩⟩
    rw [List.mem_singleton.mp hy]
    exact fun z => q5 (z ▸ hx)
  · refine FnL.snoc (t _ _ ep) o1 o2 (ik.tk t) (ii.tk t) (us := []) (by rw [upd_ne q4]; exact eq) (by rw [hc]; exact .nil) (ig.keep t fun q hq u h => by rw [upd_ne (ne_mem j1 hq)]; exact h)
theorem addCl_snoc (f : Fn) (c : Cl) : ∀ fs : List Fn, addCl (fs ++ [f]) c = fs ++ [{ f with cls := f.cls ++ [c] }]
  | [] => rfl
  | [g] => rfl
  | g :: h :: r => by
    have := addCl_snoc f c (h :: r)
    simp only [List.cons_append] at this ⊢
    simp only [addCl, this]
theorem DfAt.addL (D : DfAt C a s H) {fs : List Fn} {f : Fn} {c : Cl} {q : Addr} {qs' : List Addr} {us : List V} {v : V} (hs : s.fs = fs ++ [f]) (hq : a.qs = qs' ++ [q]) (e : H q = some (.lst us)) (i : Is H v (clP c)) : DfAt C a { s with fs := fs ++ [{ f with cls := f.cls ++ [c] }] } (upd H q (.lst (us ++ [v]))) := by
  have t := wr_tk (ys := us ++ [v]) e
  obtain ⟨vm, em, im⟩ := D.mak
  obtain ⟨vc, ec, ic⟩ := D.cn
  obtain ⟨vg, eg, ig⟩ := D.fn
  rw [hs] at ig
  obtain ⟨vs', qs2, p, q', kv, ix, us', rfl, hq2, ih, ep, o1, o2, ik, ii, eq, il⟩ := ig.last
  rw [hq] at hq2
  obtain ⟨rfl, h2⟩ := List.append_inj' hq2 rfl
  cases h2
  rw [eq] at e
  cases e
  have nd := D.nd
  unfold DA.fp at nd
  rw [hq] at nd
  simp only [List.nodup_cons, List.mem_cons, List.mem_append, List.not_mem_nil, or_false, not_or] at nd
  obtain ⟨⟨n1, n2, n3, n4, n5⟩, ⟨m1, m2, m3, m4⟩, ⟨k1, k2, k3⟩, ⟨j1, j3⟩, j2⟩ := nd
  have jn := (List.nodup_append.mp j2).2.2
  refine ⟨by rw [upd_ne (fun z => by have := D.ins; rw [z, eq] at this; cases this)]; exact D.ins, D.nd, ⟨_, by rw [upd_ne n5]; exact em, im.tk t⟩, by rw [upd_ne m4]; exact D.fm, D.fo, ⟨vc, by rw [upd_ne k3]; exact ec, ic.tk t⟩, _, by rw [upd_ne j3]; exact eg, ?_⟩
  rw [hq]
  refine FnL.snoc (f := { f with cls := f.cls ++ [c] }) (t _ _ ep) o1 o2 (ik.tk t) (ii.tk t) upd_same ?_ (ih.keep t fun x hx u h => by rw [upd_ne (jn x hx q (by simp))]; exact h)
  rw [List.map_append]
  exact (il.tk t).append (.cons (i.tk t) .nil)
theorem LnAt.wr {C2 o dx l b : Addr} {n : Int} {i : Nat} {U : List (List Nat)} {xs ys : List V} (L : LnAt C2 o dx l n i U H) (e : H b = some (.lst xs)) (ne : b ≠ l) : LnAt C2 o dx l n i U (upd H b (.lst ys)) :=
  ⟨by rw [upd_ne (fun z => by have := L.ins; rw [z, e] at this; cases this)]; exact L.ins, by rw [upd_ne ne.symm]; exact L.lst, L.len, L.ok, L.net, L.le⟩
end
def spDInit (C : Addr) : Sp := fun vs H Q _ => ∃ (d dx : Addr), vs = [.ref d, .bl false] ∧ H d = some (.ins C dx []) ∧ ∀ a H', a.d = d → a.dx = dx → a.qs = [] → DfAt C a ⟨[], [], [], []⟩ H' → (∀ b ∈ a.fp, H b = none) → (∀ b u, b ≠ d → H b = some u → H' b = some u) → Q .non H'
theorem ok_Draft_init (T : Txt K mg)  : FnOk P w K mg base CX0 1 T.a_Draft_init T.d_Draft_init ["self", "asks"] (spDInit T.c_Draft) := by
  refine T.F_Draft_init.ok sc_Draft_init (fun vs H Q E h => ?_) (fun cdv A outer s H vs Q E hr h => ?_)
  · obtain ⟨d, dx, rfl, _⟩ := h; rfl
  · obtain ⟨d, dx, rfl, e, q⟩ := h
    refine ⟨_, (pss_cons (ps_fld (pv 0) (pv 1) rfl)
    (pss_cons (ps_fld (pv 0) (pe_lst pa_nil) rfl)
    (pss_cons (ps_fld (pv 0) (pe_lst pa_nil) rfl)
    (pss_cons (ps_fld (pv 0) (pe_lst pa_nil) rfl)
    (pss_cons (ps_fld (pv 0) (pe_lst pa_nil) rfl)
    (pss_one (ps_fld (pv 0) (pe_lst pa_nil) rfl))))))), ?_⟩
    refine ⟨_, rfl, _, rfl, d, T.c_Draft, dx, [], rfl, e, T.cl_Draft, T.no_Draft_asks, by decide, ?_⟩
    have x0 : Lx d H (upd H d (.ins T.c_Draft dx (putF "asks" (.bl false) []))) := fun b u nb h => by rw [upd_ne nb]; exact h
    have e0 : (upd H d (.ins T.c_Draft dx (putF "asks" (.bl false) []))) d = some (.ins T.c_Draft dx [("asks", .bl false)]) := upd_same
    generalize (upd H d (.ins T.c_Draft dx (putF "asks" (.bl false) []))) = H0 at x0 e0 ⊢
    have step : ∀ {H0 : Hp} {fs : List (Str × V)} {p : Addr} {z : Str}, H0 p = none → H0 d = some (.ins T.c_Draft dx fs) → Lx d H0 (upd (upd H0 p (.lst [])) d (.ins T.c_Draft dx (putF z (.ref p) fs))) ∧ (upd (upd H0 p (.lst [])) d (.ins T.c_Draft dx (putF z (.ref p) fs))) p = some (.lst []) ∧ (upd H0 p (.lst [])) d = some (.ins T.c_Draft dx fs) := fun {H0 fs p z} hp hd => by
      have np : p ≠ d := fun z => by rw [z, hd] at hp; cases hp
      refine ⟨fun b u nb h => ?_, ?_, ?_⟩
      · rw [upd_ne nb, upd_ne (ne_of_none h hp)]; exact h
      · rw [upd_ne np]; exact upd_same
      · rw [upd_ne np.symm]; exact hd
    have nf : ∀ {H1 : Hp} {p : Addr} {fs : List (Str × V)}, Lx d H H1 → H1 d = some (.ins T.c_Draft dx fs) → H1 p = none → H p = none ∧ p ≠ d := fun {H1 p fs} x ed hp => by
      have np : p ≠ d := fun z => by rw [z, ed] at hp; cases hp
      refine ⟨?_, np⟩
      cases e : H p with
      | none => rfl
      | some u => have := x _ _ np e; rw [hp] at this; cases this
    refine ⟨by decide, fun p1 hp1 => ?_⟩
    obtain ⟨x1, f1, g1⟩ := step (z := "makers") hp1 e0
    refine ⟨_, rfl, d, T.c_Draft, dx, _, rfl, g1, T.cl_Draft, T.no_Draft_makers, by show 1 < 1000; decide, ?_⟩
    have e1 : (upd (upd H0 p1 (.lst [])) d (.ins T.c_Draft dx (putF "makers" (.ref p1) [("asks", .bl false)]))) d = some (.ins T.c_Draft dx [("asks", .bl false), ("makers", .ref p1)]) := upd_same
    generalize (upd (upd H0 p1 (.lst [])) d (.ins T.c_Draft dx (putF "makers" (.ref p1) [("asks", .bl false)]))) = H1 at x1 f1 e1 ⊢
    refine ⟨by decide, fun p2 hp2 => ?_⟩
    obtain ⟨x2, f2, g2⟩ := step (z := "families") hp2 e1
    refine ⟨_, rfl, d, T.c_Draft, dx, _, rfl, g2, T.cl_Draft, T.no_Draft_families, by show 2 < 1000; decide, ?_⟩
    have e2 : (upd (upd H1 p2 (.lst [])) d (.ins T.c_Draft dx (putF "families" (.ref p2) [("asks", .bl false), ("makers", .ref p1)]))) d = some (.ins T.c_Draft dx [("asks", .bl false), ("makers", .ref p1), ("families", .ref p2)]) := upd_same
    generalize (upd (upd H1 p2 (.lst [])) d (.ins T.c_Draft dx (putF "families" (.ref p2) [("asks", .bl false), ("makers", .ref p1)]))) = H2 at x2 f2 e2 ⊢
    refine ⟨by decide, fun p3 hp3 => ?_⟩
    obtain ⟨x3, f3, g3⟩ := step (z := "constructors") hp3 e2
    refine ⟨_, rfl, d, T.c_Draft, dx, _, rfl, g3, T.cl_Draft, T.no_Draft_constructors, by show 3 < 1000; decide, ?_⟩
    have e3 : (upd (upd H2 p3 (.lst [])) d (.ins T.c_Draft dx (putF "constructors" (.ref p3) [("asks", .bl false), ("makers", .ref p1), ("families", .ref p2)]))) d = some (.ins T.c_Draft dx [("asks", .bl false), ("makers", .ref p1), ("families", .ref p2), ("constructors", .ref p3)]) := upd_same
    generalize (upd (upd H2 p3 (.lst [])) d (.ins T.c_Draft dx (putF "constructors" (.ref p3) [("asks", .bl false), ("makers", .ref p1), ("families", .ref p2)]))) = H3 at x3 f3 e3 ⊢
    refine ⟨by decide, fun p4 hp4 => ?_⟩
    obtain ⟨x4, f4, g4⟩ := step (z := "functions") hp4 e3
    refine ⟨_, rfl, d, T.c_Draft, dx, _, rfl, g4, T.cl_Draft, T.no_Draft_functions, by show 4 < 1000; decide, ?_⟩
    have e4 : (upd (upd H3 p4 (.lst [])) d (.ins T.c_Draft dx (putF "functions" (.ref p4) [("asks", .bl false), ("makers", .ref p1), ("families", .ref p2), ("constructors", .ref p3)]))) d = some (.ins T.c_Draft dx [("asks", .bl false), ("makers", .ref p1), ("families", .ref p2), ("constructors", .ref p3), ("functions", .ref p4)]) := upd_same
    generalize (upd (upd H3 p4 (.lst [])) d (.ins T.c_Draft dx (putF "functions" (.ref p4) [("asks", .bl false), ("makers", .ref p1), ("families", .ref p2), ("constructors", .ref p3)]))) = H4 at x4 f4 e4 ⊢
    refine ⟨by decide, fun p5 hp5 => ?_⟩
    obtain ⟨x5, f5, g5⟩ := step (z := "questions") hp5 e4
    refine ⟨_, rfl, d, T.c_Draft, dx, _, rfl, g5, T.cl_Draft, T.no_Draft_questions, by show 5 < 1000; decide, ?_⟩
    have n1 := nf x0 e0 hp1
    have n2 := nf (x0.trans x1) e1 hp2
    have n3 := nf ((x0.trans x1).trans x2) e2 hp3
    have n4 := nf (((x0.trans x1).trans x2).trans x3) e3 hp4
    have h12 := ne_of_none f1 hp2
    have k13 := x2 _ _ n1.2 f1
    have h13 := ne_of_none k13 hp3
    have h23 := ne_of_none f2 hp3
    have k14 := x3 _ _ n1.2 k13
    have k24 := x3 _ _ n2.2 f2
    have h14 := ne_of_none k14 hp4
    have h24 := ne_of_none k24 hp4
    have h34 := ne_of_none f3 hp4
    refine q ⟨d, dx, p1, p2, p3, p4, p5, []⟩ _ rfl rfl rfl ⟨upd_same, ?_, ⟨[], x5 _ _ n1.2 (x4 _ _ n1.2 k14), .nil⟩, x5 _ _ n2.2 (x4 _ _ n2.2 k24), by simp, ⟨[], x5 _ _ n3.2 (x4 _ _ n3.2 f3), .nil⟩, [], x5 _ _ n4.2 f4, .nil⟩ ?_ ?_
    · simp only [DA.fp, List.nodup_cons, List.mem_cons, List.not_mem_nil, or_false, not_or, not_false_eq_true, List.nodup_nil, and_true]
      exact ⟨⟨h12, h13, h14⟩, ⟨h23, h24⟩, h34⟩
    · intro b hb
      simp only [DA.fp, List.mem_cons, List.not_mem_nil, or_false] at hb
      rcases hb with rfl | rfl | rfl | rfl
      · exact n1.1
      · exact n2.1
      · exact n3.1
      · exact n4.1
    · exact ((((x0.trans x1).trans x2).trans x3).trans x4).trans x5
/-- all but the line and the draft's lists stands -/
def Fx (o : Addr) (S : List Addr) (H H' : Hp) : Prop := ∀ b u, b ≠ o → b ∉ S → H b = some u → H' b = some u
theorem Lx.fx {o : Addr} {S : List Addr} {H H' : Hp} (x : Lx o H H') : Fx o S H H' := fun b u n _ h => x b u n h
theorem Fx.trans {o : Addr} {S : List Addr} {H H1 H2 : Hp} (x : Fx o S H H1) (y : Fx o S H1 H2) : Fx o S H H2 := fun b u n k h => y b u n k (x b u n k h)
theorem Fx.wr {o b : Addr} {S : List Addr} {H : Hp} {u : HO} (hb : b ∈ S) : Fx o S H (upd H b u) := fun c v _ k h => by rw [upd_ne (fun z => k (by rw [z]; exact hb))]; exact h
def DsB (s : DS) : Prop := s.ms.length ≤ 6000 ∧ s.fm.length ≤ 6000 ∧ s.cn.length ≤ 6000 ∧ s.fs.length ≤ 6000 ∧ ∀ f ∈ s.fs, f.cls.length ≤ 6000
/-- what comes of a line -/
def Out (CL CD B : Addr) (a : DA) (o dx l : Addr) (n : Int) (U : List Tok) (H : Hp) (Q : VK) (E : XK) : Option DS → Prop
  | some s' => ∀ a' H', a'.d = a.d → DfAt CD a' s' H' → (a' = a ∨ ∃ q, a' = { a with qs := a.qs ++ [q] } ∧ H q = none) → LnAt CL o dx l n U.length U H' → Fx o a.fp H H' → Q .non H'
  | none => Bad B n (Fx o a.fp H) E ∧ ∀ j H', j ≠ U.length → LnAt CL o dx l n j U H' → Fx o a.fp H H' → Q .non H'
section
variable {CL CD B : Addr} {a a' : DA} {o dx l : Addr} {n : Int} {U R : List Tok} {H H1 H' : Hp} {Q : VK} {E : XK} {res : Option DS} {s' : DS} {j : Nat}
theorem Out.fin (q : Out CL CD B a o dx l n U H Q E res) (ej : U.drop j = R) (e1 : R = [] → res = some s') (e2 : R ≠ [] → res = none) (ea : a'.d = a.d) (D : DfAt CD a' s' H') (hor : a' = a ∨ ∃ q, a' = { a with qs := a.qs ++ [q] } ∧ H q = none) (L : LnAt CL o dx l n j U H') (x : Fx o a.fp H H') : Q .non H' := by
  have le := L.le
  have hd : (U.drop j).length = U.length - j := List.length_drop ..
  cases R with
  | nil =>
    rw [e1 rfl] at q
    rw [ej] at hd
    have : j = U.length := by simp only [List.length_nil] at hd; omega
    subst this
    exact q a' H' ea D hor L x
  | cons b R =>
    rw [e2 (by simp)] at q
    rw [ej] at hd
    exact q.2 j H' (by simp only [List.length_cons] at hd; omega) L x
theorem Out.bad (q : Out CL CD B a o dx l n U H Q E none) (x : Fx o a.fp H H1) : Bad B n (Lx o H1) E := q.1.imp fun H' x' => x.trans x'.fx
theorem Out.badS (q : Out CL CD B a o dx l n U H Q E none) (x : Fx o a.fp H H1) : Bad B n (Same H1) E := q.1.imp fun H' x' => x.trans (Lx.of x').fx
theorem Out.step (q : Out CL CD B a o dx l n U H Q E res) (x : Fx o a.fp H H1) (fr : ∀ q, H1 q = none → H q = none) : Out CL CD B a o dx l n U H1 Q E res := by
  cases res with
  | some s' => exact fun a' H' e1 e2 e3 e4 e5 => q a' H' e1 e2 (e3.imp id fun ⟨b, h1, h2⟩ => ⟨b, h1, fr b h2⟩) e4 (x.trans e5)
  | none => exact ⟨q.1.imp fun H' x' => x.trans x', fun j H' e1 e2 e3 => q.2 j H' e1 e2 (x.trans e3)⟩
end
def spATk (CL CD B : Addr) (i : Nat) (p : List Tok → Option Item) : Sp := fun vs H Q E => ∃ (a : DA) (s : DS) (o dx l : Addr) (n : Int) (U : List Tok), vs = [.ref a.d, .ref o] ∧ DfAt CD a s H ∧ LnAt CL o dx l n i U H ∧ o ≠ a.d ∧ l ∉ a.fp ∧ DsB s ∧ net (U.take i) = 0 ∧ Out CL CD B a o dx l n U H Q E ((p (U.drop i)).bind (stp s))
end
end Kx
namespace Kx
open PySem PySem.Spec PyProof.Rows L2
section
variable {P : Program} {w : World} {K : PySem.W.Frag} {mg : Str → Option Value} {base : Heap}
set_option pp.maxSteps 900
/-! ### makers, constructors -/
theorem word_head {X : List Tok} {t : Tok} (h : X.head? = some t) : ∃ R, X = t :: R := by
  cases X with
  | nil => cases h
  | cons a R => cases h; exact ⟨R, rfl⟩
theorem okx_take_maker (T : Txt K mg) (G_Line_take_number : FnOk P w K mg base (L2.CX P w) 5 T.a_Line_take_number T.d_Line_take_number ["self"] (spTakeNum T.c_Line T.c_BadText)) (G_Line_take_word : FnOk P w K mg base (L2.CX P w) 5 T.a_Line_take_word T.d_Line_take_word ["self"] (spTakeWord T.c_Line T.c_BadText)) : FnOk P w K mg base (L2.CX P w) 6 T.a_take_maker T.d_take_maker ["draft", "line"] (spATk T.c_Line T.c_Draft T.c_BadText 1 pMk) := by
  refine T.F_take_maker.okX sc_take_maker (fun vs H Q E h => ?_) (fun cdv A outer s H vs Q E hr h => ?_)
  · obtain ⟨a, s, o, dx, l, n, U, rfl, _⟩ := h; rfl
  · obtain ⟨a, s, o, dx, l, n, U, rfl, D, L, no, nl, hB, hn, q⟩ := h
    have hr_Line_take_word := hr
    have hr_Line_take_number := hr
    refine ⟨_, (pss_cons (ps_set (i := 2) sc_take_maker.nd rfl (Or.inl rfl) (pe_meth0 (pv 1) T.cl_Line T.me_Line_take_word G_Line_take_word hr_Line_take_word T.b_Line_take_word .nil (passes_call (takes_of rfl rfl rfl rfl) fun _ _ _ _ h => h)))
    (pss_one (ps_expr (pe_bm PySem.F.plainAttrs_list PySem.F.slot_list_append PySem.F.type_list_append mt_append (pe_fld (pv 0) rfl) (pa_cons (pe_tup (pa_cons (pv 2) (pa_cons (pe_meth0 (pv 1) T.cl_Line T.me_Line_take_number G_Line_take_number hr_Line_take_number T.b_Line_take_number .nil (passes_call (takes_of rfl rfl rfl rfl) fun _ _ _ _ h => h)) pa_nil))) pa_nil))))), ?_⟩
    refine ⟨_, rfl, o, dx, _, rfl, L.ins, rfl, o, dx, l, n, 1, U, rfl, L, fun t ht hw H1 x1 L1 => ?_, fun hno => ?_⟩
    rotate_left
    · have e : pMk (U.drop 1) = none := by
        cases ed : U.drop 1 with
        | nil => rfl
        | cons b R =>
          have := hno b (by rw [head_at, ed]; rfl)
          match R with
          | [] => rfl
          | [c] => simp only [pMk, this, Bool.false_eq_true, if_false]
          | c :: d :: R => rfl
      rw [e] at q
      exact q.bad (Lx.refl o H).fx
    obtain ⟨R, ed⟩ := drop_ex ht
    obtain ⟨_, g2, _⟩ := get_drop ed
    rw [ed] at q
    have D1 := D.lx L x1 no
    obtain ⟨vm, em, im⟩ := D1.mak
    refine ⟨_, rfl, a.d, _, a.dx, _, _, rfl, D1.ins, T.cl_Draft, T.no_Draft_makers, rfl, .inl ⟨rfl, _, SqL.of em⟩, _, rfl, _, rfl, o, dx, _, rfl, L1.ins, rfl, o, dx, l, n, 2, U, rfl, L1, fun t2 k ht2 hk H2 x2 L2 => ?_, fun hno => ?_⟩
    rotate_left
    · have e : pMk (t :: R) = none := by
        match R, g2 with
        | [], _ => rfl
        | [c], g2 =>
          have := hno c (by rw [head_at, g2]; rfl)
          simp only [pMk, hw, if_true, this]
          rfl
        | c :: d :: R, _ => rfl
      rw [e] at q
      exact q.bad x1.fx
    refine ⟨(by show 2 ≤ sizeLine; decide), fun p hp => ?_⟩
    obtain ⟨R2, ed2⟩ := drop_ex ht2
    have ed2' : R = t2 :: R2 := by rw [← ed2]; exact g2.symm
    subst ed2'
    have D2 := D1.lx L1 x2 no
    have s3 := same_upd hp (.tup [SV t, V.int k])
    have D3 := D2.same s3
    have L3 := L2.same s3
    obtain ⟨vm3, em3, im3⟩ := D3.mak
    have hlen := im3.len
    rw [List.length_map] at hlen
    have i3 : Is (upd H2 p (.tup [SV t, V.int k])) (.ref p) (mkP (mkS t, k)) := .tup upd_same (.cons (.str _ (isW_sok hw)) (.cons (.int _) .nil))
    refine ⟨a.lm, vm3, _, rfl, rfl, em3, small7k (by have := hB.1; omega), ?_⟩
    refine q.fin (a' := a) (s' := { s with ms := s.ms ++ [(mkS t, k)] }) (j := 3) (R := R2) (get_drop ed2).2.1 (fun e => ?_) (fun e => ?_) rfl (D3.addM em3 i3) (.inl rfl) (L3.wr em3 (fun z => nl (by rw [← z]; simp [DA.fp]))) (((x1.trans x2).trans (.of s3)).fx.trans (.wr (by simp [DA.fp])))
    · subst e
      simp only [pMk, hw, if_true, hk]
      rfl
    · cases R2 with
      | nil => exact absurd rfl e
      | cons c R => rfl
theorem pEnd_none {R : List Tok} (h : R.head? ≠ some ARW) : pEnd R = none := by
  cases R with
  | nil => rfl
  | cons a R =>
    have : a ≠ ARW := fun e => h (by rw [e]; rfl)
    simp only [pEnd, this, if_false]
theorem pEnd_at (R : List Tok) : pEnd (ARW :: R) = match pK R with
    | some (k, []) => some k
    | _ => none := by
  simp only [pEnd, if_true]
  all_goals rfl
theorem okx_take_constructor (T : Txt K mg) (G_take_kind : FnOk P w K mg base (L2.CX P w) 87 T.a_take_kind T.d_take_kind ["line"] (spAKind T.c_Line T.c_BadText)) (G_Line_skip : FnOk P w K mg base (L2.CX P w) 5 T.a_Line_skip T.d_Line_skip ["self", "token"] (spSkip T.c_Line T.c_BadText)) (G_Line_comes : FnOk P w K mg base CX0 1 T.a_Line_comes T.d_Line_comes ["self", "token"] (spComes T.c_Line)) (G_take_kinds : FnOk P w K mg base (L2.CX P w) 88 T.a_take_kinds T.d_take_kinds ["line"] (spAKinds T.c_Line T.c_BadText)) (G_Line_take_word : FnOk P w K mg base (L2.CX P w) 5 T.a_Line_take_word T.d_Line_take_word ["self"] (spTakeWord T.c_Line T.c_BadText)) : FnOk P w K mg base (L2.CX P w) 89 T.a_take_constructor T.d_take_constructor ["draft", "line"] (spATk T.c_Line T.c_Draft T.c_BadText 1 pCn) := by
  refine T.F_take_constructor.okX sc_take_constructor (fun vs H Q E h => ?_) (fun cdv A outer s H vs Q E hr h => ?_)
  · obtain ⟨a, s, o, dx, l, n, U, rfl, _⟩ := h; rfl
  · obtain ⟨a, s, o, dx, l, n, U, rfl, D, L, no, nl, hB, hn, q⟩ := h
    have hr_Line_take_word : Room 5 _ := hr.mono (by decide)
    have hr_Line_skip : Room 5 _ := hr.mono (by decide)
    have hr_Line_comes : Room 1 _ := hr.mono (by decide)
    have hr_take_kind : Room 87 _ := hr.mono (by decide)
    have hr_take_kinds : Room 88 _ := hr
    refine ⟨_, (pss_cons (ps_set (i := 2) sc_take_constructor.nd rfl (Or.inl rfl) (pe_meth0 (pv 1) T.cl_Line T.me_Line_take_word G_Line_take_word hr_Line_take_word T.b_Line_take_word .nil (passes_call (takes_of rfl rfl rfl rfl) fun _ _ _ _ h => h)))
    (pss_cons (ps_expr (pe_meth (pv 1) T.cl_Line T.me_Line_skip G_Line_skip hr_Line_skip T.b_Line_skip .nil (passes_call (takes_of rfl rfl rfl rfl) fun _ _ _ _ h => h) (pa_cons pe_str pa_nil)))
    (Evl.pss_cut (ps_set (i := 3) sc_take_constructor.nd rfl (Or.inl rfl) (pe_ifExp (pt_val (pe_meth (pv 1) T.cl_Line T.me_Line_comes G_Line_comes hr_Line_comes T.b_Line_comes .nil pass0 (pa_cons pe_str pa_nil))) (pe_tup pa_nil) (pe_call G_take_kinds hr_take_kinds rfl T.m_take_kinds T.F_take_kinds.kp T.b_take_kinds .nil (passes_call (takes_of rfl rfl rfl rfl) fun _ _ _ _ h => h) (pa_cons (pv 1) pa_nil))))
    (pss_cons (ps_expr (pe_meth (pv 1) T.cl_Line T.me_Line_skip G_Line_skip hr_Line_skip T.b_Line_skip .nil (passes_call (takes_of rfl rfl rfl rfl) fun _ _ _ _ h => h) (pa_cons pe_str pa_nil)))
    (pss_cons (ps_asg (pe_call G_take_kind hr_take_kind rfl T.m_take_kind T.F_take_kind.kp T.b_take_kind .nil (passes_call (takes_of rfl rfl rfl rfl) fun _ _ _ _ h => h) (pa_cons (pv 1) pa_nil)) (pg_tup rfl (pgs_cons (pg_name (i := 4) sc_take_constructor.nd rfl (Or.inl rfl)) (pgs_cons (pg_name (i := 5) sc_take_constructor.nd rfl (Or.inl rfl)) pgs_nil))))
    (pss_one (ps_expr (pe_bm PySem.F.plainAttrs_list PySem.F.slot_list_append PySem.F.type_list_append mt_append (pe_fld (pv 0) rfl) (pa_cons (pe_tup (pa_cons (pv 2) (pa_cons (pv 3) (pa_cons (pv 4) (pa_cons (pv 5) pa_nil))))) pa_nil))))))))), ?_⟩
    refine ⟨_, rfl, o, dx, _, rfl, L.ins, rfl, o, dx, l, n, 1, U, rfl, L, fun t ht hw H1 x1 L1 => ?_, fun hno => ?_⟩
    rotate_left
    · have e : pCn (U.drop 1) = none := by
        cases ed : U.drop 1 with
        | nil => rfl
        | cons b R =>
          have := hno b (by rw [head_at, ed]; rfl)
          cases R with
          | nil => rfl
          | cons c R => simp only [pCn, this, Bool.false_eq_true, if_false]
      rw [e] at q
      exact q.bad (Lx.refl o H).fx
    obtain ⟨R, ed⟩ := drop_ex ht
    obtain ⟨_, g2, _⟩ := get_drop ed
    have n2 := net_step ed
    rw [w_net hw, hn] at n2
    rw [ed] at q
    refine ⟨_, rfl, o, dx, _, rfl, L1.ins, rfl, o, dx, l, n, 2, U, ":", rfl, L1, fun h58 H2 x2 L2 => ?_, fun h58 => ?_⟩
    rotate_left
    · have e : pCn (t :: R) = none := by
        rw [head_at, g2, show cs ":" = [58] from rfl] at h58
        cases R with
        | nil => rfl
        | cons c R =>
          have : c ≠ [58] := fun e => h58 (by rw [e]; rfl)
          simp only [pCn, hw, if_true, this, if_false]
      rw [e] at q
      exact q.bad x1.fx
    obtain ⟨X, ed2⟩ := drop_ex h58
    have ed2' : R = [58] :: X := by rw [← g2]; exact ed2
    subst ed2'
    obtain ⟨_, g3, _⟩ := get_drop ed2
    have n3 := net_step ed2
    rw [n2, show net [cs ":"] = 0 by decide] at n3
    have ep : pCn (t :: [58] :: X) = match pPs X with
        | some (ks, R) => (pEnd R).map fun md => .c ⟨mkS t, ks, md⟩
        | none => none := by
      simp only [pCn, hw, if_true, pCon]
      all_goals rfl
    rw [ep] at q
    have x02 := x1.trans x2
    refine ⟨fun σ H4 => ∃ (kp : Addr) (vs : List V) (ks : List Kd) (R : List Tok) (j : Nat), σ = [some (V.ref a.d), some (.ref o), some (SV t), some (.ref kp), none, none] ∧ pPs X = some (ks, R) ∧ U.drop j = R ∧ net (U.take j) = 0 ∧ H4 kp = some (.tup vs) ∧ IsL H4 vs (ks.map kdP) ∧ Lx o H H4 ∧ LnAt T.c_Line o dx l n j U H4, ?_, ?_⟩
    · refine ⟨_, rfl, o, dx, _, rfl, L2.ins, rfl, o, dx, l, n, 3, U, "->", rfl, L2, by decide +kernel, fun H3 s3 => ⟨_, rfl, ?_⟩⟩
      have L3 := L2.same s3
      have x3 : Lx o H H3 := x02.trans (.of s3)
      rw [head_at, g3, show cs "->" = ARW from rfl]
      by_cases hp : X.head? = some ARW
      · rw [decide_eq_true hp]
        refine iteT ⟨(by show 0 ≤ sizeLine; decide), fun p hp2 => ⟨p, [], [], X, 3, rfl, by unfold pPs; rw [if_pos hp], g3, by rw [n3]; rfl, upd_same, .nil, x3.trans (.of (same_upd hp2 _)), L3.same (same_upd hp2 _)⟩⟩
      · rw [decide_eq_false hp]
        have epp : pPs X = pKs (X.length + 1) X := by unfold pPs; rw [if_neg hp]
        refine iteF ⟨_, rfl, o, dx, l, n, 3, U, rfl, L3, by rw [n3]; decide, ?_⟩
        rw [g3]
        cases er : pKs (X.length + 1) X with
        | none =>
          rw [epp, er] at q
          exact q.bad x3.fx
        | some pr =>
        obtain ⟨ks, R⟩ := pr
        obtain ⟨C, ec, E0, _⟩ := pKs_eat _ _ _ _ er
        intro p vs j H4 ej e4 i4 x4 L4
        refine ⟨p, vs, ks, R, j, rfl, by rw [epp, er], ej, ?_, e4, i4, x3.trans x4, L4⟩
        rw [net_at (C := C) (R := R) (i := 3) (by rw [g3, ec]) ej, n3, E0.net]; rfl
    rintro σ H4 ⟨kp, vs, ks, R, j, rfl, eP, ej, nj, e4, i4, x4, L4⟩
    rw [eP] at q
    simp only at q
    refine ⟨_, rfl, o, dx, _, rfl, L4.ins, rfl, o, dx, l, n, j, U, "->", rfl, L4, fun hA H5 x5 L5 => ?_, fun hA => ?_⟩
    rotate_left
    · rw [head_at, ej] at hA
      rw [pEnd_none hA] at q
      exact q.bad x4.fx
    obtain ⟨R5, ed5⟩ := drop_ex hA
    have ed5' : R = ARW :: R5 := by rw [← ej]; exact ed5
    subst ed5'
    obtain ⟨_, g5, _⟩ := get_drop ed5
    have n5 := net_step ed5
    rw [nj, show net [cs "->"] = 0 by decide] at n5
    rw [pEnd_at] at q
    refine ⟨_, rfl, o, dx, l, n, j + 1, U, rfl, L5, by rw [n5]; decide, ?_⟩
    rw [g5]
    cases er : pK R5 with
    | none =>
      rw [er] at q
      exact Out.bad q (x4.trans x5).fx
    | some pr =>
    obtain ⟨md, R6⟩ := pr
    rw [er] at q
    intro v j6 H6 ej6 iv x6 L6
    obtain ⟨pk, uk, rfl, ek, ik⟩ := iv.tup_inv
    obtain ⟨u0, u1, rfl, k0, k1⟩ := two_inv ik
    have o2 : sok md.fam = true := by cases k0 with | str _ k => exact k
    cases k0.str_inv
    refine ⟨pk, _, rfl, .inl (.inl ek), rfl, _, _, rfl, _, _, rfl, rfl, ?_⟩
    have x46 := (x4.trans x5).trans x6
    have D6 := D.lx L x46 no
    obtain ⟨vc, ec, ic⟩ := D6.cn
    refine ⟨_, rfl, a.d, _, a.dx, _, _, rfl, D6.ins, T.cl_Draft, T.no_Draft_constructors, rfl, .inl ⟨rfl, _, SqL.of ec⟩, _, rfl, _, rfl, _, rfl, _, rfl, (by show 4 ≤ sizeLine; decide), fun p hp => ?_⟩
    have s7 := same_upd hp (.tup [SV t, .ref kp, V.str md.fam, u1])
    have D7 := D6.same s7
    have L7 := L6.same s7
    obtain ⟨vc7, ec7, ic7⟩ := D7.cn
    have hlen := ic7.len
    rw [List.length_map] at hlen
    have ikp := ((Is.tup e4 i4).tk (L4.tk x5)).tk (L5.tk x6)
    have i7 : Is (upd H6 p (.tup [SV t, .ref kp, V.str md.fam, u1])) (.ref p) (cnP ⟨mkS t, ks, md⟩) := .tup upd_same (.cons (.str _ (isW_sok hw)) (.cons (ikp.same s7) (.cons (k0.same s7) (.cons (k1.same s7) .nil))))
    refine ⟨a.lc, vc7, _, rfl, rfl, ec7, small7k (by have := hB.2.2.1; omega), ?_⟩
    refine Out.fin (a' := a) (s' := { s with cn := s.cn ++ [⟨mkS t, ks, md⟩] }) (j := j6) (R := R6) q ej6 (fun e => ?_) (fun e => ?_) rfl (D7.addC ec7 i7) (.inl rfl) (L7.wr ec7 (fun z => nl (by rw [← z]; simp [DA.fp]))) ((x46.trans (.of s7)).fx.trans (.wr (by simp [DA.fp])))
    · subst e; rfl
    · cases R6 with
      | nil => exact absurd rfl e
      | cons c R => rfl
end
end Kx
namespace Kx
open PySem PySem.Spec PyProof.Rows L2
section
variable {P : Program} {w : World} {K : PySem.W.Frag} {mg : Str → Option Value} {base : Heap}
set_option pp.maxSteps 900
/-! ### functions, clauses -/
theorem okx_take_function (T : Txt K mg) (G_take_kind : FnOk P w K mg base (L2.CX P w) 87 T.a_take_kind T.d_take_kind ["line"] (spAKind T.c_Line T.c_BadText)) (G_Line_skip : FnOk P w K mg base (L2.CX P w) 5 T.a_Line_skip T.d_Line_skip ["self", "token"] (spSkip T.c_Line T.c_BadText)) (G_take_kinds : FnOk P w K mg base (L2.CX P w) 88 T.a_take_kinds T.d_take_kinds ["line"] (spAKinds T.c_Line T.c_BadText)) (G_Line_take_number : FnOk P w K mg base (L2.CX P w) 5 T.a_Line_take_number T.d_Line_take_number ["self"] (spTakeNum T.c_Line T.c_BadText)) (G_Line_take_word : FnOk P w K mg base (L2.CX P w) 5 T.a_Line_take_word T.d_Line_take_word ["self"] (spTakeWord T.c_Line T.c_BadText)) : FnOk P w K mg base (L2.CX P w) 89 T.a_take_function T.d_take_function ["draft", "line"] (spATk T.c_Line T.c_Draft T.c_BadText 1 pFn) := by
  refine T.F_take_function.okX sc_take_function (fun vs H Q E h => ?_) (fun cdv A outer s H vs Q E hr h => ?_)
  · obtain ⟨a, s, o, dx, l, n, U, rfl, _⟩ := h; rfl
  · obtain ⟨a, s, o, dx, l, n, U, rfl, D, L, no, nl, hB, hn, q⟩ := h
    have hr_Line_take_word : Room 5 _ := hr.mono (by decide)
    have hr_Line_take_number : Room 5 _ := hr.mono (by decide)
    have hr_Line_skip : Room 5 _ := hr.mono (by decide)
    have hr_take_kind : Room 87 _ := hr.mono (by decide)
    have hr_take_kinds : Room 88 _ := hr
    refine ⟨_, (pss_cons (ps_set (i := 2) sc_take_function.nd rfl (Or.inl rfl) (pe_meth0 (pv 1) T.cl_Line T.me_Line_take_word G_Line_take_word hr_Line_take_word T.b_Line_take_word .nil (passes_call (takes_of rfl rfl rfl rfl) fun _ _ _ _ h => h)))
    (pss_cons (ps_expr (pe_meth (pv 1) T.cl_Line T.me_Line_skip G_Line_skip hr_Line_skip T.b_Line_skip .nil (passes_call (takes_of rfl rfl rfl rfl) fun _ _ _ _ h => h) (pa_cons pe_str pa_nil)))
    (pss_cons (ps_set (i := 3) sc_take_function.nd rfl (Or.inl rfl) (pe_meth0 (pv 1) T.cl_Line T.me_Line_take_number G_Line_take_number hr_Line_take_number T.b_Line_take_number .nil (passes_call (takes_of rfl rfl rfl rfl) fun _ _ _ _ h => h)))
    (pss_cons (ps_expr (pe_meth (pv 1) T.cl_Line T.me_Line_skip G_Line_skip hr_Line_skip T.b_Line_skip .nil (passes_call (takes_of rfl rfl rfl rfl) fun _ _ _ _ h => h) (pa_cons pe_str pa_nil)))
    (pss_cons (ps_set (i := 4) sc_take_function.nd rfl (Or.inl rfl) (pe_call G_take_kinds hr_take_kinds rfl T.m_take_kinds T.F_take_kinds.kp T.b_take_kinds .nil (passes_call (takes_of rfl rfl rfl rfl) fun _ _ _ _ h => h) (pa_cons (pv 1) pa_nil)))
    (pss_cons (ps_expr (pe_meth (pv 1) T.cl_Line T.me_Line_skip G_Line_skip hr_Line_skip T.b_Line_skip .nil (passes_call (takes_of rfl rfl rfl rfl) fun _ _ _ _ h => h) (pa_cons pe_str pa_nil)))
    (pss_cons (ps_asg (pe_call G_take_kind hr_take_kind rfl T.m_take_kind T.F_take_kind.kp T.b_take_kind .nil (passes_call (takes_of rfl rfl rfl rfl) fun _ _ _ _ h => h) (pa_cons (pv 1) pa_nil)) (pg_tup rfl (pgs_cons (pg_name (i := 5) sc_take_function.nd rfl (Or.inl rfl)) (pgs_cons (pg_name (i := 6) sc_take_function.nd rfl (Or.inl rfl)) pgs_nil))))
    (pss_one (ps_expr (pe_bm PySem.F.plainAttrs_list PySem.F.slot_list_append PySem.F.type_list_append mt_append (pe_fld (pv 0) rfl) (pa_cons (pe_tup (pa_cons (pv 2) (pa_cons (pv 4) (pa_cons (pv 5) (pa_cons (pv 6) (pa_cons (pv 3) (pa_cons (pe_lst pa_nil) pa_nil))))))) pa_nil))))))))))), ?_⟩
    refine ⟨_, rfl, o, dx, _, rfl, L.ins, rfl, o, dx, l, n, 1, U, rfl, L, fun t ht hw H1 x1 L1 => ?_, fun hno => ?_⟩
    rotate_left
    · have e : pFn (U.drop 1) = none := by
        cases ed : U.drop 1 with
        | nil => rfl
        | cons b R =>
          have := hno b (by rw [head_at, ed]; rfl)
          match R with
          | [] => rfl
          | [_] => rfl
          | [_, _] => rfl
          | c :: d :: f :: R => simp only [pFn, this, Bool.false_eq_true, if_false]
      rw [e] at q
      exact q.bad (Lx.refl o H).fx
    obtain ⟨R, ed⟩ := drop_ex ht
    obtain ⟨_, g2, _⟩ := get_drop ed
    have n2 := net_step ed
    rw [w_net hw, hn] at n2
    rw [ed] at q
    refine ⟨_, rfl, o, dx, _, rfl, L1.ins, rfl, o, dx, l, n, 2, U, "falls", rfl, L1, fun hf H2 x2 L2 => ?_, fun hf => ?_⟩
    rotate_left
    · have e : pFn (t :: R) = none := by
        rw [head_at, g2] at hf
        match R, hf with
        | [], _ => rfl
        | [_], _ => rfl
        | [_, _], _ => rfl
        | c :: d :: f :: R, hf =>
          have : c ≠ cs "falls" := fun e => hf (by rw [e]; rfl)
          simp only [pFn, hw, if_true, this, if_false]
      rw [e] at q
      exact q.bad x1.fx
    obtain ⟨R3, ed2⟩ := drop_ex hf
    have e2' : R = cs "falls" :: R3 := by rw [← g2]; exact ed2
    subst e2'
    obtain ⟨_, g3, _⟩ := get_drop ed2
    have n3 := net_step ed2
    rw [n2, show net [cs "falls"] = 0 by decide] at n3
    have x02 := x1.trans x2
    refine ⟨_, rfl, o, dx, _, rfl, L2.ins, rfl, o, dx, l, n, 3, U, rfl, L2, fun tn k hk1 hk2 H3 x3 L3 => ?_, fun hno => ?_⟩
    rotate_left
    · have e : pFn (t :: cs "falls" :: R3) = none := by
        match R3, g3 with
        | [], _ => rfl
        | [_], _ => rfl
        | c :: d :: R, g3 =>
          have := hno c (by rw [head_at, g3]; rfl)
          simp only [pFn, hw, if_true, this]
      rw [e] at q
      exact q.bad x02.fx
    obtain ⟨R4, ed3⟩ := drop_ex hk1
    have e3' : R3 = tn :: R4 := by rw [← g3]; exact ed3
    subst e3'
    obtain ⟨_, g4, _⟩ := get_drop ed3
    have n4 := net_step ed3
    have ntn : net [tn] = 0 := by
      obtain ⟨e1, e2⟩ := numV_some hk2
      refine net_one (fun e => ?_) fun e => ?_
      · rw [e] at hk2; exact absurd hk2 (by rw [show numV [40] = none by decide +kernel]; simp)
      · rw [e] at hk2; exact absurd hk2 (by rw [show numV [41] = none by decide +kernel]; simp)
    rw [n3, ntn] at n4
    have x03 := x02.trans x3
    refine ⟨_, rfl, o, dx, _, rfl, L3.ins, rfl, o, dx, l, n, 4, U, ":", rfl, L3, fun h58 H4 x4 L4 => ?_, fun h58 => ?_⟩
    rotate_left
    · have e : pFn (t :: cs "falls" :: tn :: R4) = none := by
        rw [head_at, g4, show cs ":" = [58] from rfl] at h58
        cases R4 with
        | nil => rfl
        | cons c R =>
          have : c ≠ [58] := fun e => h58 (by rw [e]; rfl)
          simp only [pFn, hw, if_true, hk2, this, if_false]
      rw [e] at q
      exact q.bad x03.fx
    obtain ⟨X, ed4⟩ := drop_ex h58
    have e4' : R4 = [58] :: X := by rw [← g4]; exact ed4
    subst e4'
    obtain ⟨_, g5, _⟩ := get_drop ed4
    have n5 := net_step ed4
    rw [n4, show net [cs ":"] = 0 by decide] at n5
    have x04 := x03.trans x4
    have ep : pFn (t :: cs "falls" :: tn :: [58] :: X) = match pKs (X.length + 1) X with
        | some (ks, R) => (pEnd R).map fun md => .h ⟨mkS t, ks, md, k, []⟩
        | none => none := by
      simp only [pFn, hw, if_true, hk2, pFun]
      all_goals rfl
    rw [ep] at q
    refine ⟨_, rfl, o, dx, l, n, 5, U, rfl, L4, by rw [n5]; decide, ?_⟩
    rw [g5]
    cases er : pKs (X.length + 1) X with
    | none =>
      rw [er] at q
      exact Out.bad q x04.fx
    | some pr =>
    obtain ⟨ks, R⟩ := pr
    rw [er] at q
    obtain ⟨C, ec, E0, _⟩ := pKs_eat _ _ _ _ er
    intro kp vs j H5 ej e5 i5 x5 L5
    have nj : net (U.take j) = 0 := by rw [net_at (C := C) (R := R) (i := 5) (by rw [g5, ec]) ej, n5, E0.net]; rfl
    have x05 := x04.trans x5
    simp only at q
    refine ⟨_, rfl, o, dx, _, rfl, L5.ins, rfl, o, dx, l, n, j, U, "->", rfl, L5, fun hA H6 x6 L6 => ?_, fun hA => ?_⟩
    rotate_left
    · rw [head_at, ej] at hA
      rw [pEnd_none hA] at q
      exact Out.bad q x05.fx
    obtain ⟨R5, ed5⟩ := drop_ex hA
    have ed5' : R = ARW :: R5 := by rw [← ej]; exact ed5
    subst ed5'
    obtain ⟨_, g6, _⟩ := get_drop ed5
    have n6 := net_step ed5
    rw [nj, show net [cs "->"] = 0 by decide] at n6
    rw [pEnd_at] at q
    refine ⟨_, rfl, o, dx, l, n, j + 1, U, rfl, L6, by rw [n6]; decide, ?_⟩
    rw [g6]
    cases er2 : pK R5 with
    | none =>
      rw [er2] at q
      exact Out.bad q (x05.trans x6).fx
    | some pr =>
    obtain ⟨md, R6⟩ := pr
    rw [er2] at q
    intro v j7 H7 ej7 iv x7 L7
    obtain ⟨pk, uk, rfl, ek, ik⟩ := iv.tup_inv
    obtain ⟨u0, u1, rfl, k0, k1⟩ := two_inv ik
    have o2 : sok md.fam = true := by cases k0 with | str _ k => exact k
    cases k0.str_inv
    refine ⟨pk, _, rfl, .inl (.inl ek), rfl, _, _, rfl, _, _, rfl, rfl, ?_⟩
    have x07 := (x05.trans x6).trans x7
    have D7 := D.lx L x07 no
    obtain ⟨vg, eg, ig⟩ := D7.fn
    refine ⟨_, rfl, a.d, _, a.dx, _, _, rfl, D7.ins, T.cl_Draft, T.no_Draft_functions, rfl, .inl ⟨rfl, _, SqL.of eg⟩, _, rfl, _, rfl, _, rfl, _, rfl, _, rfl, by decide, fun cq hcq => ⟨(by show 6 ≤ sizeLine; decide), fun p hp => ?_⟩⟩
    have s8 := same_upd hcq (.lst [])
    have s9 := same_upd hp (.tup [SV t, .ref kp, V.str md.fam, u1, V.int k, .ref cq])
    have D9 := (D7.same s8).same s9
    have L9 := (L7.same s8).same s9
    have s89 := s8.trans s9
    have nq : cq ∉ a.fp := fun z => by
      obtain ⟨xs, e⟩ := D7.lst cq z
      rw [hcq] at e; cases e
    have nqo : cq ≠ o := fun z => by rw [z, L7.ins] at hcq; cases hcq
    have hq0 : H cq = none := ne_own (u := .lst []) x07 nqo hcq
    have ekp := (((Is.tup e5 i5).tk (L5.tk x6)).tk (L6.tk x7)).same s89
    have ek1 := k1.same s89
    have ecq : (upd (upd H7 cq (.lst [])) p (.tup [SV t, .ref kp, V.str md.fam, u1, V.int k, .ref cq])) cq = some (.lst []) := s9 _ _ upd_same
    have ep9 : (upd (upd H7 cq (.lst [])) p (.tup [SV t, .ref kp, V.str md.fam, u1, V.int k, .ref cq])) p = some (.tup [SV t, .ref kp, V.str md.fam, u1, V.int k, .ref cq]) := upd_same
    have xF : Fx o a.fp H (upd (upd H7 cq (.lst [])) p (.tup [SV t, .ref kp, V.str md.fam, u1, V.int k, .ref cq])) := (x07.trans (.of s89)).fx
    generalize (upd (upd H7 cq (.lst [])) p (.tup [SV t, .ref kp, V.str md.fam, u1, V.int k, .ref cq])) = H9 at D9 L9 ekp ek1 ecq ep9 xF ⊢
    obtain ⟨vg9, eg9, ig9⟩ := D9.fn
    have hlen := ig9.len
    refine ⟨a.lg, vg9, _, rfl, rfl, eg9, small7k (by have := hB.2.2.2.1; omega), ?_⟩
    refine Out.fin (a' := { a with qs := a.qs ++ [cq] }) (s' := { s with fs := s.fs ++ [⟨mkS t, ks, md, k, []⟩] }) (j := j7) (R := R6) q ej7 (fun e => ?_) (fun e => ?_) rfl (D9.addG (f := ⟨mkS t, ks, md, k, []⟩) eg9 ep9 (isW_sok hw) o2 ekp ek1 ecq rfl nq) (.inr ⟨cq, rfl, hq0⟩) (L9.wr eg9 (fun z => nl (by rw [← z]; simp [DA.fp]))) (xF.trans (.wr (by simp [DA.fp])))
    · subst e; rfl
    · cases R6 with
      | nil => exact absurd rfl e
      | cons c R => rfl
theorem atI_end {vs : List V} {v : V} : atI (vs ++ [v]) (-1) = some v := atI_last vs v
theorem pCl_at {w : Tok} {R : List Tok} (hw : isW w = true) : pCl (w :: R) = match pLs 40 R with
    | some (ps, b :: R2) => if b = [61] then (match pT 41 R2 with
      | some (t, []) => some (.l (mkS w) ⟨ps, t⟩)
      | _ => none) else none
    | _ => none := by
  cases R with
  | nil => rfl
  | cons a R =>
    by_cases h : a = [40]
    · simp only [pCl, hw, if_true, h, pLs]
      all_goals rfl
    · simp only [pCl, hw, if_true, h, if_false, pLs]
theorem okx_take_clause (T : Txt K mg) (G_Line_take_tree : FnOk P w K mg base (L2.CX P w) 88 T.a_Line_take_tree T.d_Line_take_tree ["self"] (spATree T.c_Line T.c_BadText 41)) (G_Line_skip : FnOk P w K mg base (L2.CX P w) 5 T.a_Line_skip T.d_Line_skip ["self", "token"] (spSkip T.c_Line T.c_BadText)) (G_Line_take_trees : FnOk P w K mg base (L2.CX P w) 87 T.a_Line_take_trees T.d_Line_take_trees ["self"] (spATrees T.c_Line T.c_BadText 40)) (G_Line_take_word : FnOk P w K mg base (L2.CX P w) 5 T.a_Line_take_word T.d_Line_take_word ["self"] (spTakeWord T.c_Line T.c_BadText)) (G_Line_refuse : FnOk P w K mg base (L2.CX P w) 3 T.a_Line_refuse T.d_Line_refuse ["self"] (spRefuse T.c_Line T.c_BadText)) : FnOk P w K mg base (L2.CX P w) 90 T.a_take_clause T.d_take_clause ["draft", "line"] (spATk T.c_Line T.c_Draft T.c_BadText 0 pCl) := by
  refine T.F_take_clause.okX sc_take_clause (fun vs H Q E h => ?_) (fun cdv A outer s H vs Q E hr h => ?_)
  · obtain ⟨a, s, o, dx, l, n, U, rfl, _⟩ := h; rfl
  · obtain ⟨a, s, o, dx, l, n, U, rfl, D, L, no, nl, hB, hn, q⟩ := h
    have hr_Line_take_word : Room 5 _ := hr.mono (by decide)
    have hr_Line_skip : Room 5 _ := hr.mono (by decide)
    have hr_Line_take_tree : Room 88 _ := hr.mono (by decide)
    have hr_Line_take_trees : Room 87 _ := hr.mono (by decide)
    have hr_Line_refuse : Room 3 _ := hr.mono (by decide)
    refine ⟨_, (pss_cons (ps_set (i := 2) sc_take_clause.nd rfl (Or.inl rfl) (pe_meth0 (pv 1) T.cl_Line T.me_Line_take_word G_Line_take_word hr_Line_take_word T.b_Line_take_word .nil (passes_call (takes_of rfl rfl rfl rfl) fun _ _ _ _ h => h)))
    (pss_cons (ps_if (PW.pt (pw_or (pt_not (pt_truth (pe_fld (pv 0) rfl) (by intro _; rfl))) (pw_or1 (pt_cmpR op_ne (pe_ix ix_tup (pe_ix ix_list (pe_fld (pv 0) rfl) (pe_un un_neg pe_int) (fun _ _ => rfl)) pe_int (fun _ _ => rfl)) (pv 2) (nomark _))))) (pss_one (ps_expr (pe_meth0 (pv 1) T.cl_Line T.me_Line_refuse G_Line_refuse hr_Line_refuse T.b_Line_refuse .nil (passes_call (takes_of rfl rfl rfl rfl) fun _ _ _ _ h => h)))) pss_nil)
    (pss_cons (ps_set (i := 3) sc_take_clause.nd rfl (Or.inl rfl) (pe_meth0 (pv 1) T.cl_Line T.me_Line_take_trees G_Line_take_trees hr_Line_take_trees T.b_Line_take_trees .nil (passes_call (takes_of rfl rfl rfl rfl) fun _ _ _ _ h => h)))
    (pss_cons (ps_expr (pe_meth (pv 1) T.cl_Line T.me_Line_skip G_Line_skip hr_Line_skip T.b_Line_skip .nil (passes_call (takes_of rfl rfl rfl rfl) fun _ _ _ _ h => h) (pa_cons pe_str pa_nil)))
    (pss_cons (ps_set (i := 4) sc_take_clause.nd rfl (Or.inl rfl) (pe_ix ix_tup (pe_ix ix_list (pe_fld (pv 0) rfl) (pe_un un_neg pe_int) (fun _ _ => rfl)) pe_int (fun _ _ => rfl)))
    (pss_one (ps_expr (pe_bm PySem.F.plainAttrs_list PySem.F.slot_list_append PySem.F.type_list_append mt_append (pv 4) (pa_cons (pe_tup (pa_cons (pv 3) (pa_cons (pe_meth0 (pv 1) T.cl_Line T.me_Line_take_tree G_Line_take_tree hr_Line_take_tree T.b_Line_take_tree .nil (passes_call (takes_of rfl rfl rfl rfl) fun _ _ _ _ h => h)) pa_nil))) pa_nil))))))))), ?_⟩
    refine ⟨_, rfl, o, dx, _, rfl, L.ins, rfl, o, dx, l, n, 0, U, rfl, L, fun t ht hw H1 x1 L1 => ?_, fun hno => ?_⟩
    rotate_left
    · have e : pCl (U.drop 0) = none := by
        cases ed : U.drop 0 with
        | nil => rfl
        | cons b R =>
          have := hno b (by rw [head_at, ed]; rfl)
          cases R with
          | nil => rfl
          | cons c R => simp only [pCl, this, Bool.false_eq_true, if_false]
      rw [e] at q
      exact q.bad (Lx.refl o H).fx
    obtain ⟨R, ed⟩ := drop_ex ht
    obtain ⟨_, g2, _⟩ := get_drop ed
    have g2 : U.drop 1 = R := g2
    have n1 := net_step ed
    rw [w_net hw, hn] at n1
    have n1 : net (U.take 1) = 0 := by rw [n1]; rfl
    have L1 : LnAt T.c_Line o dx l n 1 U H1 := L1
    rw [ed, pCl_at hw] at q
    have D1 := D.lx L x1 no
    obtain ⟨vg, eg, ig⟩ := D1.fn
    have noneS : (∀ fs0 f0, s.fs = fs0 ++ [f0] → f0.w ≠ mkS t) → ∀ x, stp s (.l (mkS t) x) = none := fun h x => by
      unfold stp
      simp only
      cases eg : s.fs.getLast? with
      | none => rfl
      | some f0 =>
        obtain ⟨fs0, e⟩ := List.getLast?_eq_some_iff.mp eg
        have := h fs0 f0 e
        simp only [this, if_false]
    have allN : (∀ fs0 f0, s.fs = fs0 ++ [f0] → f0.w ≠ mkS t) → ∀ r : Option Item, (∀ it, r = some it → ∃ x, it = .l (mkS t) x) → r.bind (stp s) = none := fun h r hr => by
      cases r with
      | none => rfl
      | some it =>
        obtain ⟨x, rfl⟩ := hr it rfl
        exact noneS h x
    generalize hres : (match pLs 40 R with
      | some (ps, b :: R2) => if b = [61] then (match pT 41 R2 with
        | some (t', []) => some (Item.l (mkS t) ⟨ps, t'⟩)
        | _ => none) else none
      | _ => none) = rI at q
    have isL : ∀ it, rI = some it → ∃ x, it = .l (mkS t) x := fun it e => by
      rw [← hres] at e
      split at e
      · split at e
        · split at e
          · cases e; exact ⟨_, rfl⟩
          · cases e
        · cases e
      · cases e
    rcases List.eq_nil_or_concat s.fs with h0 | ⟨fs0, f0, hfs⟩
    · have hvg : vg = [] := by
        have := ig.len
        rw [h0] at this
        exact List.length_eq_zero_iff.mp this
      rw [allN (fun fs0 f0 e => by rw [h0] at e; simp at e) rI isL] at q
      refine ⟨_, rfl, a.d, _, a.dx, _, _, rfl, D1.ins, T.cl_Draft, T.no_Draft_functions, rfl, false, .inl ⟨vg, SqL.of eg, by rw [hvg]; rfl⟩, iteT (iteT ?_)⟩
      exact ⟨_, rfl, o, dx, _, rfl, L1.ins, rfl, o, dx, _, n, rfl, L1.ins, rfl, q.badS x1.fx⟩
    rw [List.concat_eq_append] at hfs
    rw [hfs] at ig
    obtain ⟨vs', qs', pf, q0, kv, ix, us, hvg, hqs, ih, epf, o1, o2, ikv, iix, eq0, iq0⟩ := ig.last
    refine ⟨_, rfl, a.d, _, a.dx, _, _, rfl, D1.ins, T.cl_Draft, T.no_Draft_functions, rfl, true, .inl ⟨vg, SqL.of eg, by rw [hvg]; simp⟩, iteF ?_⟩
    refine ⟨_, rfl, a.d, _, a.dx, _, _, rfl, D1.ins, T.cl_Draft, T.no_Draft_functions, rfl, _, rfl, a.lg, vg, _, _, rfl, rfl, SqL.of eg, by rw [hvg]; exact atI_end, pf, _, _, _, rfl, rfl, .inl (.inl epf), atI_nat (j := 0) rfl, _, rfl, rfl, _, rfl, ?_⟩
    by_cases hfw : f0.w = mkS t
    rotate_left
    · rw [allN (fun fs1 f1 e => by
        rw [hfs] at e
        obtain ⟨_, e2⟩ := List.append_inj' e rfl
        cases e2; exact hfw) rI isL] at q
      rw [show (!decide (V.str f0.w = SV t)) = true by
        have : ¬ (V.str f0.w = SV t) := fun e => hfw (V.str.inj e)
        simpa using this]
      exact iteT ⟨_, rfl, o, dx, _, rfl, L1.ins, rfl, o, dx, _, n, rfl, L1.ins, rfl, q.badS x1.fx⟩
    rw [show (!decide (V.str f0.w = SV t)) = false by rw [hfw]; simp [SV]]
    refine iteF ?_
    refine ⟨_, rfl, o, dx, _, rfl, L1.ins, rfl, o, dx, l, n, 1, U, rfl, L1, by rw [n1]; decide, ?_⟩
    rw [g2]
    cases er : pLs 40 R with
    | none =>
      rw [er] at hres
      rw [← hres] at q
      exact Out.bad q x1.fx
    | some pr =>
    obtain ⟨ps, Y⟩ := pr
    rw [er] at hres
    intro pp vp j H2 ej e2 i2 x2 L2
    have x12 := x1.trans x2
    obtain ⟨C, hC, nC⟩ : ∃ C, R = C ++ Y ∧ net C = 0 := by
      cases R with
      | nil => cases er
      | cons b R0 =>
        simp only [pLs] at er
        by_cases hb : b = [40]
        · simp only [hb, if_true] at er
          obtain ⟨C, e1, e2, _⟩ := pL_eat (pT_eat 40) _ _ _ _ er
          refine ⟨b :: C, by rw [e1]; rfl, ?_⟩
          rw [net_cons, hb, net_40, e2]; rfl
        · simp only [hb, if_false] at er; cases er
    have nj : net (U.take j) = 0 := by rw [net_at (C := C) (R := Y) (i := 1) (by rw [g2, hC]) ej, n1, nC]; rfl
    refine ⟨_, rfl, o, dx, _, rfl, L2.ins, rfl, o, dx, l, n, j, U, "=", rfl, L2, fun h61 H3 x3 L3 => ?_, fun h61 => ?_⟩
    rotate_left
    · rw [head_at, ej, show cs "=" = [61] from rfl] at h61
      have : rI = none := by
        rw [← hres]
        cases Y with
        | nil => rfl
        | cons b Y =>
          have : b ≠ [61] := fun e => h61 (by rw [e]; rfl)
          simp only [this, if_false]
      rw [this] at q
      exact Out.bad q x12.fx
    obtain ⟨Z, edj⟩ := drop_ex h61
    have eY : Y = [61] :: Z := by rw [← ej]; exact edj
    subst eY
    obtain ⟨_, g3, _⟩ := get_drop edj
    have n3 := net_step edj
    rw [nj, show net [cs "="] = 0 by decide] at n3
    have x13 := x2.trans x3
    have D3 := D1.lx L1 x13 no
    have tk13 := L1.tk x13
    obtain ⟨vg3, eg3, ig3⟩ := D3.fn
    rw [hfs] at ig3
    obtain ⟨vs3, qs3, pf3, q3, kv3, ix3, us3, hvg3, hqs3, ih3, epf3, _, _, _, _, eq3, iq3⟩ := ig3.last
    refine ⟨_, rfl, a.d, _, a.dx, _, _, rfl, D3.ins, T.cl_Draft, T.no_Draft_functions, rfl, _, rfl, a.lg, vg3, _, _, rfl, rfl, SqL.of eg3, by rw [hvg3]; exact atI_end, pf3, _, _, _, rfl, rfl, .inl (.inl epf3), atI_nat (j := 5) rfl, ?_⟩
    refine ⟨_, rfl, .inl ⟨rfl, _, SqL.of eq3⟩, _, rfl, _, rfl, o, dx, _, rfl, L3.ins, rfl, o, dx, l, n, j + 1, U, rfl, L3, by rw [n3]; decide, ?_⟩
    rw [g3]
    simp only [if_true] at hres
    cases ez : pT 41 Z with
    | none =>
      rw [ez] at hres
      rw [← hres] at q
      exact Out.bad q (x12.trans x3).fx
    | some pr =>
    obtain ⟨tb, Y5⟩ := pr
    rw [ez] at hres
    intro vb j4 H4 ej4 ib x4 L4
    refine ⟨(by show 2 ≤ sizeLine; decide), fun p hp => ?_⟩
    have x04 := (x1.trans x13).trans x4
    have D4 := D.lx L x04 no
    have s5 := same_upd hp (.tup [V.ref pp, vb])
    have D5 := D4.same s5
    have L5 := L4.same s5
    have q3fp : q3 ∈ a.fp := by rw [show a.fp = a.lm :: a.lf :: a.lc :: a.lg :: a.qs from rfl, hqs3]; simp
    have nq3o : q3 ≠ o := fun z => by rw [z, L3.ins] at eq3; cases eq3
    have eq5 := s5 _ _ (x4 _ _ nq3o eq3)
    have iq5 := (iq3.tk (L3.tk x4)).same s5
    have hlen := iq5.len
    rw [List.length_map] at hlen
    have lcl : f0.cls.length ≤ 6000 := hB.2.2.2.2 f0 (by rw [hfs]; simp)
    have ipp := (((Is.tup e2 i2).tk (L2.tk x3)).tk (L3.tk x4)).same s5
    have i5 : Is (upd H4 p (.tup [V.ref pp, vb])) (.ref p) (clP ⟨ps, tb⟩) := .tup upd_same (.cons ipp (.cons (ib.same s5) .nil))
    refine ⟨q3, us3, _, rfl, rfl, eq5, small7k (by omega), ?_⟩
    have st : stp s (.l (mkS t) ⟨ps, tb⟩) = some { s with fs := addCl s.fs ⟨ps, tb⟩ } := by
      unfold stp
      simp only
      rw [hfs, List.getLast?_append]
      simp [hfw]
    refine Out.fin (a' := a) (s' := { s with fs := addCl s.fs ⟨ps, tb⟩ }) (j := j4) (R := Y5) q ej4 (fun e => ?_) (fun e => ?_) rfl ?_ (.inl rfl) (L5.wr eq5 (fun z => nl (by rw [← z]; exact q3fp))) ((x04.trans (.of s5)).fx.trans (.wr q3fp))
    · subst e
      rw [← hres]
      exact st
    · cases Y5 with
      | nil => exact absurd rfl e
      | cons c R =>
        rw [← hres]
        rfl
    · have := D5.addL (c := ⟨ps, tb⟩) hfs hqs3 eq5 i5
      rw [hfs, addCl_snoc]
      exact this
end
end Kx
namespace Kx
open PySem PySem.Spec PyProof.Rows L2
section
variable {P : Program} {w : World} {K : PySem.W.Frag} {mg : Str → Option Value} {base : Heap}
set_option pp.maxSteps 900
/-! ### a line -/
theorem pI_no {U : List Tok} {t : Tok} {R : List Tok} (e : U = t :: R) (h : U[1]? ≠ some [40]) : pI U = if t = cs "maker" then pMk R else if t = cs "family" then pFm R else if t = cs "con" then pCn R else if t = cs "fun" then pFn R else none := by
  subst e
  unfold pI
  rw [if_neg h]
theorem okx_take_line (T : Txt K mg) (G_take_maker : FnOk P w K mg base (L2.CX P w) 6 T.a_take_maker T.d_take_maker ["draft", "line"] (spATk T.c_Line T.c_Draft T.c_BadText 1 pMk)) (G_Line_take_word : FnOk P w K mg base (L2.CX P w) 5 T.a_Line_take_word T.d_Line_take_word ["self"] (spTakeWord T.c_Line T.c_BadText)) (G_take_constructor : FnOk P w K mg base (L2.CX P w) 89 T.a_take_constructor T.d_take_constructor ["draft", "line"] (spATk T.c_Line T.c_Draft T.c_BadText 1 pCn)) (G_take_function : FnOk P w K mg base (L2.CX P w) 89 T.a_take_function T.d_take_function ["draft", "line"] (spATk T.c_Line T.c_Draft T.c_BadText 1 pFn)) (G_Line_take : FnOk P w K mg base (L2.CX P w) 4 T.a_Line_take T.d_Line_take ["self"] (spTake T.c_Line T.c_BadText)) (G_take_clause : FnOk P w K mg base (L2.CX P w) 90 T.a_take_clause T.d_take_clause ["draft", "line"] (spATk T.c_Line T.c_Draft T.c_BadText 0 pCl)) (G_Line_refuse : FnOk P w K mg base (L2.CX P w) 3 T.a_Line_refuse T.d_Line_refuse ["self"] (spRefuse T.c_Line T.c_BadText)) : FnOk P w K mg base (L2.CX P w) 91 T.a_take_line T.d_take_line ["draft", "line"] (spATk T.c_Line T.c_Draft T.c_BadText 0 pI) := by
  refine T.F_take_line.okX sc_take_line (fun vs H Q E h => ?_) (fun cdv A outer s H vs Q E hr h => ?_)
  · obtain ⟨a, s, o, dx, l, n, U, rfl, _⟩ := h; rfl
  · obtain ⟨a, s, o, dx, l, n, U, rfl, D, L, no, nl, hB, hn, q⟩ := h
    have hr_Line_take_word : Room 5 _ := hr.mono (by decide)
    have hr_Line_take : Room 4 _ := hr.mono (by decide)
    have hr_Line_refuse : Room 3 _ := hr.mono (by decide)
    have hr_take_maker : Room 6 _ := hr.mono (by decide)
    have hr_take_constructor : Room 89 _ := hr.mono (by decide)
    have hr_take_function : Room 89 _ := hr.mono (by decide)
    have hr_take_clause : Room 90 _ := hr
    refine ⟨_, (pss_cons (ps_if (pt_cmpR (op_eqD (u64 hr)) (pe_slice sl_list (pe_fld (pv 1) rfl) (po_some pe_int) (po_some pe_int)) (pe_lst (pa_cons pe_str pa_nil)) (nomark _)) (pss_cons (ps_expr (pe_call G_take_clause hr_take_clause rfl T.m_take_clause T.F_take_clause.kp T.b_take_clause .nil (passes_call (takes_of rfl rfl rfl rfl) fun _ _ _ _ h => h) (pa_cons (pv 0) (pa_cons (pv 1) pa_nil))))
    (pss_one ps_retN)) pss_nil)
    (pss_cons (ps_set (i := 2) sc_take_line.nd rfl (Or.inl rfl) (pe_meth0 (pv 1) T.cl_Line T.me_Line_take G_Line_take hr_Line_take T.b_Line_take .nil (passes_call (takes_of rfl rfl rfl rfl) fun _ _ _ _ h => h)))
    (pss_one (ps_if (pt_cmpR op_eq (pv 2) pe_str (nomark _)) (pss_one (ps_expr (pe_call G_take_maker hr_take_maker rfl T.m_take_maker T.F_take_maker.kp T.b_take_maker .nil (passes_call (takes_of rfl rfl rfl rfl) fun _ _ _ _ h => h) (pa_cons (pv 0) (pa_cons (pv 1) pa_nil))))) (pss_one (ps_if (pt_cmpR op_eq (pv 2) pe_str (nomark _)) (pss_one (ps_expr (pe_bm PySem.F.plainAttrs_list PySem.F.slot_list_append PySem.F.type_list_append mt_append (pe_fld (pv 0) rfl) (pa_cons (pe_meth0 (pv 1) T.cl_Line T.me_Line_take_word G_Line_take_word hr_Line_take_word T.b_Line_take_word .nil (passes_call (takes_of rfl rfl rfl rfl) fun _ _ _ _ h => h)) pa_nil)))) (pss_one (ps_if (pt_cmpR op_eq (pv 2) pe_str (nomark _)) (pss_one (ps_expr (pe_call G_take_constructor hr_take_constructor rfl T.m_take_constructor T.F_take_constructor.kp T.b_take_constructor .nil (passes_call (takes_of rfl rfl rfl rfl) fun _ _ _ _ h => h) (pa_cons (pv 0) (pa_cons (pv 1) pa_nil))))) (pss_one (ps_if (pt_cmpR op_eq (pv 2) pe_str (nomark _)) (pss_one (ps_expr (pe_call G_take_function hr_take_function rfl T.m_take_function T.F_take_function.kp T.b_take_function .nil (passes_call (takes_of rfl rfl rfl rfl) fun _ _ _ _ h => h) (pa_cons (pv 0) (pa_cons (pv 1) pa_nil))))) (pss_one (ps_if (PW.pt (pw_and (pt_cmpR op_eq (pv 2) pe_str (nomark _)) (pw_and1 (pt_truth (pe_fld (pv 0) rfl) (by intro _; rfl))))) (pss_one ps_never) (pss_one (ps_expr (pe_meth0 (pv 1) T.cl_Line T.me_Line_refuse G_Line_refuse hr_Line_refuse T.b_Line_refuse .nil (passes_call (takes_of rfl rfl rfl rfl) fun _ _ _ _ h => h)))))))))))))))), ?_⟩
    rw [List.drop_zero] at q
    refine ⟨_, rfl, o, _, dx, _, _, rfl, L.ins, T.cl_Line, T.no_Line_tokens, rfl, _, rfl, _, rfl, l, _, rfl, SqL.of L.lst, fun p hp => ?_⟩
    have s1 := same_upd hp (.lst (cutV (U.map SV) (some 1) (some 2)))
    refine ⟨(by show 1 ≤ sizeLine; decide), fun p2 hp2 => ?_⟩
    have s2 := same_upd hp2 (.lst [V.str "("])
    have s12 := s1.trans s2
    have e0 := s2 _ _ (show upd H p (.lst (cutV (U.map SV) (some 1) (some 2))) p = some (.lst (cutV (U.map SV) (some 1) (some 2))) from upd_same)
    have dz : Dp K (upd (upd H p (.lst (cutV (U.map SV) (some 1) (some 2)))) p2 (.lst [V.str "("])) (.ref p2) (.list [.str "("]) := .lst (SqL.of upd_same) (.cons (.str _) .nil)
    generalize upd (upd H p (.lst (cutV (U.map SV) (some 1) (some 2)))) p2 (.lst [V.str "("]) = H2 at s12 e0 dz ⊢
    have L2 := L.same s12
    have D2 := D.same s12
    have key : ∃ dd ee, Dp K H2 (.ref p) dd ∧ Dp K H2 (.ref p2) ee ∧ SeqAt.shaped dd = true ∧ SeqAt.shaped ee = true ∧ dd.eqv ee = decide (U[1]? = some [40]) := by
      cases ht : U[1]? with
      | none =>
        have ec : cutV (U.map SV) (some 1) (some 2) = [] := by
          rcases Nat.lt_or_ge U.length 1 with h | h
          · have : U = [] := List.length_eq_zero_iff.mp (by omega)
            subst this; rfl
          · have := cut_one (U := U) (i := 1) h
            rw [ht] at this
            exact this
        rw [ec] at e0
        refine ⟨.list [], .list [.str "("], .lst (SqL.of e0) .nil, dz, rfl, one_shaped (by decide +kernel), ?_⟩
        simp [PyData.eqv, PyData.eqvAll]
      | some t =>
        have h1 : 1 ≤ U.length := by have := (List.getElem?_eq_some_iff.mp ht).1; omega
        have ec := cut_one (U := U) (i := 1) h1
        rw [ht] at ec
        rw [show cutV (U.map SV) (some 1) (some 2) = [SV t] from ec] at e0
        refine ⟨.list [.str (mkS t)], .list [.str "("], .lst (SqL.of e0) (.cons (.str _) .nil), dz, one_shaped (sok_ok (L.ok t (List.mem_of_getElem? ht)).1), one_shaped (by decide +kernel), ?_⟩
        rw [Bool.eq_iff_iff]
        simp only [PyData.eqv, PyData.eqvAll, Bool.and_true, beq_iff_eq, decide_eq_true_eq, Option.some.injEq]
        constructor
        · intro h; have := congrArg cs h; rw [cs_mk] at this; exact this
        · intro h; rw [h]; rfl
    obtain ⟨dd, ee, k1, k2, k3, k4, k5⟩ := key
    refine ⟨dd, ee, k1, k2, k3, k4, _, rfl, ?_⟩
    rw [k5]
    have fr2 : ∀ q, H2 q = none → H q = none := fun q h => s12.free h
    by_cases h40 : U[1]? = some [40]
    · rw [decide_eq_true h40]
      have e : pI U = pCl U := by unfold pI; rw [if_pos h40]
      rw [e] at q
      exact iteT ⟨_, rfl, _, rfl, a, s, o, dx, l, n, U, rfl, D2, L2, no, nl, hB, hn, by rw [List.drop_zero]; exact q.step (Lx.of s12).fx fr2⟩
    rw [decide_eq_false h40]
    refine iteF ⟨_, rfl, o, dx, _, rfl, L2.ins, rfl, o, dx, l, n, 0, U, rfl, L2, ?_⟩
    cases h0 : U[0]? with
    | none =>
      have : U = [] := by
        cases U with
        | nil => rfl
        | cons a R => simp at h0
      have e : pI U = none := by rw [this]; rfl
      rw [e] at q
      exact Out.bad q (Lx.of s12).fx
    | some t =>
    intro H3 x3 L3
    have D3 := D2.lx L2 x3 no
    obtain ⟨R, ed⟩ := drop_ex h0
    rw [List.drop_zero] at ed
    have eR : U.drop 1 = R := by rw [ed]; rfl
    rw [pI_no ed h40] at q
    have x23 : Fx o a.fp H H3 := ((Lx.of s12).trans x3).fx
    have fr3 : ∀ q, H3 q = none → H q = none := fun q h => by
      have hqo : q ≠ o := fun z => by rw [z, L3.ins] at h; cases h
      exact fr2 q (ne_own (u := .lst []) x3 hqo h)
    have q3 := q.step x23 fr3
    have L3 : LnAt T.c_Line o dx l n 1 U H3 := L3
    have nt : net (U.take 1) = net [t] := by rw [ed]; rfl
    refine ⟨_, rfl, rfl, _, rfl, ?_⟩
    rw [sv_lit]
    by_cases c1 : t = cs "maker"
    · rw [decide_eq_true c1]
      simp only [c1, if_true] at q3
      exact iteT ⟨_, rfl, _, rfl, a, s, o, dx, l, n, U, rfl, D3, L3, no, nl, hB, by rw [nt, c1]; decide, by rw [eR]; exact q3⟩
    rw [decide_eq_false c1]
    simp only [c1, if_false] at q3
    refine iteF ⟨_, rfl, rfl, _, rfl, ?_⟩
    rw [sv_lit]
    by_cases c2 : t = cs "family"
    · rw [decide_eq_true c2]
      simp only [c2, if_true] at q3
      refine iteT ⟨_, rfl, a.d, _, a.dx, _, _, rfl, D3.ins, T.cl_Draft, T.no_Draft_families, rfl, .inl ⟨rfl, _, SqL.of D3.fm⟩, _, rfl, o, dx, _, rfl, L3.ins, rfl, o, dx, l, n, 1, U, rfl, L3, fun z hz hw H4 x4 L4 => ?_, fun hno => ?_⟩
      · have D4 := D3.lx L3 x4 no
        obtain ⟨R2, ed2⟩ := drop_ex hz
        refine ⟨a.lf, _, _, rfl, rfl, D4.fm, by rw [List.length_map]; exact small7k (by have := hB.2.1; omega), ?_⟩
        refine Out.fin (a' := a) (s' := { s with fm := s.fm ++ [mkS z] }) (j := 2) (R := R2) q3 (get_drop ed2).2.1 (fun e => ?_) (fun e => ?_) rfl (D4.addF (isW_sok hw)) (.inl rfl) (L4.wr D4.fm (fun z => nl (by rw [← z]; simp [DA.fp]))) (x4.fx.trans (.wr (by simp [DA.fp])))
        · subst e
          rw [← eR, ed2]
          simp only [pFm, hw, if_true]
          rfl
        · rw [← eR, ed2]
          cases R2 with
          | nil => exact absurd rfl e
          | cons c R => rfl
      · have e : pFm R = none := by
          cases R with
          | nil => rfl
          | cons b R =>
            have := hno b (by rw [ed]; rfl)
            cases R with
            | nil => simp only [pFm, this, Bool.false_eq_true, if_false]
            | cons c R => rfl
        rw [e] at q3
        exact Out.bad q3 (Lx.refl o H3).fx
    rw [decide_eq_false c2]
    simp only [c2, if_false] at q3
    refine iteF ⟨_, rfl, rfl, _, rfl, ?_⟩
    rw [sv_lit]
    by_cases c3 : t = cs "con"
    · rw [decide_eq_true c3]
      simp only [c3, if_true] at q3
      exact iteT ⟨_, rfl, _, rfl, a, s, o, dx, l, n, U, rfl, D3, L3, no, nl, hB, by rw [nt, c3]; decide, by rw [eR]; exact q3⟩
    rw [decide_eq_false c3]
    simp only [c3, if_false] at q3
    refine iteF ⟨_, rfl, rfl, _, rfl, ?_⟩
    rw [sv_lit]
    by_cases c4 : t = cs "fun"
    · rw [decide_eq_true c4]
      simp only [c4, if_true] at q3
      exact iteT ⟨_, rfl, _, rfl, a, s, o, dx, l, n, U, rfl, D3, L3, no, nl, hB, by rw [nt, c4]; decide, by rw [eR]; exact q3⟩
    rw [decide_eq_false c4]
    simp only [c4, if_false] at q3
    refine iteF ⟨_, rfl, rfl, _, rfl, ?_⟩
    rw [sv_lit]
    have fin := Out.badS q3 (Lx.refl o H3).fx
    by_cases c5 : t = cs "ask"
    · rw [decide_eq_true c5]
      refine iteT ⟨_, rfl, a.d, _, a.dx, _, _, rfl, D3.ins, T.cl_Draft, T.no_Draft_asks, rfl, ?_⟩
      exact ⟨false, rfl, iteF ⟨_, rfl, o, dx, _, rfl, L3.ins, rfl, o, dx, _, n, rfl, L3.ins, rfl, fin⟩⟩
    · rw [decide_eq_false c5]
      exact iteF ⟨_, rfl, o, dx, _, rfl, L3.ins, rfl, o, dx, _, n, rfl, L3.ins, rfl, fin⟩
end
end Kx
namespace Kx
open PySem PySem.Spec PyProof.Rows L2
section
variable {P : Program} {w : World} {K : PySem.W.Frag} {mg : Str → Option Value} {base : Heap}
set_option pp.maxSteps 900
/-! ### all lines -/
theorem num_net {t : Tok} {k : Nat} (h : numV t = some k) : net [t] = 0 := by
  refine net_one (fun e => ?_) fun e => ?_
  · rw [e] at h; exact absurd h (by rw [show numV [40] = none by decide +kernel]; simp)
  · rw [e] at h; exact absurd h (by rw [show numV [41] = none by decide +kernel]; simp)
theorem nb_zero {t : Tok} {b : List Tok} (h : net [t] = 0) (k : Nb 0 40 b) : Nb 0 40 (t :: b) := .cons (by decide) (by rw [h]; exact k)
theorem Ate.app {C R : List Tok} (h : Ate C) (k : Nb 0 40 R) : Nb 0 40 (C ++ R) := h.nb.app (by rw [h.net]; exact k)
theorem pEnd_nb {R : List Tok} {k : Kd} (h : pEnd R = some k) : Nb 0 40 R := by
  cases R with
  | nil => cases h
  | cons a R =>
    by_cases ha : a = ARW
    · subst ha
      rw [pEnd_at] at h
      cases e : pK R with
      | none => rw [e] at h; cases h
      | some p =>
        obtain ⟨k', Y⟩ := p
        rw [e] at h
        cases Y with
        | cons b Y => cases h
        | nil =>
          obtain ⟨C, rfl, A, _⟩ := pK_eat e
          exact nb_zero (by decide) (A.app (.nil (by decide)))
    · simp only [pEnd, ha, if_false] at h; cases h
theorem pI_nb {U : List Tok} {it : Item} (h : pI U = some it) : Nb 0 40 U := by
  unfold pI at h
  split at h
  · cases U with
    | nil => cases h
    | cons w R =>
      by_cases hw : isW w = true
      · rw [pCl_at hw] at h
        refine nb_zero (w_net hw) ?_
        cases R with
        | nil => cases h
        | cons a R =>
          by_cases ha : a = [40]
          · subst ha
            simp only [pLs, if_true] at h
            cases e : pL (pT 40) (R.length + 1) R with
            | none => rw [e] at h; cases h
            | some p =>
              obtain ⟨ps, Y⟩ := p
              rw [e] at h
              obtain ⟨C, rfl, n1, b1, _⟩ := pL_eat (pT_eat 40) _ _ _ _ e
              cases Y with
              | nil => cases h
              | cons b Y =>
                by_cases hb : b = [61]
                · subst hb
                  simp only [if_true] at h
                  cases e2 : pT 41 Y with
                  | none => rw [e2] at h; cases h
                  | some p =>
                    obtain ⟨t, Z⟩ := p
                    rw [e2] at h
                    cases Z with
                    | cons c Z => cases h
                    | nil =>
                      obtain ⟨C2, rfl, E2, _⟩ := pT_eat 41 Y t [] e2
                      refine .cons (by decide) ?_
                      rw [net_40]
                      refine Nb.app (a := C) (b1.mono (by decide) (by decide)) ?_
                      rw [n1]
                      refine .cons (by decide) ?_
                      rw [show net [([61] : Tok)] = 0 by decide]
                      refine Nb.app (fun i => ?_) (.nil ?_)
                      · have := E2.nb i; omega
                      · rw [E2.net]; decide
                · simp only [hb, if_false] at h; cases h
          · simp only [pLs, ha, if_false] at h; cases h
      · cases R with
        | nil => cases h
        | cons a R => simp only [pCl, hw, if_false] at h; cases h
  · cases U with
    | nil => cases h
    | cons t R =>
      simp only at h
      split at h
      · rename_i e
        subst e
        refine nb_zero (by decide) ?_
        match R, h with
        | [w, n], h =>
          simp only [pMk] at h
          split at h
          · rename_i hw
            cases e : numV n with
            | none => rw [e] at h; cases h
            | some k => exact nb_zero (w_net hw) (nb_zero (num_net e) (.nil (by decide)))
          · cases h
      · split at h
        · rename_i e
          subst e
          refine nb_zero (by decide) ?_
          match R, h with
          | [w], h =>
            simp only [pFm] at h
            split at h
            · rename_i hw
              exact nb_zero (w_net hw) (.nil (by decide))
            · cases h
        · split at h
          · rename_i e
            subst e
            refine nb_zero (by decide) ?_
            match R, h with
            | w :: b :: X, h =>
              simp only [pCn] at h
              split at h
              · rename_i hw
                split at h
                · rename_i hb
                  subst hb
                  refine nb_zero (w_net hw) (nb_zero (by decide) ?_)
                  unfold pCon at h
                  cases e : pPs X with
                  | none => rw [e] at h; cases h
                  | some p =>
                    obtain ⟨ks, R2⟩ := p
                    rw [e] at h
                    simp only at h
                    cases e2 : pEnd R2 with
                    | none => rw [e2] at h; cases h
                    | some md =>
                      unfold pPs at e
                      split at e
                      · cases e; exact pEnd_nb e2
                      · obtain ⟨C, rfl, A, _⟩ := pKs_eat _ _ _ _ e
                        exact A.app (pEnd_nb e2)
                · cases h
              · cases h
          · split at h
            · rename_i e
              subst e
              refine nb_zero (by decide) ?_
              match R, h with
              | w :: b :: n :: c :: X, h =>
                simp only [pFn] at h
                split at h
                · rename_i hw
                  split at h
                  · rename_i hb
                    subst hb
                    cases en : numV n with
                    | none => rw [en] at h; cases h
                    | some k =>
                      rw [en] at h
                      simp only at h
                      split at h
                      · rename_i hc
                        subst hc
                        refine nb_zero (w_net hw) (nb_zero (by decide) (nb_zero (num_net en) (nb_zero (by decide) ?_)))
                        unfold pFun at h
                        cases e : pKs (X.length + 1) X with
                        | none => rw [e] at h; cases h
                        | some p =>
                          obtain ⟨ks, R2⟩ := p
                          rw [e] at h
                          simp only at h
                          cases e2 : pEnd R2 with
                          | none => rw [e2] at h; cases h
                          | some md =>
                            obtain ⟨C, rfl, A, _⟩ := pKs_eat _ _ _ _ e
                            exact A.app (pEnd_nb e2)
                      · cases h
                  · cases h
                · cases h
            · cases h
theorem rowS_bad {s : DS} {U : List Tok} (h : ¬ NetOk U) : rowS s U = none := by
  unfold rowS
  have ne : U ≠ [] := fun e => h (by rw [e]; exact fun i => by rw [List.take_nil, net_nil]; decide)
  rw [if_neg ne]
  cases e : pI U with
  | none => rfl
  | some it => exact absurd (pI_nb e).ok h
def DsN (s : DS) (n : Nat) : Prop := s.ms.length ≤ n ∧ s.fm.length ≤ n ∧ s.cn.length ≤ n ∧ s.fs.length ≤ n ∧ ∀ f ∈ s.fs, f.cls.length ≤ n
theorem DsN.up {s : DS} {n m : Nat} (h : DsN s n) (l : n ≤ m) : DsN s m := by
  obtain ⟨h1, h2, h3, h4, h5⟩ := h
  exact ⟨by omega, by omega, by omega, by omega, fun f hf => by have := h5 f hf; omega⟩
theorem pI_cls {U : List Tok} {x : Fn} (h : pI U = some (.h x)) : x.cls = [] := by
  unfold pI at h
  split at h
  · cases U with
    | nil => cases h
    | cons w R =>
      by_cases hw : isW w = true
      · rw [pCl_at hw] at h
        split at h
        · split at h
          · split at h
            · cases h
            · cases h
          · cases h
        · cases h
      · cases R with
        | nil => cases h
        | cons a R => simp only [pCl, hw, if_false] at h; cases h
  · cases U with
    | nil => cases h
    | cons t R =>
      simp only at h
      split at h
      · match R, h with
        | [w, n], h =>
          simp only [pMk] at h
          split at h
          · cases e : numV n with
            | none => rw [e] at h; cases h
            | some k => rw [e] at h; cases h
          · cases h
      · split at h
        · match R, h with
          | [w], h =>
            simp only [pFm] at h
            split at h <;> cases h
        · split at h
          · match R, h with
            | w :: b :: X, h =>
              simp only [pCn] at h
              split at h
              · split at h
                · unfold pCon at h
                  split at h
                  · rename_i R2 _
                    cases e2 : pEnd R2 with
                    | none => rw [e2] at h; cases h
                    | some md => rw [e2] at h; cases h
                  · cases h
                · cases h
              · cases h
          · split at h
            · match R, h with
              | w :: b :: n :: c :: X, h =>
                simp only [pFn] at h
                split at h
                · split at h
                  · cases en : numV n with
                    | none => rw [en] at h; cases h
                    | some k =>
                      rw [en] at h
                      simp only at h
                      split at h
                      · unfold pFun at h
                        split at h
                        · rename_i R2 _
                          cases e2 : pEnd R2 with
                          | none => rw [e2] at h; cases h
                          | some md => rw [e2] at h; cases h; rfl
                        · cases h
                      · cases h
                  · cases h
                · cases h
            · cases h
theorem DsN.row {s s' : DS} {U : List Tok} {n : Nat} (h : DsN s n) (e : rowS s U = some s') : DsN s' (n + 1) := by
  unfold rowS at e
  split at e
  · cases e; exact h.up (by omega)
  · obtain ⟨h1, h2, h3, h4, h5⟩ := h
    cases ei : pI U with
    | none => rw [ei] at e; cases e
    | some it =>
      rw [ei] at e
      have h5' : ∀ f ∈ s.fs, f.cls.length ≤ n + 1 := fun f hf => by have := h5 f hf; omega
      cases it with
      | m x => cases e; exact ⟨by simp; omega, by simp; omega, by simp; omega, by simp; omega, h5'⟩
      | f z => cases e; exact ⟨by simp; omega, by simp; omega, by simp; omega, by simp; omega, h5'⟩
      | c x => cases e; exact ⟨by simp; omega, by simp; omega, by simp; omega, by simp; omega, h5'⟩
      | h x =>
        cases e
        refine ⟨by simp; omega, by simp; omega, by simp; omega, by simp; omega, fun f hf => ?_⟩
        rcases List.mem_append.mp hf with hf | hf
        · exact h5' f hf
        · rw [List.mem_singleton.mp hf, pI_cls ei]; simp
      | l w x =>
        simp only [stp] at e
        cases eg : s.fs.getLast? with
        | none => rw [eg] at e; cases e
        | some f0 =>
          rw [eg] at e
          obtain ⟨fs0, hf0⟩ := List.getLast?_eq_some_iff.mp eg
          simp only at e
          split at e
          · cases e
            refine ⟨by simp; omega, by simp; omega, by simp; omega, ?_, fun f hf => ?_⟩
            · show (addCl s.fs x).length ≤ n + 1
              rw [hf0, addCl_snoc]
              rw [hf0] at h4
              simp only [List.length_append, List.length_singleton] at h4 ⊢
              omega
            · have hf : f ∈ addCl s.fs x := hf
              rw [hf0, addCl_snoc] at hf
              rcases List.mem_append.mp hf with hf | hf
              · exact h5' f (by rw [hf0]; exact List.mem_append_left _ hf)
              · rw [List.mem_singleton.mp hf]
                have := h5 f0 (by rw [hf0]; simp)
                simp only [List.length_append, List.length_singleton]
                omega
          · cases e
theorem ends_nl {l : List Nat} : Txt.endswith (mkS (l ++ [10])) "\n" = true := by
  unfold Txt.endswith
  rw [StrLaws.subAt_eq, mk_len, show (mkS (l ++ [10])).cps.toList = l ++ [10] from cs_mk _, show ("\n" : Str).length = 1 from rfl, show ("\n" : Str).cps.toList = [10] from rfl]
  simp
theorem full_end (ls : List (List Nat)) (h : ls ≠ []) : ∃ l, fullT ls = l ++ [10] := by
  obtain ⟨a, b, rfl⟩ : ∃ a b, ls = a ++ [b] := ⟨_, _, (List.dropLast_concat_getLast h).symm⟩
  exact ⟨fullT a ++ b, by rw [full_app]; simp [fullT]⟩
theorem full_rows : ∀ ls : List (List Nat), ls.length ≤ (fullT ls).length ∧ ∀ l ∈ ls, l.length ≤ (fullT ls).length
  | [] => ⟨Nat.le_refl _, fun l h => by cases h⟩
  | a :: r => by
    obtain ⟨h1, h2⟩ := full_rows r
    have e : fullT (a :: r) = a ++ [10] ++ fullT r := by simp [fullT]
    rw [e]
    refine ⟨?_, fun l hl => ?_⟩
    · simp only [List.length_append, List.length_cons, List.length_nil]; omega
    · rcases List.mem_cons.mp hl with rfl | hl
      · simp only [List.length_append, List.length_cons, List.length_nil]; omega
      · have := h2 l hl
        simp only [List.length_append, List.length_cons, List.length_nil]; omega
/-- what stands behind: a text that ends so is no full one -/
theorem ends_no {l z : List Nat} (hz : z ≠ []) (h : 10 ∉ z) : Txt.endswith (mkS (l ++ z)) "\n" = false := by
  obtain ⟨a, b, rfl⟩ : ∃ a b, z = a ++ [b] := ⟨_, _, (List.dropLast_concat_getLast hz).symm⟩
  have hb : b ≠ 10 := fun e => h (by rw [e]; simp)
  unfold Txt.endswith
  rw [StrLaws.subAt_eq, mk_len, show (mkS (l ++ (a ++ [b]))).cps.toList = l ++ (a ++ [b]) from cs_mk _, show ("\n" : Str).length = 1 from rfl, show ("\n" : Str).cps.toList = [10] from rfl]
  rw [← List.append_assoc, List.length_append, List.length_singleton]
  simp [hb]
end
end Kx
namespace Kx
open PySem PySem.Spec PyProof.Rows L2
section
variable {P : Program} {w : World} {K : PySem.W.Frag} {mg : Str → Option Value} {base : Heap}
set_option pp.maxSteps 900
def drf (ls : List (List Nat)) (z : List Nat) : Except Nat DS := match rowsS 1 s0 (ls.map toks) with
  | .error n => .error n
  | .ok s => if z = [] then .ok s else .error (ls.length + 1)
def NoRows (K : PySem.W.Frag) (H : Hp) (v : V) : Prop := (∃ u : Value, TyX K H v u ∧ PySem.W.kitOne K u (.type "str") = some false) ∨ (∃ z : Str, v = .str z ∧ 6000 < z.length ∧ z.length ≤ 20000) ∨ ∃ a b : List Nat, v = SV (a ++ 9 :: b) ∧ (a ++ 9 :: b).length ≤ 6000 ∧ ∀ c ∈ a, c = 10 ∨ okr c
def spADrafted (K : PySem.W.Frag) (CD B : Addr) : Sp := fun vs H Q E => ∃ v : V, vs = [v, .bl false] ∧
  ((Bad B 0 (Same H) E ∧ NoRows K H v) ∨ ∃ (ls : List (List Nat)) (z : List Nat), v = SV (fullT ls ++ z) ∧ (fullT ls ++ z).length ≤ 6000 ∧ (∀ l ∈ ls, OkR l) ∧ OkR z ∧
    match drf ls z with
    | .error n => Bad B (n : Int) (Same H) E
    | .ok s => ∀ a H', DfAt CD a s H' → Same H H' → DsN s 6000 → Q (.ref a.d) H')
theorem rowsS_cons (n : Nat) (s : DS) (U : List Tok) (r : List (List Tok)) : rowsS n s (U :: r) = match rowS s U with
    | some s' => rowsS (n + 1) s' r
    | none => .error n := rfl
theorem okx_drafted (T : Txt K mg) (G_Line_finish : FnOk P w K mg base (L2.CX P w) 4 T.a_Line_finish T.d_Line_finish ["self"] (spFinish T.c_Line T.c_BadText)) (G_take_line : FnOk P w K mg base (L2.CX P w) 91 T.a_take_line T.d_take_line ["draft", "line"] (spATk T.c_Line T.c_Draft T.c_BadText 0 pI)) (G_Line_init : FnOk P w K mg base (L2.CX P w) 4 T.a_Line_init T.d_Line_init ["self", "row", "number"] (spLInit T.c_Line T.c_BadText)) (G_Draft_init : FnOk P w K mg base CX0 1 T.a_Draft_init T.d_Draft_init ["self", "asks"] (spDInit T.c_Draft)) (G_rows_of : FnOk P w K mg base (L2.CX P w) 3 T.a_rows_of T.d_rows_of ["text"] (spRowsOf (K := K) T.c_BadText)) : FnOk P w K mg base (L2.CX P w) 92 T.a_drafted T.d_drafted ["text", "asks"] (spADrafted K T.c_Draft T.c_BadText) := by
  refine T.F_drafted.okX sc_drafted (fun vs H Q E h => ?_) (fun cdv A outer s H vs Q E hr h => ?_)
  · obtain ⟨v, rfl, _⟩ := h; rfl
  · obtain ⟨v, rfl, hor⟩ := h
    have hr_Line_finish : Room 4 _ := hr.mono (by decide)
    have hr_take_line : Room 91 _ := hr
    have hr_Line_init : Room 5 _ := hr.mono (by decide)
    have hr_Draft_init : Room 2 _ := hr.mono (by decide)
    have hr_rows_of : Room 3 _ := hr.mono (by decide)
    refine ⟨_, (pss_cons (ps_set (i := 2) sc_drafted.nd rfl (Or.inl rfl) (pe_call G_rows_of hr_rows_of rfl T.m_rows_of T.F_rows_of.kp T.b_rows_of .nil (passes_call (takes_of rfl rfl rfl rfl) fun _ _ _ _ h => h) (pa_cons (pv 0) pa_nil)))
    (pss_cons (ps_set (i := 3) sc_drafted.nd rfl (Or.inl rfl) (pe_make T.mk_Draft G_Draft_init hr_Draft_init rfl T.mg_Draft T.b_Draft_init .nil pass0 (pa_cons (pv 1) pa_nil)))
    (pss_cons (ps_for (passes_of rfl) rfl (pi_enumS (by rfl) T.z_enumerate (pa_cons (pv 2) pa_nil) (pk_cons pe_int pk_nil)) (pg_tup rfl (pgs_cons (pg_name (i := 4) sc_drafted.nd rfl (Or.inl rfl)) (pgs_cons (pg_name (i := 5) sc_drafted.nd rfl (Or.inl rfl)) pgs_nil)))
    (pss_cons (ps_set (i := 6) sc_drafted.nd rfl (Or.inl rfl) (pe_make T.mk_Line G_Line_init hr_Line_init rfl T.mg_Line T.b_Line_init .nil (passes_call (takes_of rfl rfl rfl rfl) fun _ _ _ _ h => h) (pa_cons (pv 5) (pa_cons (pv 4) pa_nil))))
    (pss_one (ps_if (pt_truth (pe_fld (pv 6) rfl) (by intro _; rfl)) (pss_cons (ps_expr (pe_call G_take_line hr_take_line rfl T.m_take_line T.F_take_line.kp T.b_take_line .nil (passes_call (takes_of rfl rfl rfl rfl) fun _ _ _ _ h => h) (pa_cons (pv 3) (pa_cons (pv 6) pa_nil))))
    (pss_one (ps_expr (pe_meth0 (pv 6) T.cl_Line T.me_Line_finish G_Line_finish hr_Line_finish T.b_Line_finish .nil (passes_call (takes_of rfl rfl rfl rfl) fun _ _ _ _ h => h))))) pss_nil))))
    (pss_cons (ps_if (PW.pt (pw_and (pt_truth (pv 0) (by intro _; rfl)) (pw_and1 (pt_not (pt_val (pe_m1 PySem.F.slot_str_endswith PySem.F.type_str_endswith mt_endswith (pv 0) pe_str)))))) (pss_one (ps_raiseB rfl T.low_BadText hr (takes_of rfl rfl rfl rfl) (pa_cons (pe_op op_add (pe_callB call_len_seq (by rfl) T.z_len (by decide +kernel) (pa_cons (pv 2) pa_nil)) pe_int) pa_nil))) pss_nil)
    (pss_one (ps_ret (pv 3))))))), ?_⟩
    rcases hor with ⟨q, hb⟩ | ⟨ls, z, rfl, hlen, hok, hz, q⟩
    · refine ⟨_, rfl, .inr ⟨q, ?_⟩⟩
      rcases hb with ⟨u, ty, kt⟩ | ⟨z, rfl, h1, h2⟩ | ⟨a, b, rfl, h1, h2⟩
      · exact .inl ⟨v, u, rfl, ty, kt⟩
      · exact .inr (.inl ⟨z, rfl, h1, h2⟩)
      · exact .inr (.inr ⟨a, b, rfl, h1, h2⟩)
    obtain ⟨hn1, hn2⟩ := full_rows ls
    have hfl : (fullT ls).length ≤ 6000 := by rw [List.length_append] at hlen; omega
    unfold drf at q
    generalize hres : rowsS 1 s0 (ls.map toks) = res at q
    refine ⟨_, rfl, .inl ⟨ls, z, rfl, hlen, hok, hz, fun pr H1 s1 n1 e1 => ?_⟩⟩
    refine ⟨_, rfl, fun d dx hd hdx ndx => ?_⟩
    refine ⟨d, dx, rfl, upd_same, fun a H2 ed edx eqs D2 hfp x2 => ⟨rfl, ?_⟩⟩
    have k12 : ∀ b u, H1 b = some u → H2 b = some u := fun b u h => x2 b u (ne_of_none h hd) (by rw [upd_ne (ne_of_none h hd), upd_ne (ne_of_none h hdx)]; exact h)
    have s12 : Same H H2 := fun b u h => k12 b u (s1 b u h)
    have fpn : ∀ b ∈ a.fp, H1 b = none := fun b hb => by
      have h := hfp b hb
      cases e : H1 b with
      | none => rfl
      | some u =>
        rw [upd_ne (ne_of_none e hd), upd_ne (ne_of_none e hdx), e] at h
        cases h
    refine ⟨_, rfl, pr, _, rfl, SqL.of (k12 _ _ e1), ?_⟩
    refine for_enumS (K := K) (a := pr) (xs := ls.map SV) (fun i σ H' => ∃ (b : DA) (s : DS) (y4 y5 y6 : Option V), σ = [some (SV (fullT ls ++ z)), some (.bl false), some (.ref pr), some (.ref d), y4, y5, y6] ∧ b.d = d ∧ DfAt T.c_Draft b s H' ∧ DsN s i ∧ rowsS (i + 1) s ((ls.map toks).drop i) = res ∧ H' pr = some (.lst (ls.map SV)) ∧ pr ∉ b.fp ∧ (∀ c ∈ b.fp, H c = none) ∧ Same H H') ?_ ?_ ?_ ?_
    · refine ⟨a, s0, _, _, _, by rw [← ed]; rfl, ed, D2, ⟨Nat.le_refl _, Nat.le_refl _, Nat.le_refl _, Nat.le_refl _, fun f h => by cases h⟩, hres, k12 _ _ e1, fun w => ?_, fun c hc => s1.free (fpn c hc), s12⟩
      have := fpn pr w
      rw [e1] at this; cases this
    · exact fun i σ H' ⟨_, _, _, _, _, _, _, _, _, _, e, _⟩ => SqL.of e
    · rintro i x t σ H3 hx ⟨b, s, y4, y5, y6, rfl, eb, D3, N3, hrs, e3, npr, hb, s3⟩ ht
      obtain ⟨r, hit, rfl⟩ := map_at hx
      have hi := (List.getElem?_eq_some_iff.mp hit).1
      have hRok := hok r (List.mem_of_getElem? hit)
      have hRl : r.length ≤ 6000 := Nat.le_trans (hn2 r (List.mem_of_getElem? hit)) hfl
      have hdrop : (ls.map toks).drop i = toks r :: (ls.map toks).drop (i + 1) := by
        have h2 : (ls.map toks)[i]? = some (toks r) := by rw [List.getElem?_map, hit]; rfl
        obtain ⟨h3, h4⟩ := List.getElem?_eq_some_iff.mp h2
        rw [List.drop_eq_getElem_cons h3, h4]
      rw [hdrop, rowsS_cons] at hrs
      have st := same_upd ht (.tup [.int (1 + (i : Int)), SV r])
      refine ⟨t, _, rfl, .inl (.inl upd_same), rfl, _, _, rfl, _, _, rfl, rfl, ?_⟩
      refine ⟨_, rfl, _, rfl, fun o dx2 ho hdx2 ndx2 => ?_⟩
      have so : ∀ {H4 : Hp}, Lx o (upd (upd (upd H3 t (.tup [.int (1 + (i : Int)), SV r])) dx2 (.own o)) o (.ins T.c_Line dx2 [])) H4 → Same (upd H3 t (.tup [.int (1 + (i : Int)), SV r])) H4 := fun {H4} x4 c u h =>
        x4 c u (ne_of_none h ho) (by rw [upd_ne (ne_of_none h ho), upd_ne (ne_of_none h hdx2)]; exact h)
      have ho3 : H o = none := (s3.trans st).free ho
      have badAt : rowS s (toks r) = none → ∀ {R : Hp → Prop}, (∀ H', R H' → Same H H') → Bad T.c_BadText (1 + (i : Int)) R E := fun h R k => by
        rw [h] at hrs
        rw [← hrs] at q
        have q : Bad T.c_BadText ((i + 1 : Nat) : Int) (Same H) E := q
        rw [show (1 + (i : Int)) = ((i + 1 : Nat) : Int) by omega]
        exact q.imp k
      refine ⟨o, dx2, 1 + (i : Int), r, rfl, upd_same, hRok, hRl, fun hN l H4 nl x4 L4 => ⟨rfl, ?_⟩, fun hN => badAt (rowS_bad hN) fun H' x' => s3.trans (st.trans (so x'))⟩
      have k34 : Same H3 H4 := st.trans (so x4)
      have D4 := D3.same k34
      have nod : o ≠ b.d := fun z => by
        have := st _ _ D3.ins
        rw [← z, ho] at this; cases this
      have nlf : l ∉ b.fp := fun z => by
        obtain ⟨xs, e⟩ := D3.lst l z
        have e2 := st _ _ e
        rw [upd_ne (ne_of_none e2 ho), upd_ne (ne_of_none e2 hdx2), e2] at nl
        cases nl
      have e4 := k34 _ _ e3
      have hpo : pr ≠ o := fun z => by rw [z, L4.ins] at e4; cases e4
      have s34 : Same H H4 := s3.trans k34
      by_cases hU : toks r = []
      · rw [hU] at L4 hrs
        have hrs : rowsS (i + 1 + 1) s ((ls.map toks).drop (i + 1)) = res := hrs
        exact ⟨_, rfl, o, _, dx2, _, _, rfl, L4.ins, T.cl_Line, T.no_Line_tokens, rfl, false, .inl ⟨_, SqL.of L4.lst, rfl⟩, iteF ⟨b, s, _, _, _, rfl, eb, D4, N3.up (by omega), hrs, e4, npr, hb, s34⟩⟩
      refine ⟨_, rfl, o, _, dx2, _, _, rfl, L4.ins, T.cl_Line, T.no_Line_tokens, rfl, true, .inl ⟨_, SqL.of L4.lst, ?_⟩, iteT ?_⟩
      · cases e : toks r with
        | nil => exact absurd e hU
        | cons a b => rfl
      have il : i ≤ 6000 := by omega
      have hB : DsB s := by
        obtain ⟨h1, h2, h3, h4, h5⟩ := N3
        exact ⟨by omega, by omega, by omega, by omega, fun f hf => by have := h5 f hf; omega⟩
      have erow : rowS s (toks r) = (pI (toks r)).bind (stp s) := by
        unfold rowS
        rw [if_neg hU]
        cases pI (toks r) <;> rfl
      have s5f : ∀ {H5 : Hp}, Fx o b.fp H4 H5 → Same H H5 := fun {H5} x5 c u h => by
        have h3 := s3 c u h
        refine x5 c u (fun w => ?_) (fun w => ?_) (k34 c u h3)
        · rw [w, ho3] at h; cases h
        · have := hb c w
          rw [h] at this; cases this
      refine ⟨_, rfl, _, rfl, b, s, o, dx2, l, _, toks r, by rw [eb]; rfl, D4, L4, nod, nlf, hB, rfl, ?_⟩
      rw [List.drop_zero, ← erow]
      cases er : rowS s (toks r) with
      | none =>
        refine ⟨badAt er fun H' x' => s5f x', fun j H5 nj L5 x5 => ?_⟩
        exact ⟨_, rfl, o, dx2, _, rfl, L5.ins, rfl, o, dx2, l, _, j, toks r, rfl, L5, fun h => absurd h nj, fun _ => badAt er fun H' x' => (s5f x5).trans x'⟩
      | some s' =>
        rw [er] at hrs
        have hrs : rowsS (i + 1 + 1) s' ((ls.map toks).drop (i + 1)) = res := hrs
        intro b' H5 eb' D5 hor L5 x5
        refine ⟨_, rfl, o, dx2, _, rfl, L5.ins, rfl, o, dx2, l, _, _, toks r, rfl, L5, fun _ => ?_, fun h => absurd rfl h⟩
        have e5 := x5 pr _ hpo npr e4
        refine ⟨b', s', _, _, _, rfl, by rw [eb', eb], D5, N3.row er, hrs, e5, ?_, ?_, s5f x5⟩
        · rcases hor with rfl | ⟨q2, rfl, hq2⟩
          · exact npr
          · intro z
            have : pr ∈ b.fp ∨ pr = q2 := by
              unfold DA.fp at z ⊢
              simp only [List.mem_cons, List.mem_append, List.not_mem_nil, or_false] at z ⊢
              rcases z with h | h | h | h | h | h
              · exact .inl (.inl h)
              · exact .inl (.inr (.inl h))
              · exact .inl (.inr (.inr (.inl h)))
              · exact .inl (.inr (.inr (.inr (.inl h))))
              · exact .inl (.inr (.inr (.inr (.inr h))))
              · exact .inr h
            rcases this with h | h
            · exact npr h
            · rw [h] at e4; rw [hq2] at e4; cases e4
        · rcases hor with rfl | ⟨q2, rfl, hq2⟩
          · exact hb
          · intro c hc
            have : c ∈ b.fp ∨ c = q2 := by
              unfold DA.fp at hc ⊢
              simp only [List.mem_cons, List.mem_append, List.not_mem_nil, or_false] at hc ⊢
              rcases hc with h | h | h | h | h | h
              · exact .inl (.inl h)
              · exact .inl (.inr (.inl h))
              · exact .inl (.inr (.inr (.inl h)))
              · exact .inl (.inr (.inr (.inr (.inl h))))
              · exact .inl (.inr (.inr (.inr (.inr h))))
              · exact .inr h
            rcases this with h | h
            · exact hb c h
            · rw [h]; exact s34.free hq2
    · rintro σ H3 ⟨b, s, y4, y5, y6, rfl, eb, D3, N3, hrs, e3, npr, hb, s3⟩
      rw [List.length_map] at N3 hrs
      rw [List.drop_eq_nil_of_le (by rw [List.length_map]; exact Nat.le_refl _)] at hrs
      have hrs : Except.ok s = res := hrs
      rw [← hrs] at q
      have q : (match (if z = [] then Except.ok s else Except.error (ls.length + 1) : Except Nat DS) with
        | .error n => Bad T.c_BadText (n : Int) (Same H) E
        | .ok s => ∀ a H', DfAt T.c_Draft a s H' → Same H H' → DsN s 6000 → Q (.ref a.d) H') := q
      have lT : (mkS (fullT ls ++ z)).length = (fullT ls ++ z).length := mk_len _
      by_cases hz0 : z = []
      · rw [if_pos hz0] at q
        subst hz0
        have fin := q b H3 D3 s3 (N3.up (by omega))
        rw [eb] at fin
        by_cases hl0 : ls = []
        · subst hl0
          exact ⟨_, rfl, false, ⟨by rw [lT]; exact small7 (by omega), rfl⟩, iteF (iteF ⟨_, rfl, fin⟩)⟩
        · obtain ⟨l, hl⟩ := full_end ls hl0
          refine ⟨_, rfl, true, ⟨by rw [lT]; exact small7 (by omega), by rw [lT, List.append_nil, hl, List.length_append, List.length_singleton]; exact (bne_iff_ne.mpr (by omega)).symm⟩, iteT ⟨_, rfl, ⟨_, rfl⟩, _, _, rfl, rfl, _, rfl, ?_⟩⟩
          rw [show Txt.endswith (mkS (fullT ls ++ [])) "\n" = true by rw [List.append_nil, hl]; exact ends_nl]
          exact iteF ⟨_, rfl, fin⟩
      · rw [if_neg hz0] at q
        refine ⟨_, rfl, true, ⟨by rw [lT]; exact small7 (by omega), ?_⟩, iteT ⟨_, rfl, ⟨_, rfl⟩, _, _, rfl, rfl, _, rfl, ?_⟩⟩
        · rw [lT, List.length_append]
          have := List.length_pos_iff.mpr hz0
          exact (bne_iff_ne.mpr (by omega)).symm
        rw [show Txt.endswith (mkS (fullT ls ++ z)) "\n" = false from ends_no hz0 (ok_no10 hz)]
        refine iteT ⟨_, rfl, pr, _, rfl, .inl (SqL.of e3), _, _, rfl, rfl, _, rfl, fun dd hdd => ?_⟩
        have q : Bad T.c_BadText ((ls.length + 1 : Nat) : Int) (Same H) E := q
        have h1 : ((((ls.map SV).length : Nat) : Int) + 1) = ((ls.length + 1 : Nat) : Int) := by rw [List.length_map]; omega
        exact q dd _ (by rw [upd_same]; show some (lineD (.int ((((ls.map SV).length : Nat) : Int) + 1))) = _; rw [h1]) (s3.trans (same_upd hdd _))
end
end Kx
namespace Kx
open PySem PySem.Spec PyProof.Rows L2
section
variable {P : Program} {w : World} {K : PySem.W.Frag} {mg : Str → Option Value} {base : Heap}
set_option pp.maxSteps 1200
/-! ### what the declarations make of a draft -/
def HasD (H : Hp) (p : Addr) (ws : List Str) : Prop := ∃ kvs : List (Key × V), H p = some (.dK kvs) ∧ ∀ z : Str, (valV kvs (Sum.inr z)).isSome = decide (z ∈ ws)
theorem HasD.same {H H' : Hp} {p : Addr} {ws : List Str} (h : HasD H p ws) (s : Same H H') : HasD H' p ws := by
  obtain ⟨kvs, e, k⟩ := h
  exact ⟨kvs, s _ _ e, k⟩
theorem RwT.cases {n : Nat} : ∀ {t : PV}, RwT (n + 1) t → (∃ z, t = .str z) ∨ ∃ w r, t = .tup (.str w :: r) ∧ r.length ≤ 6000 ∧ ∀ t ∈ r, RwT n t
  | .str z, _ => .inl ⟨z, rfl⟩
  | .tup (.str w :: r), h => .inr ⟨w, r, rfl, h.2.2.1, h.2.2.2⟩
theorem RwT.up : ∀ {n : Nat} {t : PV}, RwT n t → RwT (n + 1) t
  | n + 1, .str _, h => h
  | n + 1, .tup (.str _ :: _), h => ⟨h.1, h.2.1, h.2.2.1, fun t ht => (h.2.2.2 t ht).up⟩
def kdD (ws : List Str) (k : Kd) : PV := .tup [.str k.fam, dcl ws k.tm]
def clD (ws : List Str) (c : Cl) : PV := .tup [.tup (c.ps.map (dcl ws)), dcl ws c.b]
/-! #### expressions that make values -/
def VxE (σ : L2.St) (H0 : Hp) (te : TE) (t : PV) : Prop := ∀ (H : Hp) (Q : VK), Same H0 H → (∀ v H', Is H' v t → Same H H' → Q v H') → te σ H Q
def VsE (σ : L2.St) (H0 : Hp) (ta : TA) (ts : List PV) : Prop := ∀ (H : Hp) (Q : List V → Hp → Prop), Same H0 H → (∀ vs H', IsL H' vs ts → Same H H' → Q vs H') → ta σ H Q
def VlE (σ : L2.St) (H0 : Hp) (te : TE) (ts : List PV) : Prop := ∀ (H : Hp) (Q : VK), Same H0 H → (∀ D vs H', H D = none → H' D = some (.lst vs) → IsL H' vs ts → Same H H' → Q (.ref D) H') → te σ H Q
theorem vx_var {σ : L2.St} {H0 : Hp} {i : Nat} {v : V} {t : PV} (e : σ[i]? = some (some v)) (h : Is H0 v t) : VxE σ H0 (tVar i) t := fun H Q s q => ⟨_, e, q v H (h.same s) (.refl _)⟩
theorem vx_str {σ : L2.St} {H0 : Hp} {i : Nat} {z : Str} (e : σ[i]? = some (some (.str z))) (ok : sok z = true) : VxE σ H0 (tVar i) (.str z) := vx_var e (.str z ok)
theorem vx_int {σ : L2.St} {H0 : Hp} {i : Nat} {z : Int} (e : σ[i]? = some (some (.int z))) : VxE σ H0 (tVar i) (.int z) := vx_var e (.int z)
theorem vx_lit {σ : L2.St} {H0 : Hp} {z : Str} (ok : sok z = true) : VxE σ H0 (tC (.str z)) (.str z) := fun H Q s q => q _ H (.str z ok) (.refl _)
theorem vs_nil {σ : L2.St} {H0 : Hp} : VsE σ H0 tNil [] := fun H Q s q => q [] H .nil (.refl _)
theorem vs_cons {σ : L2.St} {H0 : Hp} {te : TE} {ta : TA} {t : PV} {ts : List PV} (a : VxE σ H0 te t) (b : VsE σ H0 ta ts) : VsE σ H0 (tCons te ta) (t :: ts) := fun H Q s q =>
  a H _ s fun v H1 i1 s1 => b H1 _ (s.trans s1) fun vs H2 i2 s2 => q (v :: vs) H2 (.cons (i1.same s2) i2) (s1.trans s2)
theorem vx_tup {σ : L2.St} {H0 : Hp} {ta : TA} {ts : List PV} (a : VsE σ H0 ta ts) (l : ts.length ≤ 6000) : VxE σ H0 (tTup ta) (.tup ts) := fun H Q s q =>
  a H _ s fun vs H1 i1 s1 => ⟨by rw [i1.len]; exact Nat.le_of_lt (small7k (Nat.le_trans l (by decide))), fun p hp => q (.ref p) _ (.tup upd_same (i1.same (same_upd hp _))) (s1.trans (same_upd hp _))⟩
theorem go_vx {σ : L2.St} {H : Hp} {te : TE} {t : PV} {g : TG} {rest : TS} {D : Ends} (h : VxE σ H te t) (q : ∀ v H1, Is H1 v t → Same H H1 → g v σ H1 fun σ2 H2 => rest D σ2 H2) : tSeq (tAsg te g) rest D σ H := h H _ (.refl _) q
theorem VxE.go {σ : L2.St} {H : Hp} {te : TE} {t : PV} (h : VxE σ H te t) {Q : VK} (q : ∀ v H', Is H' v t → Same H H' → Q v H') : te σ H Q := h H Q (.refl _) q
theorem go_v1 {σ : L2.St} {H : Hp} {te : TE} {t : PV} {R : List V → Hp → Prop} (h : VxE σ H te t) (q : ∀ v H', Is H' v t → Same H H' → R [v] H') : tCons te tNil σ H R := h H _ (.refl _) q
theorem go_vl {σ : L2.St} {H : Hp} {te : TE} {ts : List PV} {g : TG} {rest : TS} {D : Ends} (h : VlE σ H te ts) (q : ∀ D1 vs H1, H D1 = none → H1 D1 = some (.lst vs) → IsL H1 vs ts → Same H H1 → g (.ref D1) σ H1 fun σ2 H2 => rest D σ2 H2) : tSeq (tAsg te g) rest D σ H := h H _ (.refl _) q
theorem go_retB {r : List V → Hp → VK → Prop} {ta : TA} {D : Ends} {σ : L2.St} {H : Hp} (h : ta σ H fun vs H1 => r vs H1 D.rt) : tRet (tCB r ta) D σ H := h
theorem go_vl1 {σ : L2.St} {H : Hp} {te : TE} {ts : List PV} {R : List V → Hp → Prop} (h : VlE σ H te ts) (q : ∀ D1 vs H1, H D1 = none → H1 D1 = some (.lst vs) → IsL H1 vs ts → Same H H1 → R [.ref D1] H1) : tCons te tNil σ H R := h H _ (.refl _) q
/-- a list of what is made of a tuple's items -/
theorem vl_lcT {K : PySem.W.Frag} {σ : L2.St} {H0 : Hp} {tl te : TE} {xs : List V} {L : List PV} {k : Nat} (ht : TlE K σ H0 tl xs) (hl : L.length = xs.length) (hb : xs.length ≤ 6000)
    (hs : ∀ (i : Nat) (x : V) (y : PV) (H' : Hp), xs[i]? = some x → L[i]? = some y → Same H0 H' → VxE ((σ.set k none).set k (some x)) H' te y) :
    VlE σ H0 (tLc (iTup K tl) (gName k) tYes te [k]) L := fun H Q s q => by
  refine ht H _ s fun a H1 s1 ha => ⟨a, rfl, ⟨xs, ha⟩, fun D hD => ?_⟩
  refine lc_tup (K := K) (a := a) (xs := xs) (fun i H4 => Same H1 H4 ∧ ∃ vs, H4 D = some (.lst vs) ∧ IsL H4 vs (L.take i)) ?_ ?_ ?_ ?_
  · exact ⟨same_upd hD _, [], upd_same, .nil⟩
  · exact fun i H' _ ⟨s, _⟩ => sqt_same s ha
  · rintro i x H4 hx ⟨s4, vs, e4, i4⟩
    have hi := (List.getElem?_eq_some_iff.mp hx).1
    have hy : L[i]? = some (L[i]'(by omega)) := List.getElem?_eq_getElem _
    refine ⟨by show ((σ.set k none).set k (some x)).set k none = σ.set k none; simp only [List.set_set], yes_if ?_⟩
    refine hs i x _ H4 hx hy ((s.trans s1).trans s4) H4 _ (.refl _) fun v H5 iv s5 => ⟨_, s5 _ _ e4, ?_, Kx.Same.own (s4.trans s5) hD _, vs ++ [v], upd_same, ?_⟩
    · rw [i4.len]; exact small7k (by have : (L.take i).length ≤ i := List.length_take_le ..; omega)
    · rw [List.take_add_one, hy]
      exact IsL.over (s5 _ _ e4) ((i4.same s5).append (.cons iv .nil))
  · rintro H4 ⟨s4, vs, e4, i4⟩
    rw [← hl, List.take_length] at i4
    exact q D vs H4 (s1.free hD) e4 i4 (s1.trans s4)
/-- a list of what is made of a tuple's pairs -/
theorem vl_lcP {K : PySem.W.Frag} {σ : L2.St} {H0 : Hp} {tl te : TE} {xs : List V} {L : List PV} {i1 i2 : Nat} (ht : TlE K σ H0 tl xs) (hl : L.length = xs.length) (hb : xs.length ≤ 6000)
    (hw : ∀ u v, wipe (((wipe σ [i1, i2]).set i1 (some u)).set i2 (some v)) [i1, i2] = wipe σ [i1, i2])
    (hs : ∀ (i : Nat) (x : V) (y : PV) (H' : Hp), xs[i]? = some x → L[i]? = some y → Same H0 H' → ∃ p u v, x = .ref p ∧ SqT K H' p [u, v] ∧ VxE (((wipe σ [i1, i2]).set i1 (some u)).set i2 (some v)) H' te y) :
    VlE σ H0 (tLc (iTup K tl) (gTup K 2 (gCons (gName i1) (gCons (gName i2) gNil))) tYes te [i1, i2]) L := fun H Q s q => by
  refine ht H _ s fun a H1 s1 ha => ⟨a, rfl, ⟨xs, ha⟩, fun D hD => ?_⟩
  refine lc_tup (K := K) (a := a) (xs := xs) (fun i H4 => Same H1 H4 ∧ ∃ vs, H4 D = some (.lst vs) ∧ IsL H4 vs (L.take i)) ?_ ?_ ?_ ?_
  · exact ⟨same_upd hD _, [], upd_same, .nil⟩
  · exact fun i H' _ ⟨s, _⟩ => sqt_same s ha
  · rintro i x H4 hx ⟨s4, vs, e4, i4⟩
    have hi := (List.getElem?_eq_some_iff.mp hx).1
    have hy : L[i]? = some (L[i]'(by omega)) := List.getElem?_eq_getElem _
    obtain ⟨p, u, v, rfl, hp, htx⟩ := hs i x _ H4 hx hy ((s.trans s1).trans s4)
    refine ⟨p, _, rfl, hp, rfl, _, _, rfl, _, _, rfl, rfl, hw u v, yes_if ?_⟩
    refine htx H4 _ (.refl _) fun v H5 iv s5 => ⟨_, s5 _ _ e4, ?_, Kx.Same.own (s4.trans s5) hD _, vs ++ [v], upd_same, ?_⟩
    · rw [i4.len]; exact small7k (by have : (L.take i).length ≤ i := List.length_take_le ..; omega)
    · rw [List.take_add_one, hy]
      exact IsL.over (s5 _ _ e4) ((i4.same s5).append (.cons iv .nil))
  · rintro H4 ⟨s4, vs, e4, i4⟩
    rw [← hl, List.take_length] at i4
    exact q D vs H4 (s1.free hD) e4 i4 (s1.trans s4)
def spDecl (n : Nat) : Sp := fun vs H Q _ => ∃ (v : V) (p : Addr) (t : PV) (ws : List Str), vs = [v, .ref p] ∧ Is H v t ∧ RwT n t ∧ HasD H p ws ∧ ∀ v' H', Is H' v' (dcl ws t) → Same H H' → Q v' H'
theorem ok_declared {n : Nat}(T : Txt K mg) (G_declared : FnOk P w K mg base CX0 (n+1) T.a_declared T.d_declared ["tree", "words"] (spDecl n)) : FnOk P w K mg base CX0 (n+2) T.a_declared T.d_declared ["tree", "words"] (spDecl (n+1)) := by
  refine T.F_declared.ok sc_declared (fun vs H Q E h => ?_) (fun cdv A outer s H vs Q E hr h => ?_)
  · obtain ⟨v, p, t, ws, rfl, _⟩ := h; rfl
  · obtain ⟨v, p, t, ws, rfl, hI, hT, hD, q⟩ := h
    have hu := hu_of hr
    have hr_declared := hr
    refine ⟨_, (pss_cons (ps_if (pt_val (pe_callB call_isi (by rfl) T.z_isinstance (by decide +kernel) (pa_cons (pv 0) (pa_cons (pe_bltn rfl T.z_str (by decide +kernel) (show RelV (V.ty "str") (Value.type "str") from rfl)) pa_nil)))) (pss_one (ps_ret (pe_ifExp (pt_cmp (pc_din hu (pv 0) (pv 1))) (pe_tup (pa_cons (pv 0) pa_nil)) (pv 0)))) pss_nil)
    (pss_cons (ps_set (i := 2) sc_declared.nd rfl (Or.inl rfl) (pe_lst (pa_cons (pe_ix ix_seq (pv 0) pe_int (fun _ _ => rfl)) pa_nil)))
    (pss_cons (ps_for PassesOwn.never rfl (pi_tup (pe_slice sl_tup (pv 0) (po_some pe_int) po_none)) (pg_name (i := 3) sc_declared.nd rfl (Or.inl rfl))
    (pss_one (ps_expr (pe_bm PySem.F.plainAttrs_list PySem.F.slot_list_append PySem.F.type_list_append mt_append (pv 2) (pa_cons (pe_call G_declared hr_declared rfl T.m_declared T.F_declared.kp T.b_declared .nil pass0 (pa_cons (pv 3) (pa_cons (pv 1) pa_nil))) pa_nil)))))
    (pss_one (ps_ret (pe_callTy call_tuple_of (by rfl) T.z_tuple (by decide +kernel) (pa_cons (pv 2) pa_nil))))))), ?_⟩
    obtain ⟨u, ty, kt⟩ := hI.ty (K := K)
    refine ⟨_, rfl, _, _, u, _, _, rfl, .ty _, ty, kit_str kt, _, rfl, ?_⟩
    rcases hT.cases with ⟨z, rfl⟩ | ⟨w, r, rfl, hl, ht⟩
    · have okz : sok z = true := by cases hI with | str _ k => exact k
      cases hI.str_inv
      obtain ⟨kvs, eP, hk⟩ := hD
      refine iteT ⟨_, rfl, _, rfl, p, _, rfl, DGet.k (k := Sum.inr z) eP, _, rfl, ?_⟩
      rw [hk z]
      by_cases hz : z ∈ ws
      · rw [decide_eq_true hz]
        refine iteT ⟨_, rfl, (by show 1 ≤ sizeLine; decide), fun p1 hp1 => q _ _ ?_ (same_upd hp1 _)⟩
        rw [dcl, if_pos hz]
        exact .tup upd_same (.cons (.str z okz) .nil)
      · rw [decide_eq_false hz]
        refine iteF ⟨_, rfl, q _ H ?_ (.refl _)⟩
        rw [dcl, if_neg hz]
        exact .str z okz
    · obtain ⟨a, vs, rfl, ea, il⟩ := hI.tup_inv
      cases il with
      | cons h0 h1 =>
      have okw : sok w = true := by cases h0 with | str _ k => exact k
      cases h0.str_inv
      rename_i us
      have hlen := h1.len
      refine iteF ⟨_, rfl, .inr (.inl ⟨a, _, _, _, rfl, rfl, .inl (.inl ea), atI_nat (j := 0) rfl, (by show 1 ≤ sizeLine; decide), fun tq htq => ?_⟩)⟩
      have s1 := same_upd htq (.lst [V.str w])
      refine ⟨_, rfl, 1, rfl, a, V.str w :: us, rfl, .inl (.inl (s1 _ _ ea)), slice1, fun pc hpc => ⟨pc, rfl, ⟨_, .inl (.inl upd_same)⟩, ?_⟩⟩
      have s2 := same_upd hpc (.tup (cutV (V.str w :: us) (some 1) none))
      rw [cut1] at s2 ⊢
      refine for_tup (K := K) (a := pc) (xs := us) (fun i σ H' => ∃ y3 vs', σ = [some (.ref a), some (.ref p), some (.ref tq), y3] ∧ Same H H' ∧ H' pc = some (.tup us) ∧ H' tq = some (.lst (V.str w :: vs')) ∧ IsL H' vs' ((r.take i).map (dcl ws))) ?_ ?_ ?_ ?_
      · exact ⟨_, [], rfl, s1.trans s2, upd_same, s2 _ _ upd_same, .nil⟩
      · exact fun i σ H' _ ⟨_, _, _, _, e, _⟩ => .inl (.inl e)
      · rintro i x σ H3 hx ⟨y3, vs', rfl, s3, e3, e4, i4⟩
        obtain ⟨t, ht', it⟩ := h1.get hx
        have hi := (List.getElem?_eq_some_iff.mp hx).1
        refine ⟨_, rfl, .inl ⟨rfl, _, SqL.of e4⟩, _, rfl, _, rfl, x, p, t, ws, rfl, it.same s3, ht t (List.mem_of_getElem? ht'), hD.same s3, fun v5 H5 i5 s5 => ⟨tq, _, _, rfl, rfl, s5 _ _ e4, ?_, _, vs' ++ [v5], rfl, Kx.Same.own (s3.trans s5) htq _, ?_, upd_same, ?_⟩⟩
        · rw [List.length_cons, i4.len, List.length_map]; exact small7k (by have : (r.take i).length ≤ i := List.length_take_le ..; omega)
        · rw [upd_ne (fun e => by rw [← e, e3] at e4; cases e4)]; exact s5 _ _ e3
        · rw [List.take_add_one, ht', List.map_append]
          exact IsL.over (s5 _ _ e4) ((i4.same s5).append (.cons i5 .nil))
      · rintro σ H3 ⟨y3, vs', rfl, s3, e3, e4, i4⟩
        rw [hlen, List.take_length] at i4
        refine ⟨_, rfl, tq, _, rfl, .inl ⟨SqL.of e4, fun q2 hq2 => q _ _ ?_ (s3.trans (same_upd hq2 _))⟩⟩
        rw [dcl, dclL_map]
        exact .tup upd_same (.cons (.str w okw) (i4.same (same_upd hq2 _)))
theorem all_decl (T : Txt K mg) : ∀ n, FnOk P w K mg base CX0 (n + 1) T.a_declared T.d_declared ["tree", "words"] (spDecl n)
  | 0 => no_left fun vs H Q E ⟨_, _, _, _, _, _, h, _⟩ => h
  | n + 1 => ok_declared T (all_decl T n)
theorem vx_decl {σ : L2.St} {H0 : Hp} {i j : Nat} {v : V} {p : Addr} {t : PV} {ws : List Str} {E : XK} (e1 : σ[i]? = some (some v)) (e2 : σ[j]? = some (some (.ref p))) (h : Is H0 v t) (hD : HasD H0 p ws) (d : RwT 41 t) :
    VxE σ H0 (tCall (spDecl 41) [] E (tCons (tVar i) (tCons (tVar j) tNil))) (dcl ws t) := fun H Q s q => ⟨_, e1, _, e2, v, p, t, ws, rfl, h.same s, d, hD.same s, q⟩
def spKinds : Sp := fun vs H Q _ => ∃ (v : V) (p : Addr) (ks : List Kd) (ws : List Str), vs = [v, .ref p] ∧ Is H v (.tup (ks.map kdP)) ∧ ks.length ≤ 6000 ∧ (∀ k ∈ ks, RwT 41 k.tm) ∧ HasD H p ws ∧ ∀ v' H', Is H' v' (.tup (ks.map (kdD ws))) → Same H H' → Q v' H'
theorem ok_kinds (T : Txt K mg) (G_declared : FnOk P w K mg base CX0 42 T.a_declared T.d_declared ["tree", "words"] (spDecl 41)) : FnOk P w K mg base CX0 43 T.a_kinds T.d_kinds ["kinds", "makers"] spKinds := by
  refine T.F_kinds.ok sc_kinds (fun vs H Q E h => ?_) (fun cdv A outer s H vs Q E hr h => ?_)
  · obtain ⟨v, p, ks, ws, rfl, _⟩ := h; rfl
  · obtain ⟨v, p, ks, ws, rfl, hI, l3, hK, hD, q⟩ := h
    have hr_declared := hr
    refine ⟨_, (pss_one (ps_ret (pe_callTy call_tuple_of (by rfl) T.z_tuple (by decide +kernel) (pa_cons (pe_lc (own := [("family", 2), ("term", 3)]) (g := (gTup K 2 (gCons (gName 2) (gCons (gName 3) gNil)))) (tt := tYes) rfl sc_kinds.nd (pi_tup (pv 0)) (blkOk_by (own := [("family", 2), ("term", 3)]) (N := ["kinds", "makers", "family", "term"]) (sc := defScope s_kinds) (by decide +kernel)) (fun _ _ _ _ _ => (pg_tup rfl (pgs_cons (pg_name (i := 2) sc_kinds.nd rfl (Or.inl rfl)) (pgs_cons (pg_name (i := 3) sc_kinds.nd rfl (Or.inl rfl)) pgs_nil)))) (fun _ _ _ _ _ => pts_nil) (fun _ _ _ _ _ => (pe_tup (pa_cons (pv 2) (pa_cons (pe_call G_declared hr_declared rfl T.m_declared T.F_declared.kp T.b_declared .nil pass0 (pa_cons (pv 3) (pa_cons (pv 1) pa_nil))) pa_nil))))) pa_nil)))), ?_⟩
    obtain ⟨a, vs, rfl, ea, il⟩ := hI.tup_inv
    have hlen := il.len
    rw [List.length_map] at hlen
    refine go_retB ?_
    refine go_vl1 (vl_lcP (K := K) (L := ks.map (kdD ws)) (tl_var rfl (.inl (.inl ea))) (by rw [List.length_map, hlen]) (by omega) (fun u v => rfl) fun i x y H' hx hy s' => ?_) fun D vs' H1 hD1 e1 i1 s1 => ⟨D, vs', rfl, .inl ⟨SqL.of e1, fun q2 hq2 => q _ _ (.tup upd_same (i1.same (same_upd hq2 _))) (s1.trans (same_upd hq2 _))⟩⟩
    obtain ⟨u, hu2, iu⟩ := il.get hx
    obtain ⟨k, hk, rfl⟩ := map_at hu2
    obtain ⟨k2, hk2, rfl⟩ := map_at hy
    rw [hk] at hk2
    cases hk2
    obtain ⟨p1, us, rfl, ep, iu⟩ := (iu.same s').tup_inv
    obtain ⟨u0, u1, rfl, i0, i1⟩ := two_inv iu
    have ok0 : sok k.fam = true := by cases i0 with | str _ k => exact k
    cases i0.str_inv
    exact ⟨p1, _, u1, rfl, .inl (.inl ep), vx_tup (vs_cons (vx_str rfl ok0) (vs_cons (vx_decl rfl rfl i1 (hD.same s') (hK k (List.mem_of_getElem? hk))) vs_nil)) (by simp)⟩
def spClauses : Sp := fun vs H Q _ => ∃ (a p : Addr) (us : List V) (cls : List Cl) (ws : List Str), vs = [.ref a, .ref p] ∧ H a = some (.lst us) ∧ IsL H us (cls.map clP) ∧ cls.length ≤ 6000 ∧ (∀ c ∈ cls, c.ps.length ≤ 6000 ∧ (∀ p ∈ c.ps, RwT 41 p) ∧ RwT 41 c.b) ∧ HasD H p ws ∧ ∀ v' H', Is H' v' (.tup (cls.map (clD ws))) → Same H H' → Q v' H'
theorem ok_clauses (T : Txt K mg) (G_declared : FnOk P w K mg base CX0 42 T.a_declared T.d_declared ["tree", "words"] (spDecl 41)) : FnOk P w K mg base CX0 43 T.a_clauses T.d_clauses ["clauses", "constructors"] spClauses := by
  refine T.F_clauses.ok sc_clauses (fun vs H Q E h => ?_) (fun cdv A outer s H vs Q E hr h => ?_)
  · obtain ⟨a, p, us, cls, ws, rfl, _⟩ := h; rfl
  · obtain ⟨a, p, us, cls, ws, rfl, ea, il, l10, hC, hD, q⟩ := h
    have hr_declared := hr
    refine ⟨_, (pss_cons (ps_set (i := 2) sc_clauses.nd rfl (Or.inl rfl) (pe_lst pa_nil))
    (pss_cons (ps_for PassesOwn.never rfl (pi_list (pv 0)) (pg_tup rfl (pgs_cons (pg_name (i := 3) sc_clauses.nd rfl (Or.inl rfl)) (pgs_cons (pg_name (i := 4) sc_clauses.nd rfl (Or.inl rfl)) pgs_nil)))
    (pss_cons (ps_setLc (i := 5) (own := [("pattern", 6)]) (g := (gName 6)) (tt := tYes) rfl sc_clauses.nd rfl rfl (sw_true rfl rfl rfl (by decide +kernel)) (pi_tup (pv 3)) (blkOk_by (own := [("pattern", 6)]) (N := ["clauses", "constructors", "found", "patterns", "body", "told", "pattern"]) (sc := defScope s_clauses) (by decide +kernel)) (fun _ _ _ _ _ => (pg_name (i := 6) sc_clauses.nd rfl (Or.inl rfl))) (fun _ _ _ _ _ => pts_nil) (fun _ _ _ _ _ => (pe_call G_declared hr_declared rfl T.m_declared T.F_declared.kp T.b_declared .nil pass0 (pa_cons (pv 6) (pa_cons (pv 1) pa_nil)))))
    (pss_one (ps_expr (pe_bm PySem.F.plainAttrs_list PySem.F.slot_list_append PySem.F.type_list_append mt_append (pv 2) (pa_cons (pe_tup (pa_cons (pe_callTy call_tuple_of (by rfl) T.z_tuple (by decide +kernel) (pa_cons (pv 5) pa_nil)) (pa_cons (pe_call G_declared hr_declared rfl T.m_declared T.F_declared.kp T.b_declared .nil pass0 (pa_cons (pv 4) (pa_cons (pv 1) pa_nil))) pa_nil))) pa_nil))))))
    (pss_one (ps_ret (pe_callTy call_tuple_of (by rfl) T.z_tuple (by decide +kernel) (pa_cons (pv 2) pa_nil)))))), ?_⟩
    have hlen := il.len
    rw [List.length_map] at hlen
    refine ⟨by decide, fun tq htq => ?_⟩
    have s1 := same_upd htq (.lst [])
    refine ⟨_, rfl, a, rfl, ⟨_, SqL.of (s1 _ _ ea)⟩, ?_⟩
    refine for_list (K := K) (a := a) (xs := us) (fun i σ H' => ∃ (y3 y4 y5 : Option V) (vs : List V), σ = [some (.ref a), some (.ref p), some (.ref tq), y3, y4, y5, none] ∧ Same H H' ∧ H' tq = some (.lst vs) ∧ IsL H' vs ((cls.take i).map (clD ws))) ?_ ?_ ?_ ?_
    · exact ⟨_, _, _, [], rfl, s1, upd_same, .nil⟩
    · exact fun i σ H' _ ⟨_, _, _, _, _, s, _⟩ => SqL.of (s _ _ ea)
    · rintro i x σ H3 hx ⟨y3, y4, y5, vs, rfl, s3, e3, i3⟩
      obtain ⟨u, hu2, iu⟩ := il.get hx
      obtain ⟨c, hc, rfl⟩ := map_at hu2
      have hi := (List.getElem?_eq_some_iff.mp hx).1
      obtain ⟨h1, h2, h3⟩ := hC c (List.mem_of_getElem? hc)
      obtain ⟨pp, us2, rfl, ep, iu⟩ := (iu.same s3).tup_inv
      obtain ⟨u0, u1, rfl, i0, i1⟩ := two_inv iu
      obtain ⟨pq, us3, rfl, eq, i0⟩ := i0.tup_inv
      have hl3 := i0.len
      refine ⟨pp, _, rfl, .inl (.inl ep), rfl, _, _, rfl, _, _, rfl, rfl, ?_⟩
      refine go_vl (vl_lcT (K := K) (L := c.ps.map (dcl ws)) (k := 6) (tl_var rfl (.inl (.inl eq))) (by rw [List.length_map, hl3]) (by omega) fun j x y H' hx hy s' => ?_) fun D vs2 H4 nD e4 i4 s4 => ?_
      · obtain ⟨u, hu2, iu⟩ := i0.get hx
        rw [List.getElem?_map, hu2] at hy
        cases hy
        rename_i t
        have ht := hu2
        exact vx_decl rfl rfl (iu.same s') (hD.same (s3.trans s')) (h2 _ (List.mem_of_getElem? ht))
      refine ⟨_, rfl, .inl ⟨rfl, _, SqL.of (s4 _ _ e3)⟩, _, rfl, D, vs2, rfl, .inl ⟨SqL.of e4, fun q2 hq2 => ?_⟩⟩
      have s5 := s4.trans (same_upd hq2 (.tup vs2))
      have i5 := i4.same (same_upd hq2 (.tup vs2))
      refine ⟨_, rfl, _, rfl, u1, p, c.b, ws, rfl, i1.same s5, h3, hD.same (s3.trans s5), fun v6 H6 i6 s6 => ⟨(by show 2 ≤ sizeLine; decide), fun p7 hp7 => ?_⟩⟩
      have s7 := s6.trans (same_upd hp7 (.tup [.ref q2, v6]))
      have s57 := s5.trans s7
      refine ⟨tq, _, _, rfl, rfl, s57 _ _ e3, by rw [i3.len, List.length_map]; exact small7k (by have : (cls.take i).length ≤ i := List.length_take_le ..; omega), _, _, _, vs ++ [.ref p7], rfl, Kx.Same.own (s3.trans s57) htq _, upd_same, ?_⟩
      rw [List.take_add_one, hc, List.map_append]
      exact IsL.over (s57 _ _ e3) ((i3.same s57).append (.cons (.tup upd_same (.cons (.tup (s7 _ _ upd_same) (i5.same s7)) (.cons (i6.same (same_upd hp7 _)) .nil))) .nil))
    · rintro σ H3 ⟨y3, y4, y5, vs, rfl, s3, e3, i3⟩
      rw [hlen, List.take_length] at i3
      exact ⟨_, rfl, tq, _, rfl, .inl ⟨SqL.of e3, fun q2 hq2 => q _ _ (.tup upd_same (i3.same (same_upd hq2 _))) (s3.trans (same_upd hq2 _))⟩⟩
end
end Kx
namespace Kx
open PySem PySem.Spec PyProof.Rows L2
section
variable {P : Program} {w : World} {K : PySem.W.Frag} {mg : Str → Option Value} {base : Heap}
set_option pp.maxSteps 1200
/-! ### the table and the program of a draft -/
theorem merge_has : ∀ (kvs : List (Key × V)) (acc : List (Key × V)) (k : Key), (valV (mergeK acc kvs) k).isSome = true ↔ (valV acc k).isSome = true ∨ k ∈ kvs.map Prod.fst
  | [], acc, k => by simp [mergeK]
  | kv :: r, acc, k => by
    show (valV (mergeK (putK acc kv.1 kv.2) r) k).isSome = true ↔ _
    rw [merge_has r, valV_put]
    by_cases h : k = kv.1
    · simp [h]
    · simp [h]
theorem put_len (c : List (Key × V)) (k : Key) (x : V) : (putK c k x).length ≤ c.length + 1 := by
  unfold putK
  split
  · rw [List.length_map]; omega
  · rw [List.length_append]; exact Nat.le_refl _
def kvM (m : Str × Nat) : Key × V := (Sum.inr m.1, .int m.2)
theorem mk_refs {K : PySem.W.Frag} {H : Hp} : ∀ {ms : List (Str × Nat)} {vs : List V}, IsL H vs (ms.map mkP) → ∃ ps : List Addr, vs = ps.map V.ref ∧ Paired (fun p kv => SqT K H p [kV kv.1, kv.2]) ps (ms.map kvM)
  | [], _, .nil => ⟨[], rfl, .nil⟩
  | m :: r, _, .cons h t => by
    obtain ⟨ps, e, pp⟩ := mk_refs (K := K) t
    obtain ⟨p, us, rfl, ep, iu⟩ := h.tup_inv
    obtain ⟨u0, u1, rfl, i0, i1⟩ := two_inv iu
    cases i0.str_inv
    cases i1
    subst e
    exact ⟨p :: ps, rfl, .cons (.inl (.inl ep)) pp⟩
theorem mem_inr {ms : List (Str × Nat)} {z : Str} : (Sum.inr z : Key) ∈ (ms.map kvM).map Prod.fst ↔ z ∈ ms.map (·.1) := by
  rw [List.map_map]
  constructor
  · intro h
    obtain ⟨m, hm, e⟩ := List.mem_map.mp h
    exact List.mem_map.mpr ⟨m, hm, Sum.inr.inj e⟩
  · intro h
    obtain ⟨m, hm, e⟩ := List.mem_map.mp h
    exact List.mem_map.mpr ⟨m, hm, by rw [← e]; rfl⟩
theorem mk_has {H : Hp} {p : Addr} {ms : List (Str × Nat)} (e : H p = some (.dK (mergeK [] (ms.map kvM)))) : HasD H p (ms.map (·.1)) := ⟨_, e, fun z => by
  rw [Bool.eq_iff_iff, merge_has, valV_nil, mem_inr]
  simp⟩
/-- a dict comprehension over a list -/
theorem dc_list {K : PySem.W.Frag} {a : Addr} {xs : List V} {g : TG} {tt : TT} {tk tv : TE} {vs : List Nat} {σ : L2.St} {H1 : Hp} {D : Addr} {Qd : Hp → Prop} (Pv : Nat → Hp → Prop) (h0 : Pv 0 (upd H1 D (.dK []))) (hl : ∀ i H, i ≤ xs.length → Pv i H → SqL K H a xs)
    (hs : ∀ i x H, xs[i]? = some x → Pv i H → g x (wipe σ vs) H fun σ2 H2 => wipe σ2 vs = wipe σ vs ∧ tt σ2 H2 fun b H3 =>
      if b = true then tk σ2 H3 fun y H4 => tv σ2 H4 fun z H5 => ∃ kvs k, y = kV k ∧ H5 D = some (.dK kvs) ∧ kvs.length < sizeLine ∧ Pv (i + 1) (upd H5 D (.dK (putK kvs k z))) else Pv (i + 1) H3) (hd : ∀ H, Pv xs.length H → Qd H) :
    ∃ W : Nat → Nat → Hp → Prop, (∃ m, W 0 m (upd H1 D (.dK []))) ∧ ∀ i m H, W i m H →
      ((Itl K a).stop i H ∧ Qd H) ∨ ((Itl K a).go i H ∧ ∃ Nx : Hp → Prop, (∀ H', Nx H' → ∃ m', m' < m ∧ W (i + 1) m' H') ∧ ∀ x H', (Itl K a).yld i H x H' → g x (wipe σ vs) H' fun σ2 H2 => wipe σ2 vs = wipe σ vs ∧ tt σ2 H2 fun b H3 =>
        if b = true then tk σ2 H3 fun y H4 => tv σ2 H4 fun z H5 => ∃ kvs k, y = kV k ∧ H5 D = some (.dK kvs) ∧ kvs.length < sizeLine ∧ Nx (upd H5 D (.dK (putK kvs k z))) else Nx H3) := by
  refine ⟨fun i left H => left = xs.length - i ∧ i ≤ xs.length ∧ Pv i H, ⟨_, rfl, Nat.zero_le _, h0⟩, fun i left H w => ?_⟩
  obtain ⟨rfl, le, pv⟩ := w
  have sq := hl i H le pv
  rcases Nat.lt_or_ge i xs.length with lt | ge
  · refine .inr ⟨⟨xs, xs[i], sq, List.getElem?_eq_getElem lt⟩, Pv (i + 1), fun H' pv' => ⟨xs.length - (i + 1), by omega, rfl, lt, pv'⟩, ?_⟩
    rintro x H' ⟨rfl, yl⟩
    exact hs i x _ (yl xs sq) pv
  · have e : i = xs.length := Nat.le_antisymm le ge
    exact .inl ⟨⟨xs, sq, ge⟩, hd H (e ▸ pv)⟩
theorem go_ret {te : TE} {t : PV} {D : Ends} {σ : L2.St} {H : Hp} (h : VxE σ H te t) (q : ∀ v H', Is H' v t → Same H H' → D.rt v H') : tRet te D σ H := h H _ (.refl _) q
theorem cnP_inv {H : Hp} {v : V} {c : Cn} (h : Is H v (cnP c)) : ∃ (p : Addr) (u i : V), v = .ref p ∧ H p = some (.tup [.str c.w, u, .str c.md.fam, i]) ∧ Is H u (.tup (c.ps.map kdP)) ∧ Is H i c.md.tm ∧ sok c.w = true ∧ sok c.md.fam = true := by
  obtain ⟨p, us, rfl, ep, iu⟩ := h.tup_inv
  cases iu with
  | cons h0 iu =>
  cases iu with
  | cons h1 iu =>
  obtain ⟨v2, v3, rfl, h2, h3⟩ := two_inv iu
  have o1 : sok c.w = true := by cases h0 with | str _ k => exact k
  have o2 : sok c.md.fam = true := by cases h2 with | str _ k => exact k
  cases h0.str_inv
  cases h2.str_inv
  exact ⟨p, _, v3, rfl, ep, h1, h3, o1, o2⟩
theorem FnL.get {H : Hp} : ∀ {vs : List V} {qs : List Addr} {fs : List Fn}, FnL H vs qs fs → ∀ {i : Nat} {x : V}, vs[i]? = some x → ∃ p q kv ix us f, fs[i]? = some f ∧ x = .ref p ∧ H p = some (.tup [.str f.w, kv, .str f.md.fam, ix, .int f.falls, .ref q]) ∧ sok f.w = true ∧ sok f.md.fam = true ∧ Is H kv (.tup (f.ps.map kdP)) ∧ Is H ix f.md.tm ∧ H q = some (.lst us) ∧ IsL H us (f.cls.map clP)
  | _, _, _, .nil, i, x, h => by simp at h
  | _, _, _, .cons e o1 o2 ik ii eq il r, 0, x, h => by cases h; exact ⟨_, _, _, _, _, _, rfl, rfl, e, o1, o2, ik, ii, eq, il⟩
  | _, _, _, .cons e o1 o2 ik ii eq il r, i + 1, x, h => r.get (by simpa using h)
def spCw (C : Addr) : Sp := fun vs H Q _ => ∃ (a : DA) (s : DS), vs = [.ref a.d] ∧ DfAt C a s H ∧ s.cn.length ≤ 6000 ∧ ∀ p H', HasD H' p (s.cn.map (·.w)) → Same H H' → Q (.ref p) H'
theorem ok_constructor_words (T : Txt K mg)  : FnOk P w K mg base CX0 1 T.a_constructor_words T.d_constructor_words ["draft"] (spCw T.c_Draft) := by
  refine T.F_constructor_words.ok sc_constructor_words (fun vs H Q E h => ?_) (fun cdv A outer s H vs Q E hr h => ?_)
  · obtain ⟨a, s, rfl, _⟩ := h; rfl
  · obtain ⟨a, s, rfl, D, l100, q⟩ := h
    refine ⟨_, (pss_one (ps_ret (pe_dc (own := [("row", 1)]) (g := gName 1) (tt := tYes) rfl sc_constructor_words.nd (pi_list (pe_fld (pv 0) rfl)) (blkOk_by (own := [("row", 1)]) (N := ["draft", "row"]) (sc := defScope s_constructor_words) (by decide +kernel)) (fun _ _ _ _ _ => pg_name (i := 1) sc_constructor_words.nd rfl (Or.inl rfl)) (fun _ _ _ _ _ => pts_nil) (fun _ _ _ _ _ => (pe_ix (ixTK (K := K)) (pv 1) pe_int (fun _ _ => rfl))) (fun _ _ _ _ _ => pe_bl)))), ?_⟩
    obtain ⟨vc, ec, ic⟩ := D.cn
    have hlen := ic.len
    rw [List.length_map] at hlen
    refine ⟨_, rfl, a.d, _, a.dx, _, _, rfl, D.ins, T.cl_Draft, T.no_Draft_constructors, rfl, a.lc, rfl, ⟨_, SqL.of ec⟩, fun P hP => ?_⟩
    refine dc_list (K := K) (a := a.lc) (xs := vc) (fun i H4 => Same H H4 ∧ ∃ kvs : List (Key × V), H4 P = some (.dK kvs) ∧ kvs.length ≤ i ∧ ∀ z : Str, (valV kvs (Sum.inr z)).isSome = decide (z ∈ (s.cn.take i).map (·.w))) ?_ ?_ ?_ ?_
    · exact ⟨same_upd hP _, [], upd_same, Nat.le_refl _, fun z => rfl⟩
    · exact fun i H' _ ⟨s, _⟩ => SqL.of (s _ _ ec)
    · rintro i x H4 hx ⟨s4, kvs, e4, l4, k4⟩
      obtain ⟨u, hu2, iu⟩ := ic.get hx
      obtain ⟨c, hc, rfl⟩ := map_at hu2
      have hi := (List.getElem?_eq_some_iff.mp hx).1
      obtain ⟨p, u, ii, rfl, ep, iu1, iu2, o1, o2⟩ := cnP_inv (iu.same s4)
      refine ⟨rfl, yes_if ⟨_, rfl, p, _, _, _, rfl, rfl, .inl (.inl ep), atI_nat (j := 0) rfl, ?_⟩⟩
      refine ⟨kvs, Sum.inr c.w, rfl, e4, small7k (by omega), Kx.Same.own s4 hP _, _, upd_same, Nat.le_trans (put_len _ _ _) (Nat.succ_le_succ l4), fun z => ?_⟩
      rw [valV_put, List.take_add_one, hc]
      by_cases hz : z = c.w
      · simp [hz]
      · have : (Sum.inr z : Key) ≠ Sum.inr c.w := fun e => hz (Sum.inr.inj e)
        rw [if_neg this, k4]
        simp [hz]
    · rintro H4 ⟨s4, kvs, e4, l4, k4⟩
      rw [hlen, List.take_length] at k4
      exact q P H4 ⟨kvs, e4, k4⟩ s4
def cnD (ws : List Str) (c : Cn) : PV := .tup [.str c.w, .tup (c.ps.map (kdD ws)), .str c.md.fam, dcl ws c.md.tm]
def fnD (ws cw : List Str) (f : Fn) : PV := .tup [.str f.w, .tup (f.ps.map (kdD ws)), .str f.md.fam, dcl ws f.md.tm, .int f.falls, .tup (f.cls.map (clD cw))]
def DS.mw (s : DS) : List Str := s.ms.map (·.1)
def DS.cw (s : DS) : List Str := s.cn.map (·.w)
def tabD (s : DS) : PV := .tup [.str "table", .tup (s.ms.map mkP), .tup (s.fm.map PV.str), .tup (s.cn.map (cnD s.mw))]
def prgD (s : DS) : PV := .tup [.str "program", .tup (s.fs.map (fnD s.mw s.cw))]
/-- what a draft tells is of a size, and not too deep -/
structure DsOk (s : DS) : Prop where
  l1 : s.ms.length ≤ 6000
  l2 : s.fm.length ≤ 6000
  l3 : s.cn.length ≤ 6000
  l4 : s.fs.length ≤ 6000
  cn : ∀ c ∈ s.cn, c.ps.length ≤ 6000 ∧ (∀ k ∈ c.ps, RwT 41 k.tm) ∧ RwT 41 c.md.tm
  fn : ∀ f ∈ s.fs, f.ps.length ≤ 6000 ∧ (∀ k ∈ f.ps, RwT 41 k.tm) ∧ RwT 41 f.md.tm ∧ f.cls.length ≤ 6000 ∧ ∀ c ∈ f.cls, c.ps.length ≤ 6000 ∧ (∀ p ∈ c.ps, RwT 41 p) ∧ RwT 41 c.b
def spRTable (C : Addr) : Sp := fun vs H Q _ => ∃ (a : DA) (s : DS), vs = [.ref a.d] ∧ DfAt C a s H ∧ DsOk s ∧ ∀ v H', Is H' v (tabD s) → Same H H' → Q v H'
theorem ok_table (T : Txt K mg) (G_declared : FnOk P w K mg base CX0 42 T.a_declared T.d_declared ["tree", "words"] (spDecl 41)) (G_kinds : FnOk P w K mg base CX0 43 T.a_kinds T.d_kinds ["kinds", "makers"] spKinds) : FnOk P w K mg base CX0 44 T.a_table T.d_table ["draft"] (spRTable T.c_Draft) := by
  refine T.F_table.ok sc_table (fun vs H Q E h => ?_) (fun cdv A outer s H vs Q E hr h => ?_)
  · obtain ⟨a, s, rfl, _⟩ := h; rfl
  · obtain ⟨a, s, rfl, D, ok, q⟩ := h
    have hr_declared : Room 42 _ := hr.mono (by decide)
    have hr_kinds : Room 43 _ := hr
    refine ⟨_, (pss_cons (ps_set (i := 1) sc_table.nd rfl (Or.inl rfl) (pe_callTy (call_dictP rfl) (by rfl) T.z_dict (by decide +kernel) (pa_cons (pe_fld (pv 0) rfl) pa_nil)))
    (pss_cons (ps_set (i := 2) sc_table.nd rfl (Or.inl rfl) (pe_lst pa_nil))
    (pss_cons (ps_for PassesOwn.never rfl (pi_list (pe_fld (pv 0) rfl)) (pg_tup rfl (pgs_cons (pg_name (i := 3) sc_table.nd rfl (Or.inl rfl)) (pgs_cons (pg_name (i := 4) sc_table.nd rfl (Or.inl rfl)) (pgs_cons (pg_name (i := 5) sc_table.nd rfl (Or.inl rfl)) (pgs_cons (pg_name (i := 6) sc_table.nd rfl (Or.inl rfl)) pgs_nil)))))
    (pss_one (ps_expr (pe_bm PySem.F.plainAttrs_list PySem.F.slot_list_append PySem.F.type_list_append mt_append (pv 2) (pa_cons (pe_tup (pa_cons (pv 3) (pa_cons (pe_call G_kinds hr_kinds rfl T.m_kinds T.F_kinds.kp T.b_kinds .nil pass0 (pa_cons (pv 4) (pa_cons (pv 1) pa_nil))) (pa_cons (pv 5) (pa_cons (pe_call G_declared hr_declared rfl T.m_declared T.F_declared.kp T.b_declared .nil pass0 (pa_cons (pv 6) (pa_cons (pv 1) pa_nil))) pa_nil))))) pa_nil)))))
    (pss_one (ps_ret (pe_tup (pa_cons pe_str (pa_cons (pe_callTy call_tuple_of (by rfl) T.z_tuple (by decide +kernel) (pa_cons (pe_fld (pv 0) rfl) pa_nil)) (pa_cons (pe_callTy call_tuple_of (by rfl) T.z_tuple (by decide +kernel) (pa_cons (pe_fld (pv 0) rfl) pa_nil)) (pa_cons (pe_callTy call_tuple_of (by rfl) T.z_tuple (by decide +kernel) (pa_cons (pv 2) pa_nil)) pa_nil)))))))))), ?_⟩
    obtain ⟨vm, em, im⟩ := D.mak
    obtain ⟨vc, ec, ic⟩ := D.cn
    have hlen := ic.len
    rw [List.length_map] at hlen
    obtain ⟨ps, e, pp⟩ := mk_refs (K := K) im
    refine ⟨_, rfl, a.d, _, a.dx, _, _, rfl, D.ins, T.cl_Draft, T.no_Draft_makers, rfl, a.lm, ps, s.ms.map kvM, rfl, SqL.of (by rw [← e]; exact em), pp, fun pm hpm => ?_⟩
    have s1 := same_upd hpm (.dK (mergeK [] (s.ms.map kvM)))
    have M1 : HasD (upd H pm (.dK (mergeK [] (s.ms.map kvM)))) pm (s.ms.map (·.1)) := mk_has upd_same
    refine ⟨by decide, fun tq htq => ?_⟩
    have s2 := s1.trans (same_upd htq (.lst []))
    have M2 := M1.same (same_upd htq (.lst []))
    have D2 := D.same s2
    refine ⟨_, rfl, a.d, _, a.dx, _, _, rfl, D2.ins, T.cl_Draft, T.no_Draft_constructors, rfl, a.lc, rfl, ⟨_, SqL.of (s2 _ _ ec)⟩, ?_⟩
    have hq0 : H tq = none := s1.free htq
    refine for_list (K := K) (a := a.lc) (xs := vc) (fun i σ H' => ∃ (y3 y4 y5 y6 : Option V) (vs : List V), σ = [some (.ref a.d), some (.ref pm), some (.ref tq), y3, y4, y5, y6] ∧ Same (upd H pm (.dK (mergeK [] (s.ms.map kvM)))) H' ∧ H' tq = some (.lst vs) ∧ IsL H' vs ((s.cn.take i).map (cnD s.mw))) ?_ ?_ ?_ ?_
    · exact ⟨_, _, _, _, [], rfl, same_upd htq _, upd_same, .nil⟩
    · exact fun i σ H' _ ⟨_, _, _, _, _, _, s, _⟩ => SqL.of (s _ _ (s1 _ _ ec))
    · rintro i x σ H3 hx ⟨y3, y4, y5, y6, vs, rfl, s3, e3, i3⟩
      obtain ⟨u, hu2, iu⟩ := ic.get hx
      obtain ⟨c, hc, rfl⟩ := map_at hu2
      have hi := (List.getElem?_eq_some_iff.mp hx).1
      obtain ⟨c3, ck, cm⟩ := ok.cn c (List.mem_of_getElem? hc)
      obtain ⟨p, u, ii, rfl, ep, iu1, iu2, o1, o2⟩ := cnP_inv (iu.same (s1.trans s3))
      have M3 := M1.same s3
      refine ⟨p, _, rfl, .inl (.inl ep), rfl, _, _, rfl, _, _, rfl, _, _, rfl, _, _, rfl, rfl, ?_⟩
      refine ⟨_, rfl, .inl ⟨rfl, _, SqL.of e3⟩, ?_⟩
      refine go_v1 (t := cnD s.mw c) (vx_tup (vs_cons (vx_str rfl o1) (vs_cons (t := .tup (c.ps.map (kdD s.mw))) (fun H5 Q5 s5 q5 => ⟨_, rfl, _, rfl, u, pm, c.ps, _, rfl, iu1.same s5, c3, ck, M3.same s5, q5⟩) (vs_cons (vx_str rfl o2) (vs_cons (vx_decl rfl rfl iu2 M3 cm) vs_nil)))) (by simp)) fun v H4 i4 s4 => ?_
      refine ⟨tq, _, _, rfl, rfl, s4 _ _ e3, by rw [i3.len, List.length_map]; exact small7k (by have : (s.cn.take i).length ≤ i := List.length_take_le ..; have := ok.l3; omega), _, _, _, _, vs ++ [v], rfl, ?_, upd_same, ?_⟩
      · exact Kx.Same.own (s3.trans s4) htq _
      · rw [List.take_add_one, hc, List.map_append]
        exact IsL.over (s4 _ _ e3) ((i3.same s4).append (.cons i4 .nil))
    · rintro σ H3 ⟨y3, y4, y5, y6, vs, rfl, s3, e3, i3⟩
      rw [hlen, List.take_length] at i3
      have s13 := s1.trans s3
      have D3 := D.same s13
      refine nx_of (go_ret (t := tabD s) (vx_tup (vs_cons (vx_lit (by decide +kernel)) (vs_cons (t := .tup (s.ms.map mkP)) (fun H5 Q5 s5 q5 => ?_) (vs_cons (t := .tup (s.fm.map PV.str)) (fun H5 Q5 s5 q5 => ?_) (vs_cons (t := .tup (s.cn.map (cnD s.mw))) (fun H5 Q5 s5 q5 => ?_) vs_nil)))) (by simp)) ?_)
      rotate_right
      · exact fun v H' iv s' => q v H' iv (s13.trans s')
      · exact ⟨_, rfl, a.d, _, a.dx, _, _, rfl, s5 _ _ D3.ins, T.cl_Draft, T.no_Draft_makers, rfl, a.lm, vm, rfl, .inl ⟨SqL.of (s5 _ _ (s13 _ _ em)), fun l hl => q5 _ _ (.tup upd_same ((im.same (s13.trans s5)).same (same_upd hl _))) (same_upd hl _)⟩⟩
      · exact ⟨_, rfl, a.d, _, a.dx, _, _, rfl, s5 _ _ D3.ins, T.cl_Draft, T.no_Draft_families, rfl, a.lf, _, rfl, .inl ⟨SqL.of (s5 _ _ D3.fm), fun l hl => q5 _ _ (.tup upd_same (strsL D3.fo)) (same_upd hl _)⟩⟩
      · exact ⟨_, rfl, tq, _, rfl, .inl ⟨SqL.of (s5 _ _ e3), fun l hl => q5 _ _ (.tup upd_same ((i3.same s5).same (same_upd hl _))) (same_upd hl _)⟩⟩
def spRProg (C : Addr) : Sp := fun vs H Q _ => ∃ (a : DA) (s : DS), vs = [.ref a.d] ∧ DfAt C a s H ∧ DsOk s ∧ ∀ v H', Is H' v (prgD s) → Same H H' → Q v H'
theorem ok_program (T : Txt K mg) (G_declared : FnOk P w K mg base CX0 42 T.a_declared T.d_declared ["tree", "words"] (spDecl 41)) (G_kinds : FnOk P w K mg base CX0 43 T.a_kinds T.d_kinds ["kinds", "makers"] spKinds) (G_clauses : FnOk P w K mg base CX0 43 T.a_clauses T.d_clauses ["clauses", "constructors"] spClauses) (G_constructor_words : FnOk P w K mg base CX0 1 T.a_constructor_words T.d_constructor_words ["draft"] (spCw T.c_Draft)) : FnOk P w K mg base CX0 44 T.a_program T.d_program ["draft"] (spRProg T.c_Draft) := by
  refine T.F_program.ok sc_program (fun vs H Q E h => ?_) (fun cdv A outer s H vs Q E hr h => ?_)
  · obtain ⟨a, s, rfl, _⟩ := h; rfl
  · obtain ⟨a, s, rfl, D, ok, q⟩ := h
    have hr_declared : Room 42 _ := hr.mono (by decide)
    have hr_constructor_words : Room 1 _ := hr.mono (by decide)
    have hr_kinds : Room 43 _ := hr
    have hr_clauses : Room 43 _ := hr
    refine ⟨_, (pss_cons (ps_set (i := 1) sc_program.nd rfl (Or.inl rfl) (pe_callTy (call_dictP rfl) (by rfl) T.z_dict (by decide +kernel) (pa_cons (pe_fld (pv 0) rfl) pa_nil)))
    (pss_cons (ps_set (i := 2) sc_program.nd rfl (Or.inl rfl) (pe_call G_constructor_words hr_constructor_words rfl T.m_constructor_words T.F_constructor_words.kp T.b_constructor_words .nil pass0 (pa_cons (pv 0) pa_nil)))
    (pss_cons (ps_set (i := 3) sc_program.nd rfl (Or.inl rfl) (pe_lst pa_nil))
    (pss_cons (ps_for PassesOwn.never rfl (pi_list (pe_fld (pv 0) rfl)) (pg_tup rfl (pgs_cons (pg_name (i := 4) sc_program.nd rfl (Or.inl rfl)) (pgs_cons (pg_name (i := 5) sc_program.nd rfl (Or.inl rfl)) (pgs_cons (pg_name (i := 6) sc_program.nd rfl (Or.inl rfl)) (pgs_cons (pg_name (i := 7) sc_program.nd rfl (Or.inl rfl)) (pgs_cons (pg_name (i := 8) sc_program.nd rfl (Or.inl rfl)) (pgs_cons (pg_name (i := 9) sc_program.nd rfl (Or.inl rfl)) pgs_nil)))))))
    (pss_cons (ps_set (i := 10) sc_program.nd rfl (Or.inl rfl) (pe_tup (pa_cons (pv 4) (pa_cons (pe_call G_kinds hr_kinds rfl T.m_kinds T.F_kinds.kp T.b_kinds .nil pass0 (pa_cons (pv 5) (pa_cons (pv 1) pa_nil))) (pa_cons (pv 6) (pa_cons (pe_call G_declared hr_declared rfl T.m_declared T.F_declared.kp T.b_declared .nil pass0 (pa_cons (pv 7) (pa_cons (pv 1) pa_nil))) (pa_cons (pv 8) pa_nil)))))))
    (pss_one (ps_expr (pe_bm PySem.F.plainAttrs_list PySem.F.slot_list_append PySem.F.type_list_append mt_append (pv 3) (pa_cons (pe_op op_catT (pv 10) (pe_tup (pa_cons (pe_call G_clauses hr_clauses rfl T.m_clauses T.F_clauses.kp T.b_clauses .nil pass0 (pa_cons (pv 9) (pa_cons (pv 2) pa_nil))) pa_nil))) pa_nil))))))
    (pss_one (ps_ret (pe_tup (pa_cons pe_str (pa_cons (pe_callTy call_tuple_of (by rfl) T.z_tuple (by decide +kernel) (pa_cons (pv 3) pa_nil)) pa_nil))))))))), ?_⟩
    obtain ⟨vm, em, im⟩ := D.mak
    obtain ⟨vg, eg, ig⟩ := D.fn
    have hlen := ig.len
    obtain ⟨ps, e, pp⟩ := mk_refs (K := K) im
    refine ⟨_, rfl, a.d, _, a.dx, _, _, rfl, D.ins, T.cl_Draft, T.no_Draft_makers, rfl, a.lm, ps, s.ms.map kvM, rfl, SqL.of (by rw [← e]; exact em), pp, fun pm hpm => ?_⟩
    have s1 := same_upd hpm (.dK (mergeK [] (s.ms.map kvM)))
    have M1 : HasD (upd H pm (.dK (mergeK [] (s.ms.map kvM)))) pm (s.ms.map (·.1)) := mk_has upd_same
    generalize (upd H pm (.dK (mergeK [] (s.ms.map kvM)))) = H1 at s1 M1 ⊢
    refine ⟨_, rfl, a, s, rfl, D.same s1, by have := ok.l3; omega, fun pc H2 C2 s2 => ?_⟩
    have s12 := s1.trans s2
    have M2 := M1.same s2
    refine ⟨by decide, fun tq htq => ?_⟩
    have s3 := same_upd htq (.lst [])
    have D3 := D.same (s12.trans s3)
    refine ⟨_, rfl, a.d, _, a.dx, _, _, rfl, D3.ins, T.cl_Draft, T.no_Draft_functions, rfl, a.lg, rfl, ⟨_, SqL.of (s3 _ _ (s12 _ _ eg))⟩, ?_⟩
    refine for_list (K := K) (a := a.lg) (xs := vg) (fun i σ H' => ∃ (y4 y5 y6 y7 y8 y9 y10 : Option V) (vs : List V), σ = [some (.ref a.d), some (.ref pm), some (.ref pc), some (.ref tq), y4, y5, y6, y7, y8, y9, y10] ∧ Same H2 H' ∧ H' tq = some (.lst vs) ∧ IsL H' vs ((s.fs.take i).map (fnD s.mw s.cw))) ?_ ?_ ?_ ?_
    · exact ⟨_, _, _, _, _, _, _, [], rfl, s3, upd_same, .nil⟩
    · exact fun i σ H' _ ⟨_, _, _, _, _, _, _, _, _, s, _⟩ => SqL.of (s _ _ (s12 _ _ eg))
    · rintro i x σ H4 hx ⟨y4, y5, y6, y7, y8, y9, y10, vs, rfl, s4, e4, i4⟩
      have s14 := s12.trans s4
      have M4 := M2.same s4
      have C4 := C2.same s4
      obtain ⟨p, qq, kv, ix, us, f, hf, rfl, ep, o1, o2, ik, ii, eq, il⟩ := (ig.keep (.of s14) fun b _ u h => s14 _ _ h).get hx
      have hi := (List.getElem?_eq_some_iff.mp hx).1
      obtain ⟨c3, ck, cm, cl10, cc⟩ := ok.fn f (List.mem_of_getElem? hf)
      refine ⟨p, _, rfl, .inl (.inl ep), rfl, _, _, rfl, _, _, rfl, _, _, rfl, _, _, rfl, _, _, rfl, _, _, rfl, rfl, ?_⟩
      refine go_vx (t := .tup [.str f.w, .tup (f.ps.map (kdD s.mw)), .str f.md.fam, dcl s.mw f.md.tm, .int f.falls]) (vx_tup (vs_cons (vx_str rfl o1) (vs_cons (t := .tup (f.ps.map (kdD s.mw))) (fun H5 Q5 s5 q5 => ⟨_, rfl, _, rfl, kv, pm, f.ps, _, rfl, ik.same s5, c3, ck, M4.same s5, q5⟩) (vs_cons (vx_str rfl o2) (vs_cons (vx_decl rfl rfl ii M4 cm) (vs_cons (vx_int rfl) vs_nil))))) (by simp)) fun v H5 i5 s5 => ?_
      obtain ⟨ph, uh, rfl, eh, ih⟩ := i5.tup_inv
      have lh := ih.len
      refine ⟨_, rfl, .inl ⟨rfl, _, SqL.of (s5 _ _ e4)⟩, _, rfl, _, rfl, _, rfl, qq, pc, us, f.cls, _, rfl, s5 _ _ eq, il.same s5, cl10, cc, C4.same s5, fun v6 H6 i6 s6 => ⟨(by show 1 ≤ sizeLine; decide), fun p7 hp7 => ?_⟩⟩
      have s7 := s6.trans (same_upd hp7 (.tup [v6]))
      refine ⟨ph, p7, _, _, rfl, rfl, .inl (.inl (s7 _ _ eh)), .inl (.inl upd_same), fun e => (by rw [e] at lh; simp at lh), ?_, fun e => ?_, fun _ p8 hp8 => ?_⟩
      · rw [lh]; exact Nat.le_of_lt (small7k (by simp))
      · cases e
      have s8 := s7.trans (same_upd hp8 (.tup (uh ++ [v6])))
      have s58 := s5.trans s8
      refine ⟨tq, _, _, rfl, rfl, s58 _ _ e4, by rw [i4.len, List.length_map]; exact small7k (by have : (s.fs.take i).length ≤ i := List.length_take_le ..; have := ok.l4; omega), _, _, _, _, _, _, _, vs ++ [.ref p8], rfl, Kx.Same.own (s4.trans s58) htq _, upd_same, ?_⟩
      rw [List.take_add_one, hf, List.map_append]
      refine IsL.over (s58 _ _ e4) ((i4.same s58).append (.cons ?_ .nil))
      exact .tup upd_same (((ih.same s7).same (same_upd hp8 _)).append (.cons ((i6.same (same_upd hp7 _)).same (same_upd hp8 _)) .nil))
    · rintro σ H4 ⟨y4, y5, y6, y7, y8, y9, y10, vs, rfl, s4, e4, i4⟩
      rw [hlen, List.take_length] at i4
      refine nx_of (go_ret (t := prgD s) (vx_tup (vs_cons (vx_lit (by decide +kernel)) (vs_cons (t := .tup (s.fs.map (fnD s.mw s.cw))) (fun H5 Q5 s5 q5 => ?_) vs_nil)) (by simp)) ?_)
      rotate_right
      · exact fun v H' iv s' => q v H' iv ((s12.trans s4).trans s')
      exact ⟨_, rfl, tq, _, rfl, .inl ⟨SqL.of (s5 _ _ e4), fun l hl => q5 _ _ (.tup upd_same ((i4.same s5).same (same_upd hl _))) (same_upd hl _)⟩⟩
end
end Kx
namespace Kx
open PySem PySem.Spec PyProof.Rows L2
section
variable {P : Program} {w : World} {K : PySem.W.Frag} {mg : Str → Option Value} {base : Heap}
set_option pp.maxSteps 900
/-! ### read -/
def KdsW (ks : List Kd) : Prop := ks.length ≤ 6000 ∧ ∀ k ∈ ks, RwT 41 k.tm
def ClW (c : Cl) : Prop := c.ps.length ≤ 6000 ∧ (∀ p ∈ c.ps, RwT 41 p) ∧ RwT 41 c.b
def ItW : Item → Prop
  | .m _ => True
  | .f _ => True
  | .c x => KdsW x.ps ∧ RwT 41 x.md.tm
  | .h x => KdsW x.ps ∧ RwT 41 x.md.tm ∧ x.cls = []
  | .l _ x => ClW x
def DsW (s : DS) : Prop := (∀ c ∈ s.cn, KdsW c.ps ∧ RwT 41 c.md.tm) ∧ ∀ f ∈ s.fs, KdsW f.ps ∧ RwT 41 f.md.tm ∧ ∀ c ∈ f.cls, ClW c
theorem pEnd_w {R : List Tok} {k : Kd} (h : pEnd R = some k) (l : R.length ≤ 6000) : RwT 41 k.tm := by
  cases R with
  | nil => cases h
  | cons a R =>
    by_cases ha : a = ARW
    · subst ha
      rw [pEnd_at] at h
      cases e : pK R with
      | none => rw [e] at h; cases h
      | some p =>
        obtain ⟨k', Y⟩ := p
        rw [e] at h
        cases Y with
        | cons b Y => cases h
        | nil =>
          cases h
          obtain ⟨C, rfl, A, K⟩ := pK_eat e
          exact (K.tm (by simp only [List.length_cons] at l; omega)).up
    · simp only [pEnd, ha, if_false] at h; cases h
theorem pKs_w {m : Nat} {X : List Tok} {ks : List Kd} {R : List Tok} (e : pKs m X = some (ks, R)) (l : X.length ≤ 6000) : KdsW ks ∧ R.length ≤ 6000 := by
  obtain ⟨C, rfl, A, K⟩ := pKs_eat _ _ _ _ e
  refine ⟨⟨by have := K.len; omega, fun k hk => ((K.all k hk).2 l).up⟩, ?_⟩
  rw [List.length_append] at l; omega
theorem pI_w {U : List Tok} {it : Item} (h : pI U = some it) (l : U.length ≤ 6000) : ItW it := by
  cases it with
  | m x => trivial
  | f z => trivial
  | c x =>
    unfold pI at h
    split at h
    · cases U with
      | nil => cases h
      | cons w R =>
        by_cases hw : isW w = true
        · rw [pCl_at hw] at h
          split at h
          · split at h
            · split at h <;> cases h
            · cases h
          · cases h
        · cases R with
          | nil => cases h
          | cons a R => simp only [pCl, hw, if_false] at h; cases h
    · cases U with
      | nil => cases h
      | cons t R =>
        simp only at h
        split at h
        · match R, h with
          | [w, n], h =>
            simp only [pMk] at h
            split at h
            · cases e : numV n with
              | none => rw [e] at h; cases h
              | some k => rw [e] at h; cases h
            · cases h
        · split at h
          · match R, h with
            | [w], h =>
              simp only [pFm] at h
              split at h <;> cases h
          · split at h
            · match R, h, l with
              | w :: b :: X, h, l =>
                simp only [pCn] at h
                split at h
                · split at h
                  · unfold pCon at h
                    split at h
                    · rename_i ks R2 e
                      have lX : X.length ≤ 6000 := by simp only [List.length_cons] at l; omega
                      cases e2 : pEnd R2 with
                      | none => rw [e2] at h; cases h
                      | some md =>
                        rw [e2] at h
                        cases h
                        unfold pPs at e
                        split at e
                        · cases e
                          exact ⟨⟨by simp, fun k hk => by cases hk⟩, pEnd_w e2 lX⟩
                        · obtain ⟨k1, k2⟩ := pKs_w e lX
                          exact ⟨k1, pEnd_w e2 k2⟩
                    · cases h
                  · cases h
                · cases h
            · split at h
              · match R, h with
                | w :: b :: n :: c :: X, h =>
                  simp only [pFn] at h
                  split at h
                  · split at h
                    · cases en : numV n with
                      | none => rw [en] at h; cases h
                      | some k =>
                        rw [en] at h
                        simp only at h
                        split at h
                        · unfold pFun at h
                          split at h
                          · rename_i R2 _
                            cases e2 : pEnd R2 with
                            | none => rw [e2] at h; cases h
                            | some md => rw [e2] at h; cases h
                          · cases h
                        · cases h
                    · cases h
                  · cases h
              · cases h
  | h x =>
    refine ⟨?_, ?_, pI_cls h⟩ <;>
    · unfold pI at h
      split at h
      · cases U with
        | nil => cases h
        | cons w R =>
          by_cases hw : isW w = true
          · rw [pCl_at hw] at h
            split at h
            · split at h
              · split at h <;> cases h
              · cases h
            · cases h
          · cases R with
            | nil => cases h
            | cons a R => simp only [pCl, hw, if_false] at h; cases h
      · cases U with
        | nil => cases h
        | cons t R =>
          simp only at h
          split at h
          · match R, h with
            | [w, n], h =>
              simp only [pMk] at h
              split at h
              · cases e : numV n with
                | none => rw [e] at h; cases h
                | some k => rw [e] at h; cases h
              · cases h
          · split at h
            · match R, h with
              | [w], h =>
                simp only [pFm] at h
                split at h <;> cases h
            · split at h
              · match R, h with
                | w :: b :: X, h =>
                  simp only [pCn] at h
                  split at h
                  · split at h
                    · unfold pCon at h
                      split at h
                      · rename_i R2 _
                        cases e2 : pEnd R2 with
                        | none => rw [e2] at h; cases h
                        | some md => rw [e2] at h; cases h
                      · cases h
                    · cases h
                  · cases h
              · split at h
                · match R, h, l with
                  | w :: b :: n :: c :: X, h, l =>
                    simp only [pFn] at h
                    split at h
                    · split at h
                      · cases en : numV n with
                        | none => rw [en] at h; cases h
                        | some k =>
                          rw [en] at h
                          simp only at h
                          split at h
                          · unfold pFun at h
                            split at h
                            · rename_i ks R2 e
                              cases e2 : pEnd R2 with
                              | none => rw [e2] at h; cases h
                              | some md =>
                                rw [e2] at h
                                cases h
                                obtain ⟨k1, k2⟩ := pKs_w e (by simp only [List.length_cons] at l; omega)
                                first
                                  | exact k1
                                  | exact pEnd_w e2 k2
                            · cases h
                          · cases h
                      · cases h
                    · cases h
                · cases h
  | l w x =>
    unfold pI at h
    split at h
    · cases U with
      | nil => cases h
      | cons t R =>
        by_cases hw : isW t = true
        · rw [pCl_at hw] at h
          cases e : pLs 40 R with
          | none => rw [e] at h; cases h
          | some p =>
            obtain ⟨ps, Y⟩ := p
            rw [e] at h
            cases R with
            | nil => cases e
            | cons a R =>
              simp only [pLs] at e
              split at e
              · obtain ⟨C, rfl, _, _, _, lc, rw1⟩ := pL_eat (pT_eat 40) _ _ _ _ e
                simp only [List.length_cons, List.length_append] at l
                cases Y with
                | nil => cases h
                | cons b Y =>
                  simp only at h
                  split at h
                  · cases e2 : pT 41 Y with
                    | none => rw [e2] at h; cases h
                    | some p =>
                      obtain ⟨tb, Z⟩ := p
                      rw [e2] at h
                      cases Z with
                      | cons c Z => cases h
                      | nil =>
                        cases h
                        obtain ⟨C2, rfl, _, rw2⟩ := pT_eat 41 Y _ _ e2
                        simp only [List.length_cons, List.length_append, List.length_nil] at l
                        exact ⟨by show ps.length ≤ 6000; omega, fun p hp => (rw1 (by simp only [List.length_append, List.length_cons, List.length_nil]; omega) p hp).up, rw2 (by simp only [List.length_append, List.length_nil]; omega)⟩
                  · cases h
              · cases e
        · cases R with
          | nil => cases h
          | cons a R => simp only [pCl, hw, if_false] at h; cases h
    · cases U with
      | nil => cases h
      | cons t R =>
        simp only at h
        split at h
        · match R, h with
          | [w, n], h =>
            simp only [pMk] at h
            split at h
            · cases e : numV n with
              | none => rw [e] at h; cases h
              | some k => rw [e] at h; cases h
            · cases h
        · split at h
          · match R, h with
            | [w], h =>
              simp only [pFm] at h
              split at h <;> cases h
          · split at h
            · match R, h with
              | w :: b :: X, h =>
                simp only [pCn] at h
                split at h
                · split at h
                  · unfold pCon at h
                    split at h
                    · rename_i R2 _
                      cases e2 : pEnd R2 with
                      | none => rw [e2] at h; cases h
                      | some md => rw [e2] at h; cases h
                    · cases h
                  · cases h
                · cases h
            · split at h
              · match R, h with
                | w :: b :: n :: c :: X, h =>
                  simp only [pFn] at h
                  split at h
                  · split at h
                    · cases en : numV n with
                      | none => rw [en] at h; cases h
                      | some k =>
                        rw [en] at h
                        simp only at h
                        split at h
                        · unfold pFun at h
                          split at h
                          · rename_i R2 _
                            cases e2 : pEnd R2 with
                            | none => rw [e2] at h; cases h
                            | some md => rw [e2] at h; cases h
                          · cases h
                        · cases h
                    · cases h
                  · cases h
              · cases h
theorem DsW.row {s s' : DS} {U : List Tok} (h : DsW s) (e : rowS s U = some s') (l : U.length ≤ 6000) : DsW s' := by
  unfold rowS at e
  split at e
  · cases e; exact h
  · cases ei : pI U with
    | none => rw [ei] at e; cases e
    | some it =>
      rw [ei] at e
      have w := pI_w ei l
      obtain ⟨h1, h2⟩ := h
      cases it with
      | m x => cases e; exact ⟨h1, h2⟩
      | f z => cases e; exact ⟨h1, h2⟩
      | c x =>
        cases e
        refine ⟨fun c hc => ?_, h2⟩
        rcases List.mem_append.mp hc with hc | hc
        · exact h1 c hc
        · rw [List.mem_singleton.mp hc]; exact w
      | h x =>
        cases e
        refine ⟨h1, fun f hf => ?_⟩
        rcases List.mem_append.mp hf with hf | hf
        · exact h2 f hf
        · rw [List.mem_singleton.mp hf]
          exact ⟨w.1, w.2.1, fun c hc => by rw [w.2.2] at hc; cases hc⟩
      | l z x =>
        simp only [stp] at e
        cases eg : s.fs.getLast? with
        | none => rw [eg] at e; cases e
        | some f0 =>
          rw [eg] at e
          obtain ⟨fs0, hf0⟩ := List.getLast?_eq_some_iff.mp eg
          simp only at e
          split at e
          · cases e
            refine ⟨h1, fun f hf => ?_⟩
            have hf : f ∈ addCl s.fs x := hf
            rw [hf0, addCl_snoc] at hf
            rcases List.mem_append.mp hf with hf | hf
            · exact h2 f (by rw [hf0]; exact List.mem_append_left _ hf)
            · rw [List.mem_singleton.mp hf]
              obtain ⟨g1, g2, g3⟩ := h2 f0 (by rw [hf0]; simp)
              refine ⟨g1, g2, fun c hc => ?_⟩
              rcases List.mem_append.mp hc with hc | hc
              · exact g3 c hc
              · rw [List.mem_singleton.mp hc]; exact w
          · cases e
theorem rowsS_w : ∀ (Us : List (List Tok)) (n : Nat) (s s' : DS), (∀ U ∈ Us, U.length ≤ 6000) → DsW s → rowsS n s Us = .ok s' → DsW s'
  | [], n, s, s', _, h, e => by cases e; exact h
  | U :: r, n, s, s', hl, h, e => by
    rw [rowsS_cons] at e
    cases er : rowS s U with
    | none => rw [er] at e; cases e
    | some s2 =>
      rw [er] at e
      exact rowsS_w r (n + 1) s2 s' (fun U hU => hl U (List.mem_cons_of_mem _ hU)) (h.row er (hl U (List.mem_cons_self ..))) e
theorem drf_ok {ls : List (List Nat)} {z : List Nat} {s : DS} (hlen : (fullT ls ++ z).length ≤ 6000) (hok : ∀ l ∈ ls, OkR l) (e : drf ls z = .ok s) (hN : DsN s 6000) : DsOk s := by
  unfold drf at e
  cases er : rowsS 1 s0 (ls.map toks) with
  | error n => rw [er] at e; cases e
  | ok s2 =>
    rw [er] at e
    simp only at e
    split at e
    · cases e
      obtain ⟨_, hn2⟩ := full_rows ls
      obtain ⟨h1, h2⟩ := rowsS_w _ 1 s0 s (fun U hU => by
        obtain ⟨l, hl, rfl⟩ := List.mem_map.mp hU
        exact (toks_ok (hok l hl) (by have := hn2 l hl; rw [List.length_append] at hlen; omega)).1) ⟨fun c hc => (by cases hc), fun f hf => (by cases hf)⟩ er
      obtain ⟨n1, n2, n3, n4, n5⟩ := hN
      exact ⟨n1, n2, n3, n4, fun c hc => ⟨(h1 c hc).1.1, (h1 c hc).1.2, (h1 c hc).2⟩, fun f hf => ⟨(h2 f hf).1.1, (h2 f hf).1.2, (h2 f hf).2.1, n5 f hf, fun c hc => (h2 f hf).2.2 c hc⟩⟩
    · cases e
/-- what a value is read as: a fault's line, or what it tells -/
def ReadsTo (K : PySem.W.Frag) (H : Hp) (v : V) (r : Except Nat DS) : Prop := (NoRows K H v ∧ r = .error 0) ∨ ∃ (ls : List (List Nat)) (z : List Nat), v = SV (fullT ls ++ z) ∧ (fullT ls ++ z).length ≤ 6000 ∧ (∀ l ∈ ls, OkR l) ∧ OkR z ∧ r = drf ls z
def spARead (K : PySem.W.Frag) (B : Addr) : Sp := fun vs H Q E => ∃ (v : V) (r : Except Nat DS), vs = [v] ∧ ReadsTo K H v r ∧
  match r with
  | .error n => Bad B (n : Int) (Same H) E
  | .ok s => ∀ v H', Is H' v (.tup [tabD s, prgD s]) → Same H H' → Q v H'
theorem go_nm {i : Nat} {v : V} {σ : L2.St} {H : Hp} {k : L2.St → Hp → Prop} (h : k (σ.set i (some v)) H) : gName i v σ H k := h
theorem okx_read (T : Txt K mg) (G_drafted : FnOk P w K mg base (L2.CX P w) 92 T.a_drafted T.d_drafted ["text", "asks"] (spADrafted K T.c_Draft T.c_BadText)) (G_table : FnOk P w K mg base CX0 44 T.a_table T.d_table ["draft"] (spRTable T.c_Draft)) (G_program : FnOk P w K mg base CX0 44 T.a_program T.d_program ["draft"] (spRProg T.c_Draft)) : FnOk P w K mg base (L2.CX P w) 93 T.a_read T.d_read ["text"] (spARead K T.c_BadText) := by
  refine T.F_read.okX sc_read (fun vs H Q E h => ?_) (fun cdv A outer s H vs Q E hr h => ?_)
  · obtain ⟨v, r, rfl, _⟩ := h; rfl
  · obtain ⟨v, r, rfl, hR, q⟩ := h
    have hr_drafted : Room 92 _ := hr
    have hr_table : Room 44 _ := hr.mono (by decide)
    have hr_program : Room 44 _ := hr.mono (by decide)
    refine ⟨_, (pss_cons (ps_set (i := 1) sc_read.nd rfl (Or.inl rfl) (pe_call G_drafted hr_drafted rfl T.m_drafted T.F_drafted.kp T.b_drafted .nil (passes_call (takes_of rfl rfl rfl rfl) fun _ _ _ _ h => h) (pa_cons (pv 0) (pa_cons pe_bl pa_nil))))
    (pss_one (ps_ret (pe_tup (pa_cons (pe_call G_table hr_table rfl T.m_table T.F_table.kp T.b_table .nil pass0 (pa_cons (pv 1) pa_nil)) (pa_cons (pe_call G_program hr_program rfl T.m_program T.F_program.kp T.b_program .nil pass0 (pa_cons (pv 1) pa_nil)) pa_nil)))))), ?_⟩
    rcases hR with ⟨hN, rfl⟩ | ⟨ls, z, rfl, hlen, hok, hz, rfl⟩
    · exact ⟨_, rfl, v, rfl, .inl ⟨q, hN⟩⟩
    · refine ⟨_, rfl, _, rfl, .inr ⟨ls, z, rfl, hlen, hok, hz, ?_⟩⟩
      cases e : drf ls z with
      | error n => rw [e] at q; exact q
      | ok s =>
        rw [e] at q
        intro a H1 D1 s1 hN
        have hds := drf_ok hlen hok e hN
        refine go_nm (nx_of (go_ret (t := .tup [tabD s, prgD s]) (vx_tup (vs_cons (t := tabD s) (fun H5 Q5 s5 q5 => ⟨_, rfl, a, s, rfl, D1.same s5, hds, q5⟩) (vs_cons (t := prgD s) (fun H5 Q5 s5 q5 => ⟨_, rfl, a, s, rfl, D1.same s5, hds, q5⟩) vs_nil)) (by simp)) ?_))
        exact fun v H' iv s' => q v H' iv (s1.trans s')
def outP : Except Nat DS → PV
  | .error n => .tup [.str "fault", .int n]
  | .ok s => .tup [tabD s, prgD s]
def isErr : Except Nat DS → Bool
  | .error _ => true
  | .ok _ => false
def spATold (K : PySem.W.Frag) : Sp := fun vs H Q _ => ∃ (v : V) (r : Except Nat DS), vs = [v] ∧ ReadsTo K H v r ∧ ∀ v' H', Is H' v' (outP r) → Same H H' → Q v' H'
theorem ok_law_told (T : Txt K mg) (G_read : FnOk P w K mg base (L2.CX P w) 93 T.a_read T.d_read ["text"] (spARead K T.c_BadText)) : FnOk P w K mg base CX0 94 T.a_law_told T.d_law_told ["value"] (spATold K) := by
  refine T.F_law_told.ok sc_law_told (fun vs H Q E h => ?_) (fun cdv A outer s H vs Q E hr h => ?_)
  · obtain ⟨v, r, rfl, _⟩ := h; rfl
  · obtain ⟨v, r, rfl, hR, q⟩ := h
    refine ⟨_, pss_one (ps_try_as (i := 1) (c := .ref T.c_BadText) rfl rfl sc_law_told.nd rfl rfl ⟨rfl, by decide, .inl T.low_BadText.name⟩ takes0
      (fun W pn xe tk _ => pss_one (ps_ret (pe_callS G_read hr rfl T.m_read T.F_read.kp T.b_read (fun σ => passAt tk σ) (pa_cons (pv 0) pa_nil))))
      (fun a oe cls d pn hz hf => pss_one (ps_ret (pe_tup (pa_cons pe_str (pa_cons (pe_lineOf T.low_BadText hz hf (pv 1)) pa_nil)))))), ?_⟩
    refine ⟨_, rfl, v, r, rfl, hR, ?_⟩
    cases r with
    | error n =>
      intro d H' ed s'
      exact ⟨true, T.low_BadText.caught, fun _ a ha => ⟨_, rfl, rfl, rfl, d, _, rfl, ed, (by show 2 ≤ sizeLine; decide), fun p hp => q _ _ (.tup upd_same (.cons (.str _ (by decide +kernel)) (.cons (.int _) .nil))) (s'.trans (same_upd hp _))⟩, fun z => Bool.noConfusion z⟩
    | ok s => exact fun v' H' iv s' => q v' H' iv s'
def spAKindsBy (K : PySem.W.Frag) : Sp := fun vs H Q _ => ∃ (v : V) (r : Except Nat DS), vs = [v] ∧ ReadsTo K H v r ∧ ∀ H', Same H H' → Q (.bl (isErr r)) H'
theorem ok_law_by_kinds (T : Txt K mg) (G_read : FnOk P w K mg base (L2.CX P w) 93 T.a_read T.d_read ["text"] (spARead K T.c_BadText)) : FnOk P w K mg base CX0 94 T.a_law_by_kinds T.d_law_by_kinds ["value"] (spAKindsBy K) := by
  refine T.F_law_by_kinds.ok sc_law_by_kinds (fun vs H Q E h => ?_) (fun cdv A outer s H vs Q E hr h => ?_)
  · obtain ⟨v, r, rfl, _⟩ := h; rfl
  · obtain ⟨v, r, rfl, hR, q⟩ := h
    refine ⟨_, pss_cons (ps_try_only (c := .ref T.c_KindsError) rfl rfl ⟨rfl, by decide, .inl T.up_BadText.name⟩ takes0
      (fun W pn xe tk _ => pss_one (ps_expr (pe_callS G_read hr rfl T.m_read T.F_read.kp T.b_read (fun σ => passAt tk σ) (pa_cons (pv 0) pa_nil))))
      (fun a oe cls d pn hz hf => pss_one (ps_ret pe_bl))) (pss_one (ps_ret pe_bl)), ?_⟩
    refine ⟨_, rfl, v, r, rfl, hR, ?_⟩
    cases r with
    | error n =>
      intro d H' ed s'
      exact ⟨true, T.up_BadText.caught, fun _ a ha => q _ s', fun z => Bool.noConfusion z⟩
    | ok s => exact fun v' H' iv s' => q _ s'
end
end Kx
set_option maxHeartbeats 2000000
set_option pp.maxSteps 600
/-! What is read has good tokens alone; kinds of tokens. -/
namespace Kx
open PySem PySem.Spec PyProof.Rows L2
def LITS : List Tok := [ARW, [40], [41], [44], [58], [61]]
def Gd (t : Tok) : Prop := isW t = true ∨ (numV t).isSome = true ∨ t ∈ LITS
instance (t : Tok) : Decidable (Gd t) := by unfold Gd; infer_instance
theorem gd_lit {t : Tok} (h : t ∈ LITS) : Gd t := .inr (.inr h)
theorem gd_app {a b : List Tok} (h : ∀ t ∈ a, Gd t) (k : ∀ t ∈ b, Gd t) : ∀ t ∈ a ++ b, Gd t := fun t ht => (List.mem_append.mp ht).elim (h t) (k t)
theorem gd_cons {a : Tok} {b : List Tok} (h : Gd a) (k : ∀ t ∈ b, Gd t) : ∀ t ∈ a :: b, Gd t := fun t ht => by
  rcases List.mem_cons.mp ht with rfl | ht
  · exact h
  · exact k t ht
theorem gd_nil : ∀ t ∈ ([] : List Tok), Gd t := fun t h => by cases h
theorem pL_gd {k : Nat} (hP : ∀ X t R, pT k X = some (t, R) → ∃ C, X = C ++ R ∧ ∀ t ∈ C, Gd t) :
    ∀ (m : Nat) (X : List Tok) (ts : List PV) (R : List Tok), pL (pT k) m X = some (ts, R) → ∃ C, X = C ++ R ∧ ∀ t ∈ C, Gd t
  | 0, X, ts, R, h => by cases h
  | m + 1, X, ts, R, h => by
    unfold pL at h
    cases e : pT k X with
    | none => rw [e] at h; cases h
    | some p =>
      obtain ⟨t, Y⟩ := p
      obtain ⟨C, rfl, hC⟩ := hP X t Y e
      rw [e] at h
      cases Y with
      | nil => cases h
      | cons a Y =>
        by_cases h41 : a = [41]
        · simp only [h41, if_true] at h
          cases h
          subst h41
          exact ⟨C ++ [[41]], by simp, gd_app hC (gd_cons (gd_lit (by decide)) gd_nil)⟩
        · simp only [h41, if_false] at h
          by_cases h44 : a = [44]
          · simp only [h44, if_true] at h
            subst h44
            cases e2 : pL (pT k) m Y with
            | none => rw [e2] at h; cases h
            | some p =>
              obtain ⟨us, R3⟩ := p
              rw [e2] at h
              cases h
              obtain ⟨C2, rfl, h2⟩ := pL_gd hP m Y us R e2
              exact ⟨C ++ ([44] :: C2), by simp, gd_app hC (gd_cons (gd_lit (by decide)) h2)⟩
          · simp only [h44, if_false] at h
            cases h
theorem pT_gd : ∀ (k : Nat) (X : List Tok) (t : PV) (R : List Tok), pT k X = some (t, R) → ∃ C, X = C ++ R ∧ ∀ t ∈ C, Gd t
  | 0, X, t, R, h => by cases h
  | k + 1, [], t, R, h => by cases h
  | k + 1, a :: X, t, R, h => by
    unfold pT at h
    by_cases w : isW a = true
    · have leaf : ∀ t ∈ [a], Gd t := gd_cons (.inl w) gd_nil
      simp only [w, if_true] at h
      cases X with
      | nil => cases h; exact ⟨[a], rfl, leaf⟩
      | cons b X =>
        by_cases h40 : b = [40]
        · simp only [h40, if_true] at h
          subst h40
          cases e : pL (pT k) (X.length + 1) X with
          | none => rw [e] at h; cases h
          | some p =>
            obtain ⟨ts, R3⟩ := p
            rw [e] at h
            cases h
            obtain ⟨C, rfl, hC⟩ := pL_gd (pT_gd k) _ X ts R e
            exact ⟨a :: [40] :: C, rfl, gd_cons (.inl w) (gd_cons (gd_lit (by decide)) hC)⟩
        · simp only [h40, if_false] at h
          cases h
          exact ⟨[a], rfl, leaf⟩
    · simp only [w, if_false] at h
      cases h
theorem pK_gd {X : List Tok} {k : Kd} {R : List Tok} (h : pK X = some (k, R)) : ∃ C, X = C ++ R ∧ ∀ t ∈ C, Gd t := by
  unfold pK at h
  split at h
  · rename_i f a Y
    by_cases w : isW f = true
    · simp only [w, if_true] at h
      by_cases h40 : a = [40]
      · simp only [h40, if_true] at h
        subst h40
        split at h
        · rename_i t b R2 e
          by_cases h41 : b = [41]
          · simp only [h41, if_true] at h
            cases h
            subst h41
            obtain ⟨C, rfl, hC⟩ := pT_gd 40 Y t _ e
            exact ⟨f :: [40] :: (C ++ [[41]]), by simp, gd_cons (.inl w) (gd_cons (gd_lit (by decide)) (gd_app hC (gd_cons (gd_lit (by decide)) gd_nil)))⟩
          · simp only [h41, if_false] at h; cases h
        · cases h
      · simp only [h40, if_false] at h; cases h
    · simp only [w, if_false] at h; cases h
  · cases h
theorem pKs_gd : ∀ (m : Nat) (X : List Tok) (ks : List Kd) (R : List Tok), pKs m X = some (ks, R) → ∃ C, X = C ++ R ∧ ∀ t ∈ C, Gd t
  | 0, X, ks, R, h => by cases h
  | m + 1, X, ks, R, h => by
    unfold pKs at h
    cases e : pK X with
    | none => rw [e] at h; cases h
    | some p =>
      obtain ⟨k, Y⟩ := p
      obtain ⟨C, rfl, hC⟩ := pK_gd e
      rw [e] at h
      cases Y with
      | nil => cases h; exact ⟨C, rfl, hC⟩
      | cons a Y =>
        by_cases h44 : a = [44]
        · simp only [h44, if_true] at h
          subst h44
          cases e2 : pKs m Y with
          | none => rw [e2] at h; cases h
          | some p =>
            obtain ⟨us, R3⟩ := p
            rw [e2] at h
            cases h
            obtain ⟨C2, rfl, h2⟩ := pKs_gd m Y us R e2
            exact ⟨C ++ [44] :: C2, by simp, gd_app hC (gd_cons (gd_lit (by decide)) h2)⟩
        · simp only [h44, if_false] at h
          cases h
          exact ⟨C, rfl, hC⟩
theorem pEnd_gd {R : List Tok} {k : Kd} (h : pEnd R = some k) : ∀ t ∈ R, Gd t := by
  cases R with
  | nil => cases h
  | cons a R =>
    by_cases ha : a = ARW
    · subst ha
      rw [pEnd_at] at h
      cases e : pK R with
      | none => rw [e] at h; cases h
      | some p =>
        obtain ⟨k', Y⟩ := p
        rw [e] at h
        cases Y with
        | cons b Y => cases h
        | nil =>
          obtain ⟨C, rfl, hC⟩ := pK_gd e
          exact gd_cons (gd_lit (by decide)) (gd_app hC gd_nil)
    · simp only [pEnd, ha, if_false] at h; cases h
theorem gd_w {z : Str} (h : isW (cs z) = true) : Gd (cs z) := .inl h
theorem pI_gd {U : List Tok} {it : Item} (h : pI U = some it) : ∀ t ∈ U, Gd t := by
  unfold pI at h
  split at h
  · cases U with
    | nil => cases h
    | cons w R =>
      by_cases hw : isW w = true
      · rw [pCl_at hw] at h
        refine gd_cons (.inl hw) ?_
        cases R with
        | nil => cases h
        | cons a R =>
          by_cases ha : a = [40]
          · subst ha
            simp only [pLs, if_true] at h
            cases e : pL (pT 40) (R.length + 1) R with
            | none => rw [e] at h; cases h
            | some p =>
              obtain ⟨ps, Y⟩ := p
              rw [e] at h
              obtain ⟨C, rfl, hC⟩ := pL_gd (pT_gd 40) _ _ _ _ e
              cases Y with
              | nil => cases h
              | cons b Y =>
                by_cases hb : b = [61]
                · subst hb
                  simp only [if_true] at h
                  cases e2 : pT 41 Y with
                  | none => rw [e2] at h; cases h
                  | some p =>
                    obtain ⟨t, Z⟩ := p
                    rw [e2] at h
                    cases Z with
                    | cons c Z => cases h
                    | nil =>
                      obtain ⟨C2, rfl, h2⟩ := pT_gd 41 Y t [] e2
                      exact gd_cons (gd_lit (by decide)) (gd_app hC (gd_cons (gd_lit (by decide)) (gd_app h2 gd_nil)))
                · simp only [hb, if_false] at h; cases h
          · simp only [pLs, ha, if_false] at h; cases h
      · cases R with
        | nil => cases h
        | cons a R => simp only [pCl, hw, if_false] at h; cases h
  · cases U with
    | nil => cases h
    | cons t R =>
      simp only at h
      split at h
      · rename_i e
        subst e
        refine gd_cons (.inl (by decide +kernel)) ?_
        match R, h with
        | [w, n], h =>
          simp only [pMk] at h
          split at h
          · rename_i hw
            cases e : numV n with
            | none => rw [e] at h; cases h
            | some k => exact gd_cons (.inl hw) (gd_cons (.inr (.inl (by rw [e]; rfl))) gd_nil)
          · cases h
      · split at h
        · rename_i e
          subst e
          refine gd_cons (.inl (by decide +kernel)) ?_
          match R, h with
          | [w], h =>
            simp only [pFm] at h
            split at h
            · rename_i hw
              exact gd_cons (.inl hw) gd_nil
            · cases h
        · split at h
          · rename_i e
            subst e
            refine gd_cons (.inl (by decide +kernel)) ?_
            match R, h with
            | w :: b :: X, h =>
              simp only [pCn] at h
              split at h
              · rename_i hw
                split at h
                · rename_i hb
                  subst hb
                  refine gd_cons (.inl hw) (gd_cons (gd_lit (by decide)) ?_)
                  unfold pCon at h
                  cases e : pPs X with
                  | none => rw [e] at h; cases h
                  | some p =>
                    obtain ⟨ks, R2⟩ := p
                    rw [e] at h
                    simp only at h
                    cases e2 : pEnd R2 with
                    | none => rw [e2] at h; cases h
                    | some md =>
                      unfold pPs at e
                      split at e
                      · cases e; exact pEnd_gd e2
                      · obtain ⟨C, rfl, hC⟩ := pKs_gd _ _ _ _ e
                        exact gd_app hC (pEnd_gd e2)
                · cases h
              · cases h
          · split at h
            · rename_i e
              subst e
              refine gd_cons (.inl (by decide +kernel)) ?_
              match R, h with
              | w :: b :: n :: c :: X, h =>
                simp only [pFn] at h
                split at h
                · rename_i hw
                  split at h
                  · rename_i hb
                    subst hb
                    cases en : numV n with
                    | none => rw [en] at h; cases h
                    | some k =>
                      rw [en] at h
                      simp only at h
                      split at h
                      · rename_i hc
                        subst hc
                        refine gd_cons (.inl hw) (gd_cons (.inl (by decide +kernel)) (gd_cons (.inr (.inl (by rw [en]; rfl))) (gd_cons (gd_lit (by decide)) ?_)))
                        unfold pFun at h
                        cases e : pKs (X.length + 1) X with
                        | none => rw [e] at h; cases h
                        | some p =>
                          obtain ⟨ks, R2⟩ := p
                          rw [e] at h
                          simp only at h
                          cases e2 : pEnd R2 with
                          | none => rw [e2] at h; cases h
                          | some md =>
                            obtain ⟨C, rfl, hC⟩ := pKs_gd _ _ _ _ e
                            exact gd_app hC (pEnd_gd e2)
                      · cases h
                  · cases h
                · cases h
            · cases h
/-! ### kinds of tokens, as the judge tells them -/
/-- a sign by which the judge goes on -/
def lg (t : Tok) : Bool := decide (t = ARW) || decide (t ∈ LITS) || (match t with | c :: _ => isAl c | [] => false)
def kdS (t : Tok) : Str := if isW t = true then "word" else if (numV t).isSome = true then "number" else if t ∈ LITS then mkS t else "bad"
theorem num_al : ∀ n, n < 100 → lg (num n) = true := by decide +kernel
theorem gd_lg {t : Tok} (h : Gd t) : lg t = true := by
  rcases h with h | h | h
  · unfold lg
    cases t with
    | nil => exact absurd h (by decide +kernel)
    | cons c r =>
      unfold isW wkb at h
      simp only [Bool.and_eq_true] at h
      have h4 := h.2.2.2.1
      have : isAl c = true := by
        unfold Txt.isalnum at h4
        simp only [Bool.and_eq_true] at h4
        have h5 := h4.2
        simp [mkS] at h5
        exact h5.1
      simp [this]
  · cases e : numV t with
    | none => rw [e] at h; cases h
    | some n =>
      obtain ⟨rfl, hn⟩ := numV_some e
      exact num_al n hn
  · unfold lg; simp [h]
theorem gd_bad {t : Tok} (h : Gd t) : kdS t ≠ "bad" := by
  unfold kdS
  rcases h with h | h | h
  · rw [if_pos h]; decide
  · split
    · decide
    · first
        | decide
        | (rw [if_pos h]; decide)
  · split
    · decide
    · split
      · decide
      · try rw [if_pos h]
        have : ∀ t ∈ LITS, mkS t ≠ "bad" := by decide +kernel
        exact this t h
theorem bad_gd {t : Tok} (h : ¬ Gd t) : kdS t = "bad" := by
  unfold Gd at h
  have h1 : ¬ isW t = true := fun e => h (.inl e)
  have h2 : ¬ (numV t).isSome = true := fun e => h (.inr (.inl e))
  have h3 : t ∉ LITS := fun e => h (.inr (.inr e))
  unfold kdS
  rw [if_neg h1, if_neg h2, if_neg h3]
end Kx
namespace Kx
open PySem PySem.Spec PyProof.Rows L2
section
variable {P : Program} {w : World} {K : PySem.W.Frag} {mg : Str → Option Value} {base : Heap}
set_option pp.maxSteps 900
/-! ### the judge's tokens -/
abbrev LETS : Str := "abcdefghijklmnopqrstuvwxyzABCDEFGHIJKLMNOPQRSTUVWXYZ0123456789"
theorem let_al : ∀ c : Nat, c < 127 → decide (c ∈ LETS.cps.toList) = isAl c := by decide +kernel
def spLet : Sp := fun vs H Q _ => ∃ c : Nat, vs = [.str ⟨#[c]⟩] ∧ c < 127 ∧ Q (.bl (isAl c)) H
theorem ok_law_is_letter (T : Txt K mg)  : FnOk P w K mg base CX0 1 T.a_law_is_letter T.d_law_is_letter ["char"] spLet := by
  refine T.F_law_is_letter.ok sc_law_is_letter (fun vs H Q E h => ?_) (fun cdv A outer s H vs Q E hr h => ?_)
  · obtain ⟨c, rfl, _⟩ := h; rfl
  · obtain ⟨c, rfl, h, q⟩ := h
    refine ⟨_, (pss_one (ps_ret (pe_cmpR op_in_sign (pv 0) pe_str (by rfl)))), ?_⟩
    refine ⟨_, rfl, c, LETS, rfl, rfl, ?_⟩
    rw [let_al c h]; exact q
theorem al_35 : isAl 35 = false := by decide +kernel
/-- the line as the judge goes over it: up to its comment -/
theorem hd_get {r : List Nat} {j : Nat} (h : j < (hd35 r).length) : r[j]? = (hd35 r)[j]? := by
  conv => lhs; rw [← hd_tl r]
  rw [List.getElem?_append_left h]
theorem hd_end (r : List Nat) : r[(hd35 r).length]? = none ∨ r[(hd35 r).length]? = some 35 := by
  have : r[(hd35 r).length]? = (tl35 r)[0]? := by
    have e : r[(hd35 r).length]? = (hd35 r ++ tl35 r)[(hd35 r).length]? := by rw [hd_tl]
    rw [e, List.getElem?_append_right (Nat.le_refl _), Nat.sub_self]
  rw [this]
  unfold tl35
  cases e : r.dropWhile (· != 35) with
  | nil => exact .inl rfl
  | cons a l =>
    have := List.head?_dropWhile_not (fun x : Nat => x != 35) r
    rw [e] at this
    simp only [List.head?_cons] at this
    have h2 : a = 35 := by simpa using this
    exact .inr (by rw [h2]; rfl)
theorem hd_cut {r : List Nat} {k e : Nat} (h : e ≤ (hd35 r).length) : (r.drop k).take (e - k) = ((hd35 r).drop k).take (e - k) := by
  conv => lhs; rw [← hd_tl r]
  rw [List.drop_append, List.take_append_of_le_length]
  rw [List.length_drop]; omega
theorem sig_in : ∀ c : Nat, c < 127 → decide (c ∈ ("(),:=" : Str).cps.toList) = decide ([c] ∈ LITS) := by decide +kernel
theorem sig_al : ∀ c : Nat, c < 127 → [c] ∈ LITS → isAl c = false ∧ c ≠ 32 := by decide +kernel
def spJTok : Sp := fun vs H Q _ => ∃ r : List Nat, vs = [SV r] ∧ OkR r ∧ r.length ≤ 6000 ∧
  ((∀ t ∈ toks r, lg t = true) → ∀ p H', H p = none → Same H H' → H' p = some (.lst ((toks r).map SV)) → Q (.ref p) H') ∧ ((∃ t ∈ toks r, lg t = false) → ∀ H', Same H H' → Q .non H')
theorem ok_law_tokens (T : Txt K mg) (G_law_is_letter : FnOk P w K mg base CX0 1 T.a_law_is_letter T.d_law_is_letter ["char"] spLet) : FnOk P w K mg base CX0 2 T.a_law_tokens T.d_law_tokens ["line"] spJTok := by
  refine T.F_law_tokens.ok sc_law_tokens (fun vs H Q E h => ?_) (fun cdv A outer s H vs Q E hr h => ?_)
  · obtain ⟨r, rfl, _⟩ := h; rfl
  · obtain ⟨r, rfl, hR, hl, q1, q2⟩ := h
    have hr_law_is_letter := hr
    refine ⟨_, (pss_cons (ps_set (i := 1) sc_law_tokens.nd rfl (Or.inl rfl) (pe_lst pa_nil))
    (pss_cons (ps_set (i := 2) sc_law_tokens.nd rfl (Or.inl rfl) pe_int)
    (pss_cons (ps_while PassesOwn.never (PW.pt (pw_and (pt_cmpR op_lt (pv 2) (pe_callB call_len_str (by rfl) T.z_len (by decide +kernel) (pa_cons (pv 0) pa_nil)) (nomark _)) (pw_and1 (pt_cmpR op_ne (pe_ix ix_str (pv 0) (pv 2) (fun _ _ => rfl)) pe_str (nomark _)))))
    (pss_cons (ps_set (i := 3) sc_law_tokens.nd rfl (Or.inl rfl) (pv 2))
    (Evl.pss_cut (ps_while PassesOwn.never (PW.pt (pw_and (pt_cmpR op_lt (pv 3) (pe_callB call_len_str (by rfl) T.z_len (by decide +kernel) (pa_cons (pv 0) pa_nil)) (nomark _)) (pw_and1 (pt_val (pe_call G_law_is_letter hr_law_is_letter rfl T.m_law_is_letter T.F_law_is_letter.kp T.b_law_is_letter .nil pass0 (pa_cons (pe_ix ix_str (pv 0) (pv 3) (fun _ _ => rfl)) pa_nil))))))
    (pss_one (ps_aug (i := 3) sc_law_tokens.nd rfl (Or.inl rfl) pe_int ip_add)))
    (pss_one (ps_if (pt_cmpR op_gt (pv 3) (pv 2) (nomark _)) (pss_cons (ps_expr (pe_bm PySem.F.plainAttrs_list PySem.F.slot_list_append PySem.F.type_list_append mt_append (pv 1) (pa_cons (pe_slice sl_str (pv 0) (po_some (pv 2)) (po_some (pv 3))) pa_nil)))
    (pss_one (ps_set (i := 2) sc_law_tokens.nd rfl (Or.inl rfl) (pv 3)))) (pss_one (ps_if (pt_cmpR op_eq (pe_slice sl_str (pv 0) (po_some (pv 2)) (po_some (pe_op op_add (pv 2) pe_int))) pe_str (nomark _)) (pss_cons (ps_expr (pe_bm PySem.F.plainAttrs_list PySem.F.slot_list_append PySem.F.type_list_append mt_append (pv 1) (pa_cons pe_str pa_nil)))
    (pss_one (ps_aug (i := 2) sc_law_tokens.nd rfl (Or.inl rfl) pe_int ip_add))) (pss_one (ps_if (pt_cmpR op_in_sign (pe_ix ix_str (pv 0) (pv 2) (fun _ _ => rfl)) pe_str (by rfl)) (pss_cons (ps_expr (pe_bm PySem.F.plainAttrs_list PySem.F.slot_list_append PySem.F.type_list_append mt_append (pv 1) (pa_cons (pe_ix ix_str (pv 0) (pv 2) (fun _ _ => rfl)) pa_nil)))
    (pss_one (ps_aug (i := 2) sc_law_tokens.nd rfl (Or.inl rfl) pe_int ip_add))) (pss_one (ps_if (pt_cmpR op_eq (pe_ix ix_str (pv 0) (pv 2) (fun _ _ => rfl)) pe_str (nomark _)) (pss_one (ps_aug (i := 2) sc_law_tokens.nd rfl (Or.inl rfl) pe_int ip_add)) (pss_one (ps_ret pe_non)))))))))))))
    (pss_one (ps_ret (pv 1)))))), ?_⟩
    have hlen : (mkS r).length = r.length := mk_len r
    have hxl : (hd35 r).length ≤ r.length := by
      have := congrArg List.length (hd_tl r)
      rw [List.length_append] at this; omega
    unfold toks at q1 q2
    refine ⟨by decide, fun p hp => ?_⟩
    refine ⟨fun m σ H' => ∃ (k : Nat) (T1 : List Tok) (y : Option V), σ = [some (SV r), some (.ref p), some (.int k), y] ∧ k ≤ (hd35 r).length ∧ tok (hd35 r) = T1 ++ tok ((hd35 r).drop k) ∧ (∀ t ∈ T1, lg t = true) ∧ T1.length ≤ k ∧ Same H H' ∧ H' p = some (.lst (T1.map SV)) ∧ m = (hd35 r).length - k, ⟨_, 0, [], _, rfl, Nat.zero_le _, rfl, (fun t h => by cases h), Nat.zero_le _, same_upd hp _, upd_same, rfl⟩, ?_⟩
    rintro m σ H' ⟨k, T1, y, rfl, hk, eU, g1, h1, s1, e1, rfl⟩
    refine ⟨_, rfl, _, rfl, _, rfl, small7 (by omega), _, _, rfl, rfl, _, rfl, ?_⟩
    by_cases hkl : k < (hd35 r).length
    case neg =>
      have ek : k = (hd35 r).length := by omega
      have fin : Q (.ref p) H' := by
        rw [ek, List.drop_length, tok_nil, List.append_nil] at eU
        rw [← eU] at e1 g1
        exact q1 g1 p H' hp s1 e1
      rcases hd_end r with h | h
      · have : r.length ≤ k := by rw [ek]; exact List.getElem?_eq_none_iff.mp h
        rw [show decide ((k : Int) < ((mkS r).length : Int)) = false from decide_eq_false (by omega)]
        exact iteF (iteF ⟨_, rfl, fin⟩)
      · rw [← ek] at h
        have hkr := (List.getElem?_eq_some_iff.mp h).1
        rw [show decide ((k : Int) < ((mkS r).length : Int)) = true from decide_eq_true (by omega)]
        refine iteT ⟨_, rfl, _, rfl, mkS r, (k : Int), 35, rfl, rfl, small7 (by omega), atI_nat (by show (cs (mkS r))[k]? = _; rw [cs_mk]; exact h), rfl, _, rfl, ?_⟩
        rw [show (!decide (V.str ⟨#[35]⟩ = V.str "#")) = false by decide]
        exact iteF ⟨_, rfl, fin⟩
    obtain ⟨c, hc⟩ : ∃ c, (hd35 r)[k]? = some c := ⟨_, List.getElem?_eq_getElem hkl⟩
    have hcr : r[k]? = some c := by rw [hd_get hkl]; exact hc
    have hcO := hd_ok hR c (List.mem_of_getElem? hc)
    have c127 : c < 127 := by have := hcO.2.1; omega
    have atk : ∀ {c : Nat} {j : Nat}, r[j]? = some c → atI (mkS r).cps.toList (j : Int) = some c := fun {c j} h => atI_nat (by show (cs (mkS r))[j]? = _; rw [cs_mk]; exact h)
    rw [show decide ((k : Int) < ((mkS r).length : Int)) = true from decide_eq_true (by omega)]
    refine iteT ⟨_, rfl, _, rfl, mkS r, (k : Int), c, rfl, rfl, small7 (by omega), atk hcr, rfl, _, rfl, ?_⟩
    rw [show (!decide (V.str ⟨#[c]⟩ = V.str "#")) = true by
      have : ¬ (V.str ⟨#[c]⟩ = V.str "#") := fun e => by
        have e3 : [c] = [35] := congrArg cs (V.str.inj e)
        exact hcO.2.2.2 (by simpa using e3)
      simpa using this]
    obtain ⟨l, el⟩ : ∃ l, (hd35 r).drop k = c :: l := by
      cases e : (hd35 r).drop k with
      | nil => have := congrArg List.length e; rw [List.length_drop] at this; simp at this; omega
      | cons a l => have h0 : ((hd35 r).drop k)[0]? = some c := by rw [at_drop]; exact hc
                    rw [e] at h0; cases h0; exact ⟨l, rfl⟩
    have step := tok_cons c l
    have dd : ((hd35 r).drop k).drop (tlen ((hd35 r).drop k)) = (hd35 r).drop (k + tlen ((hd35 r).drop k)) := List.drop_drop ..
    rw [← el, dd] at step
    rw [step] at eU
    have t0 := tlen_pos ((hd35 r).drop k)
    have t1 := tlen_le (l := (hd35 r).drop k) (by rw [el]; simp)
    have hdl : ((hd35 r).drop k).length = (hd35 r).length - k := List.length_drop ..
    have hwl := wl_le ((hd35 r).drop k)
    rw [hdl] at hwl t1
    refine iteT ⟨fun σ' H2 => ∃ (k' : Nat) (T3 : List Tok) (y : Option V), σ' = [some (SV r), some (.ref p), some (.int k'), y] ∧ k < k' ∧ k' ≤ (hd35 r).length ∧ tok (hd35 r) = T3 ++ tok ((hd35 r).drop k') ∧ (∀ t ∈ T3, lg t = true) ∧ T3.length ≤ k' ∧ Same H H2 ∧ H2 p = some (.lst (T3.map SV)),
      fun σ' H2 ⟨k', T3, y, r1, r2, r3, r4, r5, r6, r7, r8⟩ => ⟨(hd35 r).length - k', by omega, k', T3, y, r1, r3, r4, r5, r6, r7, r8, rfl⟩, ?_⟩
    refine ⟨_, rfl, ?_⟩
    refine ⟨fun σ H2 => σ = [some (SV r), some (.ref p), some (.int k), some (.int ((k + wl ((hd35 r).drop k) : Nat) : Int))] ∧ H2 = H', ?_, ?_⟩
    · refine ⟨fun m σ H2 => ∃ j, σ = [some (SV r), some (.ref p), some (.int k), some (.int ((k + j : Nat) : Int))] ∧ H2 = H' ∧ j ≤ wl ((hd35 r).drop k) ∧ m = wl ((hd35 r).drop k) - j, ⟨_, 0, rfl, rfl, Nat.zero_le _, rfl⟩, ?_⟩
      rintro m σ H2 ⟨j, rfl, rfl, hj, rfl⟩
      refine ⟨_, rfl, _, rfl, _, rfl, small7 (by omega), _, _, rfl, rfl, _, rfl, ?_⟩
      by_cases hjl : k + j < r.length
      case neg =>
        rw [show decide (((k + j : Nat) : Int) < ((mkS r).length : Int)) = false from decide_eq_false (by omega)]
        have : j = wl ((hd35 r).drop k) := by omega
        exact iteF (iteF ⟨by rw [this], rfl⟩)
      rw [show decide (((k + j : Nat) : Int) < ((mkS r).length : Int)) = true from decide_eq_true (by omega)]
      obtain ⟨d, hd⟩ : ∃ d, r[k + j]? = some d := ⟨_, List.getElem?_eq_getElem hjl⟩
      have d127 : d < 127 := by have := (hR d (List.mem_of_getElem? hd)).2.1; omega
      refine iteT ⟨_, rfl, _, rfl, mkS r, ((k + j : Nat) : Int), d, rfl, rfl, small7 (by omega), atk hd, d, rfl, d127, _, rfl, ?_⟩
      by_cases hw : j < wl ((hd35 r).drop k)
      case pos =>
        have hd2 : ((hd35 r).drop k)[j]? = some d := by rw [at_drop, ← hd_get (by omega)]; exact hd
        rw [wl_al hw hd2]
        refine iteT ⟨fun σ H3 => ∃ j', σ = [some (SV r), some (.ref p), some (.int k), some (.int ((k + j' : Nat) : Int))] ∧ H3 = H2 ∧ j' = j + 1, fun σ' H3 ⟨j', r1, r2, r3⟩ => ⟨wl ((hd35 r).drop k) - j', by omega, j', r1, r2, by omega, rfl⟩, ?_⟩
        exact ⟨_, rfl, _, _, rfl, rfl, j + 1, rfl, rfl, rfl⟩
      have hje : j = wl ((hd35 r).drop k) := by omega
      have : isAl d = false := by
        rcases Nat.lt_or_ge (k + j) (hd35 r).length with hlt | hge
        · exact wl_end (l := (hd35 r).drop k) (by rw [← hje, at_drop, ← hd_get hlt]; exact hd)
        · have ee : k + j = (hd35 r).length := by omega
          rcases hd_end r with h | h
          · rw [← ee, hd] at h; cases h
          · rw [← ee, hd] at h; cases h; exact al_35
      rw [this]
      exact iteF ⟨by rw [hje], rfl⟩
    · rintro σ H2 ⟨rfl, rfl⟩
      have fresh : ∀ (tk : Tok), H2 p = some (.lst (T1.map SV)) → Same H (upd H2 p (.lst (T1.map SV ++ [SV tk]))) ∧ (upd H2 p (.lst (T1.map SV ++ [SV tk]))) p = some (.lst ((T1 ++ [tk]).map SV)) := fun tk _ => ⟨Kx.Same.own s1 hp _, by rw [upd_same, List.map_append]; rfl⟩
      have lgs : ∀ {tk : Tok}, lg tk = true → ∀ t ∈ T1 ++ [tk], lg t = true := fun {tk} h t ht => by
        rcases List.mem_append.mp ht with ht | ht
        · exact g1 t ht
        · rw [List.mem_singleton.mp ht]; exact h
      have lst1 : (T1.map SV).length < sizeLine := by rw [List.length_map]; exact small7k (by omega)
      refine ⟨_, rfl, _, rfl, _, _, rfl, rfl, _, rfl, ?_⟩
      by_cases h0 : 0 < wl ((hd35 r).drop k)
      case pos =>
        rw [show decide ((k : Int) < ((k + wl ((hd35 r).drop k) : Nat) : Int)) = true from decide_eq_true (by omega)]
        have etl : tlen ((hd35 r).drop k) = wl ((hd35 r).drop k) := by unfold tlen; rw [if_pos h0]
        have calc1 : isAl c = true := wl_al h0 (by rw [at_drop]; exact hc)
        have n32 : c ≠ 32 := fun e => by rw [e] at calc1; rw [al_32] at calc1; cases calc1
        rw [if_neg n32, etl, ← List.append_assoc] at eU
        have hlg : lg (((hd35 r).drop k).take (wl ((hd35 r).drop k))) = true := by
          rw [el]
          rw [el] at h0
          cases e : wl (c :: l) with
          | zero => omega
          | succ n => unfold lg; simp [calc1]
        refine iteT ⟨_, rfl, .inl ⟨rfl, _, SqL.of e1⟩, _, rfl, _, rfl, _, rfl, _, rfl, _, rfl, mkS r, rfl, small7 (by omega), ?_⟩
        rw [cut_mid (by omega) (by omega), show k + wl ((hd35 r).drop k) - k = wl ((hd35 r).drop k) by omega]
        have hcut := hd_cut (r := r) (k := k) (e := k + wl ((hd35 r).drop k)) (by omega)
        rw [show k + wl ((hd35 r).drop k) - k = wl ((hd35 r).drop k) by omega] at hcut
        rw [hcut]
        obtain ⟨f1, f2⟩ := fresh (((hd35 r).drop k).take (wl ((hd35 r).drop k))) e1
        exact ⟨p, _, _, rfl, rfl, e1, lst1, _, rfl, k + wl ((hd35 r).drop k), _, _, rfl, by omega, by omega, eU, lgs hlg, by rw [List.length_append, List.length_singleton]; omega, f1, f2⟩
      have w0 : wl ((hd35 r).drop k) = 0 := by omega
      have cal : isAl c = false := wl_end (l := (hd35 r).drop k) (by rw [w0, at_drop]; exact hc)
      rw [show decide ((k : Int) < ((k + wl ((hd35 r).drop k) : Nat) : Int)) = false from decide_eq_false (by omega)]
      have etl : tlen ((hd35 r).drop k) = if ((hd35 r).drop k).take 2 = [45, 62] then 2 else 1 := by unfold tlen; rw [if_neg h0]
      have e2r : ((hd35 r).drop k).take 2 = [45, 62] ↔ (r.drop k).take 2 = [45, 62] := by
        rcases Nat.lt_or_ge (k + 1) (hd35 r).length with h | h
        · have := hd_cut (r := r) (k := k) (e := k + 2) (by omega)
          rw [show k + 2 - k = 2 by omega] at this
          rw [this]
        · have ee : k + 1 = (hd35 r).length := by omega
          have e1x : l = [] := by
            rw [el, List.length_cons] at hdl
            exact List.length_eq_zero_iff.mp (by omega)
          constructor
          · intro z; rw [el, e1x] at z; simp at z
          · intro z
            exfalso
            have h1 : ((r.drop k).take 2)[1]? = some 62 := by rw [z]; rfl
            rw [List.getElem?_take_of_lt (by decide), List.getElem?_drop, ee] at h1
            rcases hd_end r with h | h
            · rw [h] at h1; cases h1
            · rw [h] at h1; cases h1
      refine iteF ⟨_, rfl, _, rfl, _, rfl, _, rfl, _, _, rfl, rfl, _, rfl, mkS r, rfl, small7 (by omega), rfl, _, rfl, ?_⟩
      have ecut : cutS (mkS r) (some (k : Int)) (some ((k : Int) + 2)) = mkS ((r.drop k).take 2) := by
        unfold cutS
        rw [show ((k : Int) + 2) = ((k + 2 : Nat) : Int) by omega, HT.sIx_nat, HT.sIx_nat, mk_len, Nat.min_eq_left (show k ≤ r.length by omega)]
        show mkS (((cs (mkS r)).drop k).take (min (k + 2) r.length - k)) = _
        rw [cs_mk]
        congr 1
        rcases Nat.le_total (k + 2) r.length with h | h
        · rw [Nat.min_eq_left h, show k + 2 - k = 2 by omega]
        · rw [Nat.min_eq_right h, List.take_of_length_le (by rw [List.length_drop]; omega), List.take_of_length_le (by rw [List.length_drop]; omega)]
      rw [show decide (V.str (cutS (mkS r) (some (k : Int)) (some ((fun i j => i + j) (k : Int) 2))) = V.str "->") = decide (((hd35 r).drop k).take 2 = [45, 62]) by
        rw [show cutS (mkS r) (some (k : Int)) (some ((fun i j => i + j) (k : Int) 2)) = mkS ((r.drop k).take 2) from ecut]
        have := sv_lit ((r.drop k).take 2) "->"
        rw [show decide (V.str (mkS ((r.drop k).take 2)) = V.str "->") = decide ((r.drop k).take 2 = cs "->") from this]
        exact decide_eq_decide.mpr e2r.symm]
      by_cases hA : ((hd35 r).drop k).take 2 = [45, 62]
      · rw [decide_eq_true hA]
        rw [if_pos hA] at etl
        have n32 : c ≠ 32 := fun e => by rw [el, e] at hA; simp at hA
        rw [if_neg n32, etl, hA, ← List.append_assoc] at eU
        have l2 : 2 ≤ ((hd35 r).drop k).length := by
          have := congrArg List.length hA
          rw [List.length_take] at this
          simp only [List.length_cons, List.length_nil] at this; omega
        obtain ⟨f1, f2⟩ := fresh [45, 62] e1
        exact iteT ⟨_, rfl, .inl ⟨rfl, _, SqL.of e1⟩, p, _, _, rfl, rfl, e1, lst1, _, rfl, _, _, rfl, rfl, k + 2, _, _, rfl, by omega, by omega, eU, lgs (by decide), by rw [List.length_append, List.length_singleton]; omega, f1, f2⟩
      rw [decide_eq_false hA]
      rw [if_neg hA] at etl
      rw [etl] at eU
      have etake : ((hd35 r).drop k).take 1 = [c] := by rw [el]; rfl
      rw [etake] at eU
      refine iteF ⟨_, rfl, _, rfl, mkS r, (k : Int), c, rfl, rfl, small7 (by omega), atk hcr, c, _, rfl, rfl, _, rfl, ?_⟩
      rw [sig_in c c127]
      by_cases hS : [c] ∈ LITS
      · rw [decide_eq_true hS]
        obtain ⟨_, n32⟩ := sig_al c c127 hS
        rw [if_neg n32, ← List.append_assoc] at eU
        obtain ⟨f1, f2⟩ := fresh [c] e1
        exact iteT ⟨_, rfl, .inl ⟨rfl, _, SqL.of e1⟩, _, rfl, _, rfl, mkS r, (k : Int), c, rfl, rfl, small7 (by omega), atk hcr, p, _, _, rfl, rfl, e1, lst1, _, rfl, _, _, rfl, rfl, k + 1, _, _, rfl, by omega, by omega, eU, lgs (by unfold lg; simp [hS]), by rw [List.length_append, List.length_singleton]; omega, f1, f2⟩
      rw [decide_eq_false hS]
      refine iteF ⟨_, rfl, _, rfl, mkS r, (k : Int), c, rfl, rfl, small7 (by omega), atk hcr, rfl, _, rfl, ?_⟩
      by_cases h32 : c = 32
      · subst h32
        rw [if_pos rfl, List.nil_append] at eU
        rw [show decide (V.str ⟨#[32]⟩ = V.str " ") = true by decide]
        exact iteT ⟨_, rfl, _, _, rfl, rfl, k + 1, T1, _, rfl, by omega, by omega, eU, g1, by omega, s1, e1⟩
      · rw [if_neg h32] at eU
        rw [show decide (V.str ⟨#[c]⟩ = V.str " ") = false from decide_eq_false fun e => by
          have e3 : [c] = [32] := congrArg cs (V.str.inj e)
          exact h32 (by simpa using e3)]
        refine iteF (q2 ⟨[c], by rw [eU]; simp, ?_⟩ _ s1)
        unfold lg
        have : [c] ≠ ARW := by unfold ARW; simp
        simp [this, hS, cal]
end
end Kx
namespace Kx
open PySem PySem.Spec PyProof.Rows L2
section
variable {P : Program} {w : World} {K : PySem.W.Frag} {mg : Str → Option Value} {base : Heap}
set_option pp.maxSteps 900
/-! ### the judge's kinds of tokens -/
/-- a token whose first sign is a letter is letters alone -/
def Run (t : Tok) : Prop := ∀ c r, t = c :: r → isAl c = true → ∀ d ∈ t, isAl d = true
theorem wl_take : ∀ (l : List Nat), ∀ d ∈ l.take (wl l), isAl d = true
  | [], d, h => by cases h
  | c :: l, d, h => by
    cases e : isAl c with
    | false => rw [wl_no e] at h; cases h
    | true =>
      rw [wl_yes e, List.take_succ_cons] at h
      rcases List.mem_cons.mp h with rfl | h
      · exact e
      · exact wl_take l d h
theorem tok_run : ∀ (n : Nat) (x : List Nat), x.length ≤ n → ∀ t ∈ tok x, Run t
  | 0, [], _, t, h => by cases h
  | 0, c :: l, h, _, _ => by simp at h
  | n + 1, [], _, t, h => by cases h
  | n + 1, c :: l, h, t, ht => by
    have hp := tlen_pos (c :: l)
    rw [tok_cons] at ht
    rcases List.mem_append.mp ht with ht | ht
    · split at ht
      · cases ht
      · rw [List.mem_singleton.mp ht]
        intro a r e ha d hd
        have e1 : a = c := by
          cases et : tlen (c :: l) with
          | zero => omega
          | succ k => rw [et, List.take_succ_cons] at e; cases e; rfl
        subst e1
        have w0 : 0 < wl (a :: l) := by rw [wl_yes ha]; omega
        have : tlen (a :: l) = wl (a :: l) := by unfold tlen; rw [if_pos w0]
        rw [this] at hd
        exact wl_take _ d hd
    · exact tok_run n ((c :: l).drop (tlen (c :: l))) (by rw [List.length_drop]; simp only [List.length_cons] at h ⊢; omega) t ht
theorem toks_run {r : List Nat} : ∀ t ∈ toks r, Run t := fun t ht => tok_run _ _ (Nat.le_refl _) t ht
theorem k_sig : ∀ c : Nat, c < 127 → decide (c ∈ ("(),:=-" : Str).cps.toList) = (decide ([c] ∈ LITS) || decide (c = 45)) := by decide +kernel
theorem k_dig : ∀ c : Nat, c < 127 → decide (c ∈ ("0123456789" : Str).cps.toList) = decide (48 ≤ c ∧ c ≤ 57) := by decide +kernel
theorem k_sig_al : ∀ c : Nat, c < 127 → isAl c = true → [c] ∉ LITS ∧ c ≠ 45 := by decide +kernel
theorem k_alpha : ∀ c : Nat, c < 127 → isAl c = true → Txt.isalpha ⟨#[c]⟩ = !decide (48 ≤ c ∧ c ≤ 57) := by decide +kernel
theorem lits_kd : ∀ t ∈ LITS, kdS t = mkS t := by decide +kernel
def hd1 : Tok → Bool
  | c :: _ => decide ([c] ∈ LITS) || decide (c = 45)
  | [] => true
theorem lits_hd1 : ∀ t ∈ LITS, hd1 t = true := by decide +kernel
theorem lits_head : ∀ t ∈ LITS, ∀ c r, t = c :: r → [c] ∈ LITS ∨ c = 45 := fun t ht c r e => by
  have := lits_hd1 t ht
  rw [e] at this
  simpa [hd1] using this
/-- a run's word: as the program tests it -/
theorem run_word {c : Nat} {r : List Nat} (ok : Ok (c :: r)) (ha : ∀ d ∈ c :: r, isAl d = true) : isW (c :: r) = (decide ((c :: r).length ≤ 12) && !decide (48 ≤ c ∧ c ≤ 57)) := by
  have c127 : c < 127 := by have := (ok c (by simp)).2.1; omega
  have h3 : Txt.isascii (mkS (c :: r)) = true := by
    show (mkS (c :: r)).cps.all (· < 128) = true
    rw [Array.all_eq_true']
    intro d hd
    have := (ok d (by simpa [mkS] using hd)).2.1
    simp only [decide_eq_true_eq]; omega
  have h4 : Txt.isalnum (mkS (c :: r)) = true := by
    unfold Txt.isalnum
    simp only [Bool.and_eq_true]
    refine ⟨by simp [mkS, Str.length], ?_⟩
    have : ∀ d ∈ c :: r, Unicode.isAlnum d = true := ha
    simp [mkS]
    exact ⟨this c (by simp), fun d hd => this d (by simp [hd])⟩
  unfold isW wkb
  have e := k_alpha c c127 (ha c (by simp))
  rw [h3, h4, show (mkS (c :: r)).cps.toList = c :: r from cs_mk _, mk_len]
  simp only [e]
  simp
theorem lc_str {z : Str} {g : TG} {tt : TT} {te : TE} {vs : List Nat} {σ : L2.St} {H1 : Hp} {D : Addr} {Qd : Hp → Prop} (Pv : Nat → Hp → Prop) (h0 : Pv 0 (upd H1 D (.lst [])))
    (hs : ∀ i c H, z.cps[i]? = some c → Pv i H → g (.str ⟨#[c]⟩) (wipe σ vs) H fun σ2 H2 => wipe σ2 vs = wipe σ vs ∧ tt σ2 H2 fun b H3 =>
      if b = true then te σ2 H3 fun y H4 => ∃ acc, H4 D = some (.lst acc) ∧ acc.length < sizeLine ∧ Pv (i + 1) (upd H4 D (.lst (acc ++ [y]))) else Pv (i + 1) H3) (hd : ∀ H, Pv z.cps.size H → Qd H) :
    ∃ W : Nat → Nat → Hp → Prop, (∃ m, W 0 m (upd H1 D (.lst []))) ∧ ∀ i m H, W i m H →
      ((Its z).stop i H ∧ Qd H) ∨ ((Its z).go i H ∧ ∃ Nx : Hp → Prop, (∀ H', Nx H' → ∃ m', m' < m ∧ W (i + 1) m' H') ∧ ∀ x H', (Its z).yld i H x H' → g x (wipe σ vs) H' fun σ2 H2 => wipe σ2 vs = wipe σ vs ∧ tt σ2 H2 fun b H3 =>
        if b = true then te σ2 H3 fun y H4 => ∃ acc, H4 D = some (.lst acc) ∧ acc.length < sizeLine ∧ Nx (upd H4 D (.lst (acc ++ [y]))) else Nx H3) := by
  refine ⟨fun i m H => m = z.cps.size - i ∧ i ≤ z.cps.size ∧ Pv i H, ⟨_, rfl, Nat.zero_le _, h0⟩, fun i m H w => ?_⟩
  obtain ⟨rfl, le, pv⟩ := w
  rcases Nat.lt_or_ge i z.cps.size with lt | ge
  · refine .inr ⟨lt, Pv (i + 1), fun H' p' => ⟨z.cps.size - (i + 1), by omega, rfl, lt, p'⟩, ?_⟩
    rintro v H2 ⟨e2, c, ec, rfl⟩
    rw [e2]
    exact hs i c H ec pv
  · have e : i = z.cps.size := Nat.le_antisymm le ge
    exact .inl ⟨ge, hd H (e ▸ pv)⟩
/-- a token that the judge tells a kind of -/
structure TkA (t : Tok) : Prop where
  lg : lg t = true
  run : Run t
  ok : Ok t
  ne : t ≠ []
  len : t.length ≤ 6000
def spJKind : Sp := fun vs H Q _ => ∃ t : Tok, vs = [SV t] ∧ TkA t ∧ ∀ H', Same H H' → Q (.str (kdS t)) H'
theorem num_run {t : Tok} {n : Nat} (h : numV t = some n) : t.length ≤ 2 ∧ ∀ c ∈ t, 48 ≤ c ∧ c ≤ 57 := by
  obtain ⟨rfl, hn⟩ := numV_some h
  exact ⟨(num_lens n hn).1, (num_lens n hn).2.2⟩
theorem num_is {t : Tok} (ok : Ok t) (l : t.length ≤ 2) (ne : t ≠ []) (d : ∀ c ∈ t, 48 ≤ c ∧ c ≤ 57) (z : ¬ (t.length = 2 ∧ t.head? = some 48)) : (numV t).isSome = true := by
  rw [← nmb_eq ok]
  unfold nmb
  have hd : Txt.isdigit (mkS t) = true := by
    match t, ne, l, d with
    | [c], _, _, d =>
      have h := d c (by simp)
      have := dig_one c (by omega)
      rw [show mkS [c] = ⟨#[c]⟩ from rfl, this]
      exact decide_eq_true h
    | [c, e], _, _, d =>
      have h := d c (by simp)
      have h2 := d e (by simp)
      rw [dig_two, dig_one c (by omega), dig_one e (by omega), decide_eq_true h, decide_eq_true h2]
      rfl
  rw [if_pos ⟨hd, l⟩]
  match t, ne, l, z with
  | [c], _, _, _ =>
    by_cases h : c = 48
    · simp [h]
    · simp [h]
  | [c, e], _, _, z =>
    have : c ≠ 48 := fun h => z ⟨rfl, by rw [h]; rfl⟩
    simp [this]
theorem ok_law_kind (T : Txt K mg)  : FnOk P w K mg base CX0 1 T.a_law_kind T.d_law_kind ["token"] spJKind := by
  refine T.F_law_kind.ok sc_law_kind (fun vs H Q E h => ?_) (fun cdv A outer s H vs Q E hr h => ?_)
  · obtain ⟨t, rfl, _⟩ := h; rfl
  · obtain ⟨t, rfl, hT, q⟩ := h
    refine ⟨_, (pss_cons (ps_if (pt_cmpR op_in_sign (pe_ix ix_str (pv 0) pe_int (fun _ _ => rfl)) pe_str (by rfl)) (pss_one (ps_ret (pv 0))) pss_nil)
    (pss_cons (ps_if (pt_cmpR op_in_sign (pe_ix ix_str (pv 0) pe_int (fun _ _ => rfl)) pe_str (by rfl)) (pss_cons (ps_if (PW.pt (pw_or (pt_cmpR op_gt (pe_callB call_len_str (by rfl) T.z_len (by decide +kernel) (pa_cons (pv 0) pa_nil)) pe_int (nomark _)) (pw_or1 (PW.pt (pw_and (pt_cmpR op_eq (pe_callB call_len_str (by rfl) T.z_len (by decide +kernel) (pa_cons (pv 0) pa_nil)) pe_int (nomark _)) (pw_and1 (pt_cmpR op_eq (pe_ix ix_str (pv 0) pe_int (fun _ _ => rfl)) pe_str (nomark _)))))))) (pss_one (ps_ret pe_str)) pss_nil)
    (pss_cons (ps_if (pt_cmpR op_gt (pe_callB call_len_seq (by rfl) T.z_len (by decide +kernel) (pa_cons (pe_lc (own := [("char", 1)]) (g := (gName 1)) rfl sc_law_kind.nd (pi_str (pv 0)) (blkOk_by (own := [("char", 1)]) (N := ["token", "char"]) (sc := defScope s_law_kind) (by decide +kernel)) (fun _ _ _ _ _ => (pg_name (i := 1) sc_law_kind.nd rfl (Or.inl rfl))) (fun _ _ _ _ _ => pts_one (pt_cmpR op_notIn_sign (pv 1) pe_str (by rfl))) (fun _ _ _ _ _ => (pv 1))) pa_nil)) pe_int (nomark _)) (pss_one (ps_ret pe_str)) pss_nil)
    (pss_one (ps_ret pe_str)))) pss_nil)
    (pss_one (ps_ret (pe_ifExp (pt_cmpR op_le (pe_callB call_len_str (by rfl) T.z_len (by decide +kernel) (pa_cons (pv 0) pa_nil)) pe_int (nomark _)) pe_str pe_str))))), ?_⟩
    obtain ⟨c, r, rfl⟩ : ∃ c r, t = c :: r := by
      cases t with
      | nil => exact absurd rfl hT.ne
      | cons c r => exact ⟨c, r, rfl⟩
    have hl : (mkS (c :: r)).length = (c :: r).length := mk_len _
    have c127 : c < 127 := by have := (hT.ok c (by simp)).2.1; omega
    have at0 : atI (mkS (c :: r)).cps.toList (0 : Int) = some c := atI_nat (j := 0) (by show (cs (mkS (c :: r)))[0]? = _; rw [cs_mk]; rfl)
    have len6 := hT.len
    refine ⟨_, rfl, mkS (c :: r), 0, c, rfl, rfl, small7 (by omega), at0, c, _, rfl, rfl, _, rfl, ?_⟩
    rw [k_sig c c127]
    by_cases hS : [c] ∈ LITS ∨ c = 45
    · have e1 : (decide ([c] ∈ LITS) || decide (c = 45)) = true := by simpa using hS
      rw [e1]
      have nal : isAl c = false := by
        cases e : isAl c with
        | false => rfl
        | true => have := k_sig_al c c127 e; rcases hS with h | h; exact absurd h this.1; exact absurd h this.2
      have hL : (c :: r) ∈ LITS := by
        have := hT.lg
        unfold lg at this
        simp only [nal, Bool.or_false, Bool.or_eq_true, decide_eq_true_eq] at this
        rcases this with h | h
        · rw [h]; decide
        · exact h
      refine iteT ⟨_, rfl, ?_⟩
      have := q H (.refl _)
      rw [lits_kd _ hL] at this
      exact this
    have e1 : (decide ([c] ∈ LITS) || decide (c = 45)) = false := by
      rw [Bool.or_eq_false_iff]
      exact ⟨decide_eq_false fun h => hS (.inl h), decide_eq_false fun h => hS (.inr h)⟩
    rw [e1]
    have notL : (c :: r) ∉ LITS := fun h => hS (lits_head _ h c r rfl)
    have hal : isAl c = true := by
      have := hT.lg
      unfold lg at this
      simp only [Bool.or_eq_true, decide_eq_true_eq] at this
      rcases this with (h | h) | h
      · exact absurd (show (c :: r) ∈ LITS by rw [h]; decide) notL
      · exact absurd h notL
      · exact h
    have hrun := hT.run c r rfl hal
    have hw := run_word hT.ok hrun
    refine iteF ⟨_, rfl, mkS (c :: r), 0, c, rfl, rfl, small7 (by omega), at0, c, _, rfl, rfl, _, rfl, ?_⟩
    rw [k_dig c c127]
    by_cases hD : 48 ≤ c ∧ c ≤ 57
    case neg =>
      rw [decide_eq_false hD]
      rw [decide_eq_false hD, Bool.not_false, Bool.and_true] at hw
      have nn : (numV (c :: r)).isSome = false := by
        cases e : numV (c :: r) with
        | none => rfl
        | some n => exact absurd ((num_run e).2 c (by simp)) hD
      refine iteF ⟨_, rfl, _, rfl, small7 (by omega), _, _, rfl, rfl, _, rfl, ?_⟩
      have fin := q H (.refl _)
      unfold kdS at fin
      rw [nn, hw] at fin
      by_cases h12 : (c :: r).length ≤ 12
      · rw [show decide (((mkS (c :: r)).length : Int) ≤ 12) = true from decide_eq_true (by omega)]
        rw [decide_eq_true h12, if_pos rfl] at fin
        exact iteT fin
      · rw [show decide (((mkS (c :: r)).length : Int) ≤ 12) = false from decide_eq_false (by omega)]
        rw [decide_eq_false h12, if_neg (by decide), if_neg (by decide), if_neg notL] at fin
        exact iteF fin
    rw [decide_eq_true hD]
    rw [decide_eq_true hD, Bool.not_true, Bool.and_false] at hw
    have kd1 : (numV (c :: r)).isSome = true → kdS (c :: r) = "number" := fun h => by unfold kdS; rw [hw, if_neg (by decide), if_pos h]
    have kd0 : (numV (c :: r)).isSome = false → kdS (c :: r) = "bad" := fun h => by unfold kdS; rw [hw, h, if_neg (by decide), if_neg (by decide), if_neg notL]
    refine iteT ⟨_, rfl, _, rfl, small7 (by omega), _, _, rfl, rfl, _, rfl, ?_⟩
    by_cases h2 : (c :: r).length ≤ 2
    case neg =>
      rw [show decide ((2 : Int) < ((mkS (c :: r)).length : Int)) = true from decide_eq_true (by omega)]
      have : (numV (c :: r)).isSome = false := by
        cases e : numV (c :: r) with
        | none => rfl
        | some n => exact absurd (num_run e).1 h2
      have fin := q H (.refl _)
      rw [kd0 this] at fin
      exact iteT fin
    rw [show decide ((2 : Int) < ((mkS (c :: r)).length : Int)) = false from decide_eq_false (by omega)]
    refine iteF ⟨_, rfl, _, rfl, small7 (by omega), rfl, _, rfl, ?_⟩
    rw [dec_int]
    by_cases hz : (c :: r).length = 2 ∧ c = 48
    · have e2 : (((mkS (c :: r)).length : Int) == 2) = true := by rw [hl, hz.1]; rfl
      rw [e2]
      have : (numV (c :: r)).isSome = false := by
        obtain ⟨e, rfl⟩ : ∃ e, r = [e] := by
          cases r with
          | nil => simp at hz
          | cons e r => cases r with
            | nil => exact ⟨e, rfl⟩
            | cons f r => simp at hz
        cases en : numV [c, e] with
        | none => rfl
        | some n =>
          have h5 := (num_run en).2 e (by simp)
          have := num_two (c - 48) (by omega) (e - 48) (by omega)
          rw [show 48 + (c - 48) = c by omega, show 48 + (e - 48) = e by omega, en, hz.2] at this
          simp at this
      have fin := q H (.refl _)
      rw [kd0 this] at fin
      refine iteT ⟨_, rfl, mkS (c :: r), 0, c, rfl, rfl, small7 (by omega), at0, rfl, _, rfl, ?_⟩
      rw [hz.2, show decide (V.str ⟨#[48]⟩ = V.str "0") = true by decide]
      exact iteT fin
    have c2 : (((mkS (c :: r)).length : Int) == 2) = true → c ≠ 48 := by
      intro h e
      have h' : ((mkS (c :: r)).length : Int) = 2 := by simpa using h
      exact hz ⟨by omega, e⟩
    cases e2 : (((mkS (c :: r)).length : Int) == 2)
    case' true =>
      refine iteT ⟨_, rfl, mkS (c :: r), 0, c, rfl, rfl, small7 (by omega), at0, rfl, _, rfl, ?_⟩
      rw [show decide (V.str ⟨#[c]⟩ = V.str "0") = false from decide_eq_false fun e => by
        have e3 : [c] = [48] := congrArg cs (V.str.inj e)
        exact c2 e2 (by simpa using e3)]
      refine iteF ?_
    case' false => refine iteF ?_
    all_goals
      refine ⟨_, rfl, _, rfl, fun D hD => ?_⟩
      refine lc_str (fun i H' => Same H H' ∧ ∃ acc : List V, H' D = some (.lst acc) ∧ acc.length ≤ i ∧ (acc = [] ↔ ∀ d ∈ (c :: r).take i, 48 ≤ d ∧ d ≤ 57)) ?_ ?_ ?_
      · exact ⟨same_upd hD _, [], upd_same, Nat.le_refl _, by simp⟩
      · rintro i d H' hd ⟨s', acc, eD, hA, hI⟩
        have hd2 : (c :: r)[i]? = some d := by
          have : (mkS (c :: r)).cps.toList[i]? = some d := by rw [Array.getElem?_toList]; exact hd
          rwa [show (mkS (c :: r)).cps.toList = c :: r from cs_mk _] at this
        have d127 : d < 127 := by have := (hT.ok d (List.mem_of_getElem? hd2)).2.1; omega
        have hi := (List.getElem?_eq_some_iff.mp hd2).1
        have tk : (c :: r).take (i + 1) = (c :: r).take i ++ [d] := by rw [List.take_add_one, hd2]; rfl
        refine ⟨rfl, _, rfl, d, _, rfl, rfl, _, rfl, ?_⟩
        rw [k_dig d d127]
        by_cases hdd : 48 ≤ d ∧ d ≤ 57
        · rw [decide_eq_true hdd]
          refine iteF ⟨s', acc, eD, by omega, ?_⟩
          rw [tk, hI]
          constructor
          · intro h x hx
            rcases List.mem_append.mp hx with hx | hx
            · exact h x hx
            · rw [List.mem_singleton.mp hx]; exact hdd
          · exact fun h x hx => h x (List.mem_append_left _ hx)
        · rw [decide_eq_false hdd]
          refine iteT ⟨_, rfl, acc, eD, small7k (by omega), Kx.Same.own s' hD _, acc ++ [_], upd_same, by rw [List.length_append, List.length_singleton]; omega, ?_⟩
          rw [tk]
          constructor
          · intro h; simp at h
          · intro h; exact absurd (h d (by simp)) hdd
      · rintro H' ⟨s', acc, eD, hA, hI⟩
        rw [show (mkS (c :: r)).cps.size = (c :: r).length by simp [mkS], List.take_length] at hI
        refine ⟨D, acc, rfl, .inl (SqL.of eD), _, _, rfl, rfl, _, rfl, ?_⟩
        have fin := q H' s'
        by_cases ha : acc = []
        · have := num_is hT.ok h2 (by simp) (hI.mp ha) (fun z => hz ⟨z.1, by have := z.2; simpa using this⟩)
          rw [kd1 this] at fin
          rw [show decide ((0 : Int) < (acc.length : Int)) = false from decide_eq_false (by rw [ha]; simp)]
          exact iteF fin
        · have : (numV (c :: r)).isSome = false := by
            cases e : numV (c :: r) with
            | none => rfl
            | some n => exact absurd (hI.mpr (num_run e).2) ha
          rw [kd0 this] at fin
          have := List.length_pos_iff.mpr ha
          rw [show decide ((0 : Int) < (acc.length : Int)) = true from decide_eq_true (by omega)]
          exact iteT fin
end
end Kx
namespace Kx
open PySem PySem.Spec PyProof.Rows L2
section
variable {P : Program} {w : World} {K : PySem.W.Frag} {mg : Str → Option Value} {base : Heap}
set_option pp.maxSteps 900
/-! ### the judge's trees -/
theorem inV_str (z : Str) : ∀ f : List Str, inV (.str z) (f.map V.str) = decide (z ∈ f)
  | [] => rfl
  | x :: r => by
    have ih := inV_str z r
    show ((x == z) || inV (.str z) (r.map V.str)) = _
    rw [ih]
    by_cases h : x = z
    · subst h; simp
    · have h2 : ¬ z = x := fun e => h e.symm
      simp [h, h2]
structure RowAt (H : Hp) (p : Addr) (U : List Tok) : Prop where
  e : H p = some (.lst (U.map SV))
  len : U.length ≤ 6000
  tk : ∀ t ∈ U, TkA t
theorem RowAt.same {H H' : Hp} {p : Addr} {U : List Tok} (h : RowAt H p U) (s : Same H H') : RowAt H' p U := ⟨s _ _ h.e, h.len, h.tk⟩
theorem RowAt.at {H : Hp} {p : Addr} {U : List Tok} (_h : RowAt H p U) {k : Nat} {t : Tok} (e : U[k]? = some t) : atI (U.map SV) (k : Int) = some (SV t) := atI_nat (by rw [List.getElem?_map, e]; rfl)
theorem kd_word (t : Tok) : decide (kdS t = "word") = isW t := by
  unfold kdS
  cases h : isW t with
  | true => rw [if_pos rfl]; decide
  | false =>
    rw [if_neg (by decide)]
    split
    · decide
    · split
      · rename_i hl
        have : ∀ t ∈ LITS, mkS t ≠ "word" := by decide +kernel
        exact decide_eq_false (this t hl)
      · decide
def spJP (n : Nat) : Sp := fun vs H Q _ => ∃ (p : Addr) (U : List Tok) (k d : Nat), vs = [.ref p, .int k, .int d] ∧ RowAt H p U ∧ k ≤ U.length ∧ d + n = 41 ∧ d ≤ 40 ∧
  match pT n (U.drop k) with
  | none => ∀ H', Same H H' → Q .non H'
  | some (t, R) => ∀ a v j H', U.drop j = R → j ≤ U.length → k < j → H' a = some (.tup [v, .int (j : Nat)]) → Is H' v t → Same H H' → Q (.ref a) H'
/-- what is still to come, at a sign in a list -/
def cont (n : Nat) : List Tok → Option (List PV × List Tok)
  | [] => none
  | a :: Z => if a = [41] then some ([], Z) else pL (pT n) (Z.length + 1) Z
theorem ne_sv {t : Tok} {z : Str} : (!decide (SV t = V.str z)) = !decide (t = cs z) := by rw [sv_lit]
theorem pT_at (n : Nat) (t : Tok) (R : List Tok) (hw : isW t = true) (h : R.head? ≠ some [40]) : pT (n + 1) (t :: R) = some (.str (mkS t), R) := by
  unfold pT
  simp only [hw, if_true]
  cases R with
  | nil => rfl
  | cons a R0 =>
    have : a ≠ [40] := fun e => h (by rw [e]; rfl)
    simp only [this, if_false]
theorem pT_op (n : Nat) (t : Tok) (R : List Tok) (hw : isW t = true) : pT (n + 1) (t :: [40] :: R) = match pL (pT n) (R.length + 1) R with
    | none => none
    | some (ts, R3) => some (.tup (.str (mkS t) :: ts), R3) := by
  conv => lhs; unfold pT
  simp only [hw, if_true]
  all_goals rfl
theorem ok_law_parsed {n : Nat}(T : Txt K mg) (G_law_kind : FnOk P w K mg base CX0 1 T.a_law_kind T.d_law_kind ["token"] spJKind) (G_law_parsed : FnOk P w K mg base CX0 (n+1) T.a_law_parsed T.d_law_parsed ["row", "k", "deep"] (spJP n)) : FnOk P w K mg base CX0 (n+2) T.a_law_parsed T.d_law_parsed ["row", "k", "deep"] (spJP (n+1)) := by
  refine T.F_law_parsed.ok sc_law_parsed (fun vs H Q E h => ?_) (fun cdv A outer s H vs Q E hr h => ?_)
  · obtain ⟨p, U, k, d, rfl, _⟩ := h; rfl
  · obtain ⟨p, U, k, d, rfl, hRow, hk, hdn, hd40, q⟩ := h
    have hr_law_kind : Room 1 _ := hr.mono (by omega)
    have hr_law_parsed : Room (n+1) _ := hr
    refine ⟨_, (pss_cons (ps_if (PW.pt (pw_or (pt_cmpR op_ge (pv 1) (pe_callB call_len_seq (by rfl) T.z_len (by decide +kernel) (pa_cons (pv 0) pa_nil)) (nomark _)) (pw_or1 (pt_cmpR op_ne (pe_call G_law_kind hr_law_kind rfl T.m_law_kind T.F_law_kind.kp T.b_law_kind .nil pass0 (pa_cons (pe_ix ix_list (pv 0) (pv 1) (fun _ _ => rfl)) pa_nil)) pe_str (nomark _))))) (pss_one (ps_ret pe_non)) pss_nil)
    (pss_cons (ps_if (PW.pt (pw_or (pt_cmpR op_eq (pe_op op_add (pv 1) pe_int) (pe_callB call_len_seq (by rfl) T.z_len (by decide +kernel) (pa_cons (pv 0) pa_nil)) (nomark _)) (pw_or1 (pt_cmpR op_ne (pe_ix ix_list (pv 0) (pe_op op_add (pv 1) pe_int) (fun _ _ => rfl)) pe_str (nomark _))))) (pss_one (ps_ret (pe_tup (pa_cons (pe_ix ix_list (pv 0) (pv 1) (fun _ _ => rfl)) (pa_cons (pe_op op_add (pv 1) pe_int) pa_nil))))) pss_nil)
    (pss_cons (ps_if (pt_cmpR op_eq (pv 2) pe_int (nomark _)) (pss_one (ps_ret pe_non)) pss_nil)
    (pss_cons (ps_set (i := 3) sc_law_parsed.nd rfl (Or.inl rfl) (pe_lst (pa_cons (pe_ix ix_list (pv 0) (pv 1) (fun _ _ => rfl)) pa_nil)))
    (pss_cons (ps_set (i := 1) sc_law_parsed.nd rfl (Or.inl rfl) (pe_op op_add (pv 1) pe_int))
    (pss_cons (ps_while PassesOwn.never (pt_cmpR op_ne (pe_ix ix_list (pv 0) (pv 1) (fun _ _ => rfl)) pe_str (nomark _))
    (pss_cons (ps_set (i := 4) sc_law_parsed.nd rfl (Or.inl rfl) (pe_call G_law_parsed hr_law_parsed rfl T.m_law_parsed T.F_law_parsed.kp T.b_law_parsed .nil pass0 (pa_cons (pv 0) (pa_cons (pe_op op_add (pv 1) pe_int) (pa_cons (pe_op op_add (pv 2) pe_int) pa_nil)))))
    (pss_cons (ps_if (PW.pt (pw_or (pt_cmpR op_isN (pv 4) pe_non (nomark _)) (pw_or (pt_cmpR op_ge (pe_ix ix_seq (pv 4) pe_int (fun _ _ => rfl)) (pe_callB call_len_seq (by rfl) T.z_len (by decide +kernel) (pa_cons (pv 0) pa_nil)) (nomark _)) (pw_or1 (pt_cmpR op_notIn_seq (pe_ix ix_list (pv 0) (pe_ix ix_seq (pv 4) pe_int (fun _ _ => rfl)) (fun _ _ => rfl)) (pe_lst (pa_cons pe_str (pa_cons pe_str pa_nil))) (by rfl)))))) (pss_one (ps_ret pe_non)) pss_nil)
    (pss_cons (ps_expr (pe_bm PySem.F.plainAttrs_list PySem.F.slot_list_append PySem.F.type_list_append mt_append (pv 3) (pa_cons (pe_ix ix_seq (pv 4) pe_int (fun _ _ => rfl)) pa_nil)))
    (pss_one (ps_set (i := 1) sc_law_parsed.nd rfl (Or.inl rfl) (pe_ix ix_seq (pv 4) pe_int (fun _ _ => rfl))))))))
    (pss_one (ps_ret (pe_tup (pa_cons (pe_callTy call_tuple_of (by rfl) T.z_tuple (by decide +kernel) (pa_cons (pv 3) pa_nil)) (pa_cons (pe_op op_add (pv 1) pe_int) pa_nil))))))))))), ?_⟩
    have ul := hRow.len
    refine ⟨_, rfl, _, rfl, p, _, rfl, .inl (SqL.of hRow.e), _, _, rfl, rfl, _, rfl, ?_⟩
    rw [List.length_map]
    by_cases hkl : k < U.length
    case neg =>
      rw [show decide ((U.length : Int) ≤ (k : Int)) = true from decide_eq_true (by omega)]
      have e : pT (n + 1) (U.drop k) = none := by rw [List.drop_eq_nil_of_le (by omega)]; rfl
      rw [e] at q
      exact iteT (q H (.refl _))
    rw [show decide ((U.length : Int) ≤ (k : Int)) = false from decide_eq_false (by omega)]
    obtain ⟨t, ht⟩ : ∃ t, U[k]? = some t := ⟨_, List.getElem?_eq_getElem hkl⟩
    obtain ⟨R, ed⟩ := drop_ex ht
    obtain ⟨_, g2, _⟩ := get_drop ed
    rw [ed] at q
    refine iteF ⟨_, rfl, _, rfl, p, _, _, _, rfl, rfl, SqL.of hRow.e, hRow.at ht, t, rfl, hRow.tk t (List.mem_of_getElem? ht), fun H1 s1 => ⟨rfl, _, rfl, ?_⟩⟩
    have R1 := hRow.same s1
    rw [show (!decide (V.str (kdS t) = V.str "word")) = !isW t by
      rw [← kd_word]
      by_cases h : kdS t = "word"
      · simp [h]
      · have : ¬ (V.str (kdS t) = V.str "word") := fun e => h (V.str.inj e)
        simp [h, this]]
    cases hw : isW t with
    | false =>
      have e : pT (n + 1) (t :: R) = none := by unfold pT; simp only [hw, Bool.false_eq_true, if_false]
      rw [e] at q
      exact iteT (q H1 s1)
    | true =>
    refine iteF ?_
    -- what stands behind the word
    refine ⟨_, rfl, _, _, rfl, rfl, _, rfl, p, _, rfl, .inl (SqL.of R1.e), rfl, _, rfl, ?_⟩
    rw [List.length_map, dec_int]
    by_cases hR : R.head? = some [40]
    rotate_left
    · rw [pT_at n t R hw hR] at q
      have fin : ∀ (H2 : Hp), Same H H2 → (2 : Nat) ≤ sizeLine ∧ ∀ pp, H2 pp = none → Q (.ref pp) (upd H2 pp (.tup [SV t, .int ((k : Int) + 1)])) := fun H2 s2 => ⟨by decide, fun pp hpp => q pp _ (k + 1) _ g2 (by omega) (by omega) (by rw [upd_same]; congr 4) (.str _ (isW_sok hw)) (s2.trans (same_upd hpp _))⟩
      by_cases hl : k + 1 = U.length
      · have e : ((k : Int) + 1 == (U.length : Int)) = true := by rw [beq_iff_eq]; omega
        rw [show ((fun i j => i + j : Int → Int → Int) (k : Int) 1 == (U.length : Int)) = true from e]
        exact iteT ⟨_, rfl, _, rfl, p, _, _, _, rfl, rfl, SqL.of R1.e, R1.at ht, _, rfl, _, _, rfl, rfl, fin H1 s1⟩
      · have e : ((k : Int) + 1 == (U.length : Int)) = false := by rw [beq_eq_false_iff_ne]; omega
        rw [show ((fun i j => i + j : Int → Int → Int) (k : Int) 1 == (U.length : Int)) = false from e]
        obtain ⟨u, hu⟩ : ∃ u, U[k + 1]? = some u := ⟨_, List.getElem?_eq_getElem (by omega)⟩
        refine iteF ⟨_, rfl, _, rfl, _, _, rfl, rfl, p, _, _, _, rfl, rfl, SqL.of R1.e, R1.at (k := k + 1) hu, rfl, _, rfl, ?_⟩
        rw [ne_sv, show decide (u = cs "(") = false from decide_eq_false fun z => hR (by rw [← g2, ← head_at, hu, z]; rfl)]
        exact iteT ⟨_, rfl, _, rfl, p, _, _, _, rfl, rfl, SqL.of R1.e, R1.at ht, _, rfl, _, _, rfl, rfl, fin H1 s1⟩
    obtain ⟨R2, rfl⟩ : ∃ R2, R = [40] :: R2 := by
      cases R with
      | nil => cases hR
      | cons a R2 => cases hR; exact ⟨R2, rfl⟩
    rw [pT_op n t R2 hw] at q
    have hk1 : k + 1 < U.length := (get_drop g2).2.2
    have e : ((k : Int) + 1 == (U.length : Int)) = false := by rw [beq_eq_false_iff_ne]; omega
    rw [show ((fun i j => i + j : Int → Int → Int) (k : Int) 1 == (U.length : Int)) = false from e]
    have hu : U[k + 1]? = some [40] := (get_drop g2).1
    refine iteF ⟨_, rfl, _, rfl, _, _, rfl, rfl, p, _, _, _, rfl, rfl, SqL.of R1.e, R1.at (k := k + 1) hu, rfl, _, rfl, ?_⟩
    rw [ne_sv, show decide (([40] : Tok) = cs "(") = true from decide_eq_true rfl]
    refine iteF ?_
    refine ⟨_, rfl, rfl, _, rfl, ?_⟩
    rw [dec_int]
    by_cases hd : d = 40
    · have hn : n = 0 := by omega
      subst hn
      have e0 : pL (pT 0) (R2.length + 1) R2 = none := by rw [pL_eq]; rfl
      rw [e0] at q
      rw [show ((d : Int) == 40) = true by rw [beq_iff_eq]; omega]
      exact iteT (q H1 s1)
    rw [show ((d : Int) == 40) = false by rw [beq_eq_false_iff_ne]; omega]
    refine iteF ?_
    generalize hres : pL (pT n) (R2.length + 1) R2 = res at q
    refine ⟨_, rfl, _, rfl, p, _, _, _, rfl, rfl, SqL.of R1.e, R1.at ht, (by show 1 ≤ sizeLine; decide), fun fp hfp => ?_⟩
    have s2 := s1.trans (same_upd hfp (.lst [SV t]))
    have hfp0 : H fp = none := s1.free hfp
    refine ⟨_, rfl, _, _, rfl, rfl, ?_⟩
    refine ⟨fun m σ H' => ∃ (ts0 : List PV) (Y : List Tok) (vs : List V) (j : Nat) (y : Option V), σ = [some (.ref p), some (.int (j : Nat)), some (.int (d : Nat)), some (.ref fp), y] ∧ U.drop j = Y ∧ j < U.length ∧ k < j ∧ H' fp = some (.lst (SV t :: vs)) ∧ IsL H' vs ts0 ∧ Same H H' ∧ (cont n Y).map (fun p => (ts0 ++ p.1, p.2)) = res ∧ vs.length ≤ j ∧ (∀ a, Y.head? = some a → a = [40] ∨ a = [41] ∨ a = [44]) ∧ m = U.length - j,
      ⟨_, [], [40] :: R2, [], k + 1, _, by congr 2, g2, hk1, by omega, upd_same, .nil, s2, by rw [← hres]; simp [cont], Nat.zero_le _, (fun a h => by cases h; exact .inl rfl), rfl⟩, ?_⟩
    rintro m σ H' ⟨ts0, Y, vs, j, y, rfl, ej, jl, kj, ef, iv, s', hr1, hvl, hY, rfl⟩
    have R' := hRow.same s'
    obtain ⟨b, hb⟩ : ∃ b, U[j]? = some b := ⟨_, List.getElem?_eq_getElem jl⟩
    obtain ⟨Z, eZ⟩ := drop_ex hb
    have eY : Y = b :: Z := by rw [← ej]; exact eZ
    subst eY
    obtain ⟨_, y2, _⟩ := get_drop ej
    refine ⟨_, rfl, _, rfl, p, _, _, _, rfl, rfl, SqL.of R'.e, R'.at hb, rfl, _, rfl, ?_⟩
    rw [ne_sv, show cs ")" = [41] from rfl]
    by_cases h41 : b = [41]
    · rw [decide_eq_true h41]
      have e2 : res = some (ts0, Z) := by rw [← hr1, h41]; simp [cont]
      rw [e2] at q
      refine iteF ⟨_, rfl, fp, _, rfl, .inl ⟨SqL.of ef, fun q2 hq2 => ⟨_, rfl, _, _, rfl, rfl, (by show 2 ≤ sizeLine; decide), fun q3 hq3 => ?_⟩⟩⟩
      have s5 := same_upd hq2 (.tup (SV t :: vs))
      have s6 := same_upd hq3 (.tup [.ref q2, .int ((j : Int) + 1)])
      exact q q3 (.ref q2) (j + 1) _ y2 (by omega) (by omega) (by rw [upd_same]; congr 4) (.tup (s6 _ _ upd_same) (.cons (.str _ (isW_sok hw)) (iv.same (s5.trans s6)))) ((s'.trans s5).trans s6)
    rw [decide_eq_false h41]
    have ec : cont n (b :: Z) = pL (pT n) (Z.length + 1) Z := by simp only [cont, h41, if_false]
    rw [ec, pL_eq] at hr1
    refine iteT ⟨fun σ' H5 => ∃ (ts0' : List PV) (Y' : List Tok) (vs' : List V) (j' : Nat) (y : Option V), σ' = [some (.ref p), some (.int (j' : Nat)), some (.int (d : Nat)), some (.ref fp), y] ∧ U.drop j' = Y' ∧ j' < U.length ∧ j < j' ∧ H5 fp = some (.lst (SV t :: vs')) ∧ IsL H5 vs' ts0' ∧ Same H H5 ∧ (cont n Y').map (fun p => (ts0' ++ p.1, p.2)) = res ∧ vs'.length ≤ j' ∧ (∀ a, Y'.head? = some a → a = [40] ∨ a = [41] ∨ a = [44]),
      fun σ' H5 ⟨ts0', Y', vs', j', y, a1, a2, a3, a4, a5, a6, a7, a8, a9, a10⟩ => ⟨U.length - j', by omega, ts0', Y', vs', j', y, a1, a2, a3, by omega, a5, a6, a7, a8, a9, a10, rfl⟩, ?_⟩
    refine ⟨_, rfl, _, rfl, _, _, rfl, rfl, _, rfl, _, _, rfl, rfl, p, U, j + 1, d + 1, by congr 3, R', by omega, by omega, by omega, ?_⟩
    rw [y2]
    cases ez : pT n Z with
    | none =>
      rw [ez] at hr1
      have hn : res = none := hr1.symm
      rw [hn] at q
      intro H5 s5
      exact ⟨_, rfl, rfl, _, rfl, iteT (q H5 (s'.trans s5))⟩
    | some pr =>
    obtain ⟨t5, Y5⟩ := pr
    rw [ez] at hr1
    simp only at hr1
    intro a5 v5 j5 H5 ej5 j5l j5g ea5 iv5 s5
    have R5 := R'.same s5
    refine ⟨_, rfl, rfl, _, rfl, ?_⟩
    rw [show decide (V.ref a5 = V.non) = false from decide_eq_false (by simp)]
    refine iteF ⟨_, rfl, .inr (.inl ⟨a5, _, _, _, rfl, rfl, .inl (.inl ea5), atI_nat (j := 1) rfl, _, rfl, p, _, rfl, .inl (SqL.of R5.e), _, _, rfl, rfl, _, rfl, ?_⟩)⟩
    rw [List.length_map]
    by_cases hj5 : j5 < U.length
    case neg =>
      rw [show decide ((U.length : Int) ≤ (j5 : Int)) = true from decide_eq_true (by omega)]
      have : Y5 = [] := by rw [← ej5]; exact List.drop_eq_nil_of_le (by omega)
      subst this
      have hn : res = none := hr1.symm
      rw [hn] at q
      exact iteT (q H5 (s'.trans s5))
    rw [show decide ((U.length : Int) ≤ (j5 : Int)) = false from decide_eq_false (by omega)]
    obtain ⟨c5, hc5⟩ : ∃ b, U[j5]? = some b := ⟨_, List.getElem?_eq_getElem hj5⟩
    obtain ⟨Z5, eZ5⟩ := drop_ex hc5
    have eY5 : Y5 = c5 :: Z5 := by rw [← ej5]; exact eZ5
    subst eY5
    refine iteF ⟨_, rfl, _, rfl, .inr (.inl ⟨a5, _, _, _, rfl, rfl, .inl (.inl ea5), atI_nat (j := 1) rfl, p, _, _, _, rfl, rfl, SqL.of R5.e, R5.at hc5, (by show 2 ≤ sizeLine; decide), fun pl hpl => ⟨pl, [V.str ",", V.str ")"], rfl, .inl (SqL.of upd_same), rfl, rfl, _, rfl, ?_⟩⟩)⟩
    have s6 := s5.trans (same_upd hpl (.lst [V.str ",", V.str ")"]))
    have ein : inV (SV c5) [V.str ",", V.str ")"] = decide (c5 = [44] ∨ c5 = [41]) := by
      have := inV_str (mkS c5) [",", ")"]
      rw [show inV (SV c5) [V.str ",", V.str ")"] = inV (.str (mkS c5)) (([",", ")"] : List Str).map V.str) from rfl, this]
      apply decide_eq_decide.mpr
      have e1 : mkS c5 = "," ↔ c5 = [44] := ⟨fun h => by have := congrArg cs h; rw [cs_mk] at this; exact this, fun h => by rw [h]; rfl⟩
      have e2 : mkS c5 = ")" ↔ c5 = [41] := ⟨fun h => by have := congrArg cs h; rw [cs_mk] at this; exact this, fun h => by rw [h]; rfl⟩
      simp [e1, e2]
    rw [show (if true = true then !inV (SV c5) [V.str ",", V.str ")"] else inV (SV c5) [V.str ",", V.str ")"]) = !inV (SV c5) [V.str ",", V.str ")"] from rfl, ein]
    by_cases hc : c5 = [44] ∨ c5 = [41]
    case neg =>
      rw [decide_eq_false hc]
      have hn : res = none := by
        rw [← hr1]
        have k1 : c5 ≠ [41] := fun e => hc (.inr e)
        have k2 : c5 ≠ [44] := fun e => hc (.inl e)
        simp only [aft, k1, k2, if_false]
        rfl
      rw [hn] at q
      exact iteT (q _ (s'.trans s6))
    rw [decide_eq_true hc]
    have ea6 := (same_upd hpl (.lst [V.str ",", V.str ")"])) _ _ ea5
    have iv6 := iv5.same (same_upd hpl (.lst [V.str ",", V.str ")"]))
    have ef6 := s6 _ _ ef
    refine iteF ⟨_, rfl, .inl ⟨rfl, _, SqL.of ef6⟩, _, rfl, .inr (.inl ⟨a5, _, _, _, rfl, rfl, .inl (.inl ea6), atI_nat (j := 0) rfl, ?_⟩)⟩
    refine ⟨fp, _, _, rfl, rfl, ef6, small7k (by simp only [List.length_cons]; omega), ?_⟩
    have nfa : a5 ≠ fp := fun z => by rw [z] at ea6; rw [ef6] at ea6; cases ea6
    refine ⟨_, rfl, .inr (.inl ⟨a5, _, _, _, rfl, rfl, .inl (.inl (by rw [upd_ne nfa]; exact ea6)), atI_nat (j := 1) rfl, ?_⟩)⟩
    refine ⟨ts0 ++ [t5], c5 :: Z5, vs ++ [v5], j5, _, rfl, ej5, hj5, by omega, by rw [upd_same]; rfl, ?_, Kx.Same.own (s'.trans s6) hfp0 _, ?_, by rw [List.length_append, List.length_singleton]; omega, fun x hx => ?_⟩
    · exact IsL.tk (wr_tk ef6) ((iv.same s6).append (.cons iv6 .nil))
    · rw [← hr1]
      have e1 : aft n (c5 :: Z5) = cont n (c5 :: Z5) := by
        rcases hc with h | h
        · subst h
          rw [aft_44]
          simp only [cont]
          rw [if_neg (by decide)]
        · subst h
          simp [aft, cont]
      rw [e1]
      simp only [Option.map_map]
      congr 1
      funext pp
      simp
    · cases hx
      rcases hc with h | h
      · exact .inr (.inr h)
      · exact .inr (.inl h)
theorem all_parsed (T : Txt K mg) : ∀ n, FnOk P w K mg base CX0 (n + 1) T.a_law_parsed T.d_law_parsed ["row", "k", "deep"] (spJP n)
  | 0 => no_left fun vs H Q E ⟨_, _, _, _, _, _, _, h1, h2, _⟩ => by omega
  | n + 1 => ok_law_parsed T (ok_law_kind T) (all_parsed T n)
end
end Kx
namespace Kx
open PySem PySem.Spec PyProof.Rows L2
section
variable {P : Program} {w : World} {K : PySem.W.Frag} {mg : Str → Option Value} {base : Heap}
set_option pp.maxSteps 900
/-! ### the judge's kinds and heads -/
theorem pK_none_str {X R : List Tok} {z : Str} (h : pT 41 X = some (.str z, R)) : pK X = none := by
  cases X with
  | nil => rfl
  | cons f X =>
    cases hw : isW f with
    | false => unfold pT at h; simp only [hw, Bool.false_eq_true, if_false] at h; cases h
    | true =>
      cases X with
      | nil => rfl
      | cons a X =>
        by_cases ha : a = [40]
        · subst ha
          rw [pT_op 40 f X hw] at h
          cases e : pL (pT 40) (X.length + 1) X with
          | none => rw [e] at h; cases h
          | some p => rw [e] at h; cases h
        · simp only [pK, hw, ha, if_true, if_false]
theorem pK_none_none {X : List Tok} (h : pT 41 X = none) : pK X = none := by
  cases X with
  | nil => rfl
  | cons f X =>
    cases X with
    | nil => rfl
    | cons a X =>
      cases hw : isW f with
      | false => simp only [pK, hw, Bool.false_eq_true, if_false]
      | true =>
        by_cases ha : a = [40]
        · subst ha
          rw [pT_op 40 f X hw, pL_eq] at h
          cases e : pT 40 X with
          | none => simp only [pK, hw, if_true, e]
          | some p =>
            obtain ⟨t, Y⟩ := p
            rw [e] at h
            simp only at h
            cases Y with
            | nil => simp only [pK, hw, if_true, e]
            | cons b Y =>
              by_cases hb : b = [41]
              · subst hb
                simp [aft] at h
              · simp only [pK, hw, if_true, e, hb, if_false]
        · simp only [pK, hw, ha, if_true, if_false]
theorem pK_tup {X R : List Tok} {w : Str} {r : List PV} (h : pT 41 X = some (.tup (.str w :: r), R)) : pK X = match r with
    | [t] => some (⟨w, t⟩, R)
    | _ => none := by
  cases X with
  | nil => cases h
  | cons f X =>
    cases hw : isW f with
    | false => unfold pT at h; simp only [hw, Bool.false_eq_true, if_false] at h; cases h
    | true =>
      cases X with
      | nil => rw [pT_at 40 f [] hw (by simp)] at h; cases h
      | cons a X =>
        by_cases ha : a = [40]
        rotate_left
        · rw [pT_at 40 f (a :: X) hw (by simp only [List.head?_cons]; exact fun e => ha (Option.some.inj e))] at h; cases h
        subst ha
        rw [pT_op 40 f X hw, pL_eq] at h
        cases e : pT 40 X with
        | none => rw [e] at h; cases h
        | some p =>
          obtain ⟨t, Y⟩ := p
          rw [e] at h
          simp only at h
          cases Y with
          | nil => cases h
          | cons b Y =>
            by_cases hb : b = [41]
            · subst hb
              simp only [aft, if_true, Option.map_some] at h
              cases h
              simp only [pK, hw, if_true, e]
            · simp only [pK, hw, if_true, e, hb, if_false]
              by_cases hb4 : b = [44]
              · subst hb4
                rw [aft_44] at h
                cases e2 : pL (pT 40) (Y.length + 1) Y with
                | none => rw [e2] at h; cases h
                | some p =>
                  obtain ⟨us, R3⟩ := p
                  rw [e2] at h
                  cases h
                  obtain ⟨C, _, _, _, ne, _⟩ := pL_eat (pT_eat 40) _ _ _ _ e2
                  cases us with
                  | nil => exact absurd rfl ne
                  | cons u us => rfl
              · simp only [aft, hb, hb4, if_false] at h
                cases h
def spJPairs : Sp := fun vs H Q _ => ∃ (p : Addr) (U : List Tok) (k : Nat), vs = [.ref p, .int k] ∧ RowAt H p U ∧ k ≤ U.length ∧
  match pKs ((U.drop k).length + 1) (U.drop k) with
  | none => ∀ H', Same H H' → Q .non H'
  | some (ks, R) => ∀ a fp vs j H', H fp = none → U.drop j = R → j ≤ U.length → H' a = some (.tup [.ref fp, .int (j : Nat)]) → H' fp = some (.lst vs) → IsL H' vs (ks.map kdP) → Same H H' → Q (.ref a) H'
theorem ok_law_pair_list (T : Txt K mg) (G_law_parsed : FnOk P w K mg base CX0 42 T.a_law_parsed T.d_law_parsed ["row", "k", "deep"] (spJP 41)) : FnOk P w K mg base CX0 43 T.a_law_pair_list T.d_law_pair_list ["row", "k"] spJPairs := by
  refine T.F_law_pair_list.ok sc_law_pair_list (fun vs H Q E h => ?_) (fun cdv A outer s H vs Q E hr h => ?_)
  · obtain ⟨p, U, k, rfl, _⟩ := h; rfl
  · obtain ⟨p, U, k, rfl, hRow, hk, q⟩ := h
    have hr_law_parsed := hr
    refine ⟨_, (pss_cons (ps_set (i := 2) sc_law_pair_list.nd rfl (Or.inl rfl) (pe_lst pa_nil))
    (pss_cons (ps_for PassesOwn.never rfl (pi_range1 (by rfl) T.z_range (pa_cons (pe_op op_add (pe_callB call_len_seq (by rfl) T.z_len (by decide +kernel) (pa_cons (pv 0) pa_nil)) pe_int) pa_nil)) (pg_name (i := 3) sc_law_pair_list.nd rfl (Or.inl rfl))
    (pss_cons (ps_set (i := 4) sc_law_pair_list.nd rfl (Or.inl rfl) (pe_call G_law_parsed hr_law_parsed rfl T.m_law_parsed T.F_law_parsed.kp T.b_law_parsed .nil pass0 (pa_cons (pv 0) (pa_cons (pv 1) (pa_cons pe_int pa_nil)))))
    (pss_cons (ps_if (PW.pt (pw_or (pt_cmpR op_isN (pv 4) pe_non (nomark _)) (pw_or (pt_val (pe_callB call_isi (by rfl) T.z_isinstance (by decide +kernel) (pa_cons (pe_ix ix_seq (pv 4) pe_int (fun _ _ => rfl)) (pa_cons (pe_bltn rfl T.z_str (by decide +kernel) (show RelV (V.ty "str") (Value.type "str") from rfl)) pa_nil)))) (pw_or1 (pt_cmpR op_ne (pe_callB call_len_seq (by rfl) T.z_len (by decide +kernel) (pa_cons (pe_ix ix_seq (pv 4) pe_int (fun _ _ => rfl)) pa_nil)) pe_int (nomark _)))))) (pss_one (ps_ret pe_non)) pss_nil)
    (pss_cons (ps_expr (pe_bm PySem.F.plainAttrs_list PySem.F.slot_list_append PySem.F.type_list_append mt_append (pv 2) (pa_cons (pe_ix ix_seq (pv 4) pe_int (fun _ _ => rfl)) pa_nil)))
    (pss_cons (ps_set (i := 1) sc_law_pair_list.nd rfl (Or.inl rfl) (pe_op op_add (pe_ix ix_seq (pv 4) pe_int (fun _ _ => rfl)) pe_int))
    (pss_one (ps_if (PW.pt (pw_or (pt_cmpR op_ge (pe_ix ix_seq (pv 4) pe_int (fun _ _ => rfl)) (pe_callB call_len_seq (by rfl) T.z_len (by decide +kernel) (pa_cons (pv 0) pa_nil)) (nomark _)) (pw_or1 (pt_cmpR op_ne (pe_ix ix_list (pv 0) (pe_ix ix_seq (pv 4) pe_int (fun _ _ => rfl)) (fun _ _ => rfl)) pe_str (nomark _))))) (pss_one ps_break) pss_nil)))))))
    (pss_one (ps_ret (pe_tup (pa_cons (pv 2) (pa_cons (pe_op op_sub (pv 1) pe_int) pa_nil))))))), ?_⟩
    have ul := hRow.len
    generalize hres : pKs ((U.drop k).length + 1) (U.drop k) = res at q
    refine ⟨by decide, fun fp hfp => ?_⟩
    have s1 := same_upd hfp (.lst [])
    have R1 := hRow.same s1
    refine ⟨_, rfl, p, _, rfl, .inl (SqL.of R1.e), _, _, rfl, rfl, _, rfl, by simp only [List.length_map]; omega, by simp only [List.length_map]; omega, ?_⟩
    have en : ((((U.map SV).length : Nat) : Int) + 1).toNat = U.length + 1 := by rw [List.length_map]; omega
    refine for_range (n := ((((U.map SV).length : Nat) : Int) + 1).toNat) (fun i σ H' => ∃ (ks0 : List Kd) (vs : List V) (j : Nat) (y3 y4 : Option V), σ = [some (.ref p), some (.int (j : Nat)), some (.ref fp), y3, y4] ∧ j ≤ U.length ∧ i ≤ j ∧ H' fp = some (.lst vs) ∧ IsL H' vs (ks0.map kdP) ∧ Same H H' ∧ (pKs ((U.drop j).length + 1) (U.drop j)).map (fun p => (ks0 ++ p.1, p.2)) = res ∧ vs.length ≤ i) ?_ ?_ ?_
    · exact ⟨[], [], k, _, _, rfl, hk, Nat.zero_le _, upd_same, .nil, s1, by rw [hres]; cases res <;> rfl, Nat.le_refl _⟩
    · rintro i σ H' hi ⟨ks0, vs, j, y3, y4, rfl, hj, hij, ef, iv, s', hr1, hvl⟩
      rw [en] at hi
      have R' := hRow.same s'
      rw [pKs_eq] at hr1
      refine ⟨_, rfl, _, rfl, p, U, j, 0, rfl, R', hj, rfl, by decide, ?_⟩
      cases ez : pT 41 (U.drop j) with
      | none =>
        rw [pK_none_none ez] at hr1
        have hn : res = none := hr1.symm
        rw [hn] at q
        intro H5 s5
        exact ⟨_, rfl, rfl, _, rfl, iteT (q H5 (s'.trans s5))⟩
      | some pr =>
      obtain ⟨t5, Y5⟩ := pr
      have hw5 : RwT 41 t5 := by
        obtain ⟨C, _, _, h⟩ := pT_eat 41 _ _ _ ez
        exact h (by rw [List.length_drop]; omega)
      intro a5 v5 j5 H5 ej5 j5l j5g ea5 iv5 s5
      have R5 := R'.same s5
      refine ⟨_, rfl, rfl, _, rfl, ?_⟩
      rw [show decide (V.ref a5 = V.non) = false from decide_eq_false (by simp)]
      obtain ⟨ut, tyx, hty⟩ := iv5.ty (K := K)
      refine iteF ⟨_, rfl, .inr (.inl ⟨a5, _, _, _, rfl, rfl, .inl (.inl ea5), atI_nat (j := 0) rfl, _, _, ut, _, _, rfl, .ty _, tyx, kit_str hty, _, rfl, ?_⟩)⟩
      rcases hw5.cases with ⟨z, rfl⟩ | ⟨w, r, rfl, hrl, _⟩
      · rw [pK_none_str ez] at hr1
        have hn : res = none := hr1.symm
        rw [hn] at q
        exact iteT (q H5 (s'.trans s5))
      obtain ⟨ta, us, rfl, eta, iu⟩ := id iv5.tup_inv
      have hul := iu.len
      refine iteF ⟨_, rfl, .inr (.inl ⟨a5, _, _, _, rfl, rfl, .inl (.inl ea5), atI_nat (j := 0) rfl, ta, us, rfl, .inr (.inl (.inl eta)), rfl, _, rfl, ?_⟩)⟩
      rw [dec_int]
      rw [pK_tup ez] at hr1
      by_cases h2 : r.length = 1
      case neg =>
        have e : ((us.length : Int) == 2) = false := by rw [beq_eq_false_iff_ne, hul, List.length_cons]; omega
        rw [e]
        have hn : res = none := by
          rw [← hr1]
          match r, h2 with
          | [], _ => rfl
          | [_], h => exact absurd rfl h
          | _ :: _ :: _, _ => rfl
        rw [hn] at q
        exact iteT (q H5 (s'.trans s5))
      obtain ⟨t1, rfl⟩ : ∃ t, r = [t] := by
        match r, h2 with
        | [t], _ => exact ⟨t, rfl⟩
      have e : ((us.length : Int) == 2) = true := by rw [beq_iff_eq, hul]; rfl
      rw [e]
      simp only at hr1
      have ef5 := s5 _ _ ef
      refine iteF ⟨_, rfl, .inl ⟨rfl, _, SqL.of ef5⟩, _, rfl, .inr (.inl ⟨a5, _, _, _, rfl, rfl, .inl (.inl ea5), atI_nat (j := 0) rfl, fp, _, _, rfl, rfl, ef5, small7k (by omega), ?_⟩)⟩
      have nfa : a5 ≠ fp := fun z => by rw [z] at ea5; rw [ef5] at ea5; cases ea5
      have ea6 : (upd H5 fp (.lst (vs ++ [.ref ta]))) a5 = some (.tup [.ref ta, .int (j5 : Nat)]) := by rw [upd_ne nfa]; exact ea5
      have s6 : Same H (upd H5 fp (.lst (vs ++ [.ref ta]))) := Kx.Same.own (s'.trans s5) hfp _
      have ef6 : (upd H5 fp (.lst (vs ++ [.ref ta]))) fp = some (.lst (vs ++ [.ref ta])) := upd_same
      have iv6 : IsL (upd H5 fp (.lst (vs ++ [.ref ta]))) (vs ++ [.ref ta]) ((ks0 ++ [(⟨w, t1⟩ : Kd)]).map kdP) := by
        rw [List.map_append]
        exact IsL.tk (wr_tk ef5) ((iv.same s5).append (.cons iv5 .nil))
      have R6 := hRow.same s6
      generalize upd H5 fp (.lst (vs ++ [.ref ta])) = H6 at ea6 s6 ef6 iv6 R6 ⊢
      refine ⟨_, rfl, .inr (.inl ⟨a5, _, _, _, rfl, rfl, .inl (.inl ea6), atI_nat (j := 1) rfl, _, _, rfl, rfl, ?_⟩)⟩
      refine ⟨_, rfl, .inr (.inl ⟨a5, _, _, _, rfl, rfl, .inl (.inl ea6), atI_nat (j := 1) rfl, _, rfl, p, _, rfl, .inl (SqL.of R6.e), _, _, rfl, rfl, _, rfl, ?_⟩)⟩
      rw [List.length_map]
      have brk : ∀ {R : List Tok}, U.drop j5 = R → res = some (ks0 ++ [⟨w, t1⟩], R) → (2 : Nat) ≤ sizeLine ∧ ∀ l, H6 l = none → Q (.ref l) (upd H6 l (.tup [.ref fp, .int ((j5 : Int) + 1 - 1)])) := fun {R} eR hn => by
        rw [hn] at q
        refine ⟨by decide, fun l hl => ?_⟩
        have s7 := same_upd hl (.tup [.ref fp, .int ((j5 : Int) + 1 - 1)])
        exact q l fp _ j5 _ hfp eR j5l (by rw [upd_same, show ((j5 : Int) + 1 - 1) = ((j5 : Nat) : Int) by omega]) (s7 _ _ ef6) (iv6.same s7) (s6.trans s7)
      by_cases hj5 : j5 < U.length
      case neg =>
        rw [show decide ((U.length : Int) ≤ (j5 : Int)) = true from decide_eq_true (by omega)]
        have : Y5 = [] := by rw [← ej5]; exact List.drop_eq_nil_of_le (by omega)
        subst this
        have hn : res = some (ks0 ++ [⟨w, t1⟩], []) := by rw [← hr1]; simp [aftK]
        exact iteT ⟨_, rfl, _, rfl, _, _, rfl, rfl, brk ej5 hn⟩
      rw [show decide ((U.length : Int) ≤ (j5 : Int)) = false from decide_eq_false (by omega)]
      obtain ⟨c5, hc5⟩ : ∃ b, U[j5]? = some b := ⟨_, List.getElem?_eq_getElem hj5⟩
      obtain ⟨Z5, eZ5⟩ := drop_ex hc5
      have eY5 : Y5 = c5 :: Z5 := by rw [← ej5]; exact eZ5
      subst eY5
      refine iteF ⟨_, rfl, _, rfl, .inr (.inl ⟨a5, _, _, _, rfl, rfl, .inl (.inl ea6), atI_nat (j := 1) rfl, p, _, _, _, rfl, rfl, SqL.of R6.e, R6.at hc5, rfl, _, rfl, ?_⟩)⟩
      rw [ne_sv, show cs "," = [44] from rfl]
      by_cases hc : c5 = [44]
      case neg =>
        rw [decide_eq_false hc]
        have hn : res = some (ks0 ++ [⟨w, t1⟩], c5 :: Z5) := by rw [← hr1]; simp [aftK, hc]
        exact iteT ⟨_, rfl, _, rfl, _, _, rfl, rfl, brk ej5 hn⟩
      rw [decide_eq_true hc]
      subst hc
      refine iteF ⟨ks0 ++ [⟨w, t1⟩], vs ++ [.ref ta], j5 + 1, _, _, rfl, by omega, by omega, ef6, iv6, s6, ?_, by rw [List.length_append, List.length_singleton]; omega⟩
      rw [(get_drop ej5).2.1, ← hr1, aftK_44]
      simp only [Option.map_map]
      congr 1
      funext pp
      simp
    · rintro σ H' ⟨ks0, vs, j, y3, y4, rfl, hj, hij, _⟩
      rw [en] at hij
      omega
end
end Kx
namespace Kx
open PySem PySem.Spec PyProof.Rows L2
section
variable {P : Program} {w : World} {K : PySem.W.Frag} {mg : Str → Option Value} {base : Heap}
set_option pp.maxSteps 900
/-! ### the judge's heads -/
theorem pEnd_pKs (X : List Tok) : pEnd (ARW :: X) = match pKs (X.length + 1) X with
    | some ([k], []) => some k
    | _ => none := by
  rw [pEnd_at, pKs_eq]
  cases e : pK X with
  | none => rfl
  | some p =>
    obtain ⟨k, Y⟩ := p
    simp only
    cases Y with
    | nil => simp [aftK]
    | cons a Y =>
      by_cases h : a = [44]
      · subst h
        rw [aftK_44]
        cases e2 : pKs (Y.length + 1) Y with
        | none => rfl
        | some p =>
          obtain ⟨ks, R⟩ := p
          obtain ⟨C, _, _, K2⟩ := pKs_eat _ _ _ _ e2
          cases ks with
          | nil => exact absurd rfl K2.ne
          | cons k2 ks => rfl
      · simp [aftK, h]
def hdP (l : Nat) (X : List Tok) : Option (List Kd × Kd) := match (if l = 0 then pPs X else pKs (X.length + 1) X) with
  | some (ks, R) => (pEnd R).map fun md => (ks, md)
  | none => none
def spJHead : Sp := fun vs H Q _ => ∃ (p : Addr) (U : List Tok) (k l : Nat), vs = [.ref p, .int k, .int l] ∧ RowAt H p U ∧ k ≤ U.length ∧ l ≤ 1 ∧
  match hdP l (U.drop k) with
  | none => ∀ H', Same H H' → Q .non H'
  | some (ks, md) => ∀ a fp vs v H', H fp = none → H' a = some (.tup [.ref fp, v]) → H' fp = some (.lst vs) → IsL H' vs (ks.map kdP) → Is H' v (kdP md) → Same H H' → Q (.ref a) H'
theorem ok_law_head (T : Txt K mg) (G_law_pair_list : FnOk P w K mg base CX0 43 T.a_law_pair_list T.d_law_pair_list ["row", "k"] spJPairs) : FnOk P w K mg base CX0 44 T.a_law_head T.d_law_head ["row", "k", "least"] spJHead := by
  refine T.F_law_head.ok sc_law_head (fun vs H Q E h => ?_) (fun cdv A outer s H vs Q E hr h => ?_)
  · obtain ⟨p, U, k, l, rfl, _⟩ := h; rfl
  · obtain ⟨p, U, k, l, rfl, hRow, hk, hl, q⟩ := h
    have hr_law_pair_list := hr
    refine ⟨_, (pss_cons (ps_set (i := 3) sc_law_head.nd rfl (Or.inl rfl) (pe_tup (pa_cons (pe_lst pa_nil) (pa_cons (pv 1) pa_nil))))
    (Evl.pss_cut (ps_if (PW.pt (pw_or (pt_cmpR op_eq (pv 2) pe_int (nomark _)) (pw_or1 (PW.pt (pw_and (pt_cmpR op_lt (pv 1) (pe_callB call_len_seq (by rfl) T.z_len (by decide +kernel) (pa_cons (pv 0) pa_nil)) (nomark _)) (pw_and1 (pt_cmpR op_ne (pe_ix ix_list (pv 0) (pv 1) (fun _ _ => rfl)) pe_str (nomark _)))))))) (pss_one (ps_set (i := 3) sc_law_head.nd rfl (Or.inl rfl) (pe_call G_law_pair_list hr_law_pair_list rfl T.m_law_pair_list T.F_law_pair_list.kp T.b_law_pair_list .nil pass0 (pa_cons (pv 0) (pa_cons (pv 1) pa_nil))))) pss_nil)
    (pss_cons (ps_if (PW.pt (pw_or (pt_cmpR op_isN (pv 3) pe_non (nomark _)) (pw_or (pt_cmpR op_ge (pe_ix ix_seq (pv 3) pe_int (fun _ _ => rfl)) (pe_callB call_len_seq (by rfl) T.z_len (by decide +kernel) (pa_cons (pv 0) pa_nil)) (nomark _)) (pw_or1 (pt_cmpR op_ne (pe_ix ix_list (pv 0) (pe_ix ix_seq (pv 3) pe_int (fun _ _ => rfl)) (fun _ _ => rfl)) pe_str (nomark _)))))) (pss_one (ps_ret pe_non)) pss_nil)
    (pss_cons (ps_set (i := 4) sc_law_head.nd rfl (Or.inl rfl) (pe_call G_law_pair_list hr_law_pair_list rfl T.m_law_pair_list T.F_law_pair_list.kp T.b_law_pair_list .nil pass0 (pa_cons (pv 0) (pa_cons (pe_op op_add (pe_ix ix_seq (pv 3) pe_int (fun _ _ => rfl)) pe_int) pa_nil))))
    (pss_cons (ps_if (PW.pt (pw_or (pt_cmpR op_isN (pv 4) pe_non (nomark _)) (pw_or (pt_cmpR op_ne (pe_callB call_len_seq (by rfl) T.z_len (by decide +kernel) (pa_cons (pe_ix ix_seq (pv 4) pe_int (fun _ _ => rfl)) pa_nil)) pe_int (nomark _)) (pw_or1 (pt_cmpR op_ne (pe_ix ix_seq (pv 4) pe_int (fun _ _ => rfl)) (pe_callB call_len_seq (by rfl) T.z_len (by decide +kernel) (pa_cons (pv 0) pa_nil)) (nomark _)))))) (pss_one (ps_ret pe_non)) pss_nil)
    (pss_one (ps_ret (pe_tup (pa_cons (pe_ix ix_seq (pv 3) pe_int (fun _ _ => rfl)) (pa_cons (pe_ix ix_list (pe_ix ix_seq (pv 4) pe_int (fun _ _ => rfl)) pe_int (fun _ _ => rfl)) pa_nil)))))))))), ?_⟩
    have ul := hRow.len
    generalize hX : U.drop k = X at q
    generalize hres : hdP l X = res at q
    refine ⟨by decide, fun f0 hf0 => ⟨_, rfl, (by show 2 ≤ sizeLine; decide), fun a0 ha0 => ?_⟩⟩
    have s1 := same_upd hf0 (.lst [])
    have s2 := same_upd ha0 (.tup [.ref f0, .int k])
    have s12 := s1.trans s2
    have ef0 := s2 _ _ (show upd H f0 (.lst []) f0 = some (.lst []) from upd_same)
    have ea0 : (upd (upd H f0 (.lst [])) a0 (.tup [.ref f0, .int k])) a0 = some (.tup [.ref f0, .int k]) := upd_same
    generalize upd (upd H f0 (.lst [])) a0 (.tup [.ref f0, .int k]) = H1 at s12 ef0 ea0 ⊢
    have R1 := hRow.same s12
    refine ⟨fun σ H' => ∃ (v3 : V), σ = [some (.ref p), some (.int k), some (.int l), some v3, none] ∧ Same H H' ∧ ((v3 = .non ∧ res = none) ∨ ∃ (a fp : Addr) (vs : List V) (j : Nat) (ks : List Kd) (R : List Tok), v3 = .ref a ∧ H fp = none ∧ H' a = some (.tup [.ref fp, .int (j : Nat)]) ∧ H' fp = some (.lst vs) ∧ IsL H' vs (ks.map kdP) ∧ U.drop j = R ∧ j ≤ U.length ∧ res = (pEnd R).map fun md => (ks, md)), ?_, ?_⟩
    · have call : ∀ {H2 : Hp}, Same H1 H2 → hdP l X = (match pKs (X.length + 1) X with
          | some (ks, R) => (pEnd R).map fun md => (ks, md)
          | none => none) → ∀ {M : L2.St → Hp → Prop}, (∀ v3 H', Same H H' → ((v3 = .non ∧ res = none) ∨ ∃ (a fp : Addr) (vs : List V) (j : Nat) (ks : List Kd) (R : List Tok), v3 = .ref a ∧ H fp = none ∧ H' a = some (.tup [.ref fp, .int (j : Nat)]) ∧ H' fp = some (.lst vs) ∧ IsL H' vs (ks.map kdP) ∧ U.drop j = R ∧ j ≤ U.length ∧ res = (pEnd R).map fun md => (ks, md)) → M [some (.ref p), some (.int k), some (.int l), some v3, none] H') →
          spJPairs [.ref p, .int k] H2 (fun v H' => M [some (.ref p), some (.int k), some (.int l), some v, none] H') E0 := fun {H2} s3 e {M} m => by
        refine ⟨p, U, k, rfl, R1.same s3, hk, ?_⟩
        rw [hX]
        rw [hres] at e
        cases ez : pKs (X.length + 1) X with
        | none => rw [ez] at e; exact fun H' s' => m _ H' ((s12.trans s3).trans s') (.inl ⟨rfl, e⟩)
        | some pr =>
          obtain ⟨ks, R⟩ := pr
          rw [ez] at e
          exact fun a fp vs j H' fn ej jl ea ef iv s' => m _ H' ((s12.trans s3).trans s') (.inr ⟨a, fp, vs, j, ks, R, rfl, (s12.trans s3).free fn, ea, ef, iv, ej, jl, e⟩)
      have keep : ∀ R, X = R → res = (pEnd R).map (fun md => (([] : List Kd), md)) → ∃ (v3 : V), [some (V.ref p), some (V.int k), some (V.int l), some (V.ref a0), (none : Option V)] = [some (.ref p), some (.int k), some (.int l), some v3, none] ∧ Same H H1 ∧ ((v3 = .non ∧ res = none) ∨ ∃ (a fp : Addr) (vs : List V) (j : Nat) (ks : List Kd) (R : List Tok), v3 = .ref a ∧ H fp = none ∧ H1 a = some (.tup [.ref fp, .int (j : Nat)]) ∧ H1 fp = some (.lst vs) ∧ IsL H1 vs (ks.map kdP) ∧ U.drop j = R ∧ j ≤ U.length ∧ res = (pEnd R).map fun md => (ks, md)) := fun R e1 e2 => ⟨_, rfl, s12, .inr ⟨a0, f0, [], k, [], R, rfl, hf0, ea0, ef0, .nil, by rw [hX, e1], hk, e2⟩⟩
      refine ⟨_, rfl, rfl, _, rfl, ?_⟩
      rw [dec_int]
      rcases (show l = 0 ∨ l = 1 by omega) with rfl | rfl
      rotate_left
      · rw [show (((1 : Nat) : Int) == 1) = true by decide]
        exact iteT ⟨_, rfl, _, rfl, call (.refl _) (by simp [hdP]) fun v3 H' s' hh => ⟨v3, rfl, s', hh⟩⟩
      rw [show (((0 : Nat) : Int) == 1) = false by decide]
      have e0 : hdP 0 X = (match pPs X with
          | some (ks, R) => (pEnd R).map fun md => (ks, md)
          | none => none) := by simp [hdP]
      refine iteF ⟨_, rfl, _, rfl, p, _, rfl, .inl (SqL.of R1.e), _, _, rfl, rfl, _, rfl, ?_⟩
      rw [List.length_map]
      by_cases hkl : k < U.length
      case neg =>
        rw [show decide ((k : Int) < (U.length : Int)) = false from decide_eq_false (by omega)]
        have hX0 : X = [] := by rw [← hX]; exact List.drop_eq_nil_of_le (by omega)
        refine iteF (iteF (keep [] hX0 ?_))
        rw [← hres, e0, hX0]
        rfl
      rw [show decide ((k : Int) < (U.length : Int)) = true from decide_eq_true (by omega)]
      obtain ⟨t, ht⟩ : ∃ t, U[k]? = some t := ⟨_, List.getElem?_eq_getElem hkl⟩
      obtain ⟨R, ed⟩ := drop_ex ht
      refine iteT ⟨_, rfl, _, rfl, p, _, _, _, rfl, rfl, SqL.of R1.e, R1.at ht, rfl, _, rfl, ?_⟩
      rw [ne_sv, show cs "->" = ARW from rfl]
      by_cases hA : t = ARW
      · rw [decide_eq_true hA]
        refine iteF (keep X rfl ?_)
        rw [← hres, e0]
        have : pPs X = some ([], X) := by unfold pPs; rw [if_pos (by rw [← hX, ed, hA]; rfl)]
        rw [this]
      · rw [decide_eq_false hA]
        refine iteT ⟨_, rfl, _, rfl, call (.refl _) ?_ fun v3 H' s' hh => ⟨v3, rfl, s', hh⟩⟩
        rw [e0]
        have : pPs X = pKs (X.length + 1) X := by unfold pPs; rw [if_neg (by rw [← hX, ed]; exact fun e => hA (Option.some.inj e))]
        rw [this]
    rintro σ H2 ⟨v3, rfl, sA, hor⟩
    have R2 := hRow.same sA
    rcases hor with ⟨rfl, hn⟩ | ⟨a, fp, vs, j, ks, R, rfl, fn, ea, ef, iv, ej, jl, hr1⟩
    · rw [hn] at q
      exact ⟨_, rfl, rfl, _, rfl, iteT (q H2 sA)⟩
    refine ⟨_, rfl, rfl, _, rfl, ?_⟩
    rw [show decide (V.ref a = V.non) = false from decide_eq_false (by simp)]
    refine iteF ⟨_, rfl, .inr (.inl ⟨a, _, _, _, rfl, rfl, .inl (.inl ea), atI_nat (j := 1) rfl, _, rfl, p, _, rfl, .inl (SqL.of R2.e), _, _, rfl, rfl, _, rfl, ?_⟩)⟩
    rw [List.length_map]
    by_cases hjl : j < U.length
    case neg =>
      rw [show decide ((U.length : Int) ≤ (j : Int)) = true from decide_eq_true (by omega)]
      have : R = [] := by rw [← ej]; exact List.drop_eq_nil_of_le (by omega)
      subst this
      have hn : res = none := hr1
      rw [hn] at q
      exact iteT (q H2 sA)
    rw [show decide ((U.length : Int) ≤ (j : Int)) = false from decide_eq_false (by omega)]
    obtain ⟨t, ht⟩ : ∃ t, U[j]? = some t := ⟨_, List.getElem?_eq_getElem hjl⟩
    obtain ⟨Z, ed⟩ := drop_ex ht
    have eR : R = t :: Z := by rw [← ej]; exact ed
    subst eR
    refine iteF ⟨_, rfl, _, rfl, .inr (.inl ⟨a, _, _, _, rfl, rfl, .inl (.inl ea), atI_nat (j := 1) rfl, p, _, _, _, rfl, rfl, SqL.of R2.e, R2.at ht, rfl, _, rfl, ?_⟩)⟩
    rw [ne_sv, show cs "->" = ARW from rfl]
    by_cases hA : t = ARW
    case neg =>
      rw [decide_eq_false hA]
      have hn : res = none := by rw [hr1, pEnd_none (by rw [List.head?_cons]; exact fun e => hA (Option.some.inj e))]; rfl
      rw [hn] at q
      exact iteT (q H2 sA)
    rw [decide_eq_true hA]
    subst hA
    rw [pEnd_pKs] at hr1
    have gd2 := (get_drop ej).2.1
    refine iteF ⟨_, rfl, _, rfl, .inr (.inl ⟨a, _, _, _, rfl, rfl, .inl (.inl ea), atI_nat (j := 1) rfl, _, _, rfl, rfl, p, U, j + 1, rfl, R2, by omega, ?_⟩)⟩
    rw [gd2]
    cases ez : pKs (Z.length + 1) Z with
    | none =>
      rw [ez] at hr1
      have hn : res = none := hr1
      rw [hn] at q
      exact fun H' s' => ⟨_, rfl, rfl, _, rfl, iteT (q H' (sA.trans s'))⟩
    | some pr =>
    obtain ⟨ks2, Rz⟩ := pr
    rw [ez] at hr1
    intro a2 fp2 vs2 j2 H3 _ ej2 jl2 ea2 ef2 iv2 s3
    have R3 := R2.same s3
    have hvl := iv2.len
    rw [List.length_map] at hvl
    refine ⟨_, rfl, rfl, _, rfl, ?_⟩
    rw [show decide (V.ref a2 = V.non) = false from decide_eq_false (by simp)]
    refine iteF ⟨_, rfl, .inr (.inl ⟨a2, _, _, _, rfl, rfl, .inl (.inl ea2), atI_nat (j := 0) rfl, fp2, _, rfl, .inl (SqL.of ef2), rfl, _, rfl, ?_⟩)⟩
    rw [dec_int]
    by_cases h1 : ks2.length = 1
    case neg =>
      rw [show ((vs2.length : Int) == 1) = false by rw [beq_eq_false_iff_ne]; omega]
      have hn : res = none := by
        rw [hr1]
        match ks2, h1 with
        | [], _ => rfl
        | [_], h => exact absurd rfl h
        | _ :: _ :: _, _ => rfl
      rw [hn] at q
      exact iteT (q H3 (sA.trans s3))
    rw [show ((vs2.length : Int) == 1) = true by rw [beq_iff_eq]; omega]
    obtain ⟨k2, rfl⟩ : ∃ k, ks2 = [k] := by
      match ks2, h1 with
      | [k], _ => exact ⟨k, rfl⟩
    refine iteF ⟨_, rfl, .inr (.inl ⟨a2, _, _, _, rfl, rfl, .inl (.inl ea2), atI_nat (j := 1) rfl, _, rfl, p, _, rfl, .inl (SqL.of R3.e), rfl, _, rfl, ?_⟩)⟩
    rw [List.length_map, dec_int]
    by_cases h2 : j2 = U.length
    case neg =>
      rw [show ((j2 : Int) == (U.length : Int)) = false by rw [beq_eq_false_iff_ne]; omega]
      have hn : res = none := by
        rw [hr1]
        cases Rz with
        | nil =>
          have := congrArg List.length ej2
          rw [List.length_drop] at this
          simp at this
          omega
        | cons b Rz => rfl
      rw [hn] at q
      exact iteT (q H3 (sA.trans s3))
    rw [show ((j2 : Int) == (U.length : Int)) = true by rw [beq_iff_eq]; omega]
    have hRz : Rz = [] := by rw [← ej2]; exact List.drop_eq_nil_of_le (by omega)
    subst hRz
    have hn : res = some (ks, k2) := hr1
    rw [hn] at q
    obtain ⟨v, rfl, iv1⟩ := one_inv iv2
    refine iteF ⟨_, rfl, .inr (.inl ⟨a, _, _, _, rfl, rfl, .inl (.inl (s3 _ _ ea)), atI_nat (j := 0) rfl, _, rfl, .inr (.inl ⟨a2, _, _, _, rfl, rfl, .inl (.inl ea2), atI_nat (j := 0) rfl, fp2, _, _, _, rfl, rfl, SqL.of ef2, atI_nat (j := 0) rfl, (by show 2 ≤ sizeLine; decide), fun r hr => ?_⟩)⟩)⟩
    have s4 := same_upd hr (.tup [.ref fp, v])
    exact q r fp vs v _ fn upd_same (s4 _ _ (s3 _ _ ef)) ((iv.same s3).same s4) (iv1.same s4) ((sA.trans s3).trans s4)
end
end Kx
namespace Kx
open PySem PySem.Spec PyProof.Rows L2
section
variable {P : Program} {w : World} {K : PySem.W.Frag} {mg : Str → Option Value} {base : Heap}
set_option pp.maxSteps 900
/-! ### the judge's items -/
def KD (U : List Tok) : List Str := U.map kdS
theorem num_notw : ∀ n, n < 100 → isW (num n) = false := by decide +kernel
theorem kd_num (t : Tok) : kdS t = "number" ↔ (numV t).isSome = true := by
  unfold kdS
  cases h : isW t with
  | true =>
    rw [if_pos rfl]
    constructor
    · intro e; exact absurd e (by decide)
    · intro e
      cases en : numV t with
      | none => rw [en] at e; cases e
      | some n =>
        obtain ⟨rfl, hn⟩ := numV_some en
        rw [num_notw n hn] at h; cases h
  | false =>
    rw [if_neg (by decide)]
    by_cases hn : (numV t).isSome = true
    · rw [if_pos hn]; simp [hn]
    · rw [if_neg hn]
      constructor
      · intro e
        split at e
        · rename_i hl
          have : ∀ t ∈ LITS, mkS t ≠ "number" := by decide +kernel
          exact absurd e (this t hl)
        · exact absurd e (by decide)
      · intro e; exact absurd e hn
theorem kd_wrd (t : Tok) : kdS t = "word" ↔ isW t = true := by
  rw [← decide_eq_true_iff (p := kdS t = "word"), kd_word]
theorem kd_lit {t z : Tok} (hz : z ∈ LITS) (h1 : mkS z ≠ "word") (h2 : mkS z ≠ "number") (h3 : mkS z ≠ "bad") : kdS t = mkS z ↔ t = z := by
  constructor
  · intro e
    unfold kdS at e
    split at e
    · exact absurd e.symm h1
    · split at e
      · exact absurd e.symm h2
      · split at e
        · have := congrArg cs e; rwa [cs_mk, cs_mk] at this
        · exact absurd e.symm h3
  · intro e; rw [e]; exact lits_kd z hz
theorem kd_op (t : Tok) : kdS t = "(" ↔ t = [40] := kd_lit (z := [40]) (by decide) (by decide) (by decide) (by decide)
theorem kd_co (t : Tok) : kdS t = ":" ↔ t = [58] := kd_lit (z := [58]) (by decide) (by decide) (by decide) (by decide)
theorem kd2 (U : List Tok) : (KD U).take 2 = (["word", "("] : List Str) ↔ ∃ t R, U = t :: [40] :: R ∧ isW t = true := by
  match U with
  | [] => simp [KD]
  | [a] => simp [KD]
  | a :: b :: R =>
    simp only [KD, List.map_cons, List.take_succ_cons, List.take_zero, List.cons.injEq, and_true, kd_wrd, kd_op]
    constructor
    · rintro ⟨h1, h2⟩; exact ⟨a, R, ⟨rfl, h2, rfl⟩, h1⟩
    · rintro ⟨t, S, ⟨rfl, rfl, rfl⟩, h⟩; exact ⟨h, rfl⟩
theorem kdm (U : List Tok) : KD U = (["word", "word", "number"] : List Str) ↔ ∃ a b c, U = [a, b, c] ∧ isW a = true ∧ isW b = true ∧ (numV c).isSome = true := by
  match U with
  | [] => simp [KD]
  | [a] => simp [KD]
  | [a, b] => simp [KD]
  | [a, b, c] =>
    simp only [KD, List.map_cons, List.map_nil, List.cons.injEq, and_true, kd_wrd, kd_num]
    constructor
    · rintro ⟨h1, h2, h3⟩; exact ⟨a, b, c, ⟨rfl, rfl, rfl⟩, h1, h2, h3⟩
    · rintro ⟨_, _, _, ⟨rfl, rfl, rfl⟩, h⟩; exact h
  | a :: b :: c :: d :: R => simp [KD]
theorem kdf (U : List Tok) : KD U = (["word", "word"] : List Str) ↔ ∃ a b, U = [a, b] ∧ isW a = true ∧ isW b = true := by
  match U with
  | [] => simp [KD]
  | [a] => simp [KD]
  | [a, b] =>
    simp only [KD, List.map_cons, List.map_nil, List.cons.injEq, and_true, kd_wrd]
    constructor
    · rintro ⟨h1, h2⟩; exact ⟨a, b, ⟨rfl, rfl⟩, h1, h2⟩
    · rintro ⟨_, _, ⟨rfl, rfl⟩, h⟩; exact h
  | a :: b :: c :: R => simp [KD]
theorem kdc (U : List Tok) : (KD U).take 3 = (["word", "word", ":"] : List Str) ↔ ∃ a b X, U = a :: b :: [58] :: X ∧ isW a = true ∧ isW b = true := by
  match U with
  | [] => simp [KD]
  | [a] => simp [KD]
  | [a, b] => simp [KD]
  | a :: b :: c :: R =>
    simp only [KD, List.map_cons, List.take_succ_cons, List.take_zero, List.cons.injEq, and_true, kd_wrd, kd_co]
    constructor
    · rintro ⟨h1, h2, h3⟩; exact ⟨a, b, R, ⟨rfl, rfl, h3, rfl⟩, h1, h2⟩
    · rintro ⟨_, _, _, ⟨rfl, rfl, rfl, rfl⟩, h1, h2⟩; exact ⟨h1, h2, rfl⟩
theorem kdfn (U : List Tok) : (KD U).take 5 = (["word", "word", "word", "number", ":"] : List Str) ↔ ∃ a b c n X, U = a :: b :: c :: n :: [58] :: X ∧ isW a = true ∧ isW b = true ∧ isW c = true ∧ (numV n).isSome = true := by
  match U with
  | [] => simp [KD]
  | [a] => simp [KD]
  | [a, b] => simp [KD]
  | [a, b, c] => simp [KD]
  | [a, b, c, d] => simp [KD]
  | a :: b :: c :: d :: e :: R =>
    simp only [KD, List.map_cons, List.take_succ_cons, List.take_zero, List.cons.injEq, and_true, kd_wrd, kd_co, kd_num]
    constructor
    · rintro ⟨h1, h2, h3, h4, h5⟩; exact ⟨a, b, c, d, R, ⟨rfl, rfl, rfl, rfl, h5, rfl⟩, h1, h2, h3, h4⟩
    · rintro ⟨_, _, _, _, _, ⟨rfl, rfl, rfl, rfl, rfl, rfl⟩, h1, h2, h3, h4⟩; exact ⟨h1, h2, h3, h4, rfl⟩
theorem kd_sok : ∀ t, Ok t → sok (kdS t) = true := fun t h => by
  unfold kdS
  split
  · decide +kernel
  · split
    · decide +kernel
    · split
      · exact sok_ok h
      · decide +kernel
theorem strs_shaped : ∀ zs : List Str, (∀ z ∈ zs, sok z = true) → SeqAt.shaped (.list (zs.map PyData.str)) = true := fun zs h => by
  have h1 : ∀ zs : List Str, (∀ z ∈ zs, sok z = true) → PyData.canLayAll0 (zs.map PyData.str) = true := by
    intro zs
    induction zs with
    | nil => intro _; rfl
    | cons z r ih => intro h; simp only [List.map_cons, PyData.canLayAll0, PyData.canLay0, ih fun x hx => h x (List.mem_cons_of_mem _ hx), show PyData.strOk z = true from h z (List.mem_cons_self ..), Bool.and_self]
  have h2 : ∀ zs : List Str, PyData.depthAll (zs.map PyData.str) ≤ 1 := by
    intro zs
    induction zs with
    | nil => simp [PyData.depthAll]
    | cons z r ih => simp only [List.map_cons, PyData.depthAll, PyData.depth]; omega
  have h3 := h2 zs
  simp only [SeqAt.shaped, PyData.canLay0, PyData.depth, h1 zs h, Bool.true_and, decide_eq_true_eq]
  exact decide_eq_true (by omega)
theorem strs_dp {K : PySem.W.Frag} {H : Hp} : ∀ zs : List Str, DpAll K H (zs.map V.str) (zs.map PyData.str)
  | [] => .nil
  | z :: r => .cons (.str z) (strs_dp r)
theorem strs_eqv : ∀ a b : List Str, PyData.eqvAll (a.map PyData.str) (b.map PyData.str) = decide (a = b)
  | [], [] => rfl
  | [], y :: b => rfl
  | x :: a, [] => rfl
  | x :: a, y :: b => by
    simp only [List.map_cons, PyData.eqvAll, PyData.eqv, strs_eqv a b]
    by_cases h : x = y
    · subst h; simp
    · simp [h]
/-- two lists of texts compared -/
theorem eq_strs {K : PySem.W.Frag} {H : Hp} {p q : Addr} {a b : List Str} {Q : VK} (e1 : SqL K H p (a.map V.str)) (e2 : SqL K H q (b.map V.str)) (ha : ∀ z ∈ a, sok z = true) (hb : ∀ z ∈ b, sok z = true) (fin : Q (.bl (decide (a = b))) H) : rEqD K (.ref p) (.ref q) H Q :=
  ⟨.list (a.map PyData.str), .list (b.map PyData.str), .lst e1 (strs_dp a), .lst e2 (strs_dp b), strs_shaped a ha, strs_shaped b hb, by simp only [PyData.eqv, strs_eqv]; exact fin⟩
/-- an item as the judge keeps it -/
def ItemAt (B : Addr → Prop) (H : Hp) (x : V) : Item → Prop
  | .m y => ∃ a, x = .ref a ∧ H a = some (.tup [.str "maker", .str y.1, .int y.2]) ∧ sok y.1 = true
  | .f z => ∃ a, x = .ref a ∧ H a = some (.tup [.str "family", .str z]) ∧ sok z = true
  | .c y => ∃ a h fp vs v, x = .ref a ∧ H a = some (.tup [.str "con", .str y.w, .ref h]) ∧ sok y.w = true ∧ H h = some (.tup [.ref fp, v]) ∧ H fp = some (.lst vs) ∧ IsL H vs (y.ps.map kdP) ∧ Is H v (kdP y.md) ∧ B fp
  | .h y => ∃ a h fp vs v, x = .ref a ∧ H a = some (.tup [.str "fun", .str y.w, .int y.falls, .ref h]) ∧ sok y.w = true ∧ H h = some (.tup [.ref fp, v]) ∧ H fp = some (.lst vs) ∧ IsL H vs (y.ps.map kdP) ∧ Is H v (kdP y.md) ∧ B fp
  | .l w y => ∃ a l v, x = .ref a ∧ H a = some (.tup [.str "clause", .ref l, v]) ∧ Is H (.ref l) (.tup (.str w :: y.ps)) ∧ Is H v y.b
theorem ItemAt.same {B : Addr → Prop} {H H' : Hp} {x : V} {it : Item} (h : ItemAt B H x it) (s : Same H H') : ItemAt B H' x it := by
  cases it with
  | m y => obtain ⟨a, e, h1, h2⟩ := h; exact ⟨a, e, s _ _ h1, h2⟩
  | f z => obtain ⟨a, e, h1, h2⟩ := h; exact ⟨a, e, s _ _ h1, h2⟩
  | c y => obtain ⟨a, h, fp, vs, v, e, h1, h2, h3, h4, h5, h6, h7⟩ := h; exact ⟨a, h, fp, vs, v, e, s _ _ h1, h2, s _ _ h3, s _ _ h4, h5.same s, h6.same s, h7⟩
  | h y => obtain ⟨a, h, fp, vs, v, e, h1, h2, h3, h4, h5, h6, h7⟩ := h; exact ⟨a, h, fp, vs, v, e, s _ _ h1, h2, s _ _ h3, s _ _ h4, h5.same s, h6.same s, h7⟩
  | l w y => obtain ⟨a, l, v, e, h1, h2, h3⟩ := h; exact ⟨a, l, v, e, s _ _ h1, h2.same s, h3.same s⟩
theorem key_w : isW (cs "maker") = true ∧ isW (cs "family") = true ∧ isW (cs "con") = true ∧ isW (cs "fun") = true := by decide +kernel
/-- where no clause stands -/
theorem pI_key {t : Tok} {R : List Tok} (h : ¬ ∃ u S, t :: R = u :: [40] :: S ∧ isW u = true) : pI (t :: R) = if t = cs "maker" then pMk R else if t = cs "family" then pFm R else if t = cs "con" then pCn R else if t = cs "fun" then pFn R else none := by
  by_cases h1 : (t :: R)[1]? = some [40]
  · obtain ⟨S, rfl⟩ : ∃ S, R = [40] :: S := by
      cases R with
      | nil => simp at h1
      | cons a S => simp at h1; exact ⟨S, by rw [h1]⟩
    have hw : isW t = false := by
      cases e : isW t with
      | false => rfl
      | true => exact absurd ⟨t, S, rfl, e⟩ h
    obtain ⟨k1, k2, k3, k4⟩ := key_w
    have e : pI (t :: [40] :: S) = none := by
      unfold pI
      rw [if_pos h1]
      simp only [pCl, hw, Bool.false_eq_true, if_false]
    rw [e]
    have n : ∀ z, isW z = true → t ≠ z := fun z hz e => by rw [e, hz] at hw; cases hw
    rw [if_neg (n _ k1), if_neg (n _ k2), if_neg (n _ k3), if_neg (n _ k4)]
  · exact pI_no rfl h1
theorem pCon_hd (w : Str) (X : List Tok) : pCon w X = (hdP 0 X).map fun p => .c ⟨w, p.1, p.2⟩ := by
  unfold pCon hdP
  rw [if_pos rfl]
  cases pPs X with
  | none => rfl
  | some p =>
    obtain ⟨ks, R⟩ := p
    simp only
    cases pEnd R <;> rfl
theorem pFun_hd (w : Str) (n : Nat) (X : List Tok) : pFun w n X = (hdP 1 X).map fun p => .h ⟨w, p.1, p.2, n, []⟩ := by
  unfold pFun hdP
  rw [if_neg (by decide)]
  cases pKs (X.length + 1) X with
  | none => rfl
  | some p =>
    obtain ⟨ks, R⟩ := p
    simp only
    cases pEnd R <;> rfl
theorem cut_to (xs : List V) (n : Nat) : cutV xs none (some (n : Int)) = xs.take n := by
  unfold cutV
  rw [HT.sIx_nat, HT.sIx_none]
  simp only [List.drop_zero, Nat.sub_zero]
  rcases Nat.le_total n xs.length with h | h
  · rw [Nat.min_eq_left h]
  · rw [Nat.min_eq_right h, List.take_length, List.take_of_length_le h]
theorem cmp_all {K : PySem.W.Frag} {H : Hp} {D : Addr} {a b : List Str} {Q : VK} (e : H D = some (.lst (a.map V.str))) (ha : ∀ z ∈ a, sok z = true) (hb : ∀ z ∈ b, sok z = true) (fin : ∀ H', Same H H' → Q (.bl (decide (a = b))) H') (p2 : Addr) (hp : H p2 = none) : rEqD K (.ref D) (.ref p2) (upd H p2 (.lst (b.map V.str))) Q :=
  have s := same_upd hp (.lst (b.map V.str))
  eq_strs (SqL.of (s _ _ e)) (SqL.of upd_same) ha hb (fin _ s)
theorem cmp_cut {K : PySem.W.Frag} {H : Hp} {a b : List Str} {Q : VK} (n : Nat) (ha : ∀ z ∈ a, sok z = true) (hb : ∀ z ∈ b, sok z = true) (fin : ∀ H', Same H H' → Q (.bl (decide (a.take n = b))) H') (p : Addr) (hp : H p = none) (p2 : Addr) (hp2 : (upd H p (.lst (cutV (a.map V.str) none (some (n : Int))))) p2 = none) : rEqD K (.ref p) (.ref p2) (upd (upd H p (.lst (cutV (a.map V.str) none (some (n : Int))))) p2 (.lst (b.map V.str))) Q := by
  have s1 := same_upd hp (.lst (cutV (a.map V.str) none (some (n : Int))))
  have s2 := same_upd hp2 (.lst (b.map V.str))
  refine eq_strs (SqL.of (s2 _ _ ?_)) (SqL.of upd_same) (fun z hz => ha z (List.mem_of_mem_take hz)) hb (fin _ (s1.trans s2))
  rw [upd_same, cut_to, List.map_take]
theorem mk_none {R : List Tok} (h : KD (cs "maker" :: R) ≠ (["word", "word", "number"] : List Str)) : pMk R = none := by
  cases e : pMk R with
  | none => rfl
  | some it =>
    exfalso; apply h
    rw [kdm]
    match R, e with
    | [w, n], e =>
      simp only [pMk] at e
      split at e
      · rename_i hw
        cases en : numV n with
        | none => rw [en] at e; cases e
        | some k => exact ⟨_, w, n, rfl, key_w.1, hw, by rw [en]; rfl⟩
      · cases e
theorem fm_none {R : List Tok} (h : KD (cs "family" :: R) ≠ (["word", "word"] : List Str)) : pFm R = none := by
  cases e : pFm R with
  | none => rfl
  | some it =>
    exfalso; apply h
    rw [kdf]
    match R, e with
    | [w], e =>
      simp only [pFm] at e
      split at e
      · rename_i hw
        exact ⟨_, w, rfl, key_w.2.1, hw⟩
      · cases e
theorem cn_none {R : List Tok} (h : (KD (cs "con" :: R)).take 3 ≠ (["word", "word", ":"] : List Str)) : pCn R = none := by
  cases e : pCn R with
  | none => rfl
  | some it =>
    exfalso; apply h
    rw [kdc]
    match R, e with
    | w :: b :: X, e =>
      simp only [pCn] at e
      split at e
      · rename_i hw
        split at e
        · rename_i hb
          subst hb
          exact ⟨_, w, X, rfl, key_w.2.2.1, hw⟩
        · cases e
      · cases e
theorem fn_none {R : List Tok} (h : ¬ ((KD (cs "fun" :: R)).take 5 = (["word", "word", "word", "number", ":"] : List Str) ∧ (cs "fun" :: R)[2]? = some (cs "falls"))) : pFn R = none := by
  cases e : pFn R with
  | none => rfl
  | some it =>
    exfalso; apply h
    rw [kdfn]
    match R, e with
    | w :: b :: n :: c :: X, e =>
      simp only [pFn] at e
      split at e
      · rename_i hw
        split at e
        · rename_i hb
          subst hb
          cases en : numV n with
          | none => rw [en] at e; cases e
          | some k =>
            rw [en] at e
            simp only at e
            split at e
            · rename_i hc
              subst hc
              exact ⟨⟨_, w, _, n, X, rfl, key_w.2.2.2, hw, by decide +kernel, by rw [en]; rfl⟩, rfl⟩
            · cases e
        · cases e
      · cases e
def spJItem : Sp := fun vs H Q _ => ∃ (p : Addr) (U : List Tok), vs = [.ref p] ∧ RowAt H p U ∧ U ≠ [] ∧
  match pI U with
  | none => ∀ H', Same H H' → Q .non H'
  | some it => ∀ v H', ItemAt (fun fp => H fp = none) H' v it → Same H H' → Q v H'
theorem ok_law_item (T : Txt K mg) (G_law_head : FnOk P w K mg base CX0 44 T.a_law_head T.d_law_head ["row", "k", "least"] spJHead) (G_law_parsed : FnOk P w K mg base CX0 42 T.a_law_parsed T.d_law_parsed ["row", "k", "deep"] (spJP 41)) (G_law_kind : FnOk P w K mg base CX0 1 T.a_law_kind T.d_law_kind ["token"] spJKind) : FnOk P w K mg base CX0 45 T.a_law_item T.d_law_item ["row"] spJItem := by
  refine T.F_law_item.ok sc_law_item (fun vs H Q E h => ?_) (fun cdv A outer s H vs Q E hr h => ?_)
  · obtain ⟨p, U, rfl, _⟩ := h; rfl
  · obtain ⟨p, U, rfl, hRow, hne, q⟩ := h
    have hr_law_kind : Room 1 _ := hr.mono (by omega)
    have hr_law_parsed : Room 42 _ := hr.mono (by omega)
    have hr_law_head := hr
    refine ⟨_, (pss_cons (ps_setLc (i := 1) (own := [("token", 5)]) (g := (gName 5)) (tt := tYes) rfl sc_law_item.nd rfl rfl (sw_true rfl rfl rfl (by decide +kernel)) (pi_list (pv 0)) (blkOk_by (own := [("token", 5)]) (N := ["row", "kinds", "left", "body", "head", "token"]) (sc := defScope s_law_item) (by decide +kernel)) (fun _ _ _ _ _ => (pg_name (i := 5) sc_law_item.nd rfl (Or.inl rfl))) (fun _ _ _ _ _ => pts_nil) (fun _ _ _ _ _ => (pe_call G_law_kind hr_law_kind rfl T.m_law_kind T.F_law_kind.kp T.b_law_kind .nil pass0 (pa_cons (pv 5) pa_nil))))
    (pss_cons (ps_if (pt_cmpR op_in_seq pe_str (pv 1) (by rfl)) (pss_one (ps_ret pe_non)) pss_nil)
    (pss_cons (ps_if (pt_cmpR (op_eqD (u64 hr)) (pe_slice sl_list (pv 1) po_none (po_some pe_int)) (pe_lst (pa_cons pe_str (pa_cons pe_str pa_nil))) (nomark _)) (pss_cons (ps_set (i := 2) sc_law_item.nd rfl (Or.inl rfl) (pe_call G_law_parsed hr_law_parsed rfl T.m_law_parsed T.F_law_parsed.kp T.b_law_parsed .nil pass0 (pa_cons (pv 0) (pa_cons pe_int (pa_cons pe_int pa_nil)))))
    (pss_cons (ps_if (PW.pt (pw_or (pt_cmpR op_isN (pv 2) pe_non (nomark _)) (pw_or (pt_cmpR op_ge (pe_ix ix_seq (pv 2) pe_int (fun _ _ => rfl)) (pe_callB call_len_seq (by rfl) T.z_len (by decide +kernel) (pa_cons (pv 0) pa_nil)) (nomark _)) (pw_or1 (pt_cmpR op_ne (pe_ix ix_list (pv 0) (pe_ix ix_seq (pv 2) pe_int (fun _ _ => rfl)) (fun _ _ => rfl)) pe_str (nomark _)))))) (pss_one (ps_ret pe_non)) pss_nil)
    (pss_cons (ps_set (i := 3) sc_law_item.nd rfl (Or.inl rfl) (pe_call G_law_parsed hr_law_parsed rfl T.m_law_parsed T.F_law_parsed.kp T.b_law_parsed .nil pass0 (pa_cons (pv 0) (pa_cons (pe_op op_add (pe_ix ix_seq (pv 2) pe_int (fun _ _ => rfl)) pe_int) (pa_cons pe_int pa_nil)))))
    (pss_cons (ps_if (PW.pt (pw_or (pt_cmpR op_isN (pv 3) pe_non (nomark _)) (pw_or1 (pt_cmpR op_ne (pe_ix ix_seq (pv 3) pe_int (fun _ _ => rfl)) (pe_callB call_len_seq (by rfl) T.z_len (by decide +kernel) (pa_cons (pv 0) pa_nil)) (nomark _))))) (pss_one (ps_ret pe_non)) pss_nil)
    (pss_one (ps_ret (pe_tup (pa_cons pe_str (pa_cons (pe_ix ix_seq (pv 2) pe_int (fun _ _ => rfl)) (pa_cons (pe_ix ix_seq (pv 3) pe_int (fun _ _ => rfl)) pa_nil)))))))))) pss_nil)
    (pss_cons (ps_if (PW.pt (pw_and (pt_cmpR op_eq (pe_ix ix_list (pv 0) pe_int (fun _ _ => rfl)) pe_str (nomark _)) (pw_and1 (pt_cmpR (op_eqD (u64 hr)) (pv 1) (pe_lst (pa_cons pe_str (pa_cons pe_str (pa_cons pe_str pa_nil)))) (nomark _))))) (pss_one (ps_ret (pe_tup (pa_cons pe_str (pa_cons (pe_ix ix_list (pv 0) pe_int (fun _ _ => rfl)) (pa_cons (pe_callTy call_int_str (by rfl) T.z_int (by decide +kernel) (pa_cons (pe_ix ix_list (pv 0) pe_int (fun _ _ => rfl)) pa_nil)) pa_nil)))))) pss_nil)
    (pss_cons (ps_if (PW.pt (pw_and (pt_cmpR op_eq (pe_ix ix_list (pv 0) pe_int (fun _ _ => rfl)) pe_str (nomark _)) (pw_and1 (pt_cmpR (op_eqD (u64 hr)) (pv 1) (pe_lst (pa_cons pe_str (pa_cons pe_str pa_nil))) (nomark _))))) (pss_one (ps_ret (pe_tup (pa_cons pe_str (pa_cons (pe_ix ix_list (pv 0) pe_int (fun _ _ => rfl)) pa_nil))))) pss_nil)
    (pss_cons (ps_if (PW.pt (pw_and (pt_cmpR op_eq (pe_ix ix_list (pv 0) pe_int (fun _ _ => rfl)) pe_str (nomark _)) (pw_and1 (pt_cmpR (op_eqD (u64 hr)) (pe_slice sl_list (pv 1) po_none (po_some pe_int)) (pe_lst (pa_cons pe_str (pa_cons pe_str (pa_cons pe_str pa_nil)))) (nomark _))))) (pss_cons (ps_set (i := 4) sc_law_item.nd rfl (Or.inl rfl) (pe_call G_law_head hr_law_head rfl T.m_law_head T.F_law_head.kp T.b_law_head .nil pass0 (pa_cons (pv 0) (pa_cons pe_int (pa_cons pe_int pa_nil)))))
    (pss_one (ps_ret (pe_ifExp (pt_cmpR op_isN (pv 4) pe_non (nomark _)) pe_non (pe_tup (pa_cons pe_str (pa_cons (pe_ix ix_list (pv 0) pe_int (fun _ _ => rfl)) (pa_cons (pv 4) pa_nil)))))))) pss_nil)
    (pss_cons (ps_if (PW.pt (pw_and (pt_cmpR op_eq (pe_ix ix_list (pv 0) pe_int (fun _ _ => rfl)) pe_str (nomark _)) (pw_and (pt_cmpR (op_eqD (u64 hr)) (pe_slice sl_list (pv 1) po_none (po_some pe_int)) (pe_lst (pa_cons pe_str (pa_cons pe_str (pa_cons pe_str (pa_cons pe_str (pa_cons pe_str pa_nil)))))) (nomark _)) (pw_and1 (pt_cmpR op_eq (pe_ix ix_list (pv 0) pe_int (fun _ _ => rfl)) pe_str (nomark _)))))) (pss_cons (ps_set (i := 4) sc_law_item.nd rfl (Or.inl rfl) (pe_call G_law_head hr_law_head rfl T.m_law_head T.F_law_head.kp T.b_law_head .nil pass0 (pa_cons (pv 0) (pa_cons pe_int (pa_cons pe_int pa_nil)))))
    (pss_one (ps_ret (pe_ifExp (pt_cmpR op_isN (pv 4) pe_non (nomark _)) pe_non (pe_tup (pa_cons pe_str (pa_cons (pe_ix ix_list (pv 0) pe_int (fun _ _ => rfl)) (pa_cons (pe_callTy call_int_str (by rfl) T.z_int (by decide +kernel) (pa_cons (pe_ix ix_list (pv 0) pe_int (fun _ _ => rfl)) pa_nil)) (pa_cons (pv 4) pa_nil))))))))) pss_nil)
    (pss_one (ps_ret pe_non))))))))), ?_⟩
    have ul := hRow.len
    generalize hres : pI U = res at q
    refine ⟨_, rfl, p, rfl, ⟨_, SqL.of hRow.e⟩, fun D hD => ?_⟩
    refine lc_list (K := K) (a := p) (xs := U.map SV) (fun i H4 => Same H H4 ∧ H4 D = some (.lst ((KD (U.take i)).map V.str))) ⟨same_upd hD _, upd_same⟩ (fun i H' _ ⟨s2, _⟩ => SqL.of (hRow.same s2).e) ?_ ?_
    · rintro i x H4 hx ⟨s4, e4⟩
      obtain ⟨t, ht, rfl⟩ : ∃ t, U[i]? = some t ∧ x = SV t := by
        rw [List.getElem?_map] at hx
        cases e : U[i]? with
        | none => rw [e] at hx; cases hx
        | some t => rw [e] at hx; cases hx; exact ⟨t, rfl, rfl⟩
      have hi := (List.getElem?_eq_some_iff.mp ht).1
      refine ⟨rfl, yes_if ?_⟩
      refine ⟨_, rfl, t, rfl, hRow.tk t (List.mem_of_getElem? ht), fun H5 s5 => ?_⟩
      refine ⟨_, s5 _ _ e4, small7k (by rw [List.length_map]; unfold KD; rw [List.length_map, List.length_take]; omega), Kx.Same.own (s4.trans s5) hD _, ?_⟩
      rw [upd_same, List.take_add_one, ht]
      simp [KD]
    rintro H1 ⟨s1, eD⟩
    rw [List.length_map, List.take_length] at eD
    have R1 := hRow.same s1
    have hkl : ((KD U).map V.str).length ≤ 6000 := by simp only [KD, List.length_map]; omega
    have ksok : ∀ z ∈ KD U, sok z = true := fun z hz => by
      obtain ⟨t, ht, rfl⟩ := List.mem_map.mp hz
      exact kd_sok t (hRow.tk t ht).ok
    refine go_nm (nx_of ?_)
    refine ⟨_, rfl, D, _, rfl, .inl (SqL.of eD), rfl, by simp [flatV], _, rfl, ?_⟩
    rw [show (if false = true then !inV (V.str "bad") ((KD U).map V.str) else inV (V.str "bad") ((KD U).map V.str)) = inV (V.str "bad") ((KD U).map V.str) from rfl, inV_str]
    by_cases hbad : ("bad" : Str) ∈ KD U
    · rw [decide_eq_true hbad]
      have hn : res = none := by
        rw [← hres]
        cases e : pI U with
        | none => rfl
        | some it =>
          obtain ⟨t, ht, e2⟩ := List.mem_map.mp hbad
          exact absurd e2 (gd_bad (pI_gd e t ht))
      rw [hn] at q
      exact iteT (q _ s1)
    rw [decide_eq_false hbad]
    refine iteF ⟨_, rfl, _, rfl, D, _, rfl, SqL.of eD, fun p1 hp1 => ⟨(by show 2 ≤ sizeLine; decide), fun p2 hp2 => cmp_cut (b := ["word", "("]) 2 ksok (by decide +kernel) (fun H2 s2 => ?_) p1 hp1 p2 hp2⟩⟩
    have R2 := R1.same s2
    have eD2 := s2 _ _ eD
    have s12 := s1.trans s2
    clear hp1 hp2 R1 eD
    refine ⟨_, rfl, ?_⟩
    by_cases hC : (KD U).take 2 = (["word", "("] : List Str)
    · rw [decide_eq_true hC]
      refine iteT ?_
      obtain ⟨t, R, rfl, hw⟩ := (kd2 U).mp hC
      have hpi : pI (t :: [40] :: R) = pCl (t :: [40] :: R) := by unfold pI; rw [if_pos (show (t :: [40] :: R)[1]? = some [40] from rfl)]
      rw [hpi] at hres
      simp only [pCl, hw, if_true] at hres
      refine ⟨_, rfl, p, _, 0, 0, rfl, R2, Nat.zero_le _, rfl, Nat.zero_le _, ?_⟩
      rw [List.drop_zero, pT_op _ _ _ hw]
      cases ez : pL (pT 40) (R.length + 1) R with
      | none =>
        rw [ez] at hres
        have hn : res = none := hres.symm
        rw [hn] at q
        exact fun H' s' => ⟨_, rfl, rfl, _, rfl, iteT (q H' (s12.trans s'))⟩
      | some pr =>
      obtain ⟨ps, Y⟩ := pr
      rw [ez] at hres
      intro a1 v1 j1 H3 ej1 j1l j1g ea1 iv1 s3
      have R3 := R2.same s3
      refine ⟨_, rfl, rfl, _, rfl, ?_⟩
      rw [show decide (V.ref a1 = V.non) = false from decide_eq_false (by simp)]
      refine iteF ⟨_, rfl, .inr (.inl ⟨a1, _, _, _, rfl, rfl, .inl (.inl ea1), atI_nat (j := 1) rfl, _, rfl, p, _, rfl, .inl (SqL.of R3.e), _, _, rfl, rfl, _, rfl, ?_⟩)⟩
      rw [List.length_map]
      by_cases hjl : j1 < (t :: [40] :: R).length
      case neg =>
        rw [show decide (((t :: [40] :: R).length : Int) ≤ (j1 : Int)) = true from decide_eq_true (by omega)]
        have : Y = [] := by rw [← ej1]; exact List.drop_eq_nil_of_le (by omega)
        subst this
        have hn : res = none := hres.symm
        rw [hn] at q
        exact iteT (q H3 (s12.trans s3))
      rw [show decide (((t :: [40] :: R).length : Int) ≤ (j1 : Int)) = false from decide_eq_false (by omega)]
      obtain ⟨b, hb⟩ : ∃ b, (t :: [40] :: R)[j1]? = some b := ⟨_, List.getElem?_eq_getElem hjl⟩
      obtain ⟨Z, ed⟩ := drop_ex hb
      have eY : Y = b :: Z := by rw [← ej1]; exact ed
      subst eY
      refine iteF ⟨_, rfl, _, rfl, .inr (.inl ⟨a1, _, _, _, rfl, rfl, .inl (.inl ea1), atI_nat (j := 1) rfl, p, _, _, _, rfl, rfl, SqL.of R3.e, R3.at hb, rfl, _, rfl, ?_⟩)⟩
      rw [ne_sv, show cs "=" = [61] from rfl]
      by_cases hE : b = [61]
      case neg =>
        rw [decide_eq_false hE]
        simp only [hE, if_false] at hres
        rw [← hres] at q
        exact iteT (q H3 (s12.trans s3))
      rw [decide_eq_true hE]
      subst hE
      simp only [if_true] at hres
      refine iteF ⟨_, rfl, _, rfl, .inr (.inl ⟨a1, _, _, _, rfl, rfl, .inl (.inl ea1), atI_nat (j := 1) rfl, _, _, rfl, rfl, p, _, j1 + 1, 0, rfl, R3, by omega, rfl, Nat.zero_le _, ?_⟩)⟩
      rw [(get_drop ej1).2.1]
      cases e2 : pT 41 Z with
      | none =>
        rw [e2] at hres
        have hn : res = none := hres.symm
        rw [hn] at q
        exact fun H' s' => ⟨_, rfl, rfl, _, rfl, iteT (q H' ((s12.trans s3).trans s'))⟩
      | some pr2 =>
      obtain ⟨tb, Y2⟩ := pr2
      rw [e2] at hres
      intro a2 v2 j2 H4 ej2 j2l j2g ea2 iv2 s4
      have R4 := R3.same s4
      refine ⟨_, rfl, rfl, _, rfl, ?_⟩
      rw [show decide (V.ref a2 = V.non) = false from decide_eq_false (by simp)]
      refine iteF ⟨_, rfl, .inr (.inl ⟨a2, _, _, _, rfl, rfl, .inl (.inl ea2), atI_nat (j := 1) rfl, _, rfl, p, _, rfl, .inl (SqL.of R4.e), rfl, _, rfl, ?_⟩)⟩
      rw [List.length_map, dec_int]
      by_cases hj2 : j2 = (t :: [40] :: R).length
      case neg =>
        rw [show ((j2 : Int) == ((t :: [40] :: R).length : Int)) = false by rw [beq_eq_false_iff_ne]; omega]
        have hn : res = none := by
          rw [← hres]
          cases Y2 with
          | nil =>
            have := congrArg List.length ej2
            rw [List.length_drop] at this
            simp only [List.length_nil] at this
            omega
          | cons b Y2 => rfl
        rw [hn] at q
        exact iteT (q H4 ((s12.trans s3).trans s4))
      rw [show ((j2 : Int) == ((t :: [40] :: R).length : Int)) = true by rw [beq_iff_eq]; omega]
      have hY2 : Y2 = [] := by rw [← ej2]; exact List.drop_eq_nil_of_le (by omega)
      subst hY2
      have hn : res = some (.l (mkS t) ⟨ps, tb⟩) := hres.symm
      rw [hn] at q
      obtain ⟨ta, us, rfl, eta, iu⟩ := id iv1.tup_inv
      refine iteF ⟨_, rfl, .inr (.inl ⟨a1, _, _, _, rfl, rfl, .inl (.inl (s4 _ _ ea1)), atI_nat (j := 0) rfl, _, rfl, .inr (.inl ⟨a2, _, _, _, rfl, rfl, .inl (.inl ea2), atI_nat (j := 0) rfl, (by show 3 ≤ sizeLine; decide), fun r hr => ?_⟩)⟩)⟩
      have s5 := same_upd hr (.tup [.str "clause", .ref ta, v2])
      exact q (.ref r) _ ⟨r, ta, v2, rfl, upd_same, (iv1.same s4).same s5, iv2.same s5⟩ (((s12.trans s3).trans s4).trans s5)
    rw [decide_eq_false hC]
    refine iteF ?_
    obtain ⟨t, R, rfl⟩ : ∃ t R, U = t :: R := by
      cases U with
      | nil => exact absurd rfl hne
      | cons t R => exact ⟨t, R, rfl⟩
    have hpk := pI_key (t := t) (R := R) fun ⟨u, S, e, h⟩ => hC ((kd2 _).mpr ⟨u, S, e, h⟩)
    rw [hpk] at hres
    have h0 : (t :: R)[0]? = some t := rfl
    have ne_key : ∀ {a b : Str}, a ≠ b → cs a ≠ cs b := fun h e => h (cs_inj e)
    by_cases hmaker : t = cs "maker"
    · subst hmaker
      rw [if_pos rfl] at hres
      refine ⟨_, rfl, p, _, _, _, rfl, rfl, SqL.of R2.e, R2.at h0, rfl, _, rfl, ?_⟩
      rw [sv_lit, decide_eq_true rfl]
      refine iteT ⟨_, rfl, (by show 3 ≤ sizeLine; decide), fun p3 hp3 => cmp_all (b := ["word", "word", "number"]) eD2 ksok (by decide +kernel) (fun H3 s3 => ⟨_, rfl, ?_⟩) p3 hp3⟩
      have R3 := R2.same s3
      have s13 := s12.trans s3
      by_cases hk : KD (cs "maker" :: R) = (["word", "word", "number"] : List Str)
      · rw [decide_eq_true hk]
        obtain ⟨a, b, c, e, ha, hb, hc⟩ := (kdm _).mp hk
        cases e
        cases en : numV c with
        | none => rw [en] at hc; cases hc
        | some k =>
        obtain ⟨rfl, k100⟩ := numV_some en
        obtain ⟨_, f2, _, _, f5⟩ := num_facts k k100
        simp only [pMk, hb, if_true, en] at hres
        have hn : res = some (.m (mkS b, k)) := hres.symm
        rw [hn] at q
        refine iteT ⟨_, rfl, p, _, _, _, rfl, rfl, SqL.of R3.e, R3.at (k := 1) rfl, _, rfl, p, _, _, _, rfl, rfl, SqL.of R3.e, R3.at (k := 2) rfl, mkS (num k), _, rfl, f5, by omega, (by show 3 ≤ sizeLine; decide), fun r hr => ?_⟩
        have s4 := same_upd hr (.tup [.str "maker", SV b, .int k])
        exact q (.ref r) _ ⟨r, rfl, upd_same, isW_sok hb⟩ (s13.trans s4)
      · rw [decide_eq_false hk]
        refine iteF ?_
        refine ⟨_, rfl, p, _, _, _, rfl, rfl, SqL.of R3.e, R3.at h0, rfl, _, rfl, ?_⟩
        rw [sv_lit, decide_eq_false (ne_key (a := "maker") (b := "family") (by decide))]
        refine iteF ?_
        refine ⟨_, rfl, p, _, _, _, rfl, rfl, SqL.of R3.e, R3.at h0, rfl, _, rfl, ?_⟩
        rw [sv_lit, decide_eq_false (ne_key (a := "maker") (b := "con") (by decide))]
        refine iteF ?_
        refine ⟨_, rfl, p, _, _, _, rfl, rfl, SqL.of R3.e, R3.at h0, rfl, _, rfl, ?_⟩
        rw [sv_lit, decide_eq_false (ne_key (a := "maker") (b := "fun") (by decide))]
        refine iteF ?_
        rw [(mk_none hk)] at hres
        rw [← hres] at q
        exact q H3 s13
    by_cases hfamily : t = cs "family"
    · subst hfamily
      rw [if_neg (ne_key (a := "family") (b := "maker") (by decide))] at hres
      refine ⟨_, rfl, p, _, _, _, rfl, rfl, SqL.of R2.e, R2.at h0, rfl, _, rfl, ?_⟩
      rw [sv_lit, decide_eq_false (ne_key (a := "family") (b := "maker") (by decide))]
      refine iteF ?_
      rw [if_pos rfl] at hres
      refine ⟨_, rfl, p, _, _, _, rfl, rfl, SqL.of R2.e, R2.at h0, rfl, _, rfl, ?_⟩
      rw [sv_lit, decide_eq_true rfl]
      refine iteT ⟨_, rfl, (by show 2 ≤ sizeLine; decide), fun p3 hp3 => cmp_all (b := ["word", "word"]) eD2 ksok (by decide +kernel) (fun H3 s3 => ⟨_, rfl, ?_⟩) p3 hp3⟩
      have R3 := R2.same s3
      have s13 := s12.trans s3
      by_cases hk : KD (cs "family" :: R) = (["word", "word"] : List Str)
      · rw [decide_eq_true hk]
        obtain ⟨a, b, e, ha, hb⟩ := (kdf _).mp hk
        cases e
        simp only [pFm, hb, if_true] at hres
        rw [← hres] at q
        refine iteT ⟨_, rfl, p, _, _, _, rfl, rfl, SqL.of R3.e, R3.at (k := 1) rfl, (by show 2 ≤ sizeLine; decide), fun r hr => ?_⟩
        have s4 := same_upd hr (.tup [.str "family", SV b])
        exact q (.ref r) _ ⟨r, rfl, upd_same, isW_sok hb⟩ (s13.trans s4)
      · rw [decide_eq_false hk]
        refine iteF ?_
        refine ⟨_, rfl, p, _, _, _, rfl, rfl, SqL.of R3.e, R3.at h0, rfl, _, rfl, ?_⟩
        rw [sv_lit, decide_eq_false (ne_key (a := "family") (b := "con") (by decide))]
        refine iteF ?_
        refine ⟨_, rfl, p, _, _, _, rfl, rfl, SqL.of R3.e, R3.at h0, rfl, _, rfl, ?_⟩
        rw [sv_lit, decide_eq_false (ne_key (a := "family") (b := "fun") (by decide))]
        refine iteF ?_
        rw [(fm_none hk)] at hres
        rw [← hres] at q
        exact q H3 s13
    by_cases hcon : t = cs "con"
    · subst hcon
      rw [if_neg (ne_key (a := "con") (b := "maker") (by decide))] at hres
      refine ⟨_, rfl, p, _, _, _, rfl, rfl, SqL.of R2.e, R2.at h0, rfl, _, rfl, ?_⟩
      rw [sv_lit, decide_eq_false (ne_key (a := "con") (b := "maker") (by decide))]
      refine iteF ?_
      rw [if_neg (ne_key (a := "con") (b := "family") (by decide))] at hres
      refine ⟨_, rfl, p, _, _, _, rfl, rfl, SqL.of R2.e, R2.at h0, rfl, _, rfl, ?_⟩
      rw [sv_lit, decide_eq_false (ne_key (a := "con") (b := "family") (by decide))]
      refine iteF ?_
      rw [if_pos rfl] at hres
      refine ⟨_, rfl, p, _, _, _, rfl, rfl, SqL.of R2.e, R2.at h0, rfl, _, rfl, ?_⟩
      rw [sv_lit, decide_eq_true rfl]
      refine iteT ⟨_, rfl, _, rfl, D, _, rfl, SqL.of eD2, fun p3 hp3 => ⟨(by show 3 ≤ sizeLine; decide), fun p4 hp4 => cmp_cut (b := ["word", "word", ":"]) 3 ksok (by decide +kernel) (fun H3 s3 => ⟨_, rfl, ?_⟩) p3 hp3 p4 hp4⟩⟩
      have R3 := R2.same s3
      have s13 := s12.trans s3
      by_cases hk : (KD (cs "con" :: R)).take 3 = (["word", "word", ":"] : List Str)
      · rw [decide_eq_true hk]
        obtain ⟨a, b, X, e, ha, hb⟩ := (kdc _).mp hk
        cases e
        simp only [pCn, hb, if_true, pCon_hd] at hres
        refine iteT ⟨_, rfl, p, _, 3, 0, rfl, R3, by simp only [List.length_cons]; omega, Nat.zero_le _, ?_⟩
        rw [show List.drop 3 (cs "con" :: b :: [58] :: X) = X from rfl]
        cases eh : hdP 0 X with
        | none =>
          rw [eh] at hres
          rw [← hres] at q
          exact fun H' s' => ⟨_, rfl, rfl, _, rfl, iteT (q H' (s13.trans s'))⟩
        | some pr =>
          obtain ⟨ks, md⟩ := pr
          rw [eh] at hres
          rw [← hres] at q
          intro a2 fp v vs H4 fn e1 e2 i1 i2 s4
          refine ⟨_, rfl, rfl, _, rfl, ?_⟩
          rw [show decide (V.ref a2 = V.non) = false from decide_eq_false (by simp)]
          have R4 := R3.same s4
          refine iteF ⟨_, rfl, p, _, _, _, rfl, rfl, SqL.of R4.e, R4.at (k := 1) rfl, _, rfl, (by show 3 ≤ sizeLine; decide), fun r hr => ?_⟩
          have s5 := same_upd hr (.tup [.str "con", SV b, .ref a2])
          exact q (.ref r) _ ⟨r, a2, fp, v, vs, rfl, upd_same, isW_sok hb, s5 _ _ e1, s5 _ _ e2, i1.same s5, i2.same s5, s13.free fn⟩ ((s13.trans s4).trans s5)
      · rw [decide_eq_false hk]
        refine iteF ?_
        refine ⟨_, rfl, p, _, _, _, rfl, rfl, SqL.of R3.e, R3.at h0, rfl, _, rfl, ?_⟩
        rw [sv_lit, decide_eq_false (ne_key (a := "con") (b := "fun") (by decide))]
        refine iteF ?_
        rw [(cn_none hk)] at hres
        rw [← hres] at q
        exact q H3 s13
    by_cases hfun : t = cs "fun"
    · subst hfun
      rw [if_neg (ne_key (a := "fun") (b := "maker") (by decide))] at hres
      refine ⟨_, rfl, p, _, _, _, rfl, rfl, SqL.of R2.e, R2.at h0, rfl, _, rfl, ?_⟩
      rw [sv_lit, decide_eq_false (ne_key (a := "fun") (b := "maker") (by decide))]
      refine iteF ?_
      rw [if_neg (ne_key (a := "fun") (b := "family") (by decide))] at hres
      refine ⟨_, rfl, p, _, _, _, rfl, rfl, SqL.of R2.e, R2.at h0, rfl, _, rfl, ?_⟩
      rw [sv_lit, decide_eq_false (ne_key (a := "fun") (b := "family") (by decide))]
      refine iteF ?_
      rw [if_neg (ne_key (a := "fun") (b := "con") (by decide))] at hres
      refine ⟨_, rfl, p, _, _, _, rfl, rfl, SqL.of R2.e, R2.at h0, rfl, _, rfl, ?_⟩
      rw [sv_lit, decide_eq_false (ne_key (a := "fun") (b := "con") (by decide))]
      refine iteF ?_
      rw [if_pos rfl] at hres
      refine ⟨_, rfl, p, _, _, _, rfl, rfl, SqL.of R2.e, R2.at h0, rfl, _, rfl, ?_⟩
      rw [sv_lit, decide_eq_true rfl]
      refine iteT ⟨_, rfl, _, rfl, D, _, rfl, SqL.of eD2, fun p3 hp3 => ⟨(by show 5 ≤ sizeLine; decide), fun p4 hp4 => cmp_cut (b := ["word", "word", "word", "number", ":"]) 5 ksok (by decide +kernel) (fun H3 s3 => ⟨_, rfl, ?_⟩) p3 hp3 p4 hp4⟩⟩
      have R3 := R2.same s3
      have s13 := s12.trans s3
      by_cases hk : (KD (cs "fun" :: R)).take 5 = (["word", "word", "word", "number", ":"] : List Str)
      · rw [decide_eq_true hk]
        obtain ⟨a, b, c, n, X, e, ha, hb, hc, hn⟩ := (kdfn _).mp hk
        cases e
        refine iteT ⟨_, rfl, p, _, _, _, rfl, rfl, SqL.of R3.e, R3.at (k := 2) rfl, rfl, _, rfl, ?_⟩
        rw [sv_lit]
        by_cases hf : c = cs "falls"
        case neg =>
          rw [decide_eq_false hf]
          rw [fn_none (R := b :: c :: n :: [58] :: X) fun h => hf (Option.some.inj (show some c = some (cs "falls") from h.2))] at hres
          rw [← hres] at q
          exact iteF (q H3 s13)
        rw [decide_eq_true hf]
        subst hf
        cases en : numV n with
        | none => rw [en] at hn; cases hn
        | some k =>
        obtain ⟨rfl, k100⟩ := numV_some en
        obtain ⟨_, f2, _, _, f5⟩ := num_facts k k100
        simp only [pFn, hb, if_true, en, pFun_hd] at hres
        refine iteT ⟨_, rfl, p, _, 5, 1, rfl, R3, by simp only [List.length_cons]; omega, Nat.le_refl _, ?_⟩
        rw [show List.drop 5 (cs "fun" :: b :: cs "falls" :: num k :: [58] :: X) = X from rfl]
        cases eh : hdP 1 X with
        | none =>
          rw [eh] at hres
          rw [← hres] at q
          exact fun H' s' => ⟨_, rfl, rfl, _, rfl, iteT (q H' (s13.trans s'))⟩
        | some pr =>
          obtain ⟨ks, md⟩ := pr
          rw [eh] at hres
          rw [← hres] at q
          intro a2 fp v vs H4 fn e1 e2 i1 i2 s4
          refine ⟨_, rfl, rfl, _, rfl, ?_⟩
          rw [show decide (V.ref a2 = V.non) = false from decide_eq_false (by simp)]
          have R4 := R3.same s4
          refine iteF ⟨_, rfl, p, _, _, _, rfl, rfl, SqL.of R4.e, R4.at (k := 1) rfl, _, rfl, p, _, _, _, rfl, rfl, SqL.of R4.e, R4.at (k := 3) rfl, mkS (num k), _, rfl, f5, by omega, _, rfl, (by show 4 ≤ sizeLine; decide), fun r hr => ?_⟩
          have s5 := same_upd hr (.tup [.str "fun", SV b, .int k, .ref a2])
          exact q (.ref r) _ ⟨r, a2, fp, v, vs, rfl, upd_same, isW_sok hb, s5 _ _ e1, s5 _ _ e2, i1.same s5, i2.same s5, s13.free fn⟩ ((s13.trans s4).trans s5)
      · rw [decide_eq_false hk]
        refine iteF ?_
        rw [(fn_none fun h => hk h.1)] at hres
        rw [← hres] at q
        exact q H3 s13
    refine ⟨_, rfl, p, _, _, _, rfl, rfl, SqL.of R2.e, R2.at h0, rfl, _, rfl, ?_⟩
    rw [sv_lit, decide_eq_false hmaker]
    refine iteF ?_
    refine ⟨_, rfl, p, _, _, _, rfl, rfl, SqL.of R2.e, R2.at h0, rfl, _, rfl, ?_⟩
    rw [sv_lit, decide_eq_false hfamily]
    refine iteF ?_
    refine ⟨_, rfl, p, _, _, _, rfl, rfl, SqL.of R2.e, R2.at h0, rfl, _, rfl, ?_⟩
    rw [sv_lit, decide_eq_false hcon]
    refine iteF ?_
    refine ⟨_, rfl, p, _, _, _, rfl, rfl, SqL.of R2.e, R2.at h0, rfl, _, rfl, ?_⟩
    rw [sv_lit, decide_eq_false hfun]
    refine iteF ?_
    rw [if_neg hmaker, if_neg hfamily, if_neg hcon, if_neg hfun] at hres
    rw [← hres] at q
    exact q H2 s12
end
end Kx
namespace Kx
open PySem PySem.Spec PyProof.Rows L2
section
variable {P : Program} {w : World} {K : PySem.W.Frag} {mg : Str → Option Value} {base : Heap}
set_option pp.maxSteps 1200
/-! ### the judge's marks -/
theorem cat_is {K : PySem.W.Frag} {H : Hp} {a b : Addr} {xs ys : List V} {ts us : List PV} {Q : VK} (ea : H a = some (.tup xs)) (eb : H b = some (.tup ys)) (ia : IsL H xs ts) (ib : IsL H ys us) (hx : xs ≠ []) (l : xs.length + ys.length ≤ 13000) (fin : ∀ v H', Is H' v (.tup (ts ++ us)) → Same H H' → Q v H') : rCatT K (.ref a) (.ref b) H Q := by
  refine ⟨a, b, xs, ys, rfl, rfl, .inl (.inl ea), .inl (.inl eb), hx, small7 (by omega), fun e => ?_, fun _ p hp => ?_⟩
  · subst e
    cases ib
    exact fin _ H (.tup ea (by rw [List.append_nil]; exact ia)) (.refl _)
  · have s := same_upd hp (.tup (xs ++ ys))
    exact fin _ _ (.tup upd_same ((ia.append ib).same s)) s
def spJMark (n : Nat) : Sp := fun vs H Q _ => ∃ (v : V) (p : Addr) (t : PV) (ws : List Str), vs = [v, .ref p] ∧ Is H v t ∧ RwT n t ∧ H p = some (.lst (ws.map V.str)) ∧ ∀ v' H', Is H' v' (dcl ws t) → Same H H' → Q v' H'
theorem ok_law_marked {n : Nat}(T : Txt K mg) (G_law_marked : FnOk P w K mg base CX0 (n+1) T.a_law_marked T.d_law_marked ["tree", "words"] (spJMark n)) : FnOk P w K mg base CX0 (n+2) T.a_law_marked T.d_law_marked ["tree", "words"] (spJMark (n+1)) := by
  refine T.F_law_marked.ok sc_law_marked (fun vs H Q E h => ?_) (fun cdv A outer s H vs Q E hr h => ?_)
  · obtain ⟨v, p, t, ws, rfl, _⟩ := h; rfl
  · obtain ⟨v, p, t, ws, rfl, hI, hT, hD, q⟩ := h
    have hr_law_marked := hr
    refine ⟨_, (pss_cons (ps_if (pt_val (pe_callB call_isi (by rfl) T.z_isinstance (by decide +kernel) (pa_cons (pv 0) (pa_cons (pe_bltn rfl T.z_str (by decide +kernel) (show RelV (V.ty "str") (Value.type "str") from rfl)) pa_nil)))) (pss_one (ps_ret (pe_ifExp (pt_cmpR op_in_seq (pv 0) (pv 1) (by rfl)) (pe_tup (pa_cons (pv 0) pa_nil)) (pv 0)))) pss_nil)
    (pss_one (ps_ret (pe_op op_catT (pe_tup (pa_cons (pe_ix ix_seq (pv 0) pe_int (fun _ _ => rfl)) pa_nil)) (pe_callTy call_tuple_of (by rfl) T.z_tuple (by decide +kernel) (pa_cons (pe_lc (own := [("part", 2)]) (g := (gName 2)) (tt := tYes) rfl sc_law_marked.nd (pi_tup (pe_slice sl_tup (pv 0) (po_some pe_int) po_none)) (blkOk_by (own := [("part", 2)]) (N := ["tree", "words", "part"]) (sc := defScope s_law_marked) (by decide +kernel)) (fun _ _ _ _ _ => (pg_name (i := 2) sc_law_marked.nd rfl (Or.inl rfl))) (fun _ _ _ _ _ => pts_nil) (fun _ _ _ _ _ => (pe_call G_law_marked hr_law_marked rfl T.m_law_marked T.F_law_marked.kp T.b_law_marked .nil pass0 (pa_cons (pv 2) (pa_cons (pv 1) pa_nil))))) pa_nil)))))), ?_⟩
    obtain ⟨u, ty, kt⟩ := hI.ty (K := K)
    refine ⟨_, rfl, _, _, u, _, _, rfl, .ty _, ty, kit_str kt, _, rfl, ?_⟩
    rcases hT.cases with ⟨z, rfl⟩ | ⟨w, r, rfl, hl, ht⟩
    · have okz : sok z = true := by cases hI with | str _ k => exact k
      cases hI.str_inv
      refine iteT ⟨_, rfl, _, rfl, p, _, rfl, .inl (SqL.of hD), rfl, by simp [flatV], _, rfl, ?_⟩
      rw [show (if false = true then !inV (V.str z) (ws.map V.str) else inV (V.str z) (ws.map V.str)) = inV (V.str z) (ws.map V.str) from rfl, inV_str]
      by_cases hz : z ∈ ws
      · rw [decide_eq_true hz]
        refine iteT ⟨_, rfl, (by show 1 ≤ sizeLine; decide), fun p1 hp1 => q _ _ ?_ (same_upd hp1 _)⟩
        rw [dcl, if_pos hz]
        exact .tup upd_same (.cons (.str z okz) .nil)
      · rw [decide_eq_false hz]
        refine iteF ⟨_, rfl, q _ H ?_ (.refl _)⟩
        rw [dcl, if_neg hz]
        exact .str z okz
    · obtain ⟨a, vs, rfl, ea, il⟩ := hI.tup_inv
      cases il with
      | cons h0 h1 =>
      have okw : sok w = true := by cases h0 with | str _ k => exact k
      cases h0.str_inv
      rename_i us
      have hlen := h1.len
      refine iteF ⟨_, rfl, .inr (.inl ⟨a, _, _, _, rfl, rfl, .inl (.inl ea), atI_nat (j := 0) rfl, (by show 1 ≤ sizeLine; decide), fun tq htq => ?_⟩)⟩
      have s1 := same_upd htq (.tup [V.str w])
      refine ⟨_, rfl, 1, rfl, a, V.str w :: us, rfl, .inl (.inl (s1 _ _ ea)), slice1, fun pc hpc => ⟨pc, rfl, ⟨_, .inl (.inl upd_same)⟩, fun D0 hD0 => ?_⟩⟩
      have s2 := same_upd hpc (.tup (cutV (V.str w :: us) (some 1) none))
      rw [cut1] at s2 hD0 ⊢
      have s12 := s1.trans s2
      have epc : (upd (upd H tq (.tup [V.str w])) pc (.tup us)) pc = some (.tup us) := upd_same
      have etq := s2 _ _ (show (upd H tq (.tup [V.str w])) tq = some (.tup [V.str w]) from upd_same)
      generalize upd (upd H tq (.tup [V.str w])) pc (.tup us) = H2 at s12 epc etq hD0 ⊢
      refine lc_tup (K := K) (a := pc) (xs := us) (fun i H4 => Same H2 H4 ∧ ∃ vs, H4 D0 = some (.lst vs) ∧ IsL H4 vs ((r.map (dcl ws)).take i)) ?_ ?_ ?_ ?_
      · exact ⟨same_upd hD0 _, [], upd_same, .nil⟩
      · exact fun i H' _ ⟨s, _⟩ => .inl (.inl (s _ _ epc))
      · rintro i x H4 hx ⟨s4, vs, e4, i4⟩
        have hi := (List.getElem?_eq_some_iff.mp hx).1
        obtain ⟨t, ht', it⟩ := h1.get hx
        have s5 := s12.trans s4
        refine ⟨rfl, yes_if ⟨_, rfl, _, rfl, x, p, t, ws, rfl, it.same s5, ht t (List.mem_of_getElem? ht'), s5 _ _ hD, fun v5 H5 i5 s6 => ⟨_, s6 _ _ e4, ?_, Kx.Same.own (s4.trans s6) hD0 _, vs ++ [v5], upd_same, ?_⟩⟩⟩
        · rw [i4.len]; exact small7k (by have : ((r.map (dcl ws)).take i).length ≤ i := List.length_take_le ..; omega)
        · rw [List.take_add_one, List.getElem?_map, ht']
          exact IsL.over (s6 _ _ e4) ((i4.same s6).append (.cons i5 .nil))
      · rintro H4 ⟨s4, vs, e4, i4⟩
        rw [hlen, ← List.length_map (f := dcl ws), List.take_length] at i4
        refine ⟨D0, vs, rfl, .inl ⟨SqL.of e4, fun q2 hq2 => ?_⟩⟩
        have s6 := same_upd hq2 (.tup vs)
        have s56 := (s12.trans s4).trans s6
        refine cat_is (s6 _ _ (s4 _ _ etq)) upd_same (.cons (.str w okw) .nil) (i4.same s6) (by simp) (by rw [List.length_singleton, i4.len, List.length_map]; omega) fun v' H' iv s' => q v' H' ?_ (s56.trans s')
        rw [dcl, dclL_map]
        exact iv
theorem all_marked (T : Txt K mg) : ∀ n, FnOk P w K mg base CX0 (n + 1) T.a_law_marked T.d_law_marked ["tree", "words"] (spJMark n)
  | 0 => no_left fun vs H Q E ⟨_, _, _, _, _, _, h, _⟩ => h
  | n + 1 => ok_law_marked T (all_marked T n)
end
end Kx
namespace Kx
open PySem PySem.Spec PyProof.Rows L2
section
variable {P : Program} {w : World} {K : PySem.W.Frag} {mg : Str → Option Value} {base : Heap}
set_option pp.maxSteps 900
/-! ### items in a row, and what they tell -/
inductive ItsL (B : Addr → Prop) (H : Hp) : List V → List Item → Prop
  | nil : ItsL B H [] []
  | cons {x : V} {it : Item} {xs : List V} {its : List Item} (h : ItemAt B H x it) (w : ItW it) (r : ItsL B H xs its) : ItsL B H (x :: xs) (it :: its)
theorem ItsL.same {B : Addr → Prop} {H H' : Hp} (s : Same H H') : ∀ {xs : List V} {its : List Item}, ItsL B H xs its → ItsL B H' xs its
  | _, _, .nil => .nil
  | _, _, .cons h w r => .cons (h.same s) w (r.same s)
theorem ItsL.len {B : Addr → Prop} {H : Hp} : ∀ {xs : List V} {its : List Item}, ItsL B H xs its → xs.length = its.length
  | _, _, .nil => rfl
  | _, _, .cons _ _ r => by simp [r.len]
theorem ItsL.get {B : Addr → Prop} {H : Hp} : ∀ {xs : List V} {its : List Item}, ItsL B H xs its → ∀ {i : Nat} {x : V}, xs[i]? = some x → ∃ it, its[i]? = some it ∧ ItemAt B H x it ∧ ItW it
  | _, _, .cons h w r, 0, x, e => by cases e; exact ⟨_, rfl, h, w⟩
  | _, _, .cons h w r, i + 1, x, e => by
    rw [List.getElem?_cons_succ] at e
    obtain ⟨it, e1, h1⟩ := r.get e
    exact ⟨it, by rw [List.getElem?_cons_succ]; exact e1, h1⟩
theorem ItsL.snoc {B : Addr → Prop} {H : Hp} {x : V} {it : Item} (h : ItemAt B H x it) (w : ItW it) : ∀ {xs : List V} {its : List Item}, ItsL B H xs its → ItsL B H (xs ++ [x]) (its ++ [it])
  | _, _, .nil => .cons h w .nil
  | _, _, .cons a b r => .cons a b (r.snoc h w)
def Item.tag : Item → Str
  | .m _ => "maker"
  | .f _ => "family"
  | .c _ => "con"
  | .h _ => "fun"
  | .l _ _ => "clause"
def Item.nxt (H : Hp) : Item → V → Prop
  | .m x, v => v = .str x.1
  | .f z, v => v = .str z
  | .c x, v => v = .str x.w
  | .h x, v => v = .str x.w
  | .l w x, v => Is H v (.tup (.str w :: x.ps))
theorem ItemAt.tg {B : Addr → Prop} {H : Hp} {x : V} {it : Item} (h : ItemAt B H x it) : ∃ a y ys, x = .ref a ∧ H a = some (.tup (.str it.tag :: y :: ys)) ∧ it.nxt H y := by
  cases it with
  | m y => obtain ⟨a, e, h1, h2⟩ := h; exact ⟨a, _, _, e, h1, rfl⟩
  | f z => obtain ⟨a, e, h1, h2⟩ := h; exact ⟨a, _, _, e, h1, rfl⟩
  | c y => obtain ⟨a, h, fp, vs, v, e, h1, h2, h3, h4, h5, h6⟩ := h; exact ⟨a, _, _, e, h1, rfl⟩
  | h y => obtain ⟨a, h, fp, vs, v, e, h1, h2, h3, h4, h5, h6⟩ := h; exact ⟨a, _, _, e, h1, rfl⟩
  | l w y => obtain ⟨a, l, v, e, h1, h2, h3⟩ := h; exact ⟨a, _, _, e, h1, h2⟩
def foldI : DS → List Item → Option DS
  | s, [] => some s
  | s, it :: r => match stp s it with
    | some s' => foldI s' r
    | none => none
theorem foldI_app : ∀ (a b : List Item) (s : DS), foldI s (a ++ b) = (foldI s a).bind fun s' => foldI s' b
  | [], b, s => rfl
  | it :: a, b, s => by
    simp only [List.cons_append, foldI]
    cases stp s it with
    | none => rfl
    | some s' => exact foldI_app a b s'
def getM : Item → Option (Str × Nat)
  | .m x => some x
  | _ => none
def getF : Item → Option Str
  | .f z => some z
  | _ => none
def getC : Item → Option Cn
  | .c x => some x
  | _ => none
theorem addCl_ne (s : DS) (w : Str) (x : Cl) (s' : DS) (e : stp s (.l w x) = some s') : s'.ms = s.ms ∧ s'.fm = s.fm ∧ s'.cn = s.cn := by
  simp only [stp] at e
  cases eg : s.fs.getLast? with
  | none => rw [eg] at e; cases e
  | some f0 =>
    rw [eg] at e
    simp only at e
    split at e
    · cases e; exact ⟨rfl, rfl, rfl⟩
    · cases e
theorem foldI_tells : ∀ (its : List Item) (s s' : DS), foldI s its = some s' → s'.ms = s.ms ++ its.filterMap getM ∧ s'.fm = s.fm ++ its.filterMap getF ∧ s'.cn = s.cn ++ its.filterMap getC
  | [], s, s', e => by cases e; simp
  | it :: r, s, s', e => by
    simp only [foldI] at e
    cases es : stp s it with
    | none => rw [es] at e; cases e
    | some s2 =>
      rw [es] at e
      obtain ⟨h1, h2, h3⟩ := foldI_tells r s2 s' e
      cases it with
      | m x => cases es; simp only [List.filterMap_cons, getM, getF, getC, h1, h2, h3, List.append_assoc, List.singleton_append, and_self]
      | f x => cases es; simp only [List.filterMap_cons, getM, getF, getC, h1, h2, h3, List.append_assoc, List.singleton_append, and_self]
      | c x => cases es; simp only [List.filterMap_cons, getM, getF, getC, h1, h2, h3, List.append_assoc, List.singleton_append, and_self]
      | h x => cases es; simp only [List.filterMap_cons, getM, getF, getC, h1, h2, h3, List.append_assoc, List.singleton_append, and_self]
      | l w x =>
        obtain ⟨g1, g2, g3⟩ := addCl_ne s w x s2 es
        simp only [List.filterMap_cons, getM, getF, getC, h1, h2, h3, g1, g2, g3, and_self]
theorem DsN.stp {s s' : DS} {it : Item} {n : Nat} (h : DsN s n) (w : ItW it) (e : stp s it = some s') : DsN s' (n + 1) := by
  obtain ⟨h1, h2, h3, h4, h5⟩ := h
  have h5' : ∀ f ∈ s.fs, f.cls.length ≤ n + 1 := fun f hf => by have := h5 f hf; omega
  cases it with
  | m x => cases e; exact ⟨by simp; omega, by simp; omega, by simp; omega, by simp; omega, h5'⟩
  | f z => cases e; exact ⟨by simp; omega, by simp; omega, by simp; omega, by simp; omega, h5'⟩
  | c x => cases e; exact ⟨by simp; omega, by simp; omega, by simp; omega, by simp; omega, h5'⟩
  | h x =>
    cases e
    refine ⟨by simp; omega, by simp; omega, by simp; omega, by simp; omega, fun f hf => ?_⟩
    rcases List.mem_append.mp hf with hf | hf
    · exact h5' f hf
    · rw [List.mem_singleton.mp hf, w.2.2]; simp
  | l w x =>
    simp only [Kx.stp] at e
    cases eg : s.fs.getLast? with
    | none => rw [eg] at e; cases e
    | some f0 =>
      rw [eg] at e
      obtain ⟨fs0, hf0⟩ := List.getLast?_eq_some_iff.mp eg
      simp only at e
      split at e
      · cases e
        refine ⟨by simp; omega, by simp; omega, by simp; omega, ?_, fun f hf => ?_⟩
        · show (addCl s.fs x).length ≤ n + 1
          rw [hf0, addCl_snoc]
          rw [hf0] at h4
          simp only [List.length_append, List.length_singleton] at h4 ⊢
          omega
        · have hf : f ∈ addCl s.fs x := hf
          rw [hf0, addCl_snoc] at hf
          rcases List.mem_append.mp hf with hf | hf
          · exact h5' f (by rw [hf0]; exact List.mem_append_left _ hf)
          · rw [List.mem_singleton.mp hf]
            have := h5 f0 (by rw [hf0]; simp)
            simp only [List.length_append, List.length_singleton]
            omega
      · cases e
/-! #### what the judge has made so far -/
inductive JfL (mw cw : List Str) (H : Hp) : List Addr → List Addr → List Fn → Prop
  | nil : JfL mw cw H [] [] []
  | cons {p q : Addr} {kv ix : V} {us : List V} {ps qs : List Addr} {f : Fn} {fs : List Fn} (e : H p = some (.lst [.str f.w, kv, .str f.md.fam, ix, .int f.falls, .ref q])) (o1 : sok f.w = true) (o2 : sok f.md.fam = true) (ik : Is H kv (.tup (f.ps.map (kdD mw)))) (ii : Is H ix (dcl mw f.md.tm))
    (eq : H q = some (.lst us)) (il : IsL H us (f.cls.map (clD cw))) (r : JfL mw cw H ps qs fs) : JfL mw cw H (p :: ps) (q :: qs) (f :: fs)
section
variable {mw cw : List Str} {H H' : Hp}
theorem JfL.keep (t : Tk H H') : ∀ {ps qs : List Addr} {fs : List Fn}, JfL mw cw H ps qs fs → (∀ b, b ∈ ps ∨ b ∈ qs → ∀ u, H b = some u → H' b = some u) → JfL mw cw H' ps qs fs
  | _, _, _, .nil, _ => .nil
  | _, _, _, .cons e o1 o2 ik ii eq il r, k => .cons (k _ (.inl (List.mem_cons_self ..)) _ e) o1 o2 (ik.tk t) (ii.tk t) (k _ (.inr (List.mem_cons_self ..)) _ eq) (il.tk t) (r.keep t fun q hq => k q (hq.imp (List.mem_cons_of_mem _) (List.mem_cons_of_mem _)))
theorem JfL.lst : ∀ {ps qs : List Addr} {fs : List Fn}, JfL mw cw H ps qs fs → ∀ b, b ∈ ps ∨ b ∈ qs → ∃ us, H b = some (.lst us)
  | _, _, _, .nil, b, h => by rcases h with h | h <;> cases h
  | _, _, _, .cons e _ _ _ _ eq _ r, b, h => by
    rcases h with h | h
    · rcases List.mem_cons.mp h with rfl | h
      · exact ⟨_, e⟩
      · exact r.lst b (.inl h)
    · rcases List.mem_cons.mp h with rfl | h
      · exact ⟨_, eq⟩
      · exact r.lst b (.inr h)
theorem JfL.len : ∀ {ps qs : List Addr} {fs : List Fn}, JfL mw cw H ps qs fs → ps.length = fs.length ∧ qs.length = fs.length
  | _, _, _, .nil => ⟨rfl, rfl⟩
  | _, _, _, .cons _ _ _ _ _ _ _ r => by simp [r.len]
theorem JfL.get : ∀ {ps qs : List Addr} {fs : List Fn}, JfL mw cw H ps qs fs → ∀ {i : Nat} {p : Addr}, ps[i]? = some p → ∃ f q kv ix us, fs[i]? = some f ∧ H p = some (.lst [.str f.w, kv, .str f.md.fam, ix, .int f.falls, .ref q]) ∧ sok f.w = true ∧ sok f.md.fam = true ∧ Is H kv (.tup (f.ps.map (kdD mw))) ∧ Is H ix (dcl mw f.md.tm) ∧ H q = some (.lst us) ∧ IsL H us (f.cls.map (clD cw))
  | _, _, _, .cons e o1 o2 ik ii eq il r, 0, p, h => by cases h; exact ⟨_, _, _, _, _, rfl, e, o1, o2, ik, ii, eq, il⟩
  | _, _, _, .cons _ _ _ _ _ _ _ r, i + 1, p, h => by
    rw [List.getElem?_cons_succ] at h
    obtain ⟨f, q, kv, ix, us, h1, h2⟩ := r.get h
    exact ⟨f, q, kv, ix, us, by rw [List.getElem?_cons_succ]; exact h1, h2⟩
theorem JfL.snoc {p q : Addr} {kv ix : V} {us : List V} {f : Fn} (e : H p = some (.lst [.str f.w, kv, .str f.md.fam, ix, .int f.falls, .ref q])) (o1 : sok f.w = true) (o2 : sok f.md.fam = true) (ik : Is H kv (.tup (f.ps.map (kdD mw)))) (ii : Is H ix (dcl mw f.md.tm))
    (eq : H q = some (.lst us)) (il : IsL H us (f.cls.map (clD cw))) : ∀ {ps qs : List Addr} {fs : List Fn}, JfL mw cw H ps qs fs → JfL mw cw H (ps ++ [p]) (qs ++ [q]) (fs ++ [f])
  | _, _, _, .nil => .cons e o1 o2 ik ii eq il .nil
  | _, _, _, .cons a b c d e2 f2 g r => .cons a b c d e2 f2 g (r.snoc e o1 o2 ik ii eq il)
theorem JfL.last {f : Fn} : ∀ {fs : List Fn} {ps qs : List Addr}, JfL mw cw H ps qs (fs ++ [f]) → ∃ ps' qs' p q kv ix us, ps = ps' ++ [p] ∧ qs = qs' ++ [q] ∧ JfL mw cw H ps' qs' fs ∧ H p = some (.lst [.str f.w, kv, .str f.md.fam, ix, .int f.falls, .ref q]) ∧ sok f.w = true ∧ sok f.md.fam = true ∧ Is H kv (.tup (f.ps.map (kdD mw))) ∧ Is H ix (dcl mw f.md.tm) ∧ H q = some (.lst us) ∧ IsL H us (f.cls.map (clD cw))
  | [], _, _, .cons e o1 o2 ik ii eq il .nil => ⟨[], [], _, _, _, _, _, rfl, rfl, .nil, e, o1, o2, ik, ii, eq, il⟩
  | g :: fs, _, _, .cons a b c d e2 f2 i r => by
    obtain ⟨ps', qs', p, q, kv, ix, us, rfl, rfl, h, t⟩ := JfL.last r
    exact ⟨_ :: ps', _ :: qs', p, q, kv, ix, us, rfl, rfl, .cons a b c d e2 f2 i h, t⟩
structure JAt (mw cw : List Str) (C F : Addr) (ps qs : List Addr) (s : DS) (H : Hp) : Prop where
  nd : (C :: F :: (ps ++ qs)).Nodup
  cn : ∃ vs, H C = some (.lst vs) ∧ IsL H vs (s.cn.map (cnD mw))
  ef : H F = some (.lst (ps.map V.ref))
  fn : JfL mw cw H ps qs s.fs
variable {C F : Addr} {ps qs : List Addr} {s : DS}
theorem JAt.lst (J : JAt mw cw C F ps qs s H) : ∀ b ∈ C :: F :: (ps ++ qs), ∃ us, H b = some (.lst us) := fun b hb => by
  simp only [List.mem_cons, List.mem_append] at hb
  rcases hb with rfl | rfl | hb
  · obtain ⟨vs, e, _⟩ := J.cn; exact ⟨_, e⟩
  · exact ⟨_, J.ef⟩
  · exact J.fn.lst b hb
theorem JAt.fresh (J : JAt mw cw C F ps qs s H) {p : Addr} (h : H p = none) : p ∉ C :: F :: (ps ++ qs) := fun hp => by
  obtain ⟨us, e⟩ := J.lst p hp
  rw [h] at e; cases e
theorem JAt.keep (J : JAt mw cw C F ps qs s H) (t : Tk H H') (k : ∀ b ∈ C :: F :: (ps ++ qs), ∀ u, H b = some u → H' b = some u) : JAt mw cw C F ps qs s H' := by
  obtain ⟨vs, e, i⟩ := J.cn
  exact ⟨J.nd, ⟨vs, k _ (by simp) _ e, i.tk t⟩, k _ (by simp) _ J.ef, J.fn.keep t fun b hb u => k b (by simpa using .inr (.inr hb)) u⟩
theorem JAt.same (J : JAt mw cw C F ps qs s H) (x : Same H H') : JAt mw cw C F ps qs s H' := J.keep (.of x) fun b _ u => x b u
theorem JAt.addC (J : JAt mw cw C F ps qs s H) {vs : List V} {v : V} {c : Cn} (e : H C = some (.lst vs)) (i : Is H v (cnD mw c)) : JAt mw cw C F ps qs { s with cn := s.cn ++ [c] } (upd H C (.lst (vs ++ [v]))) := by
  have t := wr_tk (ys := vs ++ [v]) e
  obtain ⟨vc, ec, ic⟩ := J.cn
  rw [ec] at e
  cases e
  have nd := J.nd
  simp only [List.nodup_cons, List.mem_cons, not_or] at nd
  obtain ⟨⟨n1, n2⟩, n3⟩ := nd
  refine ⟨J.nd, ⟨_, upd_same, ?_⟩, by rw [upd_ne (Ne.symm n1)]; exact J.ef, J.fn.keep t fun b hb u h => by rw [upd_ne (ne_mem n2 (List.mem_append.mpr hb))]; exact h⟩
  rw [List.map_append]
  exact (ic.tk t).append (.cons (i.tk t) .nil)
theorem JAt.addG (J : JAt mw cw C F ps qs s H) {p q : Addr} {kv ix : V} {f : Fn} (ep : H p = some (.lst [.str f.w, kv, .str f.md.fam, ix, .int f.falls, .ref q])) (o1 : sok f.w = true) (o2 : sok f.md.fam = true) (ik : Is H kv (.tup (f.ps.map (kdD mw)))) (ii : Is H ix (dcl mw f.md.tm))
    (eq : H q = some (.lst [])) (hc : f.cls = []) (np : p ∉ C :: F :: (ps ++ qs)) (nq : q ∉ C :: F :: (ps ++ qs)) (npq : p ≠ q) : JAt mw cw C F (ps ++ [p]) (qs ++ [q]) { s with fs := s.fs ++ [f] } (upd H F (.lst (ps.map V.ref ++ [.ref p]))) := by
  have t := wr_tk (ys := ps.map V.ref ++ [.ref p]) J.ef
  obtain ⟨vc, ec, ic⟩ := J.cn
  have nd := J.nd
  simp only [List.nodup_cons, List.mem_cons, List.mem_append, not_or] at nd np nq
  obtain ⟨⟨n1, n2, n3⟩, ⟨m1, m2⟩, k⟩ := nd
  obtain ⟨p1, p2, p3, p4⟩ := np
  obtain ⟨q1, q2, q3, q4⟩ := nq
  obtain ⟨k1, k2, k3⟩ := List.nodup_append.mp k
  refine ⟨?_, ⟨_, by rw [upd_ne n1]; exact ec, ic.tk t⟩, by rw [upd_same, List.map_append]; rfl, ?_⟩
  · simp only [List.nodup_cons, List.mem_cons, List.mem_append, List.not_mem_nil, or_false, not_or]
    refine ⟨⟨n1, ⟨n2, Ne.symm p1⟩, n3, Ne.symm q1⟩, ⟨⟨m1, Ne.symm p2⟩, m2, Ne.symm q2⟩, List.nodup_append.mpr ⟨List.nodup_append.mpr ⟨k1, by simp, fun x hx y hy => ?_⟩, List.nodup_append.mpr ⟨k2, by simp, fun x hx y hy => ?_⟩, fun x hx y hy => ?_⟩⟩
    · rw [List.mem_singleton.mp hy]; exact fun z => p3 (z ▸ hx)
    · rw [List.mem_singleton.mp hy]; exact fun z => q4 (z ▸ hx)
    · rcases List.mem_append.mp hx with hx | hx <;> rcases List.mem_append.mp hy with hy | hy
      · exact k3 x hx y hy
      · rw [List.mem_singleton.mp hy]; exact fun z => q3 (z ▸ hx)
      · rw [List.mem_singleton.mp hx]; exact fun z => p4 (z ▸ hy)
      · rw [List.mem_singleton.mp hx, List.mem_singleton.mp hy]; exact npq
  · refine JfL.snoc (by rw [upd_ne p2]; exact ep) o1 o2 (ik.tk t) (ii.tk t) (us := []) (by rw [upd_ne q2]; exact eq) (by rw [hc]; exact .nil) (J.fn.keep t fun b hb u h => ?_)
    rw [upd_ne (fun z => by
      subst z
      rcases hb with hb | hb
      · exact m1 hb
      · exact m2 hb)]
    exact h
theorem JAt.addL (J : JAt mw cw C F ps qs s H) {fs : List Fn} {f : Fn} {c : Cl} {q : Addr} {qs' : List Addr} {us : List V} {v : V} (hs : s.fs = fs ++ [f]) (hq : qs = qs' ++ [q]) (e : H q = some (.lst us)) (i : Is H v (clD cw c)) : JAt mw cw C F ps qs { s with fs := fs ++ [{ f with cls := f.cls ++ [c] }] } (upd H q (.lst (us ++ [v]))) := by
  have t := wr_tk (ys := us ++ [v]) e
  obtain ⟨vc, ec, ic⟩ := J.cn
  have ig := J.fn
  rw [hs] at ig
  obtain ⟨ps', qs2, p, q', kv, ix, us', hp2, hq2, ih, ep, o1, o2, ik, ii, eq, il⟩ := ig.last
  subst hp2
  rw [hq] at hq2
  obtain ⟨rfl, h2⟩ := List.append_inj' hq2 rfl
  cases h2
  rw [eq] at e
  cases e
  have nd := J.nd
  subst hq
  simp only [List.nodup_cons, List.mem_cons, List.mem_append, List.not_mem_nil, or_false, not_or] at nd
  obtain ⟨⟨n1, ⟨n2, n3⟩, n4, n5⟩, ⟨⟨m1, m2⟩, m3, m4⟩, k⟩ := nd
  obtain ⟨k1, k2, k3⟩ := List.nodup_append.mp k
  have j1 := (List.nodup_append.mp k2).2.2
  refine ⟨J.nd, ⟨_, by rw [upd_ne n5]; exact ec, ic.tk t⟩, by rw [upd_ne m4]; exact J.ef, ?_⟩
  have ih' := ih.keep t fun b hb u h => by
    rw [upd_ne (fun z => by
      subst z
      rcases hb with hb | hb
      · exact k3 b (by simp [hb]) b (by simp) rfl
      · exact j1 b hb b (by simp) rfl)]
    exact h
  refine JfL.snoc (f := { f with cls := f.cls ++ [c] }) (by rw [upd_ne (k3 p (by simp) q (by simp))]; exact ep) o1 o2 (ik.tk t) (ii.tk t) upd_same ?_ ih'
  rw [List.map_append]
  exact (il.tk t).append (.cons (i.tk t) .nil)
end
end
end Kx
namespace Kx
open PySem PySem.Spec PyProof.Rows L2
section
variable {P : Program} {w : World} {K : PySem.W.Frag} {mg : Str → Option Value} {base : Heap}
set_option pp.maxSteps 1500
/-! ### rules inside a comprehension -/
def rTupOf (K : PySem.W.Frag) : List V → Hp → VK → Prop := fun xs H Q => ∃ p ys, xs = [V.ref p] ∧ ((SqL K H p ys ∧ ∀ (l : Addr), H l = none → Q (V.ref l) (upd H l (HO.tup ys))) ∨ SqT K H p ys ∧ Q (V.ref p) H)
theorem tupOfK {X : Cx} {K : PySem.W.Frag} (h : X.K = K := by rfl) : CallR X (.type "tuple") (rTupOf K) := by
  subst h
  exact call_tuple_of
theorem catTK {X : Cx} {K : PySem.W.Frag} (h : X.K = K := by rfl) : OpR X (binaryOp .Add) (rCatT K) := by
  subst h
  exact op_catT
theorem slTK {X : Cx} {K : PySem.W.Frag} (h : X.K = K := by rfl) : SlR X (rSlT K) := by
  subst h
  exact sl_tup
theorem slLK {X : Cx} {K : PySem.W.Frag} (h : X.K = K := by rfl) : SlR X (rSlL K) := by
  subst h
  exact sl_list
theorem isl_strs {H : Hp} : ∀ {zs : List Str} {vs : List V}, IsL H vs (zs.map PV.str) → vs = zs.map V.str
  | [], _, .nil => rfl
  | z :: zs, _, .cons h r => by cases h; rw [isl_strs r]; rfl
/-- a list of what is made of the items of one kind -/
theorem vl_tag {K : PySem.W.Frag} {σ : L2.St} {H0 : Hp} {te : TE} {p : Addr} {xs : List V} {its : List Item} {z : Str} {g : Item → Option PV} {B : Addr → Prop} (e0 : σ[0]? = some (some (.ref p))) (hk : ∀ x, ((σ.set 1 none).set 1 (some x))[1]? = some (some x)) (ep : H0 p = some (.lst xs)) (hI : ItsL B H0 xs its) (hl : its.length ≤ 6000) (hg : ∀ it, g it = none ↔ it.tag ≠ z)
    (hs : ∀ x it y H', ItemAt B H' x it → g it = some y → VxE ((σ.set 1 none).set 1 (some x)) H' te y) :
    VlE σ H0 (tLc (iList K (tVar 0)) (gName 1) (tTest (tOp rEq (tOp (rIxT K) (tVar 1) (tC (V.int 0))) (tC (V.str z)))) te [1]) (its.filterMap g) := fun H Q s q => by
  refine ⟨_, e0, p, rfl, ⟨xs, SqL.of (s _ _ ep)⟩, fun D hD => ?_⟩
  refine lc_list (K := K) (a := p) (xs := xs) (fun i H4 => Same H H4 ∧ ∃ vs, H4 D = some (.lst vs) ∧ IsL H4 vs ((its.take i).filterMap g)) ?_ ?_ ?_ ?_
  · exact ⟨same_upd hD _, [], upd_same, .nil⟩
  · exact fun i H' _ ⟨s2, _⟩ => SqL.of (s2 _ _ (s _ _ ep))
  · rintro i x H4 hx ⟨s4, vs, e4, i4⟩
    obtain ⟨it, hit, ia, iw⟩ := hI.get hx
    have hi := (List.getElem?_eq_some_iff.mp hit).1
    have ia4 := ia.same (s.trans s4)
    obtain ⟨a, y, ys, rfl, ea, _⟩ := ia4.tg
    refine ⟨by show ((σ.set 1 none).set 1 (some (V.ref a))).set 1 none = σ.set 1 none; simp only [List.set_set], ?_⟩
    refine ⟨_, hk _, a, _, _, _, rfl, rfl, .inl (.inl ea), atI_nat (j := 0) rfl, rfl, _, rfl, ?_⟩
    have hlen : vs.length ≤ i := by
      rw [i4.len]
      exact Nat.le_trans (List.length_filterMap_le ..) (List.length_take_le ..)
    have etk : its.take (i + 1) = its.take i ++ [it] := by rw [List.take_add_one, hit]; rfl
    cases eg : g it with
    | none =>
      have hne := (hg it).mp eg
      rw [show decide (V.str it.tag = V.str z) = false from decide_eq_false fun e => hne (V.str.inj e)]
      refine iteF ⟨s4, vs, e4, ?_⟩
      rw [etk, List.filterMap_append]
      simpa [eg] using i4
    | some y =>
      have he : it.tag = z := by
        by_cases h : it.tag = z
        · exact h
        · rw [(hg it).mpr h] at eg; cases eg
      rw [show decide (V.str it.tag = V.str z) = true from decide_eq_true (by rw [he])]
      refine iteT ?_
      refine hs _ it y H4 ia4 eg H4 _ (.refl _) fun v H5 iv s5 => ⟨_, s5 _ _ e4, small7k (by omega), Kx.Same.own (s4.trans s5) hD _, vs ++ [v], upd_same, ?_⟩
      rw [etk, List.filterMap_append]
      refine IsL.over (s5 _ _ e4) ((i4.same s5).append ?_)
      simpa [eg] using IsL.cons iv .nil
  · rintro H4 ⟨s4, vs, e4, i4⟩
    rw [hI.len, List.take_length] at i4
    exact q D vs H4 hD e4 i4 s4
theorem go_asg_vl {σ : L2.St} {H : Hp} {te : TE} {ts : List PV} {i : Nat} {rest : TS} {D : Ends} (h : VlE σ H te ts) (q : ∀ D1 vs H1, H D1 = none → H1 D1 = some (.lst vs) → IsL H1 vs ts → Same H H1 → rest D (σ.set i (some (.ref D1))) H1) : tSeq (tAsg te (gName i)) rest D σ H := go_vl h fun D1 vs H1 n e i1 s => q D1 vs H1 n e i1 s
theorem vx_tupOf {K : PySem.W.Frag} {σ : L2.St} {H0 : Hp} {te : TE} {ts : List PV} (h : VlE σ H0 te ts) : VxE σ H0 (tCB (rTupOf K) (tCons te tNil)) (.tup ts) := fun H Q s q => h H _ s fun D vs H1 _ e i s1 => ⟨D, vs, rfl, .inl ⟨SqL.of e, fun l hl => q _ _ (.tup upd_same (i.same (same_upd hl _))) (s1.trans (same_upd hl _))⟩⟩
def LsE (σ : L2.St) (H0 : Hp) (tl : TE) (xs : List V) : Prop := ∀ (H : Hp) (Q : VK), Same H0 H → (∀ a H1, Same H H1 → H1 a = some (.lst xs) → Q (.ref a) H1) → tl σ H Q
theorem vl_lcL {K : PySem.W.Frag} {σ : L2.St} {H0 : Hp} {tl te : TE} {xs : List V} {L : List PV} {k : Nat} (ht : LsE σ H0 tl xs) (hl : L.length = xs.length) (hb : xs.length ≤ 6000)
    (hs : ∀ (i : Nat) (x : V) (y : PV) (H' : Hp), xs[i]? = some x → L[i]? = some y → Same H0 H' → VxE ((σ.set k none).set k (some x)) H' te y) :
    VlE σ H0 (tLc (iList K tl) (gName k) tYes te [k]) L := fun H Q s q => by
  refine ht H _ s fun a H1 s1 ha => ⟨a, rfl, ⟨xs, SqL.of ha⟩, fun D hD => ?_⟩
  refine lc_list (K := K) (a := a) (xs := xs) (fun i H4 => Same H1 H4 ∧ ∃ vs, H4 D = some (.lst vs) ∧ IsL H4 vs (L.take i)) ?_ ?_ ?_ ?_
  · exact ⟨same_upd hD _, [], upd_same, .nil⟩
  · exact fun i H' _ ⟨s, _⟩ => SqL.of (s _ _ ha)
  · rintro i x H4 hx ⟨s4, vs, e4, i4⟩
    have hi := (List.getElem?_eq_some_iff.mp hx).1
    have hy : L[i]? = some (L[i]'(by omega)) := List.getElem?_eq_getElem _
    refine ⟨by show ((σ.set k none).set k (some x)).set k none = σ.set k none; simp only [List.set_set], yes_if ?_⟩
    refine hs i x _ H4 hx hy ((s.trans s1).trans s4) H4 _ (.refl _) fun v H5 iv s5 => ⟨_, s5 _ _ e4, ?_, Kx.Same.own (s4.trans s5) hD _, vs ++ [v], upd_same, ?_⟩
    · rw [i4.len]; exact small7k (by have : (L.take i).length ≤ i := List.length_take_le ..; omega)
    · rw [List.take_add_one, hy]
      exact IsL.over (s5 _ _ e4) ((i4.same s5).append (.cons iv .nil))
  · rintro H4 ⟨s4, vs, e4, i4⟩
    rw [← hl, List.take_length] at i4
    exact q D vs H4 (s1.free hD) e4 i4 (s1.trans s4)
theorem vx_ixT {K : PySem.W.Frag} {σ : L2.St} {H0 : Hp} {i : Nat} {j : Int} {a : Addr} {ws : List V} {v : V} {t : PV} (e : σ[i]? = some (some (.ref a))) (h : H0 a = some (.tup ws)) (g : atI ws j = some v) (iv : Is H0 v t) : VxE σ H0 (tOp (rIxT K) (tVar i) (tC (.int j))) t := fun H Q s q =>
  ⟨_, e, a, _, _, _, rfl, rfl, .inl (.inl (s _ _ h)), g, q v H (iv.same s) (.refl _)⟩
/-! ### the judge's pair -/
def gMk : Item → Option PV
  | .m x => some (.str x.1)
  | _ => none
def gCk : Item → Option PV
  | .c x => some (.str x.w)
  | _ => none
theorem gmk_map (its : List Item) : its.filterMap gMk = ((its.filterMap getM).map (·.1)).map PV.str := by
  induction its with
  | nil => rfl
  | cons it r ih => cases it <;> simp_all [gMk, getM, List.filterMap_cons]
theorem gck_map (its : List Item) : its.filterMap gCk = ((its.filterMap getC).map (·.w)).map PV.str := by
  induction its with
  | nil => rfl
  | cons it r ih => cases it <;> simp_all [gCk, getC, List.filterMap_cons]
theorem gm_map (its : List Item) : its.filterMap (fun it => (getM it).map mkP) = (s0.ms ++ its.filterMap getM).map mkP := by
  show _ = (its.filterMap getM).map mkP
  rw [List.map_filterMap]
theorem gf_map (its : List Item) : its.filterMap (fun it => (getF it).map PV.str) = (s0.fm ++ its.filterMap getF).map PV.str := by
  show _ = (its.filterMap getF).map PV.str
  rw [List.map_filterMap]
theorem vl_tagE {σ : L2.St} {H0 : Hp} {te : TE} {a b : List PV} (h : VlE σ H0 te a) (e : a = b) : VlE σ H0 te b := e ▸ h
def Item.hd : Item → Option (List Kd × Kd)
  | .c y => some (y.ps, y.md)
  | .h y => some (y.ps, y.md)
  | _ => none
theorem ItemAt.hd {B : Addr → Prop} {H : Hp} {a : Addr} {it : Item} {ks : List Kd} {md : Kd} (h : ItemAt B H (.ref a) it) (w : ItW it) (e : it.hd = some (ks, md)) : ∃ ws g fp vs v, H a = some (.tup ws) ∧ atI ws (-1) = some (.ref g) ∧ H g = some (.tup [.ref fp, v]) ∧ H fp = some (.lst vs) ∧ IsL H vs (ks.map kdP) ∧ Is H v (kdP md) ∧ KdsW ks ∧ RwT 41 md.tm := by
  cases it with
  | c y =>
    cases e
    obtain ⟨a, h, fp, vs, v, e, h1, h2, h3, h4, h5, h6, _⟩ := h
    cases e
    exact ⟨_, h, fp, vs, v, h1, rfl, h3, h4, h5, h6, w.1, w.2⟩
  | h y =>
    cases e
    obtain ⟨a, h, fp, vs, v, e, h1, h2, h3, h4, h5, h6, _⟩ := h
    cases e
    exact ⟨_, h, fp, vs, v, h1, rfl, h3, h4, h5, h6, w.1, w.2.1⟩
  | _ => cases e
theorem hd_tag (it : Item) : inV (.str it.tag) [V.str "con", V.str "fun"] = it.hd.isSome := by
  cases it <;> (simp only [Item.tag, Item.hd, Option.isSome_some, Option.isSome_none]; decide)
def spJPair : Sp := fun vs H Q _ => ∃ (B : Addr → Prop) (p : Addr) (xs : List V) (its : List Item) (s : DS), vs = [.ref p] ∧ H p = some (.lst xs) ∧ ItsL B H xs its ∧ its.length ≤ 6000 ∧ foldI s0 its = some s ∧ ∀ v H', Is H' v (.tup [tabD s, prgD s]) → Same H H' → Q v H'
theorem ok_law_pair (T : Txt K mg) (G_law_marked : FnOk P w K mg base CX0 42 T.a_law_marked T.d_law_marked ["tree", "words"] (spJMark 41)) : FnOk P w K mg base CX0 43 T.a_law_pair T.d_law_pair ["items"] spJPair := by
  refine T.F_law_pair.ok sc_law_pair (fun vs H Q E h => ?_) (fun cdv A outer s H vs Q E hr h => ?_)
  · obtain ⟨B, p, xs, its, s, rfl, _⟩ := h; rfl
  · obtain ⟨B, p, xs, its, s, rfl, ep, hI, l6, hF, q⟩ := h
    have hr_law_marked := hr
    refine ⟨_, (pss_cons (ps_set (i := 2) sc_law_pair.nd rfl (Or.inr rfl) (pe_lc (own := [("item", 1)]) (g := (gName 1)) rfl sc_law_pair.nd (pi_list (pv 0)) (blkOk_by (own := [("item", 1)]) (N := ["items", "item", "makers", "words", "constructors", "functions", "parts", "made", "patterns", "table", "pair", "part", "head"]) (sc := defScope s_law_pair) (by decide +kernel)) (fun _ _ _ _ _ => (pg_name (i := 1) sc_law_pair.nd rfl (Or.inl rfl))) (fun _ _ _ _ _ => pts_one (pt_cmpR op_eq (pe_ix (ixTK (K := K)) (pv 1) pe_int (fun _ _ => rfl)) pe_str (nomark _))) (fun _ _ _ _ _ => (pe_ix (ixTK (K := K)) (pv 1) pe_int (fun _ _ => rfl)))))
    (pss_cons (ps_set (i := 3) sc_law_pair.nd rfl (Or.inr rfl) (pe_lc (own := [("item", 1)]) (g := (gName 1)) rfl sc_law_pair.nd (pi_list (pv 0)) (blkOk_by (own := [("item", 1)]) (N := ["items", "item", "makers", "words", "constructors", "functions", "parts", "made", "patterns", "table", "pair", "part", "head"]) (sc := defScope s_law_pair) (by decide +kernel)) (fun _ _ _ _ _ => (pg_name (i := 1) sc_law_pair.nd rfl (Or.inl rfl))) (fun _ _ _ _ _ => pts_one (pt_cmpR op_eq (pe_ix (ixTK (K := K)) (pv 1) pe_int (fun _ _ => rfl)) pe_str (nomark _))) (fun _ _ _ _ _ => (pe_ix (ixTK (K := K)) (pv 1) pe_int (fun _ _ => rfl)))))
    (pss_cons (ps_set (i := 4) sc_law_pair.nd rfl (Or.inl rfl) (pe_lst pa_nil))
    (pss_cons (ps_set (i := 5) sc_law_pair.nd rfl (Or.inl rfl) (pe_lst pa_nil))
    (pss_cons (ps_for PassesOwn.never rfl (pi_list (pv 0)) (pg_name (i := 1) sc_law_pair.nd rfl (Or.inl rfl))
    (pss_cons (ps_if (pt_cmpR op_in_seq (pe_ix ix_tup (pv 1) pe_int (fun _ _ => rfl)) (pe_lst (pa_cons pe_str (pa_cons pe_str pa_nil))) (by rfl)) (pss_cons (ps_set (i := 6) sc_law_pair.nd rfl (Or.inl rfl) (pe_callTy call_tuple_of (by rfl) T.z_tuple (by decide +kernel) (pa_cons (pe_lc (own := [("pair", 10)]) (g := (gName 10)) (tt := tYes) rfl sc_law_pair.nd (pi_list (pe_ix ix_seq (pe_ix ix_tup (pv 1) (pe_un un_neg pe_int) (fun _ _ => rfl)) pe_int (fun _ _ => rfl))) (blkOk_by (own := [("pair", 10)]) (N := ["items", "item", "makers", "words", "constructors", "functions", "parts", "made", "patterns", "table", "pair", "part", "head"]) (sc := defScope s_law_pair) (by decide +kernel)) (fun _ _ _ _ _ => (pg_name (i := 10) sc_law_pair.nd rfl (Or.inl rfl))) (fun _ _ _ _ _ => pts_nil) (fun _ _ _ _ _ => (pe_tup (pa_cons (pe_ix (ixTK (K := K)) (pv 10) pe_int (fun _ _ => rfl)) (pa_cons (pe_call G_law_marked hr_law_marked rfl T.m_law_marked T.F_law_marked.kp T.b_law_marked .nil pass0 (pa_cons (pe_ix (ixTK (K := K)) (pv 10) pe_int (fun _ _ => rfl)) (pa_cons (pv 2) pa_nil))) pa_nil))))) pa_nil)))
    (pss_cons (ps_set (i := 7) sc_law_pair.nd rfl (Or.inl rfl) (pe_tup (pa_cons (pe_ix ix_seq (pe_ix ix_seq (pe_ix ix_tup (pv 1) (pe_un un_neg pe_int) (fun _ _ => rfl)) pe_int (fun _ _ => rfl)) pe_int (fun _ _ => rfl)) (pa_cons (pe_call G_law_marked hr_law_marked rfl T.m_law_marked T.F_law_marked.kp T.b_law_marked .nil pass0 (pa_cons (pe_ix ix_seq (pe_ix ix_seq (pe_ix ix_tup (pv 1) (pe_un un_neg pe_int) (fun _ _ => rfl)) pe_int (fun _ _ => rfl)) pe_int (fun _ _ => rfl)) (pa_cons (pv 2) pa_nil))) pa_nil))))
    (pss_one (ps_if (pt_cmpR op_eq (pe_ix ix_tup (pv 1) pe_int (fun _ _ => rfl)) pe_str (nomark _)) (pss_one (ps_expr (pe_bm PySem.F.plainAttrs_list PySem.F.slot_list_append PySem.F.type_list_append mt_append (pv 4) (pa_cons (pe_op op_catT (pe_tup (pa_cons (pe_ix ix_tup (pv 1) pe_int (fun _ _ => rfl)) (pa_cons (pv 6) pa_nil))) (pv 7)) pa_nil)))) (pss_one (ps_expr (pe_bm PySem.F.plainAttrs_list PySem.F.slot_list_append PySem.F.type_list_append mt_append (pv 5) (pa_cons (pe_lst (pa_cons (pe_ix ix_tup (pv 1) pe_int (fun _ _ => rfl)) (pa_cons (pv 6) (pa_cons (pe_ix ix_tup (pv 7) pe_int (fun _ _ => rfl)) (pa_cons (pe_ix ix_tup (pv 7) pe_int (fun _ _ => rfl)) (pa_cons (pe_ix ix_tup (pv 1) pe_int (fun _ _ => rfl)) (pa_cons (pe_lst pa_nil) pa_nil))))))) pa_nil)))))))) pss_nil)
    (pss_one (ps_if (pt_cmpR op_eq (pe_ix ix_tup (pv 1) pe_int (fun _ _ => rfl)) pe_str (nomark _)) (pss_cons (ps_set (i := 8) sc_law_pair.nd rfl (Or.inl rfl) (pe_callTy call_tuple_of (by rfl) T.z_tuple (by decide +kernel) (pa_cons (pe_lc (own := [("part", 11)]) (g := (gName 11)) (tt := tYes) rfl sc_law_pair.nd (pi_tup (pe_slice sl_tup (pe_ix ix_tup (pv 1) pe_int (fun _ _ => rfl)) (po_some pe_int) po_none)) (blkOk_by (own := [("part", 11)]) (N := ["items", "item", "makers", "words", "constructors", "functions", "parts", "made", "patterns", "table", "pair", "part", "head"]) (sc := defScope s_law_pair) (by decide +kernel)) (fun _ _ _ _ _ => (pg_name (i := 11) sc_law_pair.nd rfl (Or.inl rfl))) (fun _ _ _ _ _ => pts_nil) (fun _ _ _ _ _ => (pe_call G_law_marked hr_law_marked rfl T.m_law_marked T.F_law_marked.kp T.b_law_marked .nil pass0 (pa_cons (pv 11) (pa_cons (pv 3) pa_nil))))) pa_nil)))
    (pss_one (ps_expr (pe_bm PySem.F.plainAttrs_list PySem.F.slot_list_append PySem.F.type_list_append mt_append (pe_ix ix_list (pe_ix ix_list (pv 5) (pe_un un_neg pe_int) (fun _ _ => rfl)) pe_int (fun _ _ => rfl)) (pa_cons (pe_tup (pa_cons (pv 8) (pa_cons (pe_call G_law_marked hr_law_marked rfl T.m_law_marked T.F_law_marked.kp T.b_law_marked .nil pass0 (pa_cons (pe_ix ix_tup (pv 1) pe_int (fun _ _ => rfl)) (pa_cons (pv 3) pa_nil))) pa_nil))) pa_nil))))) pss_nil))))
    (pss_cons (ps_set (i := 9) sc_law_pair.nd rfl (Or.inl rfl) (pe_tup (pa_cons pe_str (pa_cons (pe_callTy call_tuple_of (by rfl) T.z_tuple (by decide +kernel) (pa_cons (pe_lc (own := [("item", 1)]) (g := (gName 1)) rfl sc_law_pair.nd (pi_list (pv 0)) (blkOk_by (own := [("item", 1)]) (N := ["items", "item", "makers", "words", "constructors", "functions", "parts", "made", "patterns", "table", "pair", "part", "head"]) (sc := defScope s_law_pair) (by decide +kernel)) (fun _ _ _ _ _ => (pg_name (i := 1) sc_law_pair.nd rfl (Or.inl rfl))) (fun _ _ _ _ _ => pts_one (pt_cmpR op_eq (pe_ix (ixTK (K := K)) (pv 1) pe_int (fun _ _ => rfl)) pe_str (nomark _))) (fun _ _ _ _ _ => (pe_slice (slTK (K := K)) (pv 1) (po_some pe_int) po_none))) pa_nil)) (pa_cons (pe_callTy call_tuple_of (by rfl) T.z_tuple (by decide +kernel) (pa_cons (pe_lc (own := [("item", 1)]) (g := (gName 1)) rfl sc_law_pair.nd (pi_list (pv 0)) (blkOk_by (own := [("item", 1)]) (N := ["items", "item", "makers", "words", "constructors", "functions", "parts", "made", "patterns", "table", "pair", "part", "head"]) (sc := defScope s_law_pair) (by decide +kernel)) (fun _ _ _ _ _ => (pg_name (i := 1) sc_law_pair.nd rfl (Or.inl rfl))) (fun _ _ _ _ _ => pts_one (pt_cmpR op_eq (pe_ix (ixTK (K := K)) (pv 1) pe_int (fun _ _ => rfl)) pe_str (nomark _))) (fun _ _ _ _ _ => (pe_ix (ixTK (K := K)) (pv 1) pe_int (fun _ _ => rfl)))) pa_nil)) (pa_cons (pe_callTy call_tuple_of (by rfl) T.z_tuple (by decide +kernel) (pa_cons (pv 4) pa_nil)) pa_nil))))))
    (pss_one (ps_ret (pe_tup (pa_cons (pv 9) (pa_cons (pe_tup (pa_cons pe_str (pa_cons (pe_callTy call_tuple_of (by rfl) T.z_tuple (by decide +kernel) (pa_cons (pe_lc (own := [("head", 12)]) (g := (gName 12)) (tt := tYes) rfl sc_law_pair.nd (pi_list (pv 5)) (blkOk_by (own := [("head", 12)]) (N := ["items", "item", "makers", "words", "constructors", "functions", "parts", "made", "patterns", "table", "pair", "part", "head"]) (sc := defScope s_law_pair) (by decide +kernel)) (fun _ _ _ _ _ => (pg_name (i := 12) sc_law_pair.nd rfl (Or.inl rfl))) (fun _ _ _ _ _ => pts_nil) (fun _ _ _ _ _ => (pe_op (catTK (K := K)) (pe_callTy (tupOfK (K := K)) (by rfl) T.z_tuple (by decide +kernel) (pa_cons (pe_slice (slLK (K := K)) (pv 12) po_none (po_some pe_int)) pa_nil)) (pe_tup (pa_cons (pe_callTy (tupOfK (K := K)) (by rfl) T.z_tuple (by decide +kernel) (pa_cons (pe_ix (ixLK (K := K)) (pv 12) pe_int (fun _ _ => rfl)) pa_nil)) pa_nil))))) pa_nil)) pa_nil))) pa_nil))))))))))), ?_⟩
    have hxl := hI.len
    obtain ⟨tm, tf, tc⟩ := foldI_tells its s0 s hF
    refine go_asg_vl (vl_tag (g := gMk) (p := p) rfl (fun _ => rfl) ep hI l6 (by intro it; cases it <;> simp [gMk, Item.tag] <;> decide) (fun x it y H' ia eg => ?_)) fun M vs1 H1 hM e1 i1 s1 => ?_
    · intro H2 Q2 s2 q2
      cases it with
      | m z =>
        cases eg
        obtain ⟨a, rfl, ea, ok⟩ := ia
        exact ⟨_, rfl, a, _, _, _, rfl, rfl, .inl (.inl (s2 _ _ ea)), atI_nat (j := 1) rfl, q2 _ H2 (.str _ ok) (.refl _)⟩
      | _ => cases eg
    rw [gmk_map] at i1
    obtain rfl := isl_strs i1
    rw [show (its.filterMap getM).map (·.1) = s.mw by rw [DS.mw, tm]; rfl] at e1
    clear i1
    refine go_asg_vl (vl_tag (g := gCk) (p := p) rfl (fun _ => rfl) (s1 _ _ ep) (hI.same s1) l6 (by intro it; cases it <;> simp [gCk, Item.tag] <;> decide) (fun x it y H' ia eg => ?_)) fun W vs2 H2 hW e2 i2 s2 => ?_
    · intro H2 Q2 s2 q2
      cases it with
      | c z =>
        cases eg
        obtain ⟨a, h, fp, vs, v, rfl, ea, ok, _⟩ := ia
        exact ⟨_, rfl, a, _, _, _, rfl, rfl, .inl (.inl (s2 _ _ ea)), atI_nat (j := 1) rfl, q2 _ H2 (.str _ ok) (.refl _)⟩
      | _ => cases eg
    rw [gck_map] at i2
    obtain rfl := isl_strs i2
    rw [show (its.filterMap getC).map (·.w) = s.cw by rw [DS.cw, tc]; rfl] at e2
    clear i2
    refine ⟨by decide, fun C hC => ⟨by decide, fun F hF0 => ?_⟩⟩
    refine go_nm (nx_of ?_)
    have s3 := same_upd hC (.lst [])
    have hF2 : H2 F = none := s3.free hF0
    have s23 := s3.trans (same_upd hF0 (.lst []))
    have nCF : C ≠ F := fun z => by rw [z, upd_same] at hF0; cases hF0
    have eC : (upd (upd H2 C (.lst [])) F (.lst [])) C = some (.lst []) := by rw [upd_ne nCF]; exact upd_same
    have eF : (upd (upd H2 C (.lst [])) F (.lst [])) F = some (.lst []) := upd_same
    generalize upd (upd H2 C (.lst [])) F (.lst []) = H3 at s23 eC eF ⊢
    clear hF0 s3
    have s02 := s1.trans s2
    have ep2 := s02 _ _ ep
    have hI2 := hI.same s02
    have e12 := s2 _ _ e1
    refine ⟨_, rfl, p, rfl, ⟨_, SqL.of (s23 _ _ ep2)⟩, ?_⟩
    refine for_list (K := K) (a := p) (xs := xs) (fun i σ H' => ∃ (y1 y6 y7 y8 : Option V) (ps qs : List Addr) (si : DS), σ = [some (.ref p), y1, some (.ref M), some (.ref W), some (.ref C), some (.ref F), y6, y7, y8, none, none, none, none] ∧ Same H2 H' ∧ (∀ b ∈ C :: F :: (ps ++ qs), H2 b = none) ∧ JAt s.mw s.cw C F ps qs si H' ∧ foldI si (its.drop i) = some s ∧ DsN si i) ?_ ?_ ?_ ?_
    · refine ⟨_, _, _, _, [], [], s0, rfl, s23, ?_, ⟨?_, ⟨[], eC, .nil⟩, eF, .nil⟩, hF, by simp [DsN, s0]⟩
      · intro b hb
        simp only [List.append_nil, List.mem_cons, List.not_mem_nil, or_false] at hb
        rcases hb with rfl | rfl
        · exact hC
        · exact hF2
      · simp [nCF]
    · exact fun i σ H' _ ⟨_, _, _, _, _, _, _, _, s4, _⟩ => SqL.of (s4 _ _ ep2)
    · have hd0 : decide (V.str "fun" = V.str "con") = false := by decide
      rintro i x σ H4 hx ⟨y1, y6, y7, y8, ps, qs, si, rfl, s4, hfr, J, hfo, hN⟩
      obtain ⟨it, hit, ia, iw⟩ := hI2.get hx
      have hi := (List.getElem?_eq_some_iff.mp hit).1
      have i6 : i < 6000 := by omega
      have ia4 := ia.same s4
      have edr : its.drop i = it :: its.drop (i + 1) := by
        rw [List.drop_eq_getElem_cons hi]
        rw [List.getElem?_eq_getElem hi] at hit
        rw [Option.some.inj hit]
      rw [edr] at hfo
      simp only [foldI] at hfo
      cases hst : stp si it with
      | none => rw [hst] at hfo; cases hfo
      | some sj =>
      rw [hst] at hfo
      simp only at hfo
      have hN' := hN.stp iw hst
      obtain ⟨a0, y0, ys0, rfl, ea0, nx0⟩ := ia4.tg
      refine go_nm ?_
      refine ⟨_, rfl, a0, _, _, _, rfl, rfl, .inl (.inl ea0), atI_nat (j := 0) rfl, (by show 2 ≤ sizeLine; decide), fun pl hpl => ⟨pl, [V.str "con", V.str "fun"], rfl, .inl (SqL.of upd_same), rfl, rfl, _, rfl, ?_⟩⟩
      rw [show (if false = true then !inV (V.str it.tag) [V.str "con", V.str "fun"] else inV (V.str it.tag) [V.str "con", V.str "fun"]) = inV (V.str it.tag) [V.str "con", V.str "fun"] from rfl, hd_tag]
      have s5 := same_upd hpl (.lst [V.str "con", V.str "fun"])
      generalize upd H4 pl (.lst [V.str "con", V.str "fun"]) = H5 at s5 ⊢
      have s25 := s4.trans s5
      have J5 := J.same s5
      have ia5 := ia4.same s5
      have ea5 := s5 _ _ ea0
      cases hh : it.hd with
      | none =>
        refine iteF ?_
        refine ⟨_, rfl, a0, _, _, _, rfl, rfl, .inl (.inl ea5), atI_nat (j := 0) rfl, rfl, _, rfl, ?_⟩
        cases it with
        | c y => cases hh
        | h y => cases hh
        | m y =>
          cases hst
          refine iteF ⟨_, _, _, _, ps, qs, { si with ms := si.ms ++ [y] }, rfl, s25, hfr, ⟨J5.nd, J5.cn, J5.ef, J5.fn⟩, hfo, hN'⟩
        | f y =>
          cases hst
          refine iteF ⟨_, _, _, _, ps, qs, { si with fm := si.fm ++ [y] }, rfl, s25, hfr, ⟨J5.nd, J5.cn, J5.ef, J5.fn⟩, hfo, hN'⟩
        | l w y =>
          refine iteT ?_
          obtain ⟨a', l', v', ea', eb', il', iv'⟩ := id ia5
          cases ea'
          obtain ⟨pl2, us2, e2', el2, iu2⟩ := il'.tup_inv
          cases e2'
          cases iu2 with
          | cons hw0 ius =>
          cases hw0.str_inv
          rename_i us
          have hul := ius.len
          refine go_vx (vx_tupOf (vl_lcT (K := K) (L := y.ps.map (dcl s.cw)) (k := 11) (xs := us) ?_ (by rw [List.length_map, hul]) (by rw [hul]; exact iw.1) fun j x z H' hx hz s' => ?_)) fun v1 H6 iv1 s6 => go_nm ?_
          · intro H7 Q7 s7 q7
            refine ⟨_, rfl, a0, _, _, _, rfl, rfl, .inl (.inl (s7 _ _ eb')), atI_nat (j := 1) rfl, 1, rfl, l', V.str w :: us, rfl, .inl (.inl (s7 _ _ el2)), slice1, fun pc hpc => ?_⟩
            rw [cut1]
            exact q7 pc _ (same_upd hpc _) (.inl (.inl upd_same))
          · obtain ⟨t, ht', it'⟩ := ius.get hx
            rw [List.getElem?_map, ht'] at hz
            cases hz
            intro H7 Q7 s7 q7
            exact ⟨_, rfl, _, rfl, x, W, t, s.cw, rfl, (it'.same s').same s7, iw.2.1 t (List.mem_of_getElem? ht'), ((s25.trans s').trans s7) _ _ e2, q7⟩
          have J6 := J5.same s6
          have s26 := s25.trans s6
          have eb6 := s6 _ _ eb'
          simp only [stp] at hst
          cases egl : si.fs.getLast? with
          | none => rw [egl] at hst; cases hst
          | some f0 =>
          rw [egl] at hst
          simp only at hst
          by_cases hfw : f0.w = w
          case neg => rw [if_neg hfw] at hst; cases hst
          rw [if_pos hfw] at hst
          cases hst
          obtain ⟨fs0, hf0⟩ := List.getLast?_eq_some_iff.mp egl
          have ig := J6.fn
          rw [hf0] at ig
          obtain ⟨ps', qs', p8, q8, kv, ix, us8, hps, hqs, ih, ep8, o1, o2, ik, ii, eq8, il8⟩ := ig.last
          refine ⟨_, rfl, _, rfl, F, _, _, _, rfl, rfl, SqL.of J6.ef, (by rw [hps, List.map_append]; exact atI_end), p8, _, _, _, rfl, rfl, SqL.of ep8, atI_nat (j := 5) rfl, .inl ⟨rfl, _, SqL.of eq8⟩, _, rfl, _, rfl, a0, _, _, _, rfl, rfl, .inl (.inl eb6), atI_nat (j := 2) rfl, _, rfl, v', W, y.b, s.cw, rfl, iv'.same s6, iw.2.2, s26 _ _ e2, fun v9 H9 iv9 s9 => ⟨(by show 2 ≤ sizeLine; decide), fun r hr => ?_⟩⟩
          have s10 := same_upd hr (.tup [v1, v9])
          have s69 := s9.trans s10
          have eqN := s69 _ _ eq8
          refine ⟨q8, _, _, rfl, rfl, eqN, small7k (by rw [il8.len, List.length_map]; have := hN.2.2.2.2 f0 (by rw [hf0]; simp); omega), ?_⟩
          have Jn := (J6.same s69).addL (c := y) (v := .ref r) hf0 hqs eqN (.tup upd_same (.cons ((iv1.same s9).same s10) (.cons (iv9.same s10) .nil)))
          have hq2 := hfr q8 (by rw [hqs]; simp)
          have sN := Kx.Same.own (s26.trans s69) hq2 (.lst (us8 ++ [.ref r]))
          have eA : addCl si.fs y = fs0 ++ [{ f0 with cls := f0.cls ++ [y] }] := by rw [hf0, addCl_snoc]
          refine ⟨_, _, _, _, ps, qs, _, rfl, sN, hfr, ?_, hfo, hN'⟩
          rw [eA]
          exact Jn
      | some pr =>
        obtain ⟨ks, md⟩ := pr
        obtain ⟨ws, g, fp, vs, v, ew, ewm, eg, efp, ivs, iv, kw, mw⟩ := ia5.hd iw hh
        refine iteT ?_
        refine go_vx (vx_tupOf (vl_lcL (K := K) (L := ks.map (kdD s.mw)) (k := 10) (xs := vs) ?_ (by rw [List.length_map, ivs.len, List.length_map]) (by rw [ivs.len, List.length_map]; exact kw.1) fun j x z H' hx hz s' => ?_)) fun v1 H6 iv1 s6 => go_nm ?_
        · intro H7 Q7 s7 q7
          exact ⟨_, rfl, _, rfl, a0, _, _, _, rfl, rfl, .inl (.inl (s7 _ _ ew)), ewm, .inr (.inl ⟨g, _, _, _, rfl, rfl, .inl (.inl (s7 _ _ eg)), atI_nat (j := 0) rfl, q7 fp H7 (.refl _) (s7 _ _ efp)⟩)⟩
        · obtain ⟨t, ht', it'⟩ := ivs.get hx
          obtain ⟨k, hk, rfl⟩ := map_at ht'
          rw [List.getElem?_map, hk] at hz
          cases hz
          obtain ⟨p1, us, rfl, ep1, iu⟩ := (it'.same s').tup_inv
          obtain ⟨u0, u1, rfl, i0, i1⟩ := two_inv iu
          have ok0 : sok k.fam = true := by cases i0 with | str _ k => exact k
          cases i0.str_inv
          refine vx_tup (vs_cons (vx_ixT rfl ep1 (atI_nat (j := 0) rfl) (.str _ ok0)) (vs_cons (t := dcl s.mw k.tm) (fun H7 Q7 s7 q7 => ?_) vs_nil)) (by simp)
          exact ⟨_, rfl, p1, _, _, _, rfl, rfl, .inl (.inl (s7 _ _ ep1)), atI_nat (j := 1) rfl, _, rfl, u1, M, k.tm, s.mw, rfl, i1.same s7, kw.2 k (List.mem_of_getElem? hk), ((s25.trans s').trans s7) _ _ e12, q7⟩
        obtain ⟨pm, us, rfl, epm, iu⟩ := iv.tup_inv
        obtain ⟨u0, u1, rfl, i0, i1⟩ := two_inv iu
        have okm : sok md.fam = true := by cases i0 with | str _ k => exact k
        cases i0.str_inv
        have s26 := s25.trans s6
        refine go_vx (vx_tup (ts := [.str md.fam, dcl s.mw md.tm]) (vs_cons (fun H7 Q7 s7 q7 => ?_) (vs_cons (fun H7 Q7 s7 q7 => ?_) vs_nil)) (by simp)) fun v2 H7 iv2 s7 => go_nm ?_
        · have s67 := s6.trans s7
          exact ⟨_, rfl, _, rfl, a0, _, _, _, rfl, rfl, .inl (.inl (s67 _ _ ew)), ewm, .inr (.inl ⟨g, _, _, _, rfl, rfl, .inl (.inl (s67 _ _ eg)), atI_nat (j := 1) rfl, .inr (.inl ⟨pm, _, _, _, rfl, rfl, .inl (.inl (s67 _ _ epm)), atI_nat (j := 0) rfl, q7 _ H7 (.str _ okm) (.refl _)⟩)⟩)⟩
        · have s67 := s6.trans s7
          exact ⟨_, rfl, _, rfl, a0, _, _, _, rfl, rfl, .inl (.inl (s67 _ _ ew)), ewm, .inr (.inl ⟨g, _, _, _, rfl, rfl, .inl (.inl (s67 _ _ eg)), atI_nat (j := 1) rfl, .inr (.inl ⟨pm, _, _, _, rfl, rfl, .inl (.inl (s67 _ _ epm)), atI_nat (j := 1) rfl, _, rfl, u1, M, md.tm, s.mw, rfl, i1.same s67, mw, (s26.trans s7) _ _ e12, q7⟩)⟩)⟩
        have s57 := s6.trans s7
        have s27 := s26.trans s7
        have J7 := J5.same s57
        have ia7 := ia5.same s57
        have ea7 := s57 _ _ ea5
        have iv17 := iv1.same s7
        refine ⟨_, rfl, a0, _, _, _, rfl, rfl, .inl (.inl ea7), atI_nat (j := 0) rfl, rfl, _, rfl, ?_⟩
        cases it with
        | c y =>
          cases hst
          cases hh
          rw [show decide (V.str (Item.c y).tag = V.str "con") = true from rfl]
          refine iteT ?_
          obtain ⟨a', h', fp', vs', v', ea', eb', okw, _⟩ := ia7
          cases ea'
          obtain ⟨am, us2, rfl, eam, iu2⟩ := iv2.tup_inv
          obtain ⟨vc, ec, ic⟩ := J7.cn
          refine ⟨_, rfl, .inl ⟨rfl, _, SqL.of ec⟩, _, rfl, a0, _, _, _, rfl, rfl, .inl (.inl eb'), atI_nat (j := 1) rfl, _, rfl, (by show 2 ≤ sizeLine; decide), fun r hr => ⟨_, rfl, ?_⟩⟩
          have s8 := same_upd hr (.tup [.str y.w, v1])
          have hu2 := iu2.len
          refine cat_is (ts := [.str y.w, .tup (y.ps.map (kdD s.mw))]) upd_same (s8 _ _ eam) (.cons (.str _ okw) (.cons (iv17.same s8) .nil)) (iu2.same s8) (by simp) (by rw [hu2]; simp) fun v8 H8 iv8 s9 => ?_
          have s79 := s8.trans s9
          have ec8 := s79 _ _ ec
          refine ⟨C, _, _, rfl, rfl, ec8, small7k (by rw [ic.len, List.length_map]; have := hN.2.2.1; omega), ?_⟩
          have hC2 := hfr C (by simp)
          have Jn := (J7.same s79).addC ec8 (c := y) iv8
          have sN := Kx.Same.own (s27.trans s79) hC2 (.lst (vc ++ [v8]))
          have eaN : (upd H8 C (.lst (vc ++ [v8]))) a0 = some (.tup [.str "con", .str y.w, .ref h']) := by
            rw [upd_ne (fun z => by rw [z, ec] at eb'; cases eb')]; exact s79 _ _ eb'
          generalize upd H8 C (.lst (vc ++ [v8])) = H9 at Jn sN eaN ⊢
          refine ⟨_, rfl, a0, _, _, _, rfl, rfl, .inl (.inl eaN), atI_nat (j := 0) rfl, rfl, _, rfl, ?_⟩
          exact iteF ⟨_, _, _, _, ps, qs, _, rfl, sN, hfr, Jn, hfo, hN'⟩
        | h y =>
          cases hst
          cases hh
          rw [show decide (V.str (Item.h y).tag = V.str "con") = false from hd0]
          refine iteF ?_
          obtain ⟨a', h', fp', vs', v', ea', eb', okw, _⟩ := ia7
          cases ea'
          obtain ⟨am, us2, rfl, eam, iu2⟩ := iv2.tup_inv
          obtain ⟨u3, u4, rfl, i3, i4⟩ := two_inv iu2
          cases i3.str_inv
          refine ⟨_, rfl, .inl ⟨rfl, _, SqL.of J7.ef⟩, _, rfl, a0, _, _, _, rfl, rfl, .inl (.inl eb'), atI_nat (j := 1) rfl, _, rfl, _, rfl, am, _, _, _, rfl, rfl, .inl (.inl eam), atI_nat (j := 0) rfl, _, rfl, am, _, _, _, rfl, rfl, .inl (.inl eam), atI_nat (j := 1) rfl, _, rfl, a0, _, _, _, rfl, rfl, .inl (.inl eb'), atI_nat (j := 2) rfl, (by decide), fun q8 hq8 => ⟨(by show 6 ≤ sizeLine; decide), fun p8 hp8 => ?_⟩⟩
          have t8 := same_upd hq8 (.lst [])
          have t9 := same_upd hp8 (.lst [.str y.w, v1, .str y.md.fam, u4, .int y.falls, .ref q8])
          have s79 := t8.trans t9
          have npq : p8 ≠ q8 := fun z => by rw [z, upd_same] at hp8; cases hp8
          have hp7 : H7 p8 = none := t8.free hp8
          have eq8 := t9 _ _ (show (upd H7 q8 (.lst [])) q8 = some (.lst []) from upd_same)
          have ep8 : (upd (upd H7 q8 (.lst [])) p8 (.lst [.str y.w, v1, .str y.md.fam, u4, .int y.falls, .ref q8])) p8 = some (.lst [.str y.w, v1, .str y.md.fam, u4, .int y.falls, .ref q8]) := upd_same
          have J8 := J7.same s79
          have s28 := s27.trans s79
          generalize upd (upd H7 q8 (.lst [])) p8 (.lst [.str y.w, v1, .str y.md.fam, u4, .int y.falls, .ref q8]) = H8 at t9 s79 eq8 ep8 J8 s28 ⊢
          have Jn := J8.addG (f := y) ep8 okw okm (iv17.same s79) (i4.same s79) eq8 iw.2.2 (J7.fresh hp7) (J7.fresh hq8) npq
          refine ⟨F, _, _, rfl, rfl, J8.ef, small7k (by rw [List.length_map, J8.fn.len.1]; have := hN.2.2.2.1; omega), ?_⟩
          have hF2' := hfr F (by simp)
          have sN := Kx.Same.own s28 hF2' (.lst (ps.map V.ref ++ [.ref p8]))
          have eaN : (upd H8 F (.lst (ps.map V.ref ++ [.ref p8]))) a0 = some (.tup [.str "fun", .str y.w, .int y.falls, .ref h']) := by
            have := s79 _ _ eb'
            rw [upd_ne (fun z => by have e := J8.ef; rw [← z, this] at e; cases e)]; exact this
          generalize upd H8 F (.lst (ps.map V.ref ++ [.ref p8])) = H9 at Jn sN eaN ⊢
          refine ⟨_, rfl, a0, _, _, _, rfl, rfl, .inl (.inl eaN), atI_nat (j := 0) rfl, rfl, _, rfl, ?_⟩
          refine iteF ⟨_, _, _, _, ps ++ [p8], qs ++ [q8], _, rfl, sN, fun b hb => ?_, Jn, hfo, hN'⟩
          simp only [List.mem_cons, List.mem_append, List.not_mem_nil, or_false] at hb
          rcases hb with h | h | (h | rfl) | (h | rfl)
          · exact hfr b (by simp [h])
          · exact hfr b (by simp [h])
          · exact hfr b (by simp [h])
          · exact s27.free hp7
          · exact hfr b (by simp [h])
          · exact s27.free hq8
        | _ => cases hh
    · rintro σ H8 ⟨y1, y6, y7, y8, ps, qs, si, rfl, s4, hfr, J, hfo, hN⟩
      rw [hxl, List.drop_length] at hfo
      cases hfo
      have s8 := s02.trans s4
      have ep8 := s8 _ _ ep
      have hI8 := hI.same s8
      obtain ⟨vc, ec, ic⟩ := J.cn
      refine nx_of ?_
      refine go_vx (vx_tup (ts := [.str "table", .tup (s.ms.map mkP), .tup (s.fm.map PV.str), .tup (s.cn.map (cnD s.mw))]) (vs_cons (vx_lit (by decide +kernel)) (vs_cons (vx_tupOf (vl_tagE (vl_tag (g := fun it => (getM it).map mkP) (p := p) rfl (fun _ => rfl) ep8 hI8 l6 (by intro it; cases it <;> simp [getM, Item.tag] <;> decide) (fun x it y H' ia eg => ?_)) (by rw [tm]; exact gm_map its))) (vs_cons (vx_tupOf (vl_tagE (vl_tag (g := fun it => (getF it).map PV.str) (p := p) rfl (fun _ => rfl) ep8 hI8 l6 (by intro it; cases it <;> simp [getF, Item.tag] <;> decide) (fun x it y H' ia eg => ?_)) (by rw [tf]; exact gf_map its))) (vs_cons (fun H9 Q9 s9 q9 => ?_) vs_nil)))) (by simp)) fun v9 H9 iv9 s9 => go_nm ?_
      · intro H9 Q9 s9 q9
        cases it with
        | m z =>
          cases eg
          obtain ⟨a, rfl, ea, ok⟩ := ia
          refine ⟨_, rfl, 1, rfl, a, _, rfl, .inl (.inl (s9 _ _ ea)), slice1, fun pc hpc => ?_⟩
          rw [cut1]
          exact q9 _ _ (.tup upd_same (.cons (.str _ ok) (.cons (.int _) .nil))) (same_upd hpc _)
        | _ => cases eg
      · intro H9 Q9 s9 q9
        cases it with
        | f z =>
          cases eg
          obtain ⟨a, rfl, ea, ok⟩ := ia
          exact ⟨_, rfl, a, _, _, _, rfl, rfl, .inl (.inl (s9 _ _ ea)), atI_nat (j := 1) rfl, q9 _ H9 (.str _ ok) (.refl _)⟩
        | _ => cases eg
      · exact ⟨_, rfl, C, vc, rfl, .inl ⟨SqL.of (s9 _ _ ec), fun l hl => q9 _ _ (.tup upd_same ((ic.same s9).same (same_upd hl _))) (same_upd hl _)⟩⟩
      have J9 := J.same s9
      have hlen := J9.fn.len.1
      have h5 := hN.2.2.2
      refine go_ret (t := .tup [tabD s, prgD s]) (vx_tup (vs_cons (vx_var rfl iv9) (vs_cons (vx_tup (ts := [.str "program", .tup (s.fs.map (fnD s.mw s.cw))]) (vs_cons (vx_lit (by decide +kernel)) (vs_cons (vx_tupOf (vl_lcL (K := K) (L := s.fs.map (fnD s.mw s.cw)) (k := 12) (xs := ps.map V.ref) (fun H10 Q10 s10 q10 => ⟨_, rfl, q10 F H10 (.refl _) (s10 _ _ J9.ef)⟩) (by rw [List.length_map, List.length_map, hlen]) (by rw [List.length_map, hlen]; have := h5.1; omega) fun j x z H' hx hz s' => ?_)) vs_nil)) (by simp)) vs_nil)) (by simp)) fun v H' iv s' => q v H' iv ((s8.trans s9).trans s')
      obtain ⟨pj, hpj, rfl⟩ := map_at hx
      obtain ⟨f, q8, kv, ix, us8, hf, epj, o1, o2, ik, ii, eq8, il8⟩ := (J9.same s').fn.get hpj
      rw [List.getElem?_map, hf] at hz
      cases hz
      intro H10 Q10 s10 q10
      refine ⟨_, rfl, _, rfl, pj, _, rfl, SqL.of (s10 _ _ epj), fun pc hpc => ?_⟩
      rw [show cutV [.str f.w, kv, .str f.md.fam, ix, .int f.falls, .ref q8] none (some 5) = [.str f.w, kv, .str f.md.fam, ix, .int f.falls] from cut_to _ 5]
      have t1 := same_upd hpc (.lst [.str f.w, kv, .str f.md.fam, ix, .int f.falls])
      refine ⟨pc, _, rfl, .inl ⟨SqL.of upd_same, fun l hl => ?_⟩⟩
      have t2 := same_upd hl (.tup [.str f.w, kv, .str f.md.fam, ix, .int f.falls])
      have t12 := t1.trans t2
      have t22 := s10.trans t12
      have el : (upd (upd H10 pc (.lst [.str f.w, kv, .str f.md.fam, ix, .int f.falls])) l (.tup [.str f.w, kv, .str f.md.fam, ix, .int f.falls])) l = some (.tup [.str f.w, kv, .str f.md.fam, ix, .int f.falls]) := upd_same
      generalize upd (upd H10 pc (.lst [.str f.w, kv, .str f.md.fam, ix, .int f.falls])) l (.tup [.str f.w, kv, .str f.md.fam, ix, .int f.falls]) = H11 at t12 t22 el ⊢
      clear t1 t2
      refine ⟨_, rfl, pj, _, _, _, rfl, rfl, SqL.of (t22 _ _ epj), atI_nat (j := 5) rfl, q8, us8, rfl, .inl ⟨SqL.of (t22 _ _ eq8), fun l2 hl2 => ⟨(by show 1 ≤ sizeLine; decide), fun l3 hl3 => ?_⟩⟩⟩
      have t3 := same_upd hl2 (.tup us8)
      have t4 := same_upd hl3 (.tup [.ref l2])
      have t34 := t3.trans t4
      have t24 := t22.trans t34
      refine cat_is (ts := [.str f.w, .tup (f.ps.map (kdD s.mw)), .str f.md.fam, dcl s.mw f.md.tm, .int f.falls]) (us := [.tup (f.cls.map (clD s.cw))]) (t34 _ _ el) upd_same (.cons (.str _ o1) (.cons (ik.same t24) (.cons (.str _ o2) (.cons (ii.same t24) (.cons (.int _) .nil))))) (.cons (.tup (t4 _ _ upd_same) (il8.same t24)) .nil) (by simp) (by simp) fun v H12 iv12 s12 => q10 v H12 iv12 ((t12.trans t34).trans s12)
end
end Kx
namespace Kx
open PySem PySem.Spec PyProof.Rows L2
section
variable {P : Program} {w : World} {K : PySem.W.Frag} {mg : Str → Option Value} {base : Heap}
set_option pp.maxSteps 1500
/-! ### the judge's reading -/
def wdO (s : DS) : Str := match s.fs.getLast? with
  | some f => f.w
  | none => ""
theorem w_ne {w : Tok} (h : isW w = true) : mkS w ≠ "" := fun e => by
  have : w = [] := by have := congrArg cs e; rwa [cs_mk] at this
  subst this
  exact absurd h (by decide +kernel)
theorem item_cl_w {U : List Tok} {w : Str} {y : Cl} (h : pI U = some (.l w y)) : w ≠ "" := by
  unfold pI at h
  split at h
  · cases U with
    | nil => cases h
    | cons t R =>
      by_cases hw : isW t = true
      · rw [pCl_at hw] at h
        split at h
        · split at h
          · split at h
            · cases h; exact w_ne hw
            · cases h
          · cases h
        · cases h
      · cases R with
        | nil => cases h
        | cons a R => simp only [pCl, hw, if_false] at h; cases h
  · cases U with
    | nil => cases h
    | cons t R =>
      simp only at h
      split at h
      · match R, h with
        | [w, n], h =>
          simp only [pMk] at h
          split at h
          · cases e : numV n with
            | none => rw [e] at h; cases h
            | some k => rw [e] at h; cases h
          · cases h
      · split at h
        · match R, h with
          | [w], h =>
            simp only [pFm] at h
            split at h <;> cases h
        · split at h
          · match R, h with
            | w :: b :: X, h =>
              simp only [pCn] at h
              split at h
              · split at h
                · unfold pCon at h
                  split at h
                  · rename_i R2 _
                    cases e2 : pEnd R2 with
                    | none => rw [e2] at h; cases h
                    | some md => rw [e2] at h; cases h
                  · cases h
                · cases h
              · cases h
          · split at h
            · match R, h with
              | w :: b :: n :: c :: X, h =>
                simp only [pFn] at h
                split at h
                · split at h
                  · cases en : numV n with
                    | none => rw [en] at h; cases h
                    | some k =>
                      rw [en] at h
                      simp only at h
                      split at h
                      · unfold pFun at h
                        split at h
                        · rename_i R2 _
                          cases e2 : pEnd R2 with
                          | none => rw [e2] at h; cases h
                          | some md => rw [e2] at h; cases h
                        · cases h
                      · cases h
                  · cases h
                · cases h
            · cases h
theorem ItemAt.wr {B : Addr → Prop} {H : Hp} {I : Addr} {xs ys : List V} {x : V} {it : Item} (e : H I = some (.lst xs)) (hB : ∀ b, B b → b ≠ I) (h : ItemAt B H x it) : ItemAt (fun b => b ≠ I) (upd H I (.lst ys)) x it := by
  have t := wr_tk (ys := ys) e
  cases it with
  | m y => obtain ⟨a, e, h1, h2⟩ := h; exact ⟨a, e, t _ _ h1, h2⟩
  | f z => obtain ⟨a, e, h1, h2⟩ := h; exact ⟨a, e, t _ _ h1, h2⟩
  | c y => obtain ⟨a, h, fp, vs, v, e, h1, h2, h3, h4, h5, h6, h7⟩ := h; exact ⟨a, h, fp, vs, v, e, t _ _ h1, h2, t _ _ h3, by rw [upd_ne (hB _ h7)]; exact h4, h5.tk t, h6.tk t, hB _ h7⟩
  | h y => obtain ⟨a, h, fp, vs, v, e, h1, h2, h3, h4, h5, h6, h7⟩ := h; exact ⟨a, h, fp, vs, v, e, t _ _ h1, h2, t _ _ h3, by rw [upd_ne (hB _ h7)]; exact h4, h5.tk t, h6.tk t, hB _ h7⟩
  | l w y => obtain ⟨a, l, v, e, h1, h2, h3⟩ := h; exact ⟨a, l, v, e, t _ _ h1, h2.tk t, h3.tk t⟩
theorem ItsL.wr {B : Addr → Prop} {H : Hp} {I : Addr} {us ys : List V} (e : H I = some (.lst us)) (hB : ∀ b, B b → b ≠ I) : ∀ {xs : List V} {its : List Item}, ItsL B H xs its → ItsL (fun b => b ≠ I) (upd H I (.lst ys)) xs its
  | _, _, .nil => .nil
  | _, _, .cons h w r => .cons (h.wr e hB) w (r.wr e hB)
theorem foldI_snoc {its : List Item} {s si sj : DS} {it : Item} (h : foldI s its = some si) (e : stp si it = some sj) : foldI s (its ++ [it]) = some sj := by
  rw [foldI_app, h]
  show foldI si [it] = some sj
  simp only [foldI, e]
theorem cl_stp {si : DS} {w : Str} {y : Cl} (hw : w ≠ "") : (stp si (.l w y)).isSome = decide (w = wdO si) ∧ ∀ sj, stp si (.l w y) = some sj → wdO sj = wdO si := by
  have hor : si.fs.getLast? = none ∨ ∃ f0, si.fs.getLast? = some f0 := by
    cases h : si.fs.getLast? with
    | none => exact .inl rfl
    | some f => exact .inr ⟨f, rfl⟩
  rcases hor with eg | ⟨f0, eg⟩
  · have e1 : stp si (.l w y) = none := by simp only [stp, eg]
    have e2 : wdO si = "" := by simp only [wdO, eg]
    rw [e1, e2]
    exact ⟨by simp [hw], fun sj e => by cases e⟩
  · obtain ⟨fs0, hf0⟩ := List.getLast?_eq_some_iff.mp eg
    have e1 : stp si (.l w y) = if f0.w = w then some { si with fs := addCl si.fs y } else none := by simp only [stp, eg]
    have e2 : wdO si = f0.w := by simp only [wdO, eg]
    rw [e1, e2]
    by_cases h : f0.w = w
    · rw [if_pos h]
      refine ⟨by simp [h], fun sj e => ?_⟩
      cases e
      simp only [wdO, hf0, addCl_snoc, List.getLast?_append, List.getLast?_singleton, Option.some_or]
    · rw [if_neg h]
      refine ⟨?_, fun sj e => by cases e⟩
      have : ¬ w = f0.w := fun e => h e.symm
      simp [this]
def spJRead : Sp := fun vs H Q _ => ∃ (ls : List (List Nat)) (z : List Nat), vs = [SV (fullT ls ++ z)] ∧ (fullT ls ++ z).length ≤ 6000 ∧ (∀ l ∈ ls, OkR l) ∧ OkR z ∧ ∀ v H', Is H' v (outP (drf ls z)) → Same H H' → Q v H'
theorem ok_law_read (T : Txt K mg) (G_law_item : FnOk P w K mg base CX0 45 T.a_law_item T.d_law_item ["row"] spJItem) (G_law_pair : FnOk P w K mg base CX0 43 T.a_law_pair T.d_law_pair ["items"] spJPair) (G_law_tokens : FnOk P w K mg base CX0 2 T.a_law_tokens T.d_law_tokens ["line"] spJTok) : FnOk P w K mg base CX0 46 T.a_law_read T.d_law_read ["text"] spJRead := by
  refine T.F_law_read.ok sc_law_read (fun vs H Q E h => ?_) (fun cdv A outer s H vs Q E hr h => ?_)
  · obtain ⟨ls, z, rfl, _⟩ := h; rfl
  · obtain ⟨ls, z, rfl, hlen, hok, hz, q⟩ := h
    have hr_law_item := hr
    have hr_law_pair : Room 43 _ := hr.mono (by decide)
    have hr_law_tokens : Room 2 _ := hr.mono (by decide)
    refine ⟨_, (pss_cons (ps_set (i := 1) sc_law_read.nd rfl (Or.inl rfl) (pe_lst pa_nil))
    (pss_cons (ps_set (i := 2) sc_law_read.nd rfl (Or.inl rfl) pe_str)
    (pss_cons (ps_set (i := 3) sc_law_read.nd rfl (Or.inl rfl) (pe_split (pv 0) pe_str))
    (pss_cons (ps_for PassesOwn.never rfl (pi_range1 (by rfl) T.z_range (pa_cons (pe_callB call_len_seq (by rfl) T.z_len (by decide +kernel) (pa_cons (pv 3) pa_nil)) pa_nil)) (pg_name (i := 4) sc_law_read.nd rfl (Or.inl rfl))
    (pss_cons (ps_set (i := 5) sc_law_read.nd rfl (Or.inl rfl) (pe_call G_law_tokens hr_law_tokens rfl T.m_law_tokens T.F_law_tokens.kp T.b_law_tokens .nil pass0 (pa_cons (pe_ix ix_list (pv 3) (pv 4) (fun _ _ => rfl)) pa_nil)))
    (pss_cons (ps_if (PW.pt (pw_or (pt_cmpR op_isN (pv 5) pe_non (nomark _)) (pw_or1 (PW.pt (pw_and (pt_cmpR op_eq (pe_op op_add (pv 4) pe_int) (pe_callB call_len_seq (by rfl) T.z_len (by decide +kernel) (pa_cons (pv 3) pa_nil)) (nomark _)) (pw_and1 (pt_cmpR op_ne (pe_ix ix_list (pv 3) (pv 4) (fun _ _ => rfl)) pe_str (nomark _)))))))) (pss_one (ps_ret (pe_tup (pa_cons pe_str (pa_cons (pe_op op_add (pv 4) pe_int) pa_nil))))) pss_nil)
    (pss_one (ps_if (pt_cmpR op_gt (pe_callB call_len_seq (by rfl) T.z_len (by decide +kernel) (pa_cons (pv 5) pa_nil)) pe_int (nomark _)) (pss_cons (ps_set (i := 6) sc_law_read.nd rfl (Or.inl rfl) (pe_call G_law_item hr_law_item rfl T.m_law_item T.F_law_item.kp T.b_law_item .nil pass0 (pa_cons (pv 5) pa_nil)))
    (pss_cons (ps_if (PW.pt (pw_or (pt_cmpR op_isN (pv 6) pe_non (nomark _)) (pw_or1 (PW.pt (pw_and (pt_cmpR op_eq (pe_ix ix_seq (pv 6) pe_int (fun _ _ => rfl)) pe_str (nomark _)) (pw_and1 (pt_cmpR op_ne (pe_ix ix_seq (pe_ix ix_seq (pv 6) pe_int (fun _ _ => rfl)) pe_int (fun _ _ => rfl)) (pv 2) (nomark _)))))))) (pss_one (ps_ret (pe_tup (pa_cons pe_str (pa_cons (pe_op op_add (pv 4) pe_int) pa_nil))))) pss_nil)
    (pss_cons (ps_if (pt_cmpR op_eq (pe_ix ix_seq (pv 6) pe_int (fun _ _ => rfl)) pe_str (nomark _)) (pss_one (ps_set (i := 2) sc_law_read.nd rfl (Or.inl rfl) (pe_ix ix_seq (pv 6) pe_int (fun _ _ => rfl)))) pss_nil)
    (pss_one (ps_expr (pe_bm PySem.F.plainAttrs_list PySem.F.slot_list_append PySem.F.type_list_append mt_append (pv 1) (pa_cons (pv 6) pa_nil))))))) pss_nil)))))
    (pss_one (ps_ret (pe_call G_law_pair hr_law_pair rfl T.m_law_pair T.F_law_pair.kp T.b_law_pair .nil pass0 (pa_cons (pv 1) pa_nil)))))))), ?_⟩
    obtain ⟨hn1, hn2⟩ := full_rows ls
    have hfl : (fullT ls).length ≤ 6000 := by rw [List.length_append] at hlen; omega
    have hzl : z.length ≤ 6000 := by rw [List.length_append] at hlen; omega
    have hT : (mkS (fullT ls ++ z)).length = (fullT ls ++ z).length := mk_len _
    obtain ⟨tot, htot⟩ : ∃ t, t = drf ls z := ⟨_, rfl⟩
    rw [← htot] at q
    unfold drf at htot
    generalize hres : rowsS 1 s0 (ls.map toks) = res at htot
    have hsp := split_rest ls z (fun l hl => ok_no10 (hok l hl)) (ok_no10 hz)
    refine ⟨by decide, fun I hI => ?_⟩
    refine go_nm (nx_of ?_)
    refine ⟨_, rfl, ⟨_, rfl⟩, _, _, rfl, rfl, rfl, by rw [hT]; exact small7 (by omega), fun P0 hP0 => ?_⟩
    have s1 := same_upd hI (.lst [])
    have s2 := same_upd hP0 (.lst ((Txt.split (mkS (fullT ls ++ z)) "\n").map V.str))
    rw [hsp] at s2 ⊢
    refine go_nm (nx_of ?_)
    have hCm : ∀ t ∈ ls ++ [z], OkR t ∧ t.length ≤ 6000 := fun t ht => by
      rcases List.mem_append.mp ht with h | h
      · exact ⟨hok t h, Nat.le_trans (hn2 t h) hfl⟩
      · rw [List.mem_singleton.mp h]; exact ⟨hz, hzl⟩
    have nIP : I ≠ P0 := fun e => by rw [e, upd_same] at hP0; cases hP0
    have eI : (upd (upd H I (.lst [])) P0 (.lst ((ls.map mkS ++ [mkS z]).map V.str))) I = some (.lst []) := by rw [upd_ne nIP]; exact upd_same
    have eP : (upd (upd H I (.lst [])) P0 (.lst ((ls.map mkS ++ [mkS z]).map V.str))) P0 = some (.lst ((ls ++ [z]).map SV)) := by rw [upd_same]; simp [SV]
    have s12 := s1.trans s2
    have hP1 : H P0 = none := s1.free hP0
    generalize upd (upd H I (.lst [])) P0 (.lst ((ls.map mkS ++ [mkS z]).map V.str)) = H1 at s12 eI eP ⊢
    clear s1 s2 hP0
    have flt : ∀ {i : Nat} {H' : Hp}, Same H H' → tot = .error (i + 1) → (2 ≤ sizeLine ∧ ∀ r, H' r = none → Q (.ref r) (upd H' r (.tup [.str "fault", .int ((i : Int) + 1)]))) := fun {i H'} s' e => by
      rw [e] at q
      refine ⟨by decide, fun r hr => q _ _ (.tup upd_same (.cons (.str _ (by decide +kernel)) (.cons ?_ .nil))) (s'.trans (same_upd hr _))⟩
      rw [show ((i : Int) + 1) = ((i + 1 : Nat) : Int) by omega]
      exact .int _
    refine ⟨_, rfl, P0, _, rfl, .inl (SqL.of eP), _, rfl, by simp only [List.length_map, List.length_append, List.length_singleton]; omega, by simp only [List.length_map, List.length_append, List.length_singleton]; omega, ?_⟩
    have en : ((((ls ++ [z]).map SV).length : Nat) : Int).toNat = ls.length + 1 := by simp
    refine for_range (n := (((((ls ++ [z]).map SV).length : Nat) : Int)).toNat) (fun i σ H' => ∃ (xs : List V) (its : List Item) (si : DS) (y4 y5 y6 : Option V), σ = [some (SV (fullT ls ++ z)), some (.ref I), some (.str (wdO si)), some (.ref P0), y4, y5, y6] ∧ Same H H' ∧ H' P0 = some (.lst ((ls ++ [z]).map SV)) ∧ H' I = some (.lst xs) ∧ ItsL (fun b => b ≠ I) H' xs its ∧ its.length ≤ i ∧ its.length ≤ ls.length ∧ foldI s0 its = some si ∧ ((i ≤ ls.length ∧ rowsS (i + 1) si ((ls.map toks).drop i) = res) ∨ (i = ls.length + 1 ∧ z = [] ∧ res = .ok si))) ?_ ?_ ?_
    · exact ⟨[], [], s0, _, _, _, rfl, s12, eP, eI, .nil, Nat.le_refl _, Nat.zero_le _, rfl, .inl ⟨Nat.zero_le _, hres⟩⟩
    · have hdh : decide (V.str "fun" = V.str "clause") = false := by decide
      have hdm1 : decide (V.str "maker" = V.str "clause") = false := by decide
      have hdm2 : decide (V.str "maker" = V.str "fun") = false := by decide
      have hdf1 : decide (V.str "family" = V.str "clause") = false := by decide
      have hdf2 : decide (V.str "family" = V.str "fun") = false := by decide
      have hdc1 : decide (V.str "con" = V.str "clause") = false := by decide
      have hdc2 : decide (V.str "con" = V.str "fun") = false := by decide
      rintro i σ H2 hi ⟨xs, its, si, y4, y5, y6, rfl, s2, eP2, eI2, hIt, hil, hil2, hfo, hor⟩
      rw [en] at hi
      obtain ⟨hi', hrs⟩ : i ≤ ls.length ∧ rowsS (i + 1) si ((ls.map toks).drop i) = res := by
        rcases hor with h | ⟨h, _⟩
        · exact h
        · omega
      obtain ⟨r, hr0⟩ : ∃ r, (ls ++ [z])[i]? = some r := ⟨_, List.getElem?_eq_getElem (by simp; omega)⟩
      obtain ⟨hR, hRl⟩ := hCm r (List.mem_of_getElem? hr0)
      have hat : atI ((ls ++ [z]).map SV) (i : Int) = some (SV r) := atI_nat (by rw [List.getElem?_map, hr0]; rfl)
      rw [show (0 + (i : Int)) = (i : Int) by omega]
      refine go_nm ?_
      have hrow : ∀ {t : Option DS}, (∀ s', t = some s' → False) → t = none := fun {t} h => by cases t with | none => rfl | some s' => exact (h s' rfl).elim
      -- what the line tells
      have hcase : (i < ls.length ∧ (rowsS (i + 1) si ((ls.map toks).drop i) = match rowS si (toks r) with
          | some s' => rowsS (i + 1 + 1) s' ((ls.map toks).drop (i + 1))
          | none => .error (i + 1))) ∨ (i = ls.length ∧ r = z ∧ res = .ok si) := by
        rcases Nat.lt_or_ge i ls.length with hlt | hge
        · rw [List.getElem?_append_left hlt] at hr0
          have h2 : (ls.map toks)[i]? = some (toks r) := by rw [List.getElem?_map, hr0]; rfl
          obtain ⟨h3, h4⟩ := List.getElem?_eq_some_iff.mp h2
          refine .inl ⟨hlt, ?_⟩
          rw [List.drop_eq_getElem_cons h3, h4, rowsS_cons]
          all_goals rfl
        · have ei : i = ls.length := by omega
          refine .inr ⟨ei, ?_, ?_⟩
          · rw [ei, List.getElem?_append_right (Nat.le_refl _), Nat.sub_self] at hr0
            cases hr0; rfl
          · rw [← hrs, List.drop_eq_nil_of_le (by rw [List.length_map]; omega)]; rfl
      have bad : rowS si (toks r) = none ∨ (i = ls.length ∧ z ≠ []) → tot = .error (i + 1) := fun h => by
        rw [htot]
        rcases hcase with ⟨hlt, e⟩ | ⟨ei, er, e⟩
        · rcases h with h | ⟨h, _⟩
          · rw [hrs, h] at e
            rw [e]
          · omega
        · rw [e]
          have hz0 : z ≠ [] := by
            rcases h with h | ⟨_, h⟩
            · intro e0
              rw [er, e0] at h
              cases h
            · exact h
          simp only [hz0, if_false, ei]
      have good : ∀ s', rowS si (toks r) = some s' → ¬ (i = ls.length ∧ z ≠ []) → (i + 1 ≤ ls.length ∧ rowsS (i + 1 + 1) s' ((ls.map toks).drop (i + 1)) = res) ∨ (i + 1 = ls.length + 1 ∧ z = [] ∧ res = .ok s') := fun s' h hz0 => by
        rcases hcase with ⟨hlt, e⟩ | ⟨ei, er, e⟩
        · rw [hrs, h] at e
          exact .inl ⟨hlt, e.symm⟩
        · have hz1 : z = [] := by
            by_cases h0 : z = []
            · exact h0
            · exact absurd ⟨ei, h0⟩ hz0
          rw [er, hz1] at h
          cases h
          exact .inr ⟨by omega, hz1, e⟩
      refine ⟨_, rfl, _, rfl, P0, _, _, _, rfl, rfl, SqL.of eP2, hat, r, rfl, hR, hRl, fun hlg p H3 hp s3 ep => ?_, fun hlg H3 s3 => ?_⟩
      rotate_left
      · refine go_nm (nx_of ?_)
        refine ⟨_, rfl, rfl, _, rfl, iteT (iteT ⟨_, rfl, _, _, rfl, rfl, flt (s2.trans s3) (bad (.inl ?_))⟩)⟩
        obtain ⟨t, ht, hl⟩ := hlg
        unfold rowS
        rw [if_neg (by intro e; rw [e] at ht; cases ht)]
        cases e : pI (toks r) with
        | none => rfl
        | some it => rw [gd_lg (pI_gd e t ht)] at hl; cases hl
      refine go_nm (nx_of ?_)
      have s23 := s2.trans s3
      have eP3 := s3 _ _ eP2
      have eI3 := s3 _ _ eI2
      have hIt3 := hIt.same s3
      obtain ⟨tl, tk⟩ := toks_ok hR hRl
      have R3 : RowAt H3 p (toks r) := ⟨ep, tl, fun t ht => ⟨hlg t ht, toks_run t ht, (tk t ht).1, (tk t ht).2.1, (tk t ht).2.2⟩⟩
      refine ⟨_, rfl, rfl, _, rfl, ?_⟩
      rw [show decide (V.ref p = V.non) = false from decide_eq_false (by simp)]
      refine iteF ⟨_, rfl, _, _, rfl, rfl, _, rfl, P0, _, rfl, .inl (SqL.of eP3), rfl, _, rfl, ?_⟩
      rw [dec_int]
      by_cases hA : i = ls.length ∧ z ≠ []
      · have er : r = z := by
          rcases hcase with ⟨h, _⟩ | ⟨_, h, _⟩
          · omega
          · exact h
        rw [show (((i : Int) + 1) == ((((ls ++ [z]).map SV).length : Nat) : Int)) = true by rw [beq_iff_eq]; simp; omega]
        refine iteT ⟨_, rfl, _, rfl, P0, _, _, _, rfl, rfl, SqL.of eP3, hat, rfl, _, rfl, ?_⟩
        rw [ne_sv, decide_eq_false (by rw [er]; exact hA.2)]
        exact iteT ⟨_, rfl, _, _, rfl, rfl, flt s23 (bad (.inr hA))⟩
      by_cases hk : i = ls.length
      case' pos =>
        have er : r = [] := by
          rcases hcase with ⟨h, _⟩ | ⟨_, h, _⟩
          · omega
          · rw [h]
            by_cases h0 : z = []
            · exact h0
            · exact absurd ⟨hk, h0⟩ hA
        rw [show (((i : Int) + 1) == ((((ls ++ [z]).map SV).length : Nat) : Int)) = true by rw [beq_iff_eq]; simp; omega]
        refine iteT ⟨_, rfl, _, rfl, P0, _, _, _, rfl, rfl, SqL.of eP3, hat, rfl, _, rfl, ?_⟩
        rw [ne_sv, decide_eq_true (show r = cs "" from er)]
        refine iteF ?_
      case' neg =>
        rw [show (((i : Int) + 1) == ((((ls ++ [z]).map SV).length : Nat) : Int)) = false by rw [beq_eq_false_iff_ne]; simp; omega]
        refine iteF (iteF ?_)
      all_goals
        refine ⟨_, rfl, p, _, rfl, .inl (SqL.of ep), _, _, rfl, rfl, _, rfl, ?_⟩
        rw [List.length_map]
        by_cases hU : toks r = []
        · rw [show decide ((0 : Int) < ((toks r).length : Int)) = false from decide_eq_false (by rw [hU]; simp)]
          refine iteF ⟨xs, its, si, _, _, _, rfl, s23, eP3, eI3, hIt3, by omega, hil2, hfo, good si ?_ hA⟩
          unfold rowS
          rw [if_pos hU]
        · have hUl := List.length_pos_iff.mpr hU
          rw [show decide ((0 : Int) < ((toks r).length : Int)) = true from decide_eq_true (by omega)]
          refine iteT ⟨_, rfl, p, toks r, rfl, R3, hU, ?_⟩
          cases ei : pI (toks r) with
          | none =>
            intro H4 s4
            refine go_nm (nx_of ?_)
            refine ⟨_, rfl, rfl, _, rfl, iteT (iteT ⟨_, rfl, _, _, rfl, rfl, flt (s23.trans s4) (bad (.inl ?_))⟩)⟩
            unfold rowS
            rw [if_neg hU, ei]
          | some it =>
            intro v H4 ia4 s4
            have eI4 := s4 _ _ eI3
            obtain ⟨a0, y0, ys0, rfl, ea0, nx0⟩ := ia4.tg
            refine go_nm (nx_of ?_)
            refine ⟨_, rfl, rfl, _, rfl, ?_⟩
            rw [show decide (V.ref a0 = V.non) = false from decide_eq_false (by simp)]
            refine iteF ⟨_, rfl, .inr (.inl ⟨a0, _, _, _, rfl, rfl, .inl (.inl ea0), atI_nat (j := 0) rfl, rfl, _, rfl, ?_⟩)⟩
            have s24 := s23.trans s4
            have hlt : i < ls.length := by
              rcases hcase with ⟨h, _⟩ | ⟨h1, h2, _⟩
              · exact h
              · exfalso
                apply hU
                by_cases h0 : z = []
                · rw [h2, h0]; rfl
                · exact absurd ⟨h1, h0⟩ hA
            have w0 := pI_w ei tl
            have hBI : ∀ b, H3 b = none → b ≠ I := fun b h e => by rw [e, eI3] at h; cases h
            have hrw : rowS si (toks r) = stp si it := by unfold rowS; rw [if_neg hU, ei]
            have nxt : ∀ sj, stp si it = some sj → ∃ (xs' : List V) (its' : List Item) (sk : DS), Same H (upd H4 I (.lst (xs ++ [V.ref a0]))) ∧ (upd H4 I (.lst (xs ++ [V.ref a0]))) P0 = some (.lst ((ls ++ [z]).map SV)) ∧ sk = sj ∧ (upd H4 I (.lst (xs ++ [V.ref a0]))) I = some (.lst xs') ∧ ItsL (fun b => b ≠ I) (upd H4 I (.lst (xs ++ [V.ref a0]))) xs' its' ∧ its'.length ≤ i + 1 ∧ its'.length ≤ ls.length ∧ foldI s0 its' = some sk ∧ ((i + 1 ≤ ls.length ∧ rowsS (i + 1 + 1) sk ((ls.map toks).drop (i + 1)) = res) ∨ (i + 1 = ls.length + 1 ∧ z = [] ∧ res = .ok sk)) := fun sj e =>
              ⟨xs ++ [V.ref a0], its ++ [it], sj, Kx.Same.own s24 hI _, by rw [upd_ne nIP.symm]; exact s4 _ _ eP3, rfl, upd_same, ((hIt3.same s4).wr eI4 fun b h => h).snoc (ia4.wr eI4 hBI) w0, by rw [List.length_append, List.length_singleton]; omega, by rw [List.length_append, List.length_singleton]; omega, foldI_snoc hfo e, good sj (by rw [hrw]; exact e) hA⟩
            have sz : xs.length < sizeLine := small7k (by rw [hIt.len]; omega)
            cases it with
            | l w y =>
              have hw := item_cl_w ei
              obtain ⟨k1, k2⟩ := cl_stp (si := si) (y := y) hw
              obtain ⟨l, rfl, ea', ey'⟩ : ∃ l, y0 = .ref l ∧ True ∧ True := by
                obtain ⟨pl, us, e, _⟩ := nx0.tup_inv
                exact ⟨pl, e, trivial, trivial⟩
              obtain ⟨pl, us, e, el, iu⟩ := nx0.tup_inv
              cases e
              cases iu with
              | cons h0 h1 =>
              cases h0.str_inv
              refine iteT ⟨_, rfl, .inr (.inl ⟨a0, _, _, _, rfl, rfl, .inl (.inl ea0), atI_nat (j := 1) rfl, .inr (.inl ⟨l, _, _, _, rfl, rfl, .inl (.inl el), atI_nat (j := 0) rfl, _, rfl, rfl, _, rfl, ?_⟩)⟩)⟩
              by_cases hwd : w = wdO si
              · obtain ⟨sj, hsj⟩ : ∃ sj, stp si (.l w y) = some sj := by
                  cases e : stp si (.l w y) with
                  | none => rw [e] at k1; simp [hwd] at k1
                  | some sj => exact ⟨sj, rfl⟩
                obtain ⟨xs', its', sk, g1, g2, rfl, g3⟩ := nxt sj hsj
                rw [show (!decide (V.str w = V.str (wdO si))) = false by rw [hwd]; simp]
                refine iteF ⟨_, rfl, .inr (.inl ⟨a0, _, _, _, rfl, rfl, .inl (.inl ea0), atI_nat (j := 0) rfl, rfl, _, rfl, ?_⟩)⟩
                refine iteF ?_
                refine ⟨_, rfl, .inl ⟨rfl, _, SqL.of eI4⟩, _, rfl, I, _, _, rfl, rfl, eI4, sz, xs', its', sk, _, _, _, by rw [k2 _ hsj]; rfl, g1, g2, g3⟩
              · rw [show (!decide (V.str w = V.str (wdO si))) = true by simp [hwd]]
                refine iteT ⟨_, rfl, _, _, rfl, rfl, flt s24 (bad (.inl ?_))⟩
                rw [hrw]
                cases e : stp si (.l w y) with
                | none => rfl
                | some sj => rw [e] at k1; simp [hwd] at k1
            | h y =>
              obtain ⟨xs', its', sk, g1, g2, rfl, g3⟩ := nxt _ rfl
              have e : y0 = .str y.w := nx0
              subst e
              rw [show decide (V.str (Item.h y).tag = V.str "clause") = false from hdh]
              refine iteF (iteF ⟨_, rfl, .inr (.inl ⟨a0, _, _, _, rfl, rfl, .inl (.inl ea0), atI_nat (j := 0) rfl, rfl, _, rfl, ?_⟩)⟩)
              rw [show decide (V.str (Item.h y).tag = V.str "fun") = true from rfl]
              refine iteT ⟨_, rfl, .inr (.inl ⟨a0, _, _, _, rfl, rfl, .inl (.inl ea0), atI_nat (j := 1) rfl, ?_⟩)⟩
              refine go_nm ?_
              exact ⟨_, rfl, .inl ⟨rfl, _, SqL.of eI4⟩, _, rfl, I, _, _, rfl, rfl, eI4, sz, xs', its', _, _, _, _, by rw [show wdO ({ si with fs := si.fs ++ [y] } : DS) = y.w by simp [wdO]]; rfl, g1, g2, g3⟩
            | m y =>
              obtain ⟨xs', its', sk, g1, g2, rfl, g3⟩ := nxt _ rfl
              rw [show decide (V.str (Item.m y).tag = V.str "clause") = false from hdm1]
              refine iteF (iteF ⟨_, rfl, .inr (.inl ⟨a0, _, _, _, rfl, rfl, .inl (.inl ea0), atI_nat (j := 0) rfl, rfl, _, rfl, ?_⟩)⟩)
              rw [show decide (V.str (Item.m y).tag = V.str "fun") = false from hdm2]
              refine iteF ?_
              exact ⟨_, rfl, .inl ⟨rfl, _, SqL.of eI4⟩, _, rfl, I, _, _, rfl, rfl, eI4, sz, xs', its', { si with ms := si.ms ++ [y] }, _, _, _, rfl, g1, g2, g3⟩
            | f y =>
              obtain ⟨xs', its', sk, g1, g2, rfl, g3⟩ := nxt _ rfl
              rw [show decide (V.str (Item.f y).tag = V.str "clause") = false from hdf1]
              refine iteF (iteF ⟨_, rfl, .inr (.inl ⟨a0, _, _, _, rfl, rfl, .inl (.inl ea0), atI_nat (j := 0) rfl, rfl, _, rfl, ?_⟩)⟩)
              rw [show decide (V.str (Item.f y).tag = V.str "fun") = false from hdf2]
              refine iteF ?_
              exact ⟨_, rfl, .inl ⟨rfl, _, SqL.of eI4⟩, _, rfl, I, _, _, rfl, rfl, eI4, sz, xs', its', { si with fm := si.fm ++ [y] }, _, _, _, rfl, g1, g2, g3⟩
            | c y =>
              obtain ⟨xs', its', sk, g1, g2, rfl, g3⟩ := nxt _ rfl
              rw [show decide (V.str (Item.c y).tag = V.str "clause") = false from hdc1]
              refine iteF (iteF ⟨_, rfl, .inr (.inl ⟨a0, _, _, _, rfl, rfl, .inl (.inl ea0), atI_nat (j := 0) rfl, rfl, _, rfl, ?_⟩)⟩)
              rw [show decide (V.str (Item.c y).tag = V.str "fun") = false from hdc2]
              refine iteF ?_
              exact ⟨_, rfl, .inl ⟨rfl, _, SqL.of eI4⟩, _, rfl, I, _, _, rfl, rfl, eI4, sz, xs', its', { si with cn := si.cn ++ [y] }, _, _, _, rfl, g1, g2, g3⟩
    · rintro σ H8 ⟨xs, its, si, y4, y5, y6, rfl, s8, _, eI8, hIt, hil, hil2, hfo, hor⟩
      rw [en] at hor hil
      rcases hor with ⟨h, _⟩ | ⟨_, hz0, hr1⟩
      · omega
      have ht2 : tot = .ok si := by rw [htot, hr1]; simp [hz0]
      rw [ht2] at q
      exact ⟨_, rfl, _, I, xs, its, si, rfl, eI8, hIt, by omega, hfo, fun v H' iv s' => q v H' iv (s8.trans s')⟩
end
end Kx
set_option maxHeartbeats 2000000
/-! a text * n; list of a text -/
namespace Kx
open PySem PySem.Spec PyProof.Rows L2
def repL (n : Nat) (l : List Nat) : List Nat := (List.replicate n l).flatten
theorem repL_len (n : Nat) (l : List Nat) : (repL n l).length = n * l.length := by
  unfold repL
  rw [List.length_flatten, List.map_replicate, List.sum_replicate_nat]
def rMulT : R2 := fun x y H Q => ∃ (l : List Nat) (n : Nat), x = SV l ∧ y = .int n ∧ l ≠ [] ∧ n ≤ 10000 ∧ n * l.length ≤ 10000 ∧ Q (SV (repL n l)) H
theorem rep_eq (l : List Nat) (n : Nat) : (⟨List.foldl (fun x y => x ++ y) #[] (List.replicate n (mkS l).cps)⟩ : Str) = mkS (repL n l) := cs_inj (by
  rw [cs_mk]
  show (List.foldl (fun x y => x ++ y) #[] (List.replicate n (mkS l).cps)).toList = _
  rw [fold_app]
  show [] ++ (List.replicate n (cs (mkS l))).flatten = _
  rw [List.nil_append, cs_mk]; rfl)
theorem op_mulT {X : Cx} : OpR X (binaryOp .Mult) rMulT := by
  intro pins s σ H x y v u Q I rx ry h
  obtain ⟨l, n, rfl, rfl, ne, h1k, h10k, q⟩ := h
  have hl : (mkS l).length = l.length := mk_len l
  have l1 : 1 ≤ l.length := List.length_pos_iff.mpr ne
  obtain ⟨t, rfl⟩ := (show ∃ t, v = Value.str (mkS l) t from rx)
  obtain ⟨t2, rfl⟩ := (show ∃ t, u = Value.int n t from ry)
  refine wpAny_binaryOp_repeat (T := "str") (U := "int") (by decide) (fun s' => typeIs_str s' (mkS l) t) (fun s' => typeIs_int s' _ t2) noFill_str_mul F.fills_int_mul F.slot_int_rmul repeat_str F.slot_int_index.lookup
    (call_gives F.slot_int_rmul (typeIs_int s _ t2) F.entry_int_rmul (F.args_int_rmul_2 _ _) (AutoIntG1.int___rmul___int_str_0 _ t2 (mkS l) t) ⟨rfl, ?_⟩)
  refine call_gives F.slot_str_mul (typeIs_str s (mkS l) t) F.entry_str_mul (F.args_str_mul_2 _ _) (gives_str_mul (mkS l) n t t2 ?_ ?_ ?_) ?_
  · have h1 : decide ((n : Int) < -2 ^ 63) = false := decide_eq_false (by omega)
    have h3 : decide ((n : Int) ≥ 2 ^ 63) = false := decide_eq_false (by omega)
    rw [h1, h3]; rfl
  · intro hh _
    have hn : 1 ≤ n := by omega
    have : ((mkS l).length : Int) ≤ (2 ^ 63 - 1) / (n : Int) := by
      apply (Int.le_ediv_iff_mul_le (by omega)).mpr
      rw [hl]
      have : (l.length : Int) * (n : Int) ≤ 10000 := by
        have h := h10k
        rw [Nat.mul_comm] at h
        exact_mod_cast h
      omega
    show ¬ ((mkS l).length : Int) > (2 ^ 63 - 1) / (n : Int)
    omega
  · intro _ _
    show decide ((mkS l).length * ((n : Int)).toNat > sizeLine) = false
    rw [hl, Int.toNat_natCast]
    exact decide_eq_false (by rw [sizeLine_eq, Nat.mul_comm]; omega)
  · have hr : (repL n l).length ≤ sizeLine := by rw [repL_len, sizeLine_eq]; omega
    by_cases c1 : (n : Int) < 1
    · rw [if_pos c1]
      have : n = 0 := by omega
      subst this
      exact ⟨by show 0 ≤ sizeLine; exact Nat.zero_le _, .str (mkS (repL 0 l)), H, Inv.tok I _, ⟨_, rfl⟩, q⟩
    · rw [if_neg c1]
      by_cases c2 : (((n : Int) == 1) || ((mkS l).length == 0)) = true
      · rw [if_pos c2]
        have h2 : (n : Int) = 1 := by
          have e : ((mkS l).length == 0) = false := by rw [hl]; exact beq_eq_false_iff_ne.mpr (by omega)
          rw [e, Bool.or_false] at c2
          simpa using c2
        have : n = 1 := by omega
        subst this
        have e1 : repL 1 l = l := by simp [repL]
        rw [e1] at q
        exact ⟨.str (mkS l), H, Inv.tok I _, ⟨_, rfl⟩, q⟩
      · rw [if_neg c2, Int.toNat_natCast, rep_eq]
        refine ⟨?_, .str (mkS (repL n l)), H, Inv.tok I _, ⟨_, rfl⟩, q⟩
        show (mkS (repL n l)).length ≤ sizeLine
        rw [mk_len]; exact hr
def chV (z : Str) : List V := z.cps.toList.map fun c => V.str ⟨#[c]⟩
def rListS : List V → Hp → VK → Prop := fun xs H Q => ∃ z : Str, xs = [.str z] ∧ z.cps.size ≤ 1000 ∧ ∀ p, H p = none → Q (.ref p) (upd H p (.lst (chV z)))
theorem call_listS {X : Cx} (hc : X.calm = true) : CallR X (.type "list") rListS := by
  intro pins s σ H xs us Q I r h
  obtain ⟨z, e, hz, q⟩ := h
  subst e
  obtain ⟨u, eu, rx⟩ := vals1 r
  subst eu
  obtain ⟨t, rfl⟩ := (show ∃ t, u = Value.str z t from rx)
  have hzz : z.cps.size ≤ sizeLine := by rw [sizeLine_eq]; omega
  refine call_list_str (I.ok.hd hc) z t (fun h' tk acc' c' hkeep hS hacc => ?_) hzz
  refine ⟨.ref s.heap.objs.size, upd H s.heap.objs.size (.lst (chV z)), I.laid hkeep (Nat.le_refl _) (show ObjOk X.prog X.w _ _ _ (.lst (chV z)) from ⟨?_, acc'.toList, c', ?_, ?_⟩), rfl, q _ (I.hok.fresh (Nat.le_refl _))⟩
  · simp only [chV, List.length_map, Array.length_toList]; exact hzz
  · refine vals_of_at (by simp only [chV, List.length_map, Array.length_toList]; exact hacc.1.symm) fun j x w h1 h2 => ?_
    obtain ⟨c, t', hc', rfl⟩ := hacc.2 j w (by rw [← Array.getElem?_toList]; exact h2)
    unfold chV at h1
    rw [List.getElem?_map, Array.getElem?_toList, hc'] at h1
    cases h1
    exact ⟨t', rfl⟩
  · simpa using hS
end Kx
namespace Kx
open PySem PySem.Spec PyProof.Rows L2
section
variable {P : Program} {w : World} {K : PySem.W.Frag} {mg : Str → Option Value} {base : Heap}
set_option pp.maxSteps 3000
theorem small8 {n : Nat} (h : n ≤ 1000000) : n ≤ sizeLine := by rw [sizeLine_eq]; omega
theorem cut_pre (L : List (List Nat)) (k : Nat) : cutV (L.map SV) none (some (k : Int)) = (L.take k).map SV := by rw [cut_to, List.map_take]
theorem cut_suf (L : List (List Nat)) (k : Nat) : cutV (L.map SV) (some (k : Int)) none = (L.drop k).map SV := by
  unfold cutV
  rw [HT.sIx_nat, HT.sIx_none, List.length_map]
  rcases Nat.le_total k L.length with h | h
  · rw [Nat.min_eq_left h, List.take_of_length_le (by rw [List.length_drop, List.length_map]; exact Nat.le_refl _), List.map_drop]
  · rw [Nat.min_eq_right h, List.drop_eq_nil_of_le (by rw [List.length_map]; exact Nat.le_refl _), List.drop_eq_nil_of_le h]; simp
theorem cutL_mid (L : List (List Nat)) (k : Nat) : cutV (L.map SV) (some (k : Int)) (some ((k : Int) + 1)) = ((L.drop k).take 1).map SV := by
  unfold cutV
  rw [HT.sIx_nat, show ((k : Int) + 1) = ((k + 1 : Nat) : Int) by omega, HT.sIx_nat, List.length_map]
  rcases Nat.lt_or_ge k L.length with h | h
  · rw [Nat.min_eq_left (by omega), Nat.min_eq_left (by omega), show k + 1 - k = 1 by omega, List.map_take, List.map_drop]
  · rw [Nat.min_eq_right h, List.drop_eq_nil_of_le (by rw [List.length_map]; exact Nat.le_refl _), List.drop_eq_nil_of_le h]; simp
def PtE (σ : L2.St) (tp : L2.St → Hp → (Option Int → Hp → Prop) → Prop) (o : Option Int) : Prop := ∀ (H : Hp) (Q : Option Int → Hp → Prop), Q o H → tp σ H Q
theorem pt_no {σ : L2.St} : PtE σ tNoPart none := fun H Q q => q
theorem pt_var {σ : L2.St} {i : Nat} {n : Int} (e : σ[i]? = some (some (.int n))) : PtE σ (tPart (tVar i)) (some n) := fun H Q q => ⟨_, e, _, rfl, q⟩
theorem pt_add {σ : L2.St} {i : Nat} {n c : Int} (e : σ[i]? = some (some (.int n))) : PtE σ (tPart (tOp (rI0 fun i j => V.int (i + j)) (tVar i) (tC (.int c)))) (some (n + c)) := fun H Q q => ⟨_, e, _, _, rfl, rfl, _, rfl, q⟩
theorem lx_sl {K : PySem.W.Frag} {σ : L2.St} {H0 : Hp} {i : Nat} {p : Addr} {L L' : List (List Nat)} {lo hi : L2.St → Hp → (Option Int → Hp → Prop) → Prop} {x y : Option Int} (e : σ[i]? = some (some (.ref p))) (h : H0 p = some (.lst (L.map SV))) (a : PtE σ lo x) (b : PtE σ hi y) (c : cutV (L.map SV) x y = L'.map SV) : LxE σ H0 (tSl (rSlL K) (tVar i) lo hi) L' := fun H Q s q =>
  ⟨_, e, a _ _ (b _ _ ⟨p, _, rfl, SqL.of (s _ _ h), fun p2 hp2 => by rw [c]; exact q p2 _ (same_upd hp2 _) upd_same⟩)⟩
theorem lx_lst2 {σ : L2.St} {H0 : Hp} {ta : TA} {ls : List (List Nat)} (a : TsE σ H0 ta ls) (l : ls.length ≤ 1000) : LxE σ H0 (tLst ta) ls := lx_lst a l
theorem lx_cat2 {σ : L2.St} {H0 : Hp} {ta tb : TE} {la lb : List (List Nat)} (a : LxE σ H0 ta la) (b : LxE σ H0 tb lb) (l : la.length + lb.length ≤ 1000000) : LxE σ H0 (tOp rCat ta tb) (la ++ lb) := fun H Q s q =>
  a H _ s fun p H1 s1 e1 => b H1 _ (s.trans s1) fun p2 H2 s2 e2 => ⟨p, p2, _, _, rfl, rfl, s2 _ _ e1, e2, by rw [List.length_map, List.length_map]; exact small8 l, fun p3 hp3 => q p3 _ ((s1.trans s2).trans (same_upd hp3 _)) (by rw [upd_same, List.map_append])⟩
theorem lx_catF2 {σ : L2.St} {H0 : Hp} {ta tb : TE} {la lb : List (List Nat)} (a : LxE σ H0 ta la) (b : LxE σ H0 tb lb) (l : la.length + lb.length ≤ 1000000) : LxF σ H0 (tOp rCat ta tb) (la ++ lb) := fun H Q s q =>
  a H _ s fun p H1 s1 e1 => b H1 _ (s.trans s1) fun p2 H2 s2 e2 => ⟨p, p2, _, _, rfl, rfl, s2 _ _ e1, e2, by rw [List.length_map, List.length_map]; exact small8 l, fun p3 hp3 => q p3 _ ((s1.trans s2).free hp3) ((s1.trans s2).trans (same_upd hp3 _)) (by rw [upd_same, List.map_append])⟩
theorem tx_ixL {K : PySem.W.Frag} {σ : L2.St} {H0 : Hp} {i j : Nat} {p : Addr} {L : List (List Nat)} {k : Nat} {t : List Nat} (e : σ[i]? = some (some (.ref p))) (e2 : σ[j]? = some (some (.int (k : Nat)))) (h : H0 p = some (.lst (L.map SV))) (g : L[k]? = some t) : TxE σ H0 (tOp (rIxL K) (tVar i) (tVar j)) t := fun H Q s q =>
  ⟨_, e, _, e2, p, _, _, _, rfl, rfl, SqL.of (s _ _ h), atI_nat (by rw [List.getElem?_map, g]; rfl), q H (.refl _)⟩
/-- signs, and the gaps between -/
def w1 (L : List (List Nat)) : Nat := (L.map fun t => t.length + 1).sum
def sm (L : List (List Nat)) : Nat := (L.map List.length).sum
theorem w1_app (a b : List (List Nat)) : w1 (a ++ b) = w1 a + w1 b := by simp [w1]
theorem sm_app (a b : List (List Nat)) : sm (a ++ b) = sm a + sm b := by simp [sm]
theorem w1_cons (a : List Nat) (b : List (List Nat)) : w1 (a :: b) = a.length + 1 + w1 b := by simp [w1]
theorem sm_cons (a : List Nat) (b : List (List Nat)) : sm (a :: b) = a.length + sm b := by simp [sm]
theorem w1_sm : ∀ {L : List (List Nat)}, (∀ t ∈ L, t ≠ []) → w1 L ≤ 2 * sm L
  | [], _ => Nat.le_refl _
  | t :: L, h => by
    have h1 := List.length_pos_iff.mpr (h t (List.mem_cons_self ..))
    have h2 := w1_sm fun x hx => h x (List.mem_cons_of_mem _ hx)
    rw [w1_cons, sm_cons]; omega
theorem gj_len2 (g : List Nat) : ∀ (L : List (List Nat)), g.length ≤ 1 → (gj g L).length ≤ w1 L
  | [], _ => by simp [gj, w1]
  | [a], _ => by simp [gj, w1]
  | a :: b :: r, h => by
    have ih := gj_len2 g (b :: r) h
    rw [w1_cons]
    simp only [gj, List.length_append] at ih ⊢
    omega
def ODD : List Str := ["(", ")", ",", ":", "=", "->", "0", "00", "100", "1a", "n", "Z", "thirteenchars", "-", "_", "falls", "#"]
theorem odd_ok : ∀ z ∈ ODD, (∀ c ∈ cs z, okr c) ∧ (cs z).length ≤ 13 := by decide +kernel
theorem OkR.app {a b : List (List Nat)} (h : ∀ t ∈ a, OkR t) (k : ∀ t ∈ b, OkR t) : ∀ t ∈ a ++ b, OkR t := fun t ht => (List.mem_append.mp ht).elim (h t) (k t)
theorem OkR.one {a : List Nat} (h : OkR a) : ∀ t ∈ [a], OkR t := fun t ht => by rw [List.mem_singleton.mp ht]; exact h
def spTurned : Sp := fun vs H Q _ => ∃ (d c p : Addr) (U : List (List Nat)), vs = [.ref d, .ref p] ∧ Dr H d c ∧ H p = some (.lst (U.map SV)) ∧ p ≠ d ∧ p ≠ c ∧ U.length ≤ 6000 ∧ (∀ t ∈ U, OkR t ∧ t ≠ []) ∧ ∀ p' U' H', H' p' = some (.lst (U'.map SV)) → (∀ t ∈ U', OkR t) → U'.length ≤ U.length + 1 → w1 U' ≤ 2 * sm U + 16 → Ex d c H H' → Dr H' d c → Q (.ref p') H'
theorem ok_law_turned (T : Txt K mg) (G_law_pick : FnOk P w K mg base CX0 2 T.a_law_pick T.d_law_pick ["state", "row"] (spPick K)) (G_law_draw : FnOk P w K mg base CX0 1 T.a_law_draw T.d_law_draw ["state", "many"] spDraw) : FnOk P w K mg base CX0 3 T.a_law_turned T.d_law_turned ["state", "row"] spTurned := by
  refine T.F_law_turned.ok sc_law_turned (fun vs H Q E h => ?_) (fun cdv A outer s H vs Q E hr h => ?_)
  · obtain ⟨d, c, p, U, rfl, _⟩ := h; rfl
  · obtain ⟨d, c, p, U, rfl, hD, hp, n1, n2, hl, hU, q⟩ := h
    have hr_law_pick := hr
    have hr_law_draw : Room 1 _ := hr.mono (by decide)
    refine ⟨_, (pss_cons (ps_if (pt_cmpR op_eq (pe_callB call_len_seq (by rfl) T.z_len (by decide +kernel) (pa_cons (pv 1) pa_nil)) pe_int (nomark _)) (pss_one (ps_ret (pv 1))) pss_nil)
    (pss_cons (ps_set (i := 2) sc_law_turned.nd rfl (Or.inl rfl) (pe_call G_law_draw hr_law_draw rfl T.m_law_draw T.F_law_draw.kp T.b_law_draw .nil pass0 (pa_cons (pv 0) (pa_cons (pe_callB call_len_seq (by rfl) T.z_len (by decide +kernel) (pa_cons (pv 1) pa_nil)) pa_nil))))
    (pss_cons (ps_set (i := 3) sc_law_turned.nd rfl (Or.inl rfl) (pe_call G_law_draw hr_law_draw rfl T.m_law_draw T.F_law_draw.kp T.b_law_draw .nil pass0 (pa_cons (pv 0) (pa_cons pe_int pa_nil))))
    (pss_cons (ps_set (i := 4) sc_law_turned.nd rfl (Or.inl rfl) (pe_lst (pa_cons pe_str (pa_cons pe_str (pa_cons pe_str (pa_cons pe_str (pa_cons pe_str (pa_cons pe_str (pa_cons pe_str (pa_cons pe_str (pa_cons pe_str (pa_cons pe_str (pa_cons pe_str (pa_cons pe_str (pa_cons pe_str (pa_cons pe_str (pa_cons pe_str (pa_cons pe_str (pa_cons pe_str pa_nil)))))))))))))))))))
    (pss_cons (ps_set (i := 5) sc_law_turned.nd rfl (Or.inl rfl) (pe_call G_law_pick hr_law_pick rfl T.m_law_pick T.F_law_pick.kp T.b_law_pick .nil pass0 (pa_cons (pv 0) (pa_cons (pv 4) pa_nil))))
    (pss_cons (ps_if (pt_cmpR op_eq (pv 3) pe_int (nomark _)) (pss_one (ps_ret (pe_op op_cat (pe_slice sl_list (pv 1) po_none (po_some (pv 2))) (pe_slice sl_list (pv 1) (po_some (pe_op op_add (pv 2) pe_int)) po_none)))) pss_nil)
    (pss_cons (ps_if (pt_cmpR op_eq (pv 3) pe_int (nomark _)) (pss_one (ps_ret (pe_op op_cat (pe_op op_cat (pe_slice sl_list (pv 1) po_none (po_some (pv 2))) (pe_lst (pa_cons (pv 5) pa_nil))) (pe_slice sl_list (pv 1) (po_some (pv 2)) po_none)))) pss_nil)
    (pss_cons (ps_if (pt_cmpR op_eq (pv 3) pe_int (nomark _)) (pss_one (ps_ret (pe_op op_cat (pe_op op_cat (pe_slice sl_list (pv 1) po_none (po_some (pv 2))) (pe_lst (pa_cons (pe_ix ix_list (pv 1) (pv 2) (fun _ _ => rfl)) pa_nil))) (pe_slice sl_list (pv 1) (po_some (pv 2)) po_none)))) pss_nil)
    (pss_cons (ps_if (pt_cmpR op_eq (pv 3) pe_int (nomark _)) (pss_one (ps_ret (pe_op op_cat (pe_op op_cat (pe_op op_cat (pe_slice sl_list (pv 1) po_none (po_some (pv 2))) (pe_slice sl_list (pv 1) (po_some (pe_op op_add (pv 2) pe_int)) (po_some (pe_op op_add (pv 2) pe_int)))) (pe_slice sl_list (pv 1) (po_some (pv 2)) (po_some (pe_op op_add (pv 2) pe_int)))) (pe_slice sl_list (pv 1) (po_some (pe_op op_add (pv 2) pe_int)) po_none)))) pss_nil)
    (pss_one (ps_ret (pe_op op_cat (pe_op op_cat (pe_slice sl_list (pv 1) po_none (po_some (pv 2))) (pe_lst (pa_cons (pv 5) pa_nil))) (pe_slice sl_list (pv 1) (po_some (pe_op op_add (pv 2) pe_int)) po_none))))))))))))), ?_⟩
    refine ⟨_, rfl, p, _, rfl, .inl (SqL.of hp), rfl, _, rfl, ?_⟩
    rw [dec_int]
    by_cases hU0 : U = []
    · subst hU0
      exact iteT ⟨_, rfl, q p [] H hp (fun t h => by cases h) (Nat.zero_le _) (by simp [w1, sm]) (.refl ..) hD⟩
    have hUl := List.length_pos_iff.mpr hU0
    rw [show ((((U.map SV).length : Nat) : Int) == 0) = false by rw [beq_eq_false_iff_ne, List.length_map]; omega]
    refine iteF ⟨_, rfl, _, rfl, p, _, rfl, .inl (SqL.of hp), d, c, _, rfl, hD, by rw [List.length_map]; omega, by rw [List.length_map]; omega, fun r H1 r0 r1 x1 D1 => ?_⟩
    rw [List.length_map] at r1
    obtain ⟨k, rfl⟩ : ∃ k : Nat, r = (k : Int) := ⟨r.toNat, by omega⟩
    have hk : k < U.length := by omega
    refine go_nm (nx_of ?_)
    refine ⟨_, rfl, d, c, 5, rfl, D1, by decide, by decide, fun kd H2 k0 k1 x2 D2 => ?_⟩
    refine go_nm (nx_of ?_)
    refine ⟨(by show 17 ≤ sizeLine; decide), fun po hpo => ?_⟩
    refine go_nm (nx_of ?_)
    have s3 := same_upd hpo (.lst (ODD.map V.str))
    have eo : (upd H2 po (.lst (ODD.map V.str))) po = some (.lst (ODD.map V.str)) := upd_same
    obtain ⟨f1, f2⟩ := D2.free hpo
    have D3 := D2.same s3
    have x3 := (x1.trans x2).trans (.of s3)
    have ho : (upd H2 po (.lst [V.str "(", V.str ")", V.str ",", V.str ":", V.str "=", V.str "->", V.str "0", V.str "00", V.str "100", V.str "1a", V.str "n", V.str "Z", V.str "thirteenchars", V.str "-", V.str "_", V.str "falls", V.str "#"])) = (upd H2 po (.lst (ODD.map V.str))) := rfl
    rw [ho]
    generalize upd H2 po (.lst (ODD.map V.str)) = H3 at eo D3 x3 s3 ⊢
    refine ⟨_, rfl, _, rfl, d, c, po, _, rfl, D3, .inl eo, f1, f2, (by decide), (by decide), fun x H4 hx x4 D4 => ?_⟩
    obtain ⟨z, hz, rfl⟩ := List.mem_map.mp hx
    obtain ⟨oz, lz⟩ := odd_ok z hz
    refine go_nm (nx_of ?_)
    have x04 := x3.trans x4
    have e4 := x04.but _ _ n1 n2 hp
    have hz2 : OkR (cs z) := oz
    obtain ⟨t, ht⟩ : ∃ t, U[k]? = some t := ⟨_, List.getElem?_eq_getElem hk⟩
    have hsp : U = U.take k ++ t :: U.drop (k + 1) := by
      conv => lhs; rw [← List.take_append_drop k U]
      rw [List.drop_eq_getElem_cons hk]
      rw [List.getElem?_eq_getElem hk] at ht
      rw [Option.some.inj ht]
    have oA : ∀ x ∈ U.take k, OkR x := fun x hx => (hU x (List.mem_of_mem_take hx)).1
    have oB : ∀ x ∈ U.drop (k + 1), OkR x := fun x hx => (hU x (List.mem_of_mem_drop hx)).1
    have wA := w1_sm fun x hx => (hU x (List.mem_of_mem_take (i := k) hx)).2
    have wB := w1_sm fun x hx => (hU x (List.mem_of_mem_drop (i := k + 1) hx)).2
    have ot := hU t (List.mem_of_getElem? ht)
    have lt := List.length_pos_iff.mpr ot.2
    have lA : (U.take k).length = k := by rw [List.length_take]; omega
    have lB : (U.drop (k + 1)).length = U.length - (k + 1) := List.length_drop ..
    have hsm : sm U = sm (U.take k) + (t.length + sm (U.drop (k + 1))) := by
      conv => lhs; rw [hsp]
      rw [sm_app, sm_cons]
    have dk : U.drop k = t :: U.drop (k + 1) := by
      have : (U.take k).length = k := lA
      conv => lhs; rw [hsp]
      rw [List.drop_left' this]
    have fin : ∀ {p' : Addr} {U' : List (List Nat)} {H' : Hp}, Same H4 H' → H' p' = some (.lst (U'.map SV)) → (∀ t ∈ U', OkR t) → U'.length ≤ U.length + 1 → w1 U' ≤ 2 * sm U + 16 → Q (.ref p') H' := fun {p' U' H'} s' e' h1 h2 h3 => q p' U' H' e' h1 h2 h3 (x04.trans (.of s')) (D4.same s')
    have cA : cutV (U.map SV) none (some (k : Int)) = (U.take k).map SV := cut_pre U k
    have cB : cutV (U.map SV) (some ((k : Int) + 1)) none = (U.drop (k + 1)).map SV := cut_suf U (k + 1)
    have cM : cutV (U.map SV) (some (k : Int)) (some ((k : Int) + 1)) = [t].map SV := by rw [cutL_mid, dk]; rfl
    have cN : cutV (U.map SV) (some ((k : Int) + 1)) (some ((k : Int) + 2)) = ((U.drop (k + 1)).take 1).map SV := cutL_mid U (k + 1)
    have cZ : cutV (U.map SV) (some ((k : Int) + 2)) none = ((U.drop (k + 1)).drop 1).map SV := by rw [List.drop_drop]; exact cut_suf U (k + 2)
    have cK : cutV (U.map SV) (some (k : Int)) none = (t :: U.drop (k + 1)).map SV := by rw [cut_suf, dk]
    refine ⟨_, rfl, rfl, _, rfl, ?_⟩
    rw [dec_int]
    cases (kd == 0)
    case true =>
      refine iteT ?_
      refine lx_catF2 (lx_sl rfl e4 pt_no (pt_var rfl) cA) (lx_sl rfl e4 (pt_add rfl) pt_no cB) (by omega) H4 _ (.refl _) fun p' H' _ s' e' => fin s' e' (OkR.app oA oB) (by rw [List.length_append]; omega) (by rw [w1_app]; omega)
    refine iteF ⟨_, rfl, rfl, _, rfl, ?_⟩
    rw [dec_int]
    cases (kd == 1)
    case true =>
      refine iteT ?_
      refine lx_catF2 (lx_cat2 (lx_sl rfl e4 pt_no (pt_var rfl) cA) (lx_lst (ts_cons (tx_varS rfl) ts_nil) (by simp)) (by simp; omega)) (lx_sl rfl e4 (pt_var rfl) pt_no cK) (by simp; omega) H4 _ (.refl _) fun p' H' _ s' e' => fin s' e' (OkR.app (OkR.app oA hz2.one) (OkR.app (a := [t]) ot.1.one oB)) (by simp; omega) (by rw [w1_app, w1_app, w1_cons, w1_cons]; simp only [w1, List.map_nil, List.sum_nil] at *; omega)
    refine iteF ⟨_, rfl, rfl, _, rfl, ?_⟩
    rw [dec_int]
    cases (kd == 2)
    case true =>
      refine iteT ?_
      refine lx_catF2 (lx_cat2 (lx_sl rfl e4 pt_no (pt_var rfl) cA) (lx_lst (ts_cons (tx_ixL rfl rfl e4 ht) ts_nil) (by simp)) (by simp; omega)) (lx_sl rfl e4 (pt_var rfl) pt_no cK) (by simp; omega) H4 _ (.refl _) fun p' H' _ s' e' => fin s' e' (OkR.app (OkR.app oA ot.1.one) (OkR.app (a := [t]) ot.1.one oB)) (by simp; omega) (by rw [w1_app, w1_app, w1_cons, w1_cons]; simp only [w1, List.map_nil, List.sum_nil] at *; omega)
    refine iteF ⟨_, rfl, rfl, _, rfl, ?_⟩
    rw [dec_int]
    cases (kd == 3)
    case true =>
      refine iteT ?_
      have wNZ : w1 ((U.drop (k + 1)).take 1) + w1 ((U.drop (k + 1)).drop 1) = w1 (U.drop (k + 1)) := by rw [← w1_app, List.take_append_drop]
      have lNZ : ((U.drop (k + 1)).take 1).length + ((U.drop (k + 1)).drop 1).length = (U.drop (k + 1)).length := by rw [← List.length_append, List.take_append_drop]
      have oN : ∀ x ∈ (U.drop (k + 1)).take 1, OkR x := fun x hx => oB x (List.mem_of_mem_take hx)
      have oZ : ∀ x ∈ (U.drop (k + 1)).drop 1, OkR x := fun x hx => oB x (List.mem_of_mem_drop hx)
      refine lx_catF2 (lx_cat2 (lx_cat2 (lx_sl rfl e4 pt_no (pt_var rfl) cA) (lx_sl rfl e4 (pt_add rfl) (pt_add rfl) cN) (by omega)) (lx_sl rfl e4 (pt_var rfl) (pt_add rfl) cM) (by rw [List.length_append, List.length_singleton]; omega)) (lx_sl rfl e4 (pt_add rfl) pt_no cZ) (by rw [List.length_append, List.length_append, List.length_singleton]; omega) H4 _ (.refl _) fun p' H' _ s' e' => fin s' e' (OkR.app (OkR.app (OkR.app oA oN) ot.1.one) oZ) (by rw [List.length_append, List.length_append, List.length_append, List.length_singleton]; omega) (by rw [w1_app, w1_app, w1_app, w1_cons]; simp only [w1, List.map_nil, List.sum_nil] at *; omega)
    refine iteF ?_
    refine lx_catF2 (lx_cat2 (lx_sl rfl e4 pt_no (pt_var rfl) cA) (lx_lst (ts_cons (tx_varS rfl) ts_nil) (by simp)) (by simp; omega)) (lx_sl rfl e4 (pt_add rfl) pt_no cB) (by simp; omega) H4 _ (.refl _) fun p' H' _ s' e' => fin s' e' (OkR.app (OkR.app oA hz2.one) oB) (by simp; omega) (by rw [w1_app, w1_app, w1_cons]; simp only [w1, List.map_nil, List.sum_nil] at *; omega)
end
end Kx
namespace Kx
open PySem PySem.Spec PyProof.Rows L2
section
variable {P : Program} {w : World} {K : PySem.W.Frag} {mg : Str → Option Value} {base : Heap}
set_option pp.maxSteps 3000
theorem lx_rep {σ : L2.St} {H0 : Hp} {te : TE} {L : List (List Nat)} {n : Nat} (h : LxE σ H0 te L) (l : L.length * n ≤ 1000) (ln : n ≤ 1000) : LxE σ H0 (tOp rRep te (tC (.int (n : Nat)))) (List.replicate n L).flatten := fun H Q s q =>
  h H _ s fun p H1 s1 e1 => ⟨p, _, _, rfl, rfl, e1, by omega, by omega, by rw [List.length_map, Int.toNat_natCast]; exact small8 (by omega), fun p2 hp2 => q p2 _ (s1.trans (same_upd hp2 _)) (by rw [upd_same, Int.toNat_natCast, List.map_flatten, List.map_replicate])⟩
def GdL (L : List (List Nat)) : Prop := (∀ t ∈ L, OkR t ∧ t.length ≤ 400)
theorem gdl_nil : GdL [] := fun t h => by cases h
theorem gdl_cons {a : List Nat} {L : List (List Nat)} (h : OkR a) (l : a.length ≤ 400) (k : GdL L) : GdL (a :: L) := fun t ht => by
  rcases List.mem_cons.mp ht with rfl | ht
  · exact ⟨h, l⟩
  · exact k t ht
theorem gdl_app {a b : List (List Nat)} (h : GdL a) (k : GdL b) : GdL (a ++ b) := fun t ht => (List.mem_append.mp ht).elim (h t) (k t)
theorem gdl_rep {a : List (List Nat)} {n : Nat} (h : GdL a) : GdL (List.replicate n a).flatten := fun t ht => by
  obtain ⟨l, hl, ht⟩ := List.mem_flatten.mp ht
  rw [(List.mem_replicate.mp hl).2] at ht
  exact h t ht
theorem OkR.cat {a b : List Nat} (h : OkR a) (k : OkR b) : OkR (a ++ b) := fun c hc => (List.mem_append.mp hc).elim (h c) (k c)
theorem rep_len (n : Nat) (a : List Nat) : (List.replicate n [a]).flatten.length = n := by simp
def spDeep : Sp := fun vs H Q _ => ∃ (d c : Addr) (z : List Nat), vs = [.ref d, SV z] ∧ Dr H d c ∧ OkR z ∧ z.length ≤ 200 ∧ ∀ (p' : Addr) (U' : List (List Nat)) (H' : Hp), H' p' = some (.lst (U'.map SV)) → (∀ t ∈ U', OkR t ∧ t.length ≤ 400) → U'.length ≤ 20 → Ex d c H H' → Dr H' d c → Q (.ref p') H'
theorem ok_law_deep (T : Txt K mg) (G_law_draw : FnOk P w K mg base CX0 1 T.a_law_draw T.d_law_draw ["state", "many"] spDraw) : FnOk P w K mg base CX0 2 T.a_law_deep T.d_law_deep ["state", "term"] spDeep := by
  refine T.F_law_deep.ok sc_law_deep (fun vs H Q E h => ?_) (fun cdv A outer s H vs Q E hr h => ?_)
  · obtain ⟨d, c, z, rfl, _⟩ := h; rfl
  · obtain ⟨d, c, z, rfl, hD, hz, hl, q⟩ := h
    have hr_law_draw := hr
    refine ⟨_, (pss_cons (ps_set (i := 2) sc_law_deep.nd rfl (Or.inl rfl) pe_str)
    (pss_cons (ps_set (i := 3) sc_law_deep.nd rfl (Or.inl rfl) (pe_call G_law_draw hr_law_draw rfl T.m_law_draw T.F_law_draw.kp T.b_law_draw .nil pass0 (pa_cons (pv 0) (pa_cons pe_int pa_nil))))
    (pss_cons (ps_if (pt_cmpR op_eq (pv 3) pe_int (nomark _)) (pss_one (ps_ret (pe_lst (pa_cons pe_str pa_nil)))) pss_nil)
    (pss_cons (ps_if (pt_cmpR op_eq (pv 3) pe_int (nomark _)) (pss_one (ps_ret (pe_op op_rep (pe_lst (pa_cons pe_str pa_nil)) pe_int))) pss_nil)
    (pss_cons (ps_if (pt_cmpR op_eq (pv 3) pe_int (nomark _)) (pss_one (ps_ret (pe_op op_rep (pe_lst (pa_cons (pv 2) pa_nil)) pe_int))) pss_nil)
    (pss_cons (ps_if (pt_cmpR op_eq (pv 3) pe_int (nomark _)) (pss_one (ps_ret (pe_op op_cat (pe_lst (pa_cons (pv 2) pa_nil)) (pe_op op_rep (pe_lst (pa_cons pe_str pa_nil)) pe_int)))) pss_nil)
    (pss_cons (ps_if (pt_cmpR op_eq (pv 3) pe_int (nomark _)) (pss_one (ps_ret (pe_lst (pa_cons (pe_op op_add_str (pe_op op_add_str pe_str (pv 1)) pe_str) pa_nil)))) pss_nil)
    (pss_cons (ps_if (pt_cmpR op_eq (pv 3) pe_int (nomark _)) (pss_one (ps_ret (pe_lst (pa_cons (pe_op op_add_str (pe_op op_add_str pe_str (pv 1)) pe_str) pa_nil)))) pss_nil)
    (pss_cons (ps_if (pt_cmpR op_eq (pv 3) pe_int (nomark _)) (pss_one (ps_ret (pe_lst (pa_cons (pe_op op_add_str (pe_op op_add_str pe_str (pv 1)) pe_str) pa_nil)))) pss_nil)
    (pss_cons (ps_if (pt_cmpR op_eq (pv 3) pe_int (nomark _)) (pss_one (ps_ret (pe_lst (pa_cons (pe_op op_add_str (pe_op op_add_str pe_str (pv 1)) pe_str) pa_nil)))) pss_nil)
    (pss_cons (ps_if (pt_cmpR op_eq (pv 3) pe_int (nomark _)) (pss_one (ps_ret (pe_lst (pa_cons (pv 2) (pa_cons (pe_op op_add_str (pe_op op_add_str pe_str (pv 1)) pe_str) pa_nil))))) pss_nil)
    (pss_one (ps_ret (pe_lst (pa_cons (pv 2) (pa_cons (pe_op op_add_str pe_str (pv 1)) pa_nil)))))))))))))))), ?_⟩
    refine go_nm (nx_of ?_)
    refine ⟨_, rfl, d, c, 11, rfl, hD, by decide, by decide, fun kd H2 k0 k1 x2 D2 => ?_⟩
    refine go_nm (nx_of ?_)
    have fin : ∀ {p' : Addr} {U' : List (List Nat)} {H' : Hp}, Same H2 H' → H' p' = some (.lst (U'.map SV)) → (∀ t ∈ U', OkR t ∧ t.length ≤ 400) → U'.length ≤ 20 → Q (.ref p') H' := fun {p' U' H'} s' e' h1 h2 => q p' U' H' e' h1 h2 (x2.trans (.of s')) (D2.same s')
    have okl : ∀ z : Str, z ∈ ([ "fun deep falls 0 : F3(m) -> F3(m)", "con Deep : F3(m), F3(n), F3(m), F3(m) -> F3(m)", "con Deep : -> F3(m)", "deep(m) = m", "con Deep : -> F3(", ")", "con Deep : F3(m), F3(", ") -> F3(m)", "fun deep falls 0 : F3(", "fun deep falls 0 : F3(m) -> F3(", "deep(", ") = m", "deep(m) = "] : List Str) → (∀ c ∈ cs z, okr c) ∧ (cs z).length ≤ 60 := by decide +kernel
    refine ⟨_, rfl, rfl, _, rfl, ?_⟩
    rw [dec_int]
    cases (kd == 6)
    case true =>
      refine iteT ?_
      exact (lx_lst (ls := [cs "con Deep : F3(m), F3(n), F3(m), F3(m) -> F3(m)"]) (ts_cons tx_lit ts_nil) (by simp)) H2 _ (.refl _) fun p' H' s' e' => fin s' e' (gdl_cons (okl "con Deep : F3(m), F3(n), F3(m), F3(m) -> F3(m)" (by decide)).1 (by have := (okl "con Deep : F3(m), F3(n), F3(m), F3(m) -> F3(m)" (by decide)).2; omega) gdl_nil) (by simp)
    refine iteF ?_
    refine ⟨_, rfl, rfl, _, rfl, ?_⟩
    rw [dec_int]
    cases (kd == 7)
    case true =>
      refine iteT ?_
      exact (lx_rep (n := 17) (lx_lst (ls := [cs "con Deep : -> F3(m)"]) (ts_cons tx_lit ts_nil) (by simp)) (by simp) (by decide)) H2 _ (.refl _) fun p' H' s' e' => fin s' e' (gdl_rep (gdl_cons (okl "con Deep : -> F3(m)" (by decide)).1 (by have := (okl "con Deep : -> F3(m)" (by decide)).2; omega) gdl_nil)) (by rw [rep_len]; decide)
    refine iteF ?_
    refine ⟨_, rfl, rfl, _, rfl, ?_⟩
    rw [dec_int]
    cases (kd == 8)
    case true =>
      refine iteT ?_
      exact (lx_rep (n := 13) (lx_lst (ls := [cs "fun deep falls 0 : F3(m) -> F3(m)"]) (ts_cons (tx_varS rfl) ts_nil) (by simp)) (by simp) (by decide)) H2 _ (.refl _) fun p' H' s' e' => fin s' e' (gdl_rep (gdl_cons (okl "fun deep falls 0 : F3(m) -> F3(m)" (by decide)).1 (by have := (okl "fun deep falls 0 : F3(m) -> F3(m)" (by decide)).2; omega) gdl_nil)) (by rw [rep_len]; decide)
    refine iteF ?_
    refine ⟨_, rfl, rfl, _, rfl, ?_⟩
    rw [dec_int]
    cases (kd == 9)
    case true =>
      refine iteT ?_
      exact (lx_cat2 (lx_lst (ls := [cs "fun deep falls 0 : F3(m) -> F3(m)"]) (ts_cons (tx_varS rfl) ts_nil) (by simp)) (lx_rep (n := 13) (lx_lst (ls := [cs "deep(m) = m"]) (ts_cons tx_lit ts_nil) (by simp)) (by simp) (by decide)) (by rw [rep_len]; decide)) H2 _ (.refl _) fun p' H' s' e' => fin s' e' (gdl_app (gdl_cons (okl "fun deep falls 0 : F3(m) -> F3(m)" (by decide)).1 (by have := (okl "fun deep falls 0 : F3(m) -> F3(m)" (by decide)).2; omega) gdl_nil) (gdl_rep (gdl_cons (okl "deep(m) = m" (by decide)).1 (by have := (okl "deep(m) = m" (by decide)).2; omega) gdl_nil))) (by rw [List.length_append, rep_len]; decide)
    refine iteF ?_
    refine ⟨_, rfl, rfl, _, rfl, ?_⟩
    rw [dec_int]
    cases (kd == 0)
    case true =>
      refine iteT ?_
      exact (lx_lst (ts_cons (tx_add (tx_add tx_lit (tx_var rfl) (by have := (okl "con Deep : -> F3(" (by decide)).2; omega)) tx_lit (by have := (okl "con Deep : -> F3(" (by decide)).2; have := (okl ")" (by decide)).2; rw [List.length_append]; omega)) ts_nil) (by simp)) H2 _ (.refl _) fun p' H' s' e' => fin s' e' (gdl_cons (OkR.cat (OkR.cat (okl "con Deep : -> F3(" (by decide)).1 hz) (okl ")" (by decide)).1) (by have := (okl "con Deep : -> F3(" (by decide)).2; have := (okl ")" (by decide)).2; rw [List.length_append, List.length_append]; omega) gdl_nil) (by simp)
    refine iteF ?_
    refine ⟨_, rfl, rfl, _, rfl, ?_⟩
    rw [dec_int]
    cases (kd == 1)
    case true =>
      refine iteT ?_
      exact (lx_lst (ts_cons (tx_add (tx_add tx_lit (tx_var rfl) (by have := (okl "con Deep : F3(m), F3(" (by decide)).2; omega)) tx_lit (by have := (okl "con Deep : F3(m), F3(" (by decide)).2; have := (okl ") -> F3(m)" (by decide)).2; rw [List.length_append]; omega)) ts_nil) (by simp)) H2 _ (.refl _) fun p' H' s' e' => fin s' e' (gdl_cons (OkR.cat (OkR.cat (okl "con Deep : F3(m), F3(" (by decide)).1 hz) (okl ") -> F3(m)" (by decide)).1) (by have := (okl "con Deep : F3(m), F3(" (by decide)).2; have := (okl ") -> F3(m)" (by decide)).2; rw [List.length_append, List.length_append]; omega) gdl_nil) (by simp)
    refine iteF ?_
    refine ⟨_, rfl, rfl, _, rfl, ?_⟩
    rw [dec_int]
    cases (kd == 2)
    case true =>
      refine iteT ?_
      exact (lx_lst (ts_cons (tx_add (tx_add tx_lit (tx_var rfl) (by have := (okl "fun deep falls 0 : F3(" (by decide)).2; omega)) tx_lit (by have := (okl "fun deep falls 0 : F3(" (by decide)).2; have := (okl ") -> F3(m)" (by decide)).2; rw [List.length_append]; omega)) ts_nil) (by simp)) H2 _ (.refl _) fun p' H' s' e' => fin s' e' (gdl_cons (OkR.cat (OkR.cat (okl "fun deep falls 0 : F3(" (by decide)).1 hz) (okl ") -> F3(m)" (by decide)).1) (by have := (okl "fun deep falls 0 : F3(" (by decide)).2; have := (okl ") -> F3(m)" (by decide)).2; rw [List.length_append, List.length_append]; omega) gdl_nil) (by simp)
    refine iteF ?_
    refine ⟨_, rfl, rfl, _, rfl, ?_⟩
    rw [dec_int]
    cases (kd == 3)
    case true =>
      refine iteT ?_
      exact (lx_lst (ts_cons (tx_add (tx_add tx_lit (tx_var rfl) (by have := (okl "fun deep falls 0 : F3(m) -> F3(" (by decide)).2; omega)) tx_lit (by have := (okl "fun deep falls 0 : F3(m) -> F3(" (by decide)).2; have := (okl ")" (by decide)).2; rw [List.length_append]; omega)) ts_nil) (by simp)) H2 _ (.refl _) fun p' H' s' e' => fin s' e' (gdl_cons (OkR.cat (OkR.cat (okl "fun deep falls 0 : F3(m) -> F3(" (by decide)).1 hz) (okl ")" (by decide)).1) (by have := (okl "fun deep falls 0 : F3(m) -> F3(" (by decide)).2; have := (okl ")" (by decide)).2; rw [List.length_append, List.length_append]; omega) gdl_nil) (by simp)
    refine iteF ?_
    refine ⟨_, rfl, rfl, _, rfl, ?_⟩
    rw [dec_int]
    cases (kd == 4)
    case true =>
      refine iteT ?_
      exact (lx_lst (ls := cs "fun deep falls 0 : F3(m) -> F3(m)" :: _) (ts_cons (tx_varS rfl) (ts_cons (tx_add (tx_add tx_lit (tx_var rfl) (by have := (okl "deep(" (by decide)).2; omega)) tx_lit (by have := (okl "deep(" (by decide)).2; have := (okl ") = m" (by decide)).2; rw [List.length_append]; omega)) ts_nil)) (by simp)) H2 _ (.refl _) fun p' H' s' e' => fin s' e' (gdl_cons (okl "fun deep falls 0 : F3(m) -> F3(m)" (by decide)).1 (by have := (okl "fun deep falls 0 : F3(m) -> F3(m)" (by decide)).2; omega) (gdl_cons (OkR.cat (OkR.cat (okl "deep(" (by decide)).1 hz) (okl ") = m" (by decide)).1) (by have := (okl "deep(" (by decide)).2; have := (okl ") = m" (by decide)).2; rw [List.length_append, List.length_append]; omega) gdl_nil)) (by simp)
    refine iteF ?_
    exact (lx_lst (ls := cs "fun deep falls 0 : F3(m) -> F3(m)" :: _) (ts_cons (tx_varS rfl) (ts_cons (tx_add tx_lit (tx_var rfl) (by have := (okl "deep(m) = " (by decide)).2; omega)) ts_nil)) (by simp)) H2 _ (.refl _) fun p' H' s' e' => fin s' e' (gdl_cons (okl "fun deep falls 0 : F3(m) -> F3(m)" (by decide)).1 (by have := (okl "fun deep falls 0 : F3(m) -> F3(m)" (by decide)).2; omega) (gdl_cons (OkR.cat (okl "deep(m) = " (by decide)).1 hz) (by have := (okl "deep(m) = " (by decide)).2; rw [List.length_append]; omega) gdl_nil)) (by simp)
end
end Kx
namespace Kx
open PySem PySem.Spec PyProof.Rows L2
section
variable {P : Program} {w : World} {K : PySem.W.Frag} {mg : Str → Option Value} {base : Heap}
set_option pp.maxSteps 400
def Bnd : Nat → Nat
  | 0 => 760
  | 1 => 1600
  | 2 => 3300
  | _ => 6700
theorem bnd_le (i : Nat) (h : i < 3) : 2 * Bnd i + 16 ≤ Bnd (i + 1) ∧ Bnd i ≤ 3300 ∧ Bnd i ≤ Bnd (i + 1) ∧ 400 ≤ Bnd (i + 1) ∧ 760 ≤ Bnd i := by
  match i, h with
  | 0, _ => decide
  | 1, _ => decide
  | 2, _ => decide
theorem cutS_pre (x : List Nat) {a : Nat} (h : a ≤ x.length) : cutS (mkS x) none (some (a : Int)) = mkS (x.take a) := by
  unfold cutS
  rw [HT.sIx_nat, HT.sIx_none, mk_len, Nat.min_eq_left h]
  simp [mkS]
theorem cutS_suf (x : List Nat) (a : Nat) : cutS (mkS x) (some (a : Int)) none = mkS (x.drop a) := by
  unfold cutS
  rw [HT.sIx_nat, HT.sIx_none, mk_len]
  rcases Nat.le_total a x.length with h | h
  · rw [Nat.min_eq_left h]
    have : (x.drop a).take (x.length - a) = x.drop a := List.take_of_length_le (by rw [List.length_drop]; exact Nat.le_refl _)
    show (⟨((cs (mkS x)).drop a |>.take (x.length - a)).toArray⟩ : Str) = _
    rw [cs_mk, this]; rfl
  · rw [Nat.min_eq_right h, List.drop_eq_nil_of_le h]
    show (⟨((cs (mkS x)).drop x.length |>.take (x.length - x.length)).toArray⟩ : Str) = _
    simp [mkS]
theorem w1_set (k : Nat) (y : List Nat) : ∀ (L : List (List Nat)), w1 (L.set k y) ≤ w1 L + y.length + 1 := by
  induction k with
  | zero => intro L; cases L with
    | nil => simp [w1]
    | cons a r => rw [List.set_cons_zero, w1_cons, w1_cons]; omega
  | succ k ih => intro L; cases L with
    | nil => simp [w1]
    | cons a r => rw [List.set_cons_succ, w1_cons, w1_cons]; have := ih r; omega
theorem sgn_of {z : Str} {x : V} (h : ∀ c ∈ z.cps.toList, okr c) (hx : x ∈ chV z) : ∃ ch, x = .str ⟨#[ch]⟩ ∧ okr ch := by
  obtain ⟨ch, hch, e⟩ := List.mem_map.mp hx
  exact ⟨ch, e.symm, h ch hch⟩
theorem mor_ok : ∀ z ∈ (["", " ", "(", "#", "~", "9"] : List Str), (∀ c ∈ cs z, okr c) ∧ (cs z).length ≤ 1 := by decide +kernel
theorem join_mk (g : Str) (ls : List (List Nat)) : Txt.join g (ls.map mkS) = mkS (gj (cs g) ls) := cs_inj (by
  rw [cs_join, cs_mk, List.map_map]
  congr 1
  rw [show (cs ∘ mkS) = id from funext fun x => cs_mk x, List.map_id])
theorem gj_ok {g : List Nat} (hg : OkR g) : ∀ {L : List (List Nat)}, (∀ t ∈ L, OkR t) → OkR (gj g L)
  | [], _ => fun c hc => by cases hc
  | [a], h => h a (by simp)
  | a :: b :: r, h => by
    simp only [gj]
    exact OkR.cat (h a (by simp)) (OkR.cat hg (gj_ok hg fun t ht => h t (List.mem_cons_of_mem _ ht)))
theorem sm_tok : ∀ (n : Nat) (x : List Nat), x.length ≤ n → sm (tok x) ≤ x.length
  | 0, [], _ => Nat.le_refl _
  | 0, c :: l, h => by simp at h
  | n + 1, [], _ => Nat.le_refl _
  | n + 1, c :: l, h => by
    have hp := tlen_pos (c :: l)
    rw [tok_cons, sm_app]
    have ih := sm_tok n ((c :: l).drop (tlen (c :: l))) (by rw [List.length_drop]; simp only [List.length_cons] at h ⊢; omega)
    rw [List.length_drop] at ih
    split
    · have : sm [] = 0 := rfl
      rw [this]; omega
    · rw [sm_cons, List.length_take]
      have : sm [] = 0 := rfl
      rw [this]; omega
theorem sm_toks (r : List Nat) : sm (toks r) ≤ r.length := by
  have h1 := sm_tok _ (hd35 r) (Nat.le_refl _)
  have h2 := congrArg List.length (hd_tl r)
  rw [List.length_append] at h2
  unfold toks
  omega
theorem sum_w1 (L : List (List Nat)) : ((L.map mkS).map (·.length)).sum + (L.map mkS).length ≤ w1 L := by
  induction L with
  | nil => simp [w1]
  | cons a L ih =>
    rw [w1_cons]
    simp only [List.map_cons, List.sum_cons, List.length_cons, mk_len] at ih ⊢
    omega
theorem tx_mulT {σ : L2.St} {H0 : Hp} {z : Str} {j n : Nat} (e : σ[j]? = some (some (.int (n : Nat)))) (ne : cs z ≠ []) (hn : n ≤ 10000) (hl : n * (cs z).length ≤ 10000) : TxE σ H0 (tOp rMulT (tC (.str z)) (tVar j)) (repL n (cs z)) := fun H Q s q =>
  ⟨_, e, cs z, n, by unfold SV; rw [mk_cs], rfl, ne, hn, hl, q H (.refl _)⟩
theorem rep_ok {n : Nat} {l : List Nat} (h : OkR l) : OkR (repL n l) := fun c hc => by
  unfold repL at hc
  obtain ⟨x, hx, hc⟩ := List.mem_flatten.mp hc
  rw [(List.mem_replicate.mp hx).2] at hc
  exact h c hc
theorem nlit_ok : OkR (cs "n(") ∧ OkR (cs "m") ∧ OkR (cs ")") ∧ OkR (cs " ") := by unfold OkR; decide +kernel
theorem w1_len (L : List (List Nat)) {B : Nat} (h : ∀ t ∈ L, t.length ≤ B) : w1 L ≤ L.length * (B + 1) := by
  induction L with
  | nil => simp [w1]
  | cons a L ih =>
    have h1 := h a (by simp)
    have h2 := ih fun t ht => h t (List.mem_cons_of_mem _ ht)
    rw [w1_cons, List.length_cons, Nat.add_mul]
    omega
def spSpoilt : Sp := fun vs H Q _ => ∃ (d c p : Addr) (L : List (List Nat)), vs = [.ref d, .ref p] ∧ Dr H d c ∧ H p = some (.lst (L.map SV)) ∧ p ≠ d ∧ p ≠ c ∧ (∀ t ∈ L, OkR t ∧ t.length ≤ 760) ∧ w1 L ≤ 6000 ∧ ∀ (p' : Addr) (L' : List (List Nat)) (H' : Hp), H' p' = some (.lst (L'.map SV)) → (∀ t ∈ L', OkR t) → w1 L' ≤ 100000 → Dr H' d c → Q (.ref p') H'
theorem ok_law_spoilt (T : Txt K mg) (G_law_turned : FnOk P w K mg base CX0 3 T.a_law_turned T.d_law_turned ["state", "row"] spTurned) (G_law_tokens : FnOk P w K mg base CX0 2 T.a_law_tokens T.d_law_tokens ["line"] spJTok) (G_law_deep : FnOk P w K mg base CX0 2 T.a_law_deep T.d_law_deep ["state", "term"] spDeep) (G_law_pick : FnOk P w K mg base CX0 2 T.a_law_pick T.d_law_pick ["state", "row"] (spPick K)) (G_law_draw : FnOk P w K mg base CX0 1 T.a_law_draw T.d_law_draw ["state", "many"] spDraw) : FnOk P w K mg base CX0 4 T.a_law_spoilt T.d_law_spoilt ["state", "lines"] spSpoilt := by
  refine T.F_law_spoilt.ok sc_law_spoilt (fun vs H Q E h => ?_) (fun cdv A outer s H vs Q E hr h => ?_)
  · obtain ⟨d, c, p, L, rfl, _⟩ := h; rfl
  · obtain ⟨d, c, p, L, rfl, hD, hp, n1, n2, hL, hw, q⟩ := h
    have hr_law_turned := hr
    have hr_law_tokens : Room 2 _ := hr.mono (by decide)
    have hr_law_deep : Room 2 _ := hr.mono (by decide)
    have hr_law_pick : Room 2 _ := hr.mono (by decide)
    have hr_law_draw : Room 1 _ := hr.mono (by decide)
    refine ⟨_, (pss_cons (ps_for PassesOwn.never rfl (pi_range1 (by rfl) T.z_range (pa_cons (pe_op op_mul (pe_call G_law_draw hr_law_draw rfl T.m_law_draw T.F_law_draw.kp T.b_law_draw .nil pass0 (pa_cons (pv 0) (pa_cons pe_int pa_nil))) (pe_callTy call_int1 (by rfl) T.z_int (by decide +kernel) (pa_cons (pe_cmpR op_gt (pe_call G_law_draw hr_law_draw rfl T.m_law_draw T.F_law_draw.kp T.b_law_draw .nil pass0 (pa_cons (pv 0) (pa_cons pe_int pa_nil))) pe_int (nomark _)) pa_nil))) pa_nil)) (pg_name (i := 2) sc_law_spoilt.nd rfl (Or.inl rfl))
    (pss_one (ps_if (pt_cmpR op_gt (pe_callB call_len_seq (by rfl) T.z_len (by decide +kernel) (pa_cons (pv 1) pa_nil)) pe_int (nomark _)) (pss_cons (ps_set (i := 3) sc_law_spoilt.nd rfl (Or.inl rfl) (pe_call G_law_draw hr_law_draw rfl T.m_law_draw T.F_law_draw.kp T.b_law_draw .nil pass0 (pa_cons (pv 0) (pa_cons (pe_callB call_len_seq (by rfl) T.z_len (by decide +kernel) (pa_cons (pv 1) pa_nil)) pa_nil))))
    (pss_cons (ps_set (i := 4) sc_law_spoilt.nd rfl (Or.inl rfl) (pe_call G_law_draw hr_law_draw rfl T.m_law_draw T.F_law_draw.kp T.b_law_draw .nil pass0 (pa_cons (pv 0) (pa_cons pe_int pa_nil))))
    (pss_cons (ps_set (i := 5) sc_law_spoilt.nd rfl (Or.inl rfl) (pe_call G_law_tokens hr_law_tokens rfl T.m_law_tokens T.F_law_tokens.kp T.b_law_tokens .nil pass0 (pa_cons (pe_ix ix_list (pv 1) (pv 3) (fun _ _ => rfl)) pa_nil)))
    (pss_one (ps_if (pt_cmpR op_eq (pv 4) pe_int (nomark _)) (pss_one (ps_set (i := 1) sc_law_spoilt.nd rfl (Or.inl rfl) (pe_op op_cat (pe_slice sl_list (pv 1) po_none (po_some (pv 3))) (pe_slice sl_list (pv 1) (po_some (pe_op op_add (pv 3) pe_int)) po_none)))) (pss_one (ps_if (pt_cmpR op_eq (pv 4) pe_int (nomark _)) (pss_one (ps_set (i := 1) sc_law_spoilt.nd rfl (Or.inl rfl) (pe_op op_cat (pe_op op_cat (pe_op op_cat (pe_slice sl_list (pv 1) po_none (po_some (pv 3))) (pe_slice sl_list (pv 1) (po_some (pe_op op_add (pv 3) pe_int)) (po_some (pe_op op_add (pv 3) pe_int)))) (pe_slice sl_list (pv 1) (po_some (pv 3)) (po_some (pe_op op_add (pv 3) pe_int)))) (pe_slice sl_list (pv 1) (po_some (pe_op op_add (pv 3) pe_int)) po_none)))) (pss_one (ps_if (pt_cmpR op_eq (pv 4) pe_int (nomark _)) (pss_cons (ps_set (i := 6) sc_law_spoilt.nd rfl (Or.inl rfl) (pe_call G_law_draw hr_law_draw rfl T.m_law_draw T.F_law_draw.kp T.b_law_draw .nil pass0 (pa_cons (pv 0) (pa_cons (pe_op op_add (pe_callB call_len_str (by rfl) T.z_len (by decide +kernel) (pa_cons (pe_ix ix_list (pv 1) (pv 3) (fun _ _ => rfl)) pa_nil)) pe_int) pa_nil))))
    (pss_cons (ps_set (i := 7) sc_law_spoilt.nd rfl (Or.inl rfl) (pe_call G_law_pick hr_law_pick rfl T.m_law_pick T.F_law_pick.kp T.b_law_pick .nil pass0 (pa_cons (pv 0) (pa_cons (pe_callTy (call_listS rfl) (by rfl) T.z_list (by decide +kernel) (pa_cons pe_str pa_nil)) pa_nil))))
    (pss_cons (ps_set (i := 8) sc_law_spoilt.nd rfl (Or.inl rfl) (pe_call G_law_pick hr_law_pick rfl T.m_law_pick T.F_law_pick.kp T.b_law_pick .nil pass0 (pa_cons (pv 0) (pa_cons (pe_lst (pa_cons pe_str (pa_cons pe_str (pa_cons pe_str (pa_cons pe_str (pa_cons pe_str (pa_cons pe_str (pa_cons (pv 7) pa_nil)))))))) pa_nil))))
    (pss_one (ps_asg (pe_op op_add_str (pe_op op_add_str (pe_slice sl_str (pe_ix ix_list (pv 1) (pv 3) (fun _ _ => rfl)) po_none (po_some (pv 6))) (pv 8)) (pe_slice sl_str (pe_ix ix_list (pv 1) (pv 3) (fun _ _ => rfl)) (po_some (pe_op op_add (pv 6) (pe_call G_law_draw hr_law_draw rfl T.m_law_draw T.F_law_draw.kp T.b_law_draw .nil pass0 (pa_cons (pv 0) (pa_cons pe_int pa_nil))))) po_none)) (pg_sub (pv 1) (pv 3) set_list)))))) (pss_one (ps_if (PW.pt (pw_and (pt_cmpR op_eq (pv 4) pe_int (nomark _)) (pw_and1 (pt_cmpR op_eq (pe_call G_law_draw hr_law_draw rfl T.m_law_draw T.F_law_draw.kp T.b_law_draw .nil pass0 (pa_cons (pv 0) (pa_cons pe_int pa_nil))) pe_int (nomark _))))) (pss_cons (ps_set (i := 9) sc_law_spoilt.nd rfl (Or.inl rfl) (pe_op op_add pe_int (pe_call G_law_draw hr_law_draw rfl T.m_law_draw T.F_law_draw.kp T.b_law_draw .nil pass0 (pa_cons (pv 0) (pa_cons pe_int pa_nil)))))
    (pss_one (ps_set (i := 1) sc_law_spoilt.nd rfl (Or.inl rfl) (pe_op op_cat (pv 1) (pe_call G_law_deep hr_law_deep rfl T.m_law_deep T.F_law_deep.kp T.b_law_deep .nil pass0 (pa_cons (pv 0) (pa_cons (pe_op op_add_str (pe_op op_add_str (pe_op op_mulT pe_str (pv 9)) pe_str) (pe_op op_mulT pe_str (pv 9))) pa_nil))))))) (pss_one (ps_if (pt_cmpR op_notN (pv 5) pe_non (nomark _)) (pss_one (ps_asg (pe_join pe_str (pe_call G_law_turned hr_law_turned rfl T.m_law_turned T.F_law_turned.kp T.b_law_turned .nil pass0 (pa_cons (pv 0) (pa_cons (pv 5) pa_nil)))) (pg_sub (pv 1) (pv 3) set_list))) pss_nil))))))))))))) pss_nil)))
    (pss_one (ps_ret (pv 1)))), ?_⟩
    refine ⟨_, rfl, d, c, 4, rfl, hD, by decide, by decide, fun r1 H1 a0 a1 x1 D1 => ?_⟩
    refine ⟨_, rfl, d, c, 3, rfl, D1, by decide, by decide, fun r2 H2 b0 b1 x2 D2 => ?_⟩
    refine ⟨_, _, rfl, rfl, .inr ⟨_, rfl, _, _, rfl, rfl, .inl ⟨by omega, by omega⟩, ?_⟩⟩
    obtain ⟨J, hJ⟩ : ∃ J : Int, J = r1 * (if decide ((0 : Int) < r2) = true then 1 else 0) := ⟨_, rfl⟩
    have hJ3 : 0 ≤ J ∧ J ≤ 3 := by
      rw [hJ]
      split <;> omega
    refine ⟨J, by rw [hJ], by omega, by omega, ?_⟩
    have x02 := x1.trans x2
    refine for_range (n := J.toNat) (fun i σ H' => ∃ (p' : Addr) (L' : List (List Nat)) (y2 y3 y4 y5 y6 y7 y8 y9 : Option V), σ = [some (.ref d), some (.ref p'), y2, y3, y4, y5, y6, y7, y8, y9] ∧ H' p' = some (.lst (L'.map SV)) ∧ p' ≠ d ∧ p' ≠ c ∧ (∀ t ∈ L', OkR t ∧ t.length ≤ Bnd i) ∧ w1 L' ≤ 6000 + 10000 * i ∧ Dr H' d c) ?_ ?_ ?_
    · exact ⟨p, L, _, _, _, _, _, _, _, _, rfl, x02.but _ _ n1 n2 hp, n1, n2, hL, hw, D2⟩
    · rintro i σ H3 hi ⟨p3, L3, y2, y3, y4, y5, y6, y7, y8, y9, rfl, e3, m1, m2, hL3, hw3, D3⟩
      have hi3 : i < 3 := by omega
      obtain ⟨bd1, bd2, bd3, bd4, bd5⟩ := bnd_le i hi3
      have hLl : L3.length ≤ w1 L3 := by
        have : ∀ L : List (List Nat), L.length ≤ w1 L := by
          intro L
          induction L with
          | nil => simp [w1]
          | cons a L ih => rw [w1_cons, List.length_cons]; omega
        exact this L3
      have up3 : ∀ t ∈ L3, OkR t ∧ t.length ≤ Bnd (i + 1) := fun t ht => ⟨(hL3 t ht).1, Nat.le_trans (hL3 t ht).2 bd3⟩
      refine go_nm ?_
      refine ⟨_, rfl, p3, _, rfl, .inl (SqL.of e3), _, _, rfl, rfl, _, rfl, ?_⟩
      rw [List.length_map]
      by_cases hL0 : L3 = []
      · rw [show decide ((0 : Int) < ((L3.length : Nat) : Int)) = false from decide_eq_false (by rw [hL0]; simp)]
        exact iteF ⟨p3, L3, _, _, _, _, _, _, _, _, rfl, e3, m1, m2, up3, by omega, D3⟩
      have hLp := List.length_pos_iff.mpr hL0
      rw [show decide ((0 : Int) < ((L3.length : Nat) : Int)) = true from decide_eq_true (by omega)]
      refine iteT ⟨_, rfl, _, rfl, p3, _, rfl, .inl (SqL.of e3), d, c, _, rfl, D3, by rw [List.length_map]; omega, by rw [List.length_map]; omega, fun r H4 k0 k1 x4 D4 => ?_⟩
      rw [List.length_map] at k1
      obtain ⟨k, rfl⟩ : ∃ k : Nat, r = (k : Int) := ⟨r.toNat, by omega⟩
      have hk : k < L3.length := by omega
      refine go_nm (nx_of ?_)
      refine ⟨_, rfl, d, c, 8, rfl, D4, by decide, by decide, fun kd H5 _ _ x5 D5 => ?_⟩
      refine go_nm (nx_of ?_)
      have e5 := (x4.trans x5).but _ _ m1 m2 e3
      obtain ⟨t, ht⟩ : ∃ t, L3[k]? = some t := ⟨_, List.getElem?_eq_getElem hk⟩
      obtain ⟨ot, lt⟩ := hL3 t (List.mem_of_getElem? ht)
      have hat : atI (L3.map SV) (k : Int) = some (SV t) := atI_nat (by rw [List.getElem?_map, ht]; rfl)
      refine ⟨_, rfl, _, rfl, p3, _, _, _, rfl, rfl, SqL.of e5, hat, t, rfl, ot, by omega, fun _ p6 H6 hp6 s6 e7 => ?A, fun _ H6 s6 => ?B⟩
      case' A =>
        have hrv : V.ref p6 = .non ∨ ∃ p, V.ref p6 = .ref p ∧ H5 p = none ∧ H6 p = some (.lst ((toks t).map SV)) := .inr ⟨p6, rfl, hp6, e7⟩
      case' B =>
        have hrv : V.non = .non ∨ ∃ p, V.non = .ref p ∧ H5 p = none ∧ H6 p = some (.lst ((toks t).map SV)) := .inl rfl
      all_goals
        refine go_nm (nx_of ?_)
        have e6 := s6 _ _ e5
        have D6 := D5.same s6
        have hsp : L3 = L3.take k ++ t :: L3.drop (k + 1) := by
          conv => lhs; rw [← List.take_append_drop k L3]
          rw [List.drop_eq_getElem_cons hk]
          rw [List.getElem?_eq_getElem hk] at ht
          rw [Option.some.inj ht]
        have oA : ∀ x ∈ L3.take k, OkR x ∧ x.length ≤ Bnd (i + 1) := fun x hx => up3 x (List.mem_of_mem_take hx)
        have oB : ∀ x ∈ L3.drop (k + 1), OkR x ∧ x.length ≤ Bnd (i + 1) := fun x hx => up3 x (List.mem_of_mem_drop hx)
        have hw1 : w1 L3 = w1 (L3.take k) + (t.length + 1 + w1 (L3.drop (k + 1))) := by
          conv => lhs; rw [hsp]
          rw [w1_app, w1_cons]
        have lA : (L3.take k).length = k := by rw [List.length_take]; omega
        have dk : L3.drop k = t :: L3.drop (k + 1) := by
          have : (L3.take k).length = k := lA
          conv => lhs; rw [hsp]
          rw [List.drop_left' this]
        have lB : (L3.drop (k + 1)).length = L3.length - (k + 1) := List.length_drop ..
        have cA : cutV (L3.map SV) none (some (k : Int)) = (L3.take k).map SV := cut_pre L3 k
        have cB : cutV (L3.map SV) (some ((k : Int) + 1)) none = (L3.drop (k + 1)).map SV := cut_suf L3 (k + 1)
        have cM : cutV (L3.map SV) (some (k : Int)) (some ((k : Int) + 1)) = [t].map SV := by rw [cutL_mid, dk]; rfl
        have cN : cutV (L3.map SV) (some ((k : Int) + 1)) (some ((k : Int) + 2)) = ((L3.drop (k + 1)).take 1).map SV := cutL_mid L3 (k + 1)
        have cZ : cutV (L3.map SV) (some ((k : Int) + 2)) none = ((L3.drop (k + 1)).drop 1).map SV := by rw [List.drop_drop]; exact cut_suf L3 (k + 2)
        have oapp : ∀ {a b : List (List Nat)}, (∀ x ∈ a, OkR x ∧ x.length ≤ Bnd (i + 1)) → (∀ x ∈ b, OkR x ∧ x.length ≤ Bnd (i + 1)) → ∀ x ∈ a ++ b, OkR x ∧ x.length ≤ Bnd (i + 1) := fun {a b} h1 h2 x hx => (List.mem_append.mp hx).elim (h1 x) (h2 x)
        have hix : ixN (L3.map SV).length ((k : Nat) : Int) = some k := Evl.ixN_nat (j := k) (by rw [List.length_map]; exact hk)
        have fset : ∀ {z2 z3 z4 z5 z6 z7 z8 z9 : Option V} {H' : Hp} {new : List Nat}, H' p3 = some (.lst (L3.map SV)) → Dr H' d c → OkR new → new.length ≤ Bnd (i + 1) → ∃ (p' : Addr) (L' : List (List Nat)) (y2 y3 y4 y5 y6 y7 y8 y9 : Option V), [some (V.ref d), some (.ref p3), z2, z3, z4, z5, z6, z7, z8, z9] = [some (.ref d), some (.ref p'), y2, y3, y4, y5, y6, y7, y8, y9] ∧ (upd H' p3 (.lst ((L3.map SV).set k (SV new)))) p' = some (.lst (L'.map SV)) ∧ p' ≠ d ∧ p' ≠ c ∧ (∀ t ∈ L', OkR t ∧ t.length ≤ Bnd (i + 1)) ∧ w1 L' ≤ 6000 + 10000 * (i + 1) ∧ Dr (upd H' p3 (.lst ((L3.map SV).set k (SV new)))) d c := fun {z2 z3 z4 z5 z6 z7 z8 z9 H' new} e' D' on ln => by
          refine ⟨p3, L3.set k new, _, _, _, _, _, _, _, _, rfl, by rw [upd_same, List.map_set], m1, m2, fun x hx => ?_, ?_, D'.own m1 m2⟩
          · rcases List.mem_or_eq_of_mem_set hx with h | h
            · exact up3 x h
            · rw [h]; exact ⟨on, ln⟩
          · have := w1_set k new L3
            have : Bnd (i + 1) ≤ 6700 := by
              match i, hi3 with
              | 0, _ => decide
              | 1, _ => decide
              | 2, _ => decide
            omega
        refine ⟨_, rfl, rfl, _, rfl, ?_⟩
        rw [dec_int]
        cases (kd == 0)
        case true =>
          refine iteT ?_
          refine lx_catF2 (lx_sl rfl e6 pt_no (pt_var rfl) cA) (lx_sl rfl e6 (pt_add rfl) pt_no cB) (by omega) H6 _ (.refl _) fun p' H' fr s' e' => go_nm ?_
          obtain ⟨f1, f2⟩ := D6.free fr
          exact ⟨p', _, _, _, _, _, _, _, _, _, rfl, e', f1, f2, oapp oA oB, by rw [w1_app]; omega, D6.same s'⟩
        refine iteF ⟨_, rfl, rfl, _, rfl, ?_⟩
        rw [dec_int]
        cases (kd == 1)
        case true =>
          refine iteT ?_
          have wNZ : w1 ((L3.drop (k + 1)).take 1) + w1 ((L3.drop (k + 1)).drop 1) = w1 (L3.drop (k + 1)) := by rw [← w1_app, List.take_append_drop]
          have lNZ : ((L3.drop (k + 1)).take 1).length + ((L3.drop (k + 1)).drop 1).length = (L3.drop (k + 1)).length := by rw [← List.length_append, List.take_append_drop]
          have oN : ∀ x ∈ (L3.drop (k + 1)).take 1, OkR x ∧ x.length ≤ Bnd (i + 1) := fun x hx => oB x (List.mem_of_mem_take hx)
          have oZ : ∀ x ∈ (L3.drop (k + 1)).drop 1, OkR x ∧ x.length ≤ Bnd (i + 1) := fun x hx => oB x (List.mem_of_mem_drop hx)
          have oT : ∀ x ∈ [t], OkR x ∧ x.length ≤ Bnd (i + 1) := fun x hx => by rw [List.mem_singleton.mp hx]; exact ⟨ot, by omega⟩
          refine lx_catF2 (lx_cat2 (lx_cat2 (lx_sl rfl e6 pt_no (pt_var rfl) cA) (lx_sl rfl e6 (pt_add rfl) (pt_add rfl) cN) (by omega)) (lx_sl rfl e6 (pt_var rfl) (pt_add rfl) cM) (by rw [List.length_append, List.length_singleton]; omega)) (lx_sl rfl e6 (pt_add rfl) pt_no cZ) (by rw [List.length_append, List.length_append, List.length_singleton]; omega) H6 _ (.refl _) fun p' H' fr s' e' => go_nm ?_
          obtain ⟨f1, f2⟩ := D6.free fr
          refine ⟨p', _, _, _, _, _, _, _, _, _, rfl, e', f1, f2, oapp (oapp (oapp oA oN) oT) oZ, ?_, D6.same s'⟩
          rw [w1_app, w1_app, w1_app, w1_cons]; simp only [w1, List.map_nil, List.sum_nil] at *; omega
        refine iteF ⟨_, rfl, rfl, _, rfl, ?_⟩
        rw [dec_int]
        cases (kd == 2)
        case true =>
          refine iteT ?_
          have l6 : (mkS t).length = t.length := mk_len t
          refine ⟨_, rfl, _, rfl, _, rfl, p3, _, _, _, rfl, rfl, SqL.of e6, hat, mkS t, rfl, small7 (by omega), _, _, rfl, rfl, d, c, _, rfl, D6, by omega, by omega, fun r7 H7 c0 c1 x7 D7 => ?_⟩
          obtain ⟨a, rfl⟩ : ∃ a : Nat, r7 = (a : Int) := ⟨r7.toNat, by omega⟩
          have ha : a ≤ t.length := by omega
          refine go_nm (nx_of ?_)
          refine ⟨_, rfl, _, rfl, by decide, fun pl hpl => ⟨d, c, pl, _, rfl, D7.same (same_upd hpl _), .inl upd_same, (D7.free hpl).1, (D7.free hpl).2, by decide, by decide, fun sg H8 hsg x8 D8 => ?_⟩⟩
          have x78 := (x7.trans (.of (same_upd hpl _))).trans x8
          obtain ⟨ch, rfl, och⟩ := sgn_of (by decide +kernel) hsg
          refine go_nm (nx_of ?_)
          refine ⟨_, rfl, _, rfl, (by show 7 ≤ sizeLine; decide), fun pm hpm => ⟨d, c, pm, _, rfl, D8.same (same_upd hpm _), .inl upd_same, (D8.free hpm).1, (D8.free hpm).2, (by simp), (by simp), fun mv H9 hmv x9 D9 => ?_⟩⟩
          have x89 := x78.trans ((Ex.of (same_upd hpm _)).trans x9)
          obtain ⟨mz, rfl, omz, lmz⟩ : ∃ mz : Str, mv = .str mz ∧ (∀ c ∈ cs mz, okr c) ∧ (cs mz).length ≤ 1 := by
            simp only [List.mem_cons, List.not_mem_nil, or_false] at hmv
            rcases hmv with rfl | rfl | rfl | rfl | rfl | rfl | rfl
            · exact ⟨_, rfl, mor_ok _ (by simp)⟩
            · exact ⟨_, rfl, mor_ok _ (by simp)⟩
            · exact ⟨_, rfl, mor_ok _ (by simp)⟩
            · exact ⟨_, rfl, mor_ok _ (by simp)⟩
            · exact ⟨_, rfl, mor_ok _ (by simp)⟩
            · exact ⟨_, rfl, mor_ok _ (by simp)⟩
            · exact ⟨_, rfl, fun c hc => by rw [List.mem_singleton.mp (show c ∈ [ch] from hc)]; exact och, Nat.le_refl _⟩
          refine go_nm (nx_of ?_)
          have e9 := x89.but _ _ m1 m2 e6
          have lmz2 : mz.length = (cs mz).length := by rw [← mk_cs mz, mk_len, cs_mk]
          refine ⟨_, rfl, _, rfl, p3, _, _, _, rfl, rfl, SqL.of e9, hat, _, rfl, _, rfl, mkS t, rfl, small7 (by omega), ?_⟩
          rw [cutS_pre t ha]
          have lpre : (mkS (t.take a)).length = a := by rw [mk_len, List.length_take]; omega
          refine ⟨_, rfl, _, _, rfl, rfl, small7 (by omega), ?_⟩
          refine ⟨_, rfl, _, rfl, p3, _, _, _, rfl, rfl, SqL.of e9, hat, _, rfl, _, rfl, d, c, 2, rfl, D9, by decide, by decide, fun r10 H10 g0 g1 x10 D10 => ?_⟩
          obtain ⟨b, rfl⟩ : ∃ b : Nat, r10 = (b : Int) := ⟨r10.toNat, by omega⟩
          have e10 := x10.but _ _ m1 m2 e9
          refine ⟨_, _, rfl, rfl, _, rfl, mkS t, rfl, small7 (by omega), ?_⟩
          rw [show ((a : Int) + (b : Int)) = ((a + b : Nat) : Int) by omega, cutS_suf]
          have lsuf : (mkS (t.drop (a + b))).length ≤ t.length := by rw [mk_len, List.length_drop]; omega
          have hxs : (mkS (t.take a) ++ mz).length ≤ 4000 := by rw [← mk_cs mz, mk_app, mk_len, List.length_append, List.length_take]; omega
          refine ⟨_, _, rfl, rfl, small7 (by omega), ?_⟩
          have enew : V.str (mkS (t.take a) ++ mz ++ mkS (t.drop (a + b))) = SV (t.take a ++ cs mz ++ t.drop (a + b)) := by unfold SV; rw [← mk_app, ← mk_app, mk_cs]
          refine ⟨_, rfl, _, rfl, p3, _, _, k, rfl, rfl, e10, hix, ?_⟩
          rw [enew]
          exact fset e10 D10 (OkR.cat (OkR.cat (fun c hc => ot c (List.mem_of_mem_take hc)) omz) fun c hc => ot c (List.mem_of_mem_drop hc)) (by rw [List.length_append, List.length_append, List.length_take, List.length_drop]; omega)
        refine iteF ⟨_, rfl, rfl, _, rfl, ?_⟩
        rw [dec_int]
        cases (kd == 3)
        case' false =>
          have x6 : Ex d c H6 H6 := .refl ..
          have D7 := D6
          refine iteF (iteF ?_)
        case' true =>
          refine iteT ⟨_, rfl, d, c, 3, rfl, D6, by decide, by decide, fun r7 H7 _ _ x6 D7 => ⟨rfl, _, rfl, ?_⟩⟩
          rw [dec_int]
          cases (r7 == 0)
          case' false =>
            refine iteF ?_
          case' true =>
            refine iteT ⟨_, rfl, d, c, 4, rfl, D7, by decide, by decide, fun r8 H8 g0 g1 x8 D8 => ⟨_, _, rfl, rfl, ?_⟩⟩
            refine go_nm (nx_of ?_)
            have e8 := (x6.trans x8).but _ _ m1 m2 e6
            obtain ⟨dp, hdp⟩ : ∃ dp : Nat, 38 + r8 = (dp : Int) := ⟨(38 + r8).toNat, by omega⟩
            have dp1 : dp ≤ 41 := by omega
            have hv : ((fun (i j : Int) => V.int (i + j)) 38 r8) = V.int (dp : Nat) := by show V.int (38 + r8) = _; rw [hdp]
            obtain ⟨n1', n2', n3', n4'⟩ := nlit_ok
            have lrep1 := repL_len dp (cs "n(")
            have lrep2 := repL_len dp (cs ")")
            have lc1 : (cs "n(").length = 2 := rfl
            have lc2 : (cs ")").length = 1 := rfl
            have lc3 : (cs "m").length = 1 := rfl
            rw [lc1] at lrep1
            rw [lc2] at lrep2
            refine ⟨_, rfl, _, rfl, ?_⟩
            refine tx_add (tx_add (tx_mulT (n := dp) (by show some (some ((fun (i j : Int) => V.int (i + j)) 38 r8)) = _; rw [hv]) (by decide) (by omega) (by rw [lc1]; omega)) tx_lit (by rw [lrep1, lc3]; omega)) (tx_mulT (n := dp) (by show some (some ((fun (i j : Int) => V.int (i + j)) 38 r8)) = _; rw [hv]) (by decide) (by omega) (by rw [lc2]; omega)) (by rw [List.length_append, lrep1, lrep2, lc3]; omega) H8 _ (.refl _) fun H9 s9 => ?_
            refine ⟨d, c, _, rfl, D8.same s9, OkR.cat (OkR.cat (rep_ok n1') n2') (rep_ok n3'), by rw [List.length_append, List.length_append, lrep1, lrep2, lc3]; omega, fun p' U' H10 e10 hU l10 x10 D10 => ?_⟩
            have e10' := ((Ex.of s9).trans x10).but _ _ m1 m2 e8
            have wU := w1_len U' (B := 400) fun x hx => (hU x hx).2
            refine ⟨p3, p', _, _, rfl, rfl, e10', e10, by rw [List.length_map, List.length_map]; exact small8 (by omega), fun p11 hp11 => go_nm ?_⟩
            obtain ⟨f1, f2⟩ := D10.free hp11
            refine ⟨p11, L3 ++ U', _, _, _, _, _, _, _, _, rfl, by rw [upd_same, List.map_append], f1, f2, oapp up3 fun x hx => ⟨(hU x hx).1, Nat.le_trans (hU x hx).2 bd4⟩, ?_, D10.same (same_upd hp11 _)⟩
            rw [w1_app]
            have : U'.length * (400 + 1) ≤ 20 * 401 := Nat.mul_le_mul_right _ l10
            omega
        all_goals
          have e7 := x6.but _ _ m1 m2 e6
          refine ⟨_, rfl, rfl, _, rfl, ?_⟩
          rcases hrv with h | ⟨pr, h, hpr, epr⟩
          · first
              | (cases h; done)
              | (rw [show (!decide (V.non = V.non)) = false by simp]
                 exact iteF ⟨p3, L3, _, _, _, _, _, _, _, _, rfl, e7, m1, m2, up3, by omega, D7⟩)
          · first
              | (cases h; done)
              | (cases h
                 obtain ⟨f1, f2⟩ := D5.free hpr
                 obtain ⟨tl, tk⟩ := toks_ok ot (by omega)
                 have ert := x6.but _ _ f1 f2 epr
                 rw [show (!decide (V.ref p6 = V.non)) = true by simp]
                 refine iteT ⟨⟨_, rfl⟩, _, rfl, _, rfl, d, c, p6, toks t, rfl, D7, ert, f1, f2, tl, fun x hx => ⟨(tk x hx).1.r, (tk x hx).2.1⟩, fun p' U' H8 e8 hU l8 w8 x8 D8 => ?_⟩
                 have sw := sum_w1 U'
                 have smt := sm_toks t
                 refine ⟨" ", p', U'.map mkS, rfl, rfl, .inl (SqL.of (by rw [List.map_map]; exact e8)), by rw [show (" " : Str).length = 1 from rfl, Nat.mul_one]; omega, ?_⟩
                 rw [join_mk]
                 have e8' := x8.but _ _ m1 m2 e7
                 refine ⟨_, rfl, _, rfl, p3, _, _, k, rfl, rfl, e8', hix, ?_⟩
                 have lg := gj_len2 (cs " ") U' (by decide)
                 exact fset (new := gj (cs " ") U') e8' D8 (gj_ok nlit_ok.2.2.2 hU) (by omega))
    · rintro σ H8 ⟨p3, L3, y2, y3, y4, y5, y6, y7, y8, y9, rfl, e3, m1, m2, hL3, hw3, D3⟩
      exact ⟨_, rfl, q p3 L3 H8 e3 (fun t ht => (hL3 t ht).1) (by omega) D3⟩
end
end Kx
/-! Read as data; != of the same data. -/
namespace Kx
open PySem PySem.Spec PyProof.Rows L2
mutual
def toD : PV → PyData
  | .str z => .str z
  | .int i => .int i
  | .tup l => .tuple (toDL l)
def toDL : List PV → List PyData
  | [] => []
  | t :: r => toD t :: toDL r
end
mutual
theorem eqvD : ∀ a : PV, PyData.eqv (toD a) (toD a) = true
  | .str x => by simp [toD, PyData.eqv]
  | .int x => by simp [toD, PyData.eqv]
  | .tup xs => by simp only [toD, PyData.eqv]; exact eqvDL xs
theorem eqvDL : ∀ a : List PV, PyData.eqvAll (toDL a) (toDL a) = true
  | [] => by simp [toDL, PyData.eqvAll]
  | x :: r => by simp only [toDL, PyData.eqvAll, eqvD x, eqvDL r, Bool.and_self]
end
mutual
theorem deepD : ∀ t : PV, (toD t).depth ≤ dep t
  | .str _ => by simp [toD, PyData.depth]
  | .int _ => by simp [toD, PyData.depth]
  | .tup ts => by
    have := deepDL ts
    simp only [toD, PyData.depth, dep]; omega
theorem deepDL : ∀ l : List PV, PyData.depthAll (toDL l) ≤ depL l
  | [] => by simp [toDL, PyData.depthAll]
  | t :: r => by
    have a := deepD t
    have b := deepDL r
    simp only [toDL, PyData.depthAll, depL]; omega
end
mutual
theorem Is.lay {H : Hp} : ∀ {v : V} {t : PV}, Is H v t → (toD t).canLay0 = true
  | _, _, .str z k => by simp only [toD, PyData.canLay0]; exact k
  | _, _, .int _ => rfl
  | _, _, .tup e h => by simp only [toD, PyData.canLay0]; exact IsL.lay h
theorem IsL.lay {H : Hp} : ∀ {v : List V} {t : List PV}, IsL H v t → PyData.canLayAll0 (toDL t) = true
  | _, _, .nil => by simp [toDL, PyData.canLayAll0]
  | _, _, .cons h r => by simp only [toDL, PyData.canLayAll0, Is.lay h, IsL.lay r, Bool.and_self]
end
mutual
theorem Is.dp {K : PySem.W.Frag} {H : Hp} : ∀ {v : V} {t : PV}, Is H v t → Dp K H v (toD t)
  | _, _, .str z k => by simp only [toD]; exact .str z
  | _, _, .int i => by simp only [toD]; exact .int i
  | _, _, .tup e i => by simp only [toD]; exact .tup (.inl (.inl e)) (IsL.dp i)
theorem IsL.dp {K : PySem.W.Frag} {H : Hp} : ∀ {v : List V} {t : List PV}, IsL H v t → DpAll K H v (toDL t)
  | _, _, .nil => by simp only [toDL]; exact .nil
  | _, _, .cons a r => by simp only [toDL]; exact .cons (Is.dp a) (IsL.dp r)
end
section
variable {X : Cx}
theorem u200 {A : Around} {k : Nat} (r : Room k A) : A.units + 200 < cLine := by have := r.un; omega
def rNeP (K : PySem.W.Frag) : R2 := fun x y H Q => ∃ d e, Dp K H x d ∧ Dp K H y e ∧ d.canLay0 = true ∧ e.canLay0 = true ∧ d.depth ≤ 190 ∧ Q (.bl (!PyData.eqv d e)) H
theorem neP {K : PySem.W.Frag} (hu : X.A.units + 200 < cLine) (hK : X.K = K := by rfl) : OpR X (compareOp .NotEq) (rNeP K) := by
  subst hK
  intro pins s σ H x y v u Q I rx ry h
  obtain ⟨d, e, hd, he, sd, se, l, q⟩ := h
  obtain ⟨as, r1⟩ := Dp.reads I d x v hd rx
  obtain ⟨bs, r2⟩ := Dp.reads I e y u he ry
  exact SeqAt.compareNe_reads r1 r2 sd se (by omega) ⟨.bl _, H, I, rfl, q⟩
def rEqP (K : PySem.W.Frag) : R2 := fun x y H Q => ∃ d e, Dp K H x d ∧ Dp K H y e ∧ d.canLay0 = true ∧ e.canLay0 = true ∧ d.depth ≤ 190 ∧ Q (.bl (PyData.eqv d e)) H
theorem eqP {K : PySem.W.Frag} (hu : X.A.units + 200 < cLine) (hK : X.K = K := by rfl) : OpR X (compareOp .Eq) (rEqP K) := by
  subst hK
  intro pins s σ H x y v u Q I rx ry h
  obtain ⟨d, e, hd, he, sd, se, l, q⟩ := h
  obtain ⟨as, r1⟩ := Dp.reads I d x v hd rx
  obtain ⟨bs, r2⟩ := Dp.reads I e y u he ry
  exact SeqAt.compareEq_reads r1 r2 sd se (by omega) ⟨.bl _, H, I, rfl, q⟩
end
/-- the same data on both sides -/
theorem ne_same {K : PySem.W.Frag} {H : Hp} {v u : V} {t : PV} {Q : VK} (a : Is H v t) (b : Is H u t) (d : dep t ≤ 190) (q : Q (.bl false) H) : rNeP K v u H Q :=
  ⟨_, _, a.dp, b.dp, a.lay, b.lay, Nat.le_trans (deepD t) d, by rw [eqvD]; exact q⟩
theorem strs_is {H : Hp} : ∀ {zs : List Str}, (∀ z ∈ zs, sok z = true) → IsL H (zs.map V.str) (zs.map PV.str)
  | [], _ => .nil
  | z :: r, h => .cons (.str z (h z (List.mem_cons_self ..))) (strs_is fun x hx => h x (List.mem_cons_of_mem _ hx))
/-- a list of data on both sides -/
theorem ne_lists {K : PySem.W.Frag} {H : Hp} {a b : Addr} {vs us : List V} {ts : List PV} {Q : VK} (e1 : SqL K H a vs) (e2 : SqL K H b us) (i1 : IsL H vs ts) (i2 : IsL H us ts) (d : depL ts ≤ 180) (q : Q (.bl false) H) : rNeP K (.ref a) (.ref b) H Q :=
  ⟨.list (toDL ts), .list (toDL ts), .lst e1 i1.dp, .lst e2 i2.dp, by simp only [PyData.canLay0]; exact i1.lay, by simp only [PyData.canLay0]; exact i2.lay, by have := deepDL ts; simp only [PyData.depth]; omega, by
    simp only [PyData.eqv, eqvDL]; exact q⟩
/-- equal lists of data -/
theorem eq_lists {K : PySem.W.Frag} {H : Hp} {a b : Addr} {vs us : List V} {ts : List PV} {Q : VK} (e1 : SqL K H a vs) (e2 : SqL K H b us) (i1 : IsL H vs ts) (i2 : IsL H us ts) (d : depL ts ≤ 180) (q : Q (.bl true) H) : rEqP K (.ref a) (.ref b) H Q :=
  ⟨.list (toDL ts), .list (toDL ts), .lst e1 i1.dp, .lst e2 i2.dp, by simp only [PyData.canLay0]; exact i1.lay, by simp only [PyData.canLay0]; exact i2.lay, by have := deepDL ts; simp only [PyData.depth]; omega, by
    simp only [PyData.eqv, eqvDL]; exact q⟩
end Kx
namespace Kx
open PySem PySem.Spec PyProof.Rows L2
section
variable {P : Program} {w : World} {K : PySem.W.Frag} {mg : Str → Option Value} {base : Heap}
set_option pp.maxSteps 900
/-! ### what is read: its depth; odd values -/
theorem dep_dcl (ws : List Str) : ∀ (n : Nat) (t : PV), RwT n t → dep (dcl ws t) ≤ n + 1
  | n + 1, .str z, _ => by
    rw [dcl]
    split
    · simp only [dep, depL]; omega
    · simp only [dep]; omega
  | n + 1, .tup (.str w :: r), h => by
    rw [dcl, dclL_map]
    simp only [dep, depL]
    have : depL (r.map (dcl ws)) ≤ n + 1 := depL_le fun t ht => by
      obtain ⟨u, hu, rfl⟩ := List.mem_map.mp ht
      exact dep_dcl ws n u (h.2.2.2 u hu)
    omega
theorem dep_kdD {ws : List Str} {k : Kd} (h : RwT 41 k.tm) : dep (kdD ws k) ≤ 43 := by
  have := dep_dcl ws 41 _ h
  simp only [kdD, dep, depL]; omega
theorem dep_kdDs {ws : List Str} {ks : List Kd} (h : ∀ k ∈ ks, RwT 41 k.tm) : depL (ks.map (kdD ws)) ≤ 43 := depL_le fun t ht => by
  obtain ⟨k, hk, rfl⟩ := List.mem_map.mp ht
  exact dep_kdD (h k hk)
theorem dep_out {r : Except Nat DS} (h : ∀ s, r = .ok s → DsOk s) : dep (outP r) ≤ 60 := by
  cases r with
  | error n => simp only [outP, dep, depL]; omega
  | ok s =>
    have o := h s rfl
    have h1 : depL (s.ms.map mkP) ≤ 50 := depL_le fun t ht => by
      obtain ⟨m, _, rfl⟩ := List.mem_map.mp ht
      simp only [mkP, dep, depL]; omega
    have h2 : depL (s.fm.map PV.str) ≤ 50 := depL_le fun t ht => by
      obtain ⟨m, _, rfl⟩ := List.mem_map.mp ht
      simp only [dep]; omega
    have h3 : depL (s.cn.map (cnD s.mw)) ≤ 50 := depL_le fun t ht => by
      obtain ⟨c, hc, rfl⟩ := List.mem_map.mp ht
      obtain ⟨_, g2, g3⟩ := o.cn c hc
      have a := dep_kdDs (ws := s.mw) g2
      have b := dep_dcl s.mw 41 _ g3
      simp only [cnD, dep, depL]; omega
    have h4 : depL (s.fs.map (fnD s.mw s.cw)) ≤ 50 := depL_le fun t ht => by
      obtain ⟨f, hf, rfl⟩ := List.mem_map.mp ht
      obtain ⟨_, g2, g3, _, g5⟩ := o.fn f hf
      have a := dep_kdDs (ws := s.mw) g2
      have b := dep_dcl s.mw 41 _ g3
      have c : depL (f.cls.map (clD s.cw)) ≤ 46 := depL_le fun t ht => by
        obtain ⟨c, hc, rfl⟩ := List.mem_map.mp ht
        obtain ⟨_, k2, k3⟩ := g5 c hc
        have d1 := dep_dcl s.cw 41 _ k3
        have d2 : depL (c.ps.map (dcl s.cw)) ≤ 42 := depL_le fun t ht => by
          obtain ⟨p, hp, rfl⟩ := List.mem_map.mp ht
          exact dep_dcl s.cw 41 p (k2 p hp)
        simp only [clD, dep, depL]; omega
      simp only [fnD, dep, depL]; omega
    simp only [outP, tabD, prgD, dep, depL]; omega
theorem rowsS_N : ∀ (Us : List (List Tok)) (n k : Nat) (s s' : DS), DsN s k → rowsS n s Us = .ok s' → DsN s' (k + Us.length)
  | [], n, k, s, s', h, e => by cases e; exact h
  | U :: r, n, k, s, s', h, e => by
    rw [rowsS_cons] at e
    cases er : rowS s U with
    | none => rw [er] at e; cases e
    | some s2 =>
      rw [er] at e
      exact (rowsS_N r (n + 1) (k + 1) s2 s' (h.row er) e).up (by rw [List.length_cons]; omega)
theorem drf_deep {ls : List (List Nat)} {z : List Nat} (hlen : (fullT ls ++ z).length ≤ 6000) (hok : ∀ l ∈ ls, OkR l) : dep (outP (drf ls z)) ≤ 60 := dep_out fun s e => by
  refine drf_ok hlen hok e ?_
  obtain ⟨hn1, _⟩ := full_rows ls
  rw [List.length_append] at hlen
  unfold drf at e
  cases er : rowsS 1 s0 (ls.map toks) with
  | error n => rw [er] at e; cases e
  | ok s2 =>
    rw [er] at e
    simp only at e
    split at e
    · cases e
      have := rowsS_N _ 1 0 s0 s (by simp [DsN, s0]) er
      exact this.up (by rw [List.length_map]; omega)
    · cases e
/-- any text of good signs is rows, and a rest -/
theorem split10 : ∀ T : List Nat, (∀ c ∈ T, c = 10 ∨ okr c) → ∃ ls z, T = fullT ls ++ z ∧ (∀ l ∈ ls, OkR l) ∧ OkR z
  | [], _ => ⟨[], [], rfl, by simp, fun c h => by cases h⟩
  | c :: T, h => by
    obtain ⟨ls, z, e, h1, h2⟩ := split10 T fun x hx => h x (List.mem_cons_of_mem _ hx)
    rcases h c (List.mem_cons_self ..) with rfl | hc
    · refine ⟨[] :: ls, z, by rw [e]; simp [fullT], fun l hl => ?_, h2⟩
      rcases List.mem_cons.mp hl with rfl | hl
      · exact fun x hx => by cases hx
      · exact h1 l hl
    · cases ls with
      | nil => exact ⟨[], c :: z, by rw [e]; simp [fullT], by simp, fun x hx => by
          rcases List.mem_cons.mp hx with rfl | hx
          · exact hc
          · exact h2 x hx⟩
      | cons a r => exact ⟨(c :: a) :: r, z, by rw [e]; simp [fullT], fun l hl => by
          rcases List.mem_cons.mp hl with rfl | hl
          · intro x hx
            rcases List.mem_cons.mp hx with rfl | hx
            · exact hc
            · exact h1 a (List.mem_cons_self ..) x hx
          · exact h1 l (List.mem_cons_of_mem _ hl), h2⟩
def OddV (d c : Addr) (H : Hp) (T : List Nat) (v : V) : Prop := v = .non ∨ v = .int 7 ∨ (∃ p, v = .ref p ∧ H p = some (.lst [V.str "a"]) ∧ p ≠ d ∧ p ≠ c) ∨ (∃ p, v = .ref p ∧ H p = some (.tup [V.str "maker zero 0"])) ∨ v = SV (T ++ [9]) ∨ v = SV [9, 10] ∨ v = SV (35 :: repL 6000 [97])
theorem OddV.same {d c : Addr} {H H' : Hp} {T : List Nat} {v : V} (h : OddV d c H T v) (s : Same H H') : OddV d c H' T v := by
  rcases h with h | h | ⟨p, h1, h2, h3⟩ | ⟨p, h1, h2⟩ | h | h | h
  · exact .inl h
  · exact .inr (.inl h)
  · exact .inr (.inr (.inl ⟨p, h1, s _ _ h2, h3⟩))
  · exact .inr (.inr (.inr (.inl ⟨p, h1, s _ _ h2⟩)))
  · exact .inr (.inr (.inr (.inr (.inl h))))
  · exact .inr (.inr (.inr (.inr (.inr (.inl h)))))
  · exact .inr (.inr (.inr (.inr (.inr (.inr h)))))
theorem OddV.ex {d c : Addr} {H H' : Hp} {T : List Nat} {v : V} (h : OddV d c H T v) (x : Ex d c H H') (D : Dr H d c) : OddV d c H' T v := by
  rcases h with h | h | ⟨p, h1, h2, h3, h4⟩ | ⟨p, h1, h2⟩ | h | h | h
  · exact .inl h
  · exact .inr (.inl h)
  · exact .inr (.inr (.inl ⟨p, h1, x.but _ _ h3 h4 h2, h3, h4⟩))
  · exact .inr (.inr (.inr (.inl ⟨p, h1, x.tk D _ _ h2⟩)))
  · exact .inr (.inr (.inr (.inr (.inl h))))
  · exact .inr (.inr (.inr (.inr (.inr (.inl h)))))
  · exact .inr (.inr (.inr (.inr (.inr (.inr h)))))
theorem OddV.no {K : PySem.W.Frag} {d c : Addr} {H : Hp} {T : List Nat} {v : V} (h : OddV d c H T v) (hT : ∀ c ∈ T, c = 10 ∨ okr c) (hl : T.length ≤ 5900) : NoRows K H v := by
  rcases h with rfl | rfl | ⟨p, rfl, h2, _⟩ | ⟨p, rfl, h2⟩ | rfl | rfl | rfl
  · exact .inl ⟨_, .base .non, kit_ty (show kitB "NoneType" "str" = some false by decide +kernel)⟩
  · exact .inl ⟨_, .base (.int 7), kit_ty (show kitB "int" "str" = some false by decide +kernel)⟩
  · exact .inl ⟨_, .base (.lst h2), kit_ty (show kitB "list" "str" = some false by decide +kernel)⟩
  · exact .inl ⟨_, .base (.tup h2), kit_ty (show kitB "tuple" "str" = some false by decide +kernel)⟩
  · exact .inr (.inr ⟨T, [], rfl, by rw [List.length_append]; simp; omega, hT⟩)
  · exact .inr (.inr ⟨[], [10], rfl, by decide, fun c h => by cases h⟩)
  · refine .inr (.inl ⟨_, rfl, ?_, ?_⟩)
    · rw [mk_len, List.length_cons, repL_len]; simp
    · rw [mk_len, List.length_cons, repL_len]; simp
end
end Kx
namespace Kx
open PySem PySem.Spec PyProof.Rows L2
section
variable {P : Program} {w : World} {K : PySem.W.Frag} {mg : Str → Option Value} {base : Heap}
set_option pp.maxSteps 900
/-! ### the law -/
theorem line_all {t : Tb} {fs : List Fn} (hP : PgOk t fs) : ∀ x ∈ lines t fs, OkR x ∧ x.length ≤ 760 := fun x hx => by
  unfold lines linesF at hx
  simp only [List.mem_append, List.mem_map, List.mem_flatMap, List.mem_cons] at hx
  rcases hx with ⟨m, hm, rfl⟩ | ⟨z, hz, rfl⟩ | ⟨c, hc, rfl⟩ | ⟨f, hf, rfl | ⟨c, hc, rfl⟩⟩
  · have h := hP.lnM m hm; exact ⟨h.ok.r, Nat.le_trans h.len (by decide)⟩
  · have h := hP.lnF z hz; exact ⟨h.ok.r, Nat.le_trans h.len (by decide)⟩
  · have h := hP.lnC c hc; exact ⟨h.ok.r, Nat.le_trans h.len (by decide)⟩
  · have h := hP.lnH f hf; exact ⟨h.ok.r, Nat.le_trans h.len (by decide)⟩
  · have h := hP.lnL f hf c hc; exact ⟨h.ok.r, Nat.le_trans h.len (by decide)⟩
theorem w1_full (L : List (List Nat)) : w1 L = (fullT L).length := by
  induction L with
  | nil => rfl
  | cons a L ih =>
    rw [w1_cons, ih, show fullT (a :: L) = (a ++ [10]) ++ fullT L by simp [fullT], List.length_append, List.length_append, List.length_singleton]
theorem gj_all {L : List (List Nat)} (h : ∀ t ∈ L, OkR t) : ∀ c ∈ gj [10] L, c = 10 ∨ okr c := by
  induction L with
  | nil => intro c hc; cases hc
  | cons a L ih =>
    cases L with
    | nil => exact fun c hc => .inr (h a (by simp) c hc)
    | cons b r =>
      intro c hc
      simp only [gj, List.mem_append, List.mem_singleton] at hc
      rcases hc with hc | hc | hc
      · exact .inr (h a (by simp) c hc)
      · exact .inl hc
      · exact ih (fun t ht => h t (List.mem_cons_of_mem _ ht)) c hc
structure PairAt (d c : Addr) (T : List Nat) (r : Except Nat DS) (H : Hp) (x : V) : Prop where
  h : ∃ a v u, x = .ref a ∧ H a = some (.tup [v, u]) ∧ ((v = SV T ∧ Is H u (outP r)) ∨ (OddV d c H T v ∧ Is H u (outP (.error 0))))
theorem PairAt.same {d c : Addr} {T : List Nat} {r : Except Nat DS} {H H' : Hp} {x : V} (p : PairAt d c T r H x) (s : Same H H') : PairAt d c T r H' x := by
  obtain ⟨a, v, u, e, h1, h2⟩ := p.h
  exact ⟨a, v, u, e, s _ _ h1, h2.imp (fun ⟨h, i⟩ => ⟨h, i.same s⟩) fun ⟨h, i⟩ => ⟨h.same s, i.same s⟩⟩
theorem PairAt.ex {d c : Addr} {T : List Nat} {r : Except Nat DS} {H H' : Hp} {x : V} (p : PairAt d c T r H x) (s : Ex d c H H') (D : Dr H d c) : PairAt d c T r H' x := by
  obtain ⟨a, v, u, e, h1, h2⟩ := p.h
  exact ⟨a, v, u, e, s.tk D _ _ h1, h2.imp (fun ⟨h, i⟩ => ⟨h, i.ex s D⟩) fun ⟨h, i⟩ => ⟨h.ex s D, i.ex s D⟩⟩
theorem mem_cut {xs : List V} {lo hi : Option Int} : ∀ x ∈ cutV xs lo hi, x ∈ xs := fun x hx => by
  unfold cutV at hx
  exact List.mem_of_mem_drop (List.mem_of_mem_take hx)
theorem len_cut {xs : List V} {lo hi : Option Int} : (cutV xs lo hi).length ≤ xs.length := by
  unfold cutV
  rw [List.length_take, List.length_drop]; omega
def spLaw (K : PySem.W.Frag) : Sp := fun vs H Q _ => ∃ (a : Addr) (ns : List Int), vs = [.ref a] ∧ SqL K H a (ns.map V.int) ∧ ns.length ≤ 63 ∧ ∀ H', Q (.bl true) H'
theorem ok_law (T : Txt K mg) (G_law_state : FnOk P w K mg base CX0 1 T.a_law_state T.d_law_state ["script"] (spState K)) (G_law_table : FnOk P w K mg base CX0 7 T.a_law_table T.d_law_table ["state"] spTable) (G_law_program : FnOk P w K mg base CX0 7 T.a_law_program T.d_law_program ["state", "table"] spProg) (G_law_lines : FnOk P w K mg base CX0 6 T.a_law_lines T.d_law_lines ["table", "program"] spLines) (G_law_spoilt : FnOk P w K mg base CX0 4 T.a_law_spoilt T.d_law_spoilt ["state", "lines"] spSpoilt) (G_law_draw : FnOk P w K mg base CX0 1 T.a_law_draw T.d_law_draw ["state", "many"] spDraw) (G_law_pick : FnOk P w K mg base CX0 2 T.a_law_pick T.d_law_pick ["state", "row"] (spPick K)) (G_law_read : FnOk P w K mg base CX0 46 T.a_law_read T.d_law_read ["text"] spJRead) (G_law_told : FnOk P w K mg base CX0 94 T.a_law_told T.d_law_told ["value"] (spATold K)) (G_law_by_kinds : FnOk P w K mg base CX0 94 T.a_law_by_kinds T.d_law_by_kinds ["value"] (spAKindsBy K)) : FnOk P w K mg base CX0 101 T.a_law T.d_law ["script"] (spLaw K) := by
  refine T.F_law.ok sc_law (fun vs H Q E h => ?_) (fun cdv A outer s H vs Q E hr h => ?_)
  · obtain ⟨a, ns, rfl, _⟩ := h; rfl
  · obtain ⟨a, ns, rfl, hS, h63, q⟩ := h
    have hr_law_state : Room 1 _ := hr.mono (by decide)
    have hr_law_draw : Room 1 _ := hr.mono (by decide)
    have hr_law_pick : Room 2 _ := hr.mono (by decide)
    have hr_law_table : Room 7 _ := hr.mono (by decide)
    have hr_law_program : Room 7 _ := hr.mono (by decide)
    have hr_law_lines : Room 6 _ := hr.mono (by decide)
    have hr_law_spoilt : Room 4 _ := hr.mono (by decide)
    have hr_law_read : Room 46 _ := hr.mono (by decide)
    have hr_law_told : Room 94 _ := hr.mono (by decide)
    have hr_law_by_kinds : Room 94 _ := hr.mono (by decide)
    refine ⟨_, (pss_cons (ps_set (i := 1) sc_law.nd rfl (Or.inl rfl) (pe_call G_law_state hr_law_state rfl T.m_law_state T.F_law_state.kp T.b_law_state .nil pass0 (pa_cons (pv 0) pa_nil)))
    (pss_cons (ps_set (i := 2) sc_law.nd rfl (Or.inl rfl) (pe_call G_law_table hr_law_table rfl T.m_law_table T.F_law_table.kp T.b_law_table .nil pass0 (pa_cons (pv 1) pa_nil)))
    (pss_cons (ps_set (i := 3) sc_law.nd rfl (Or.inl rfl) (pe_call G_law_spoilt hr_law_spoilt rfl T.m_law_spoilt T.F_law_spoilt.kp T.b_law_spoilt .nil pass0 (pa_cons (pv 1) (pa_cons (pe_call G_law_lines hr_law_lines rfl T.m_law_lines T.F_law_lines.kp T.b_law_lines .nil pass0 (pa_cons (pv 2) (pa_cons (pe_call G_law_program hr_law_program rfl T.m_law_program T.F_law_program.kp T.b_law_program .nil pass0 (pa_cons (pv 1) (pa_cons (pv 2) pa_nil))) pa_nil))) pa_nil))))
    (pss_cons (ps_set (i := 4) sc_law.nd rfl (Or.inl rfl) (pe_op op_add_str (pe_join pe_str (pv 3)) (pe_op op_mulT pe_str (pe_callTy call_int1 (by rfl) T.z_int (by decide +kernel) (pa_cons (pe_cmpR op_gt (pe_call G_law_draw hr_law_draw rfl T.m_law_draw T.F_law_draw.kp T.b_law_draw .nil pass0 (pa_cons (pv 1) (pa_cons pe_int pa_nil))) pe_int (nomark _)) pa_nil)))))
    (pss_cons (ps_if (pt_cmpR op_gt (pe_callB call_len_str (by rfl) T.z_len (by decide +kernel) (pa_cons (pv 4) pa_nil)) pe_int (nomark _)) (pss_one (ps_set (i := 4) sc_law.nd rfl (Or.inl rfl) (pe_slice sl_str (pv 4) po_none (po_some pe_int)))) pss_nil)
    (pss_cons (ps_set (i := 5) sc_law.nd rfl (Or.inl rfl) (pe_call G_law_read hr_law_read rfl T.m_law_read T.F_law_read.kp T.b_law_read .nil pass0 (pa_cons (pv 4) pa_nil)))
    (pss_cons (ps_set (i := 6) sc_law.nd rfl (Or.inl rfl) (pe_lst (pa_cons pe_non (pa_cons pe_int (pa_cons (pe_lst (pa_cons pe_str pa_nil)) (pa_cons (pe_tup (pa_cons pe_str pa_nil)) (pa_cons (pe_op op_add_str (pv 4) pe_str) (pa_cons pe_str (pa_cons (pe_op op_add_str pe_str (pe_op op_mulT pe_str pe_int)) pa_nil)))))))))
    (pss_cons (ps_set (i := 7) sc_law.nd rfl (Or.inl rfl) (pe_lst (pa_cons (pe_tup (pa_cons (pv 4) (pa_cons (pv 5) pa_nil))) (pa_cons (pe_tup (pa_cons (pe_call G_law_pick hr_law_pick rfl T.m_law_pick T.F_law_pick.kp T.b_law_pick .nil pass0 (pa_cons (pv 1) (pa_cons (pv 6) pa_nil))) (pa_cons (pe_tup (pa_cons pe_str (pa_cons pe_int pa_nil))) pa_nil))) (pa_cons (pe_tup (pa_cons (pv 4) (pa_cons (pv 5) pa_nil))) pa_nil)))))
    (pss_cons (ps_for PassesOwn.never rfl (pi_list (pe_op op_cat (pe_slice sl_list (pv 7) (po_some (pe_call G_law_draw hr_law_draw rfl T.m_law_draw T.F_law_draw.kp T.b_law_draw .nil pass0 (pa_cons (pv 1) (pa_cons pe_int pa_nil)))) po_none) (pe_slice sl_list (pv 7) po_none (po_some (pe_op op_add pe_int (pe_call G_law_draw hr_law_draw rfl T.m_law_draw T.F_law_draw.kp T.b_law_draw .nil pass0 (pa_cons (pv 1) (pa_cons pe_int pa_nil)))))))) (pg_tup rfl (pgs_cons (pg_name (i := 8) sc_law.nd rfl (Or.inl rfl)) (pgs_cons (pg_name (i := 9) sc_law.nd rfl (Or.inl rfl)) pgs_nil)))
    (pss_one (ps_if (PW.pt (pw_or (pt_cmpR (neP (u200 hr)) (pe_call G_law_told hr_law_told rfl T.m_law_told T.F_law_told.kp T.b_law_told .nil pass0 (pa_cons (pv 8) pa_nil)) (pv 9) (nomark _)) (pw_or1 (pt_cmpR op_ne (pe_call G_law_by_kinds hr_law_by_kinds rfl T.m_law_by_kinds T.F_law_by_kinds.kp T.b_law_by_kinds .nil pass0 (pa_cons (pv 8) pa_nil)) (pe_cmpR (eqP (u200 hr)) (pe_ix ix_tup (pv 9) pe_int (fun _ _ => rfl)) pe_str (nomark _)) (nomark _))))) (pss_one (ps_ret pe_bl)) pss_nil)))
    (pss_one (ps_ret pe_bl))))))))))), ?_⟩
    refine ⟨_, rfl, a, ns, rfl, hS, h63, fun d c H1 s1 D1 => ?_⟩
    refine go_nm (nx_of ?_)
    refine ⟨_, rfl, d, c, rfl, D1, fun tv t H2 iT hT x2 D2 => ?_⟩
    refine go_nm (nx_of ?_)
    refine ⟨_, rfl, _, rfl, _, rfl, _, rfl, d, c, tv, t, rfl, D2, iT, hT, fun gv fs H3 iG hF hG x3 D3 => ?_⟩
    have iT3 := iT.ex x3 D2
    have hP : PgOk t fs := ⟨hT, hF, hG⟩
    refine ⟨tv, gv, t, fs, rfl, iT3, iG, hP, fun pl H4 s4 e4 => ?_⟩
    have D4 := D3.same s4
    have npd : pl ≠ d ∧ pl ≠ c := by
      obtain ⟨ns2, m2, ed, ec, _⟩ := D4
      obtain ⟨x, r, hxr⟩ : ∃ x r, lines t fs = x :: r := by
        cases e : lines t fs with
        | nil =>
          have h1 := hT.f1
          have : (lines t fs).length = 0 := by rw [e]; rfl
          unfold lines at this
          simp only [List.length_append, List.length_map] at this
          omega
        | cons x r => exact ⟨x, r, rfl⟩
      rw [hxr] at e4
      refine ⟨fun z => ?_, fun z => ?_⟩
      · rw [z, ed] at e4; cases e4
      · rw [z, ec] at e4
        cases ns2 with
        | nil => cases e4
        | cons y ys => cases e4
    refine ⟨d, c, pl, lines t fs, rfl, D4, e4, npd.1, npd.2, line_all hP, by rw [w1_full]; have := hP.len; omega, fun p5 L H5 e5 ok5 w5 D5 => ?_⟩
    refine go_nm (nx_of ?_)
    have sw := sum_w1 L
    refine ⟨⟨_, rfl⟩, _, rfl, "\n", p5, L.map mkS, rfl, rfl, .inl (SqL.of (by rw [List.map_map]; exact e5)), by rw [show ("\n" : Str).length = 1 from rfl, Nat.mul_one]; omega, ?_⟩
    rw [join_mk, show cs "\n" = [10] from rfl]
    refine ⟨_, rfl, d, c, 9, rfl, D5, by decide, by decide, fun r6 H6 _ _ x6 D6 => ?_⟩
    obtain ⟨n6, hn6, en6⟩ : ∃ n : Nat, n ≤ 1 ∧ (if decide ((0 : Int) < r6) = true then (1 : Int) else 0) = (n : Int) := by
      by_cases h : decide ((0 : Int) < r6) = true
      · exact ⟨1, Nat.le_refl _, by rw [if_pos h]; rfl⟩
      · exact ⟨0, Nat.zero_le _, by rw [if_neg h]; rfl⟩
    have lrep := repL_len n6 [10]
    have lgj := gj_len2 [10] L (by decide)
    have lrep1 : (repL n6 [10]).length ≤ 1 := by rw [lrep]; simpa using hn6
    refine ⟨_, _, rfl, rfl, .inr ⟨_, rfl, [10], n6, rfl, by rw [en6], by decide, by omega, by simp; omega, _, _, rfl, rfl, by rw [mk_len, mk_len]; exact small8 (by omega), ?_⟩⟩
    refine go_nm (nx_of ?_)
    rw [mk_app]
    have hT0 : ∀ c ∈ gj [10] L ++ repL n6 [10], c = 10 ∨ okr c := fun c hc => by
      rcases List.mem_append.mp hc with hc | hc
      · exact gj_all ok5 c hc
      · unfold repL at hc
        obtain ⟨x, hx, hc⟩ := List.mem_flatten.mp hc
        rw [(List.mem_replicate.mp hx).2] at hc
        exact .inl (List.mem_singleton.mp hc)
    have lT0 : (gj [10] L ++ repL n6 [10]).length ≤ 200000 := by rw [List.length_append]; omega
    generalize gj [10] L ++ repL n6 [10] = T0 at hT0 lT0 ⊢
    have hm : (mkS T0).length = T0.length := mk_len _
    refine ⟨_, rfl, _, rfl, small8 (by omega), _, _, rfl, rfl, _, rfl, ?_⟩
    by_cases hlen : 5900 < T0.length
    case' pos =>
      rw [show decide ((5900 : Int) < ((mkS T0).length : Int)) = true from decide_eq_true (by omega)]
      refine iteT ⟨_, rfl, _, rfl, mkS T0, rfl, small8 (by omega), ?_⟩
      rw [show cutS (mkS T0) none (some 5900) = mkS (T0.take 5900) from cutS_pre T0 (a := 5900) (by omega)]
      refine go_nm ?_
      obtain ⟨T, hTe⟩ : ∃ T, T = T0.take 5900 := ⟨_, rfl⟩
      rw [← hTe]
      have hTg : ∀ c ∈ T, c = 10 ∨ okr c := fun c hc => hT0 c (by rw [hTe] at hc; exact List.mem_of_mem_take hc)
      have hTl : T.length ≤ 5900 := by rw [hTe, List.length_take]; omega
    case' neg =>
      rw [show decide ((5900 : Int) < ((mkS T0).length : Int)) = false from decide_eq_false (by omega)]
      refine iteF ?_
      obtain ⟨T, hTe⟩ : ∃ T, T = T0 := ⟨_, rfl⟩
      rw [← hTe]
      have hTg : ∀ c ∈ T, c = 10 ∨ okr c := fun c hc => hT0 c (by rw [← hTe]; exact hc)
      have hTl : T.length ≤ 5900 := by rw [hTe]; omega
    all_goals
      clear hTe hT0 lT0 hm hlen
      obtain ⟨ls, z, hTz, ok1, ok2⟩ := split10 T hTg
      have hlz : (fullT ls ++ z).length ≤ 6000 := by rw [← hTz]; omega
      refine ⟨_, rfl, ls, z, by rw [hTz]; rfl, hlz, ok1, ok2, fun dv H7 iv7 s7 => ?_⟩
      refine go_nm (nx_of ?_)
      have D7 := D6.same s7
      have hmT : (mkS T).length = T.length := mk_len _
      refine ⟨(by show 1 ≤ sizeLine; decide), fun ol hol => ⟨(by show 1 ≤ sizeLine; decide), fun ot hot => ?_⟩⟩
      have t1 := same_upd hol (.lst [V.str "a"])
      have t2 := same_upd hot (.tup [V.str "maker zero 0"])
      have D8 := (D7.same t1).same t2
      have eol := t2 _ _ (show (upd H7 ol (.lst [V.str "a"])) ol = some (.lst [V.str "a"]) from upd_same)
      have eot : (upd (upd H7 ol (.lst [V.str "a"])) ot (.tup [V.str "maker zero 0"])) ot = some (.tup [V.str "maker zero 0"]) := upd_same
      obtain ⟨fo1, fo2⟩ := D7.free hol
      have iv8 := (iv7.same t1).same t2
      generalize upd (upd H7 ol (.lst [V.str "a"])) ot (.tup [V.str "maker zero 0"]) = H8 at D8 eol eot iv8 ⊢
      clear t1 t2 hol hot
      have ltab : ("\t" : Str).length = 1 := rfl
      refine ⟨_, rfl, _, _, rfl, rfl, by rw [hmT, ltab]; exact small7 (by omega), ?_⟩
      have lA : (repL 6000 [97]).length = 6000 := by rw [repL_len]; rfl
      have e97 : SV [97] = V.str "a" := rfl
      refine ⟨[97], 6000, rfl, rfl, by decide, by decide, by decide, _, _, rfl, rfl, by rw [mk_len, lA]; exact small7 (by decide), ?_⟩
      refine ⟨(by show 7 ≤ sizeLine; decide), fun po hpo => ?_⟩
      refine go_nm (nx_of ?_)
      have eo9 : V.str (mkS T ++ "\t") = SV (T ++ [9]) := by unfold SV; rw [← mk_app]; rfl
      have eo10 : V.str ("#" ++ mkS (repL 6000 [97])) = SV (35 :: repL 6000 [97]) := by
        unfold SV
        rw [show (35 :: repL 6000 [97]) = [35] ++ repL 6000 [97] from rfl, ← mk_app]; rfl
      rw [eo9, eo10]
      have t1 := same_upd hpo (.lst [V.non, .int 7, .ref ol, .ref ot, SV (T ++ [9]), .str "\t\n", SV (35 :: repL 6000 [97])])
      obtain ⟨fp1, fp2⟩ := D8.free hpo
      have D9 := D8.same t1
      have iv9 := iv8.same t1
      have eol9 := t1 _ _ eol
      have eot9 := t1 _ _ eot
      have epo : (upd H8 po (.lst [V.non, .int 7, .ref ol, .ref ot, SV (T ++ [9]), .str "\t\n", SV (35 :: repL 6000 [97])])) po = some (.lst [V.non, .int 7, .ref ol, .ref ot, SV (T ++ [9]), .str "\t\n", SV (35 :: repL 6000 [97])]) := upd_same
      generalize upd H8 po (.lst [V.non, .int 7, .ref ol, .ref ot, SV (T ++ [9]), .str "\t\n", SV (35 :: repL 6000 [97])]) = H9 at D9 iv9 eol9 eot9 epo ⊢
      have oddOf : ∀ x ∈ [V.non, .int 7, .ref ol, .ref ot, SV (T ++ [9]), .str "\t\n", SV (35 :: repL 6000 [97])], OddV d c H9 T x := fun x hx => by
        simp only [List.mem_cons, List.not_mem_nil, or_false] at hx
        rcases hx with rfl | rfl | rfl | rfl | rfl | rfl | rfl
        · exact .inl rfl
        · exact .inr (.inl rfl)
        · exact .inr (.inr (.inl ⟨ol, rfl, eol9, fo1, fo2⟩))
        · exact .inr (.inr (.inr (.inl ⟨ot, rfl, eot9⟩)))
        · exact .inr (.inr (.inr (.inr (.inl rfl))))
        · exact .inr (.inr (.inr (.inr (.inr (.inl rfl)))))
        · exact .inr (.inr (.inr (.inr (.inr (.inr rfl)))))
      refine ⟨_, rfl, _, rfl, (by show 2 ≤ sizeLine; decide), fun a1 ha1 => ?_⟩
      have u1 := same_upd ha1 (.tup [V.str (mkS T), dv])
      have D10 := D9.same u1
      have P1 : PairAt d c T (drf ls z) (upd H9 a1 (.tup [V.str (mkS T), dv])) (.ref a1) := ⟨a1, _, _, rfl, upd_same, .inl ⟨rfl, iv9.same u1⟩⟩
      have iv10 := iv9.same u1
      have odd10 := fun x hx => (oddOf x hx).same u1
      have epo10 := u1 _ _ epo
      generalize upd H9 a1 (.tup [V.str (mkS T), dv]) = H10 at D10 P1 iv10 odd10 epo10 ⊢
      refine ⟨_, rfl, _, rfl, d, c, po, _, rfl, D10, .inl epo10, fp1, fp2, by simp, by simp, fun pv H11 hpv x11 D11 => ?_⟩
      have oddP := (odd10 pv hpv).ex x11 D10
      have P1' := P1.ex x11 D10
      have iv11 := iv10.ex x11 D10
      refine ⟨(by show 2 ≤ sizeLine; decide), fun a2 ha2 => ⟨(by show 2 ≤ sizeLine; decide), fun a3 ha3 => ?_⟩⟩
      have u2 := same_upd ha2 (.tup [.str "fault", .int 0])
      have u3 := same_upd ha3 (.tup [pv, .ref a2])
      have u23 := u2.trans u3
      have e2 := u3 _ _ (show (upd H11 a2 (.tup [.str "fault", .int 0])) a2 = some (.tup [.str "fault", .int 0]) from upd_same)
      have P2 : PairAt d c T (drf ls z) (upd (upd H11 a2 (.tup [.str "fault", .int 0])) a3 (.tup [pv, .ref a2])) (.ref a3) := ⟨a3, _, _, rfl, upd_same, .inr ⟨oddP.same u23, .tup e2 (.cons (.str _ (by decide +kernel)) (.cons (.int 0) .nil))⟩⟩
      have P1'' := P1'.same u23
      have D12 := D11.same u23
      have iv12 := iv11.same u23
      generalize upd (upd H11 a2 (.tup [.str "fault", .int 0])) a3 (.tup [pv, .ref a2]) = H12 at P2 P1'' D12 iv12 ⊢
      refine ⟨_, rfl, _, rfl, (by show 2 ≤ sizeLine; decide), fun a4 ha4 => ⟨(by show 3 ≤ sizeLine; decide), fun pa hpa => ?_⟩⟩
      have u4 := same_upd ha4 (.tup [V.str (mkS T), dv])
      have u5 := same_upd hpa (.lst [.ref a1, .ref a3, .ref a4])
      have u45 := u4.trans u5
      have P3 : PairAt d c T (drf ls z) (upd (upd H12 a4 (.tup [V.str (mkS T), dv])) pa (.lst [.ref a1, .ref a3, .ref a4])) (.ref a4) := ⟨a4, _, _, rfl, u5 _ _ upd_same, .inl ⟨rfl, iv12.same u45⟩⟩
      have Q1 := P1''.same u45
      have Q2 := P2.same u45
      have D13 := D12.same u45
      have epa : (upd (upd H12 a4 (.tup [V.str (mkS T), dv])) pa (.lst [.ref a1, .ref a3, .ref a4])) pa = some (.lst [.ref a1, .ref a3, .ref a4]) := upd_same
      obtain ⟨fa1, fa2⟩ := D12.free (u4.free hpa)
      refine go_nm (nx_of ?_)
      generalize upd (upd H12 a4 (.tup [V.str (mkS T), dv])) pa (.lst [.ref a1, .ref a3, .ref a4]) = H13 at P3 Q1 Q2 D13 epa ⊢
      have PA : ∀ x ∈ [V.ref a1, .ref a3, .ref a4], PairAt d c T (drf ls z) H13 x := fun x hx => by
        simp only [List.mem_cons, List.not_mem_nil, or_false] at hx
        rcases hx with rfl | rfl | rfl
        · exact Q1
        · exact Q2
        · exact P3
      refine ⟨_, rfl, _, rfl, d, c, 3, rfl, D13, by decide, by decide, fun r14 H14 _ _ x14 D14 => ⟨_, rfl, pa, _, rfl, SqL.of (x14.but _ _ fa1 fa2 epa), fun p1 hp1 => ?_⟩⟩
      have epa14 := x14.but _ _ fa1 fa2 epa
      have v1 := same_upd hp1 (.lst (cutV [V.ref a1, .ref a3, .ref a4] (some r14) none))
      have D15 := D14.same v1
      obtain ⟨g1, g2⟩ := D14.free hp1
      have ep1 : (upd H14 p1 (.lst (cutV [V.ref a1, .ref a3, .ref a4] (some r14) none))) p1 = some (.lst (cutV [V.ref a1, .ref a3, .ref a4] (some r14) none)) := upd_same
      have epa15 := v1 _ _ epa14
      have PA15 : ∀ x ∈ [V.ref a1, .ref a3, .ref a4], PairAt d c T (drf ls z) (upd H14 p1 (.lst (cutV [V.ref a1, .ref a3, .ref a4] (some r14) none))) x := fun x hx => ((PA x hx).ex x14 D13).same v1
      generalize upd H14 p1 (.lst (cutV [V.ref a1, .ref a3, .ref a4] (some r14) none)) = H15 at D15 ep1 epa15 PA15 ⊢
      refine ⟨_, rfl, _, rfl, d, c, 3, rfl, D15, by decide, by decide, fun r16 H16 _ _ x16 D16 => ⟨_, _, rfl, rfl, _, rfl, pa, _, rfl, SqL.of (x16.but _ _ fa1 fa2 epa15), fun p2 hp2 => ?_⟩⟩
      have v2 := same_upd hp2 (.lst (cutV [V.ref a1, .ref a3, .ref a4] none (some (1 + r16))))
      have ep1' := v2 _ _ (x16.but _ _ g1 g2 ep1)
      have PA17 : ∀ x ∈ [V.ref a1, .ref a3, .ref a4], PairAt d c T (drf ls z) (upd H16 p2 (.lst (cutV [V.ref a1, .ref a3, .ref a4] none (some (1 + r16))))) x := fun x hx => ((PA15 x hx).ex x16 D15).same v2
      have lc1 := len_cut (xs := [V.ref a1, .ref a3, .ref a4]) (lo := some r14) (hi := none)
      have lc2 := len_cut (xs := [V.ref a1, .ref a3, .ref a4]) (lo := none) (hi := some (1 + r16))
      simp only [List.length_cons, List.length_nil] at lc1 lc2
      have ep2 : (upd H16 p2 (.lst (cutV [V.ref a1, .ref a3, .ref a4] none (some (1 + r16))))) p2 = some (.lst (cutV [V.ref a1, .ref a3, .ref a4] none (some (1 + r16)))) := upd_same
      generalize upd H16 p2 (.lst (cutV [V.ref a1, .ref a3, .ref a4] none (some (1 + r16)))) = H17 at ep1' PA17 ep2 ⊢
      refine ⟨p1, p2, _, _, rfl, rfl, ep1', ep2, small7 (by omega), fun p3 hp3 => ?_⟩
      have hmem : ∀ x ∈ cutV [V.ref a1, .ref a3, .ref a4] (some r14) none ++ cutV [V.ref a1, .ref a3, .ref a4] none (some (1 + r16)), PairAt d c T (drf ls z) H17 x := fun x hx => (List.mem_append.mp hx).elim (fun h => PA17 x (mem_cut x h)) fun h => PA17 x (mem_cut x h)
      generalize cutV [V.ref a1, .ref a3, .ref a4] (some r14) none ++ cutV [V.ref a1, .ref a3, .ref a4] none (some (1 + r16)) = XS at hmem hp3 ⊢
      have v3 := same_upd hp3 (.lst XS)
      have hmem3 : ∀ x ∈ XS, PairAt d c T (drf ls z) (upd H17 p3 (.lst XS)) x := fun x hx => (hmem x hx).same v3
      have ep3 : (upd H17 p3 (.lst XS)) p3 = some (.lst XS) := upd_same
      generalize upd H17 p3 (.lst XS) = H18 at hmem3 ep3 ⊢
      refine ⟨p3, rfl, ⟨_, SqL.of ep3⟩, ?_⟩
      refine for_list (K := K) (a := p3) (xs := XS) (fun i σ H' => ∃ y8 y9, σ = [some (.ref a), some (.ref d), some tv, some (.ref p5), some (V.str (mkS T)), some dv, some (.ref po), some (.ref pa), y8, y9] ∧ Same H18 H') ?_ ?_ ?_ ?_
      · exact ⟨_, _, rfl, .refl _⟩
      · exact fun i σ H' _ ⟨_, _, _, s⟩ => SqL.of (s _ _ ep3)
      · rintro i x σ H19 hx ⟨y8, y9, rfl, s19⟩
        obtain ⟨ar, v, u, rfl, ear, hor⟩ := ((hmem3 x (List.mem_of_getElem? hx)).same s19).h
        obtain ⟨r, hR, iu, hdep⟩ : ∃ r, (∀ H', Same H19 H' → ReadsTo K H' v r) ∧ Is H19 u (outP r) ∧ dep (outP r) ≤ 60 := by
          rcases hor with ⟨rfl, iu⟩ | ⟨od, iu⟩
          · exact ⟨drf ls z, fun H' _ => .inr ⟨ls, z, by rw [hTz], hlz, ok1, ok2, rfl⟩, iu, drf_deep hlz ok1⟩
          · exact ⟨.error 0, fun H' s' => .inl ⟨(od.same s').no hTg hTl, rfl⟩, iu, by simp [outP, dep, depL]⟩
        refine ⟨ar, _, rfl, .inl (.inl ear), rfl, _, _, rfl, _, _, rfl, rfl, ?_⟩
        refine ⟨_, rfl, v, r, rfl, hR H19 (.refl _), fun v' H20 iv' s20 => ⟨_, rfl, ne_same iv' (iu.same s20) (by omega) ⟨_, rfl, iteF ?_⟩⟩⟩
        refine ⟨_, rfl, v, r, rfl, hR H20 s20, fun H21 s21 => ?_⟩
        have iu21 := (iu.same s20).same s21
        cases r with
        | error n =>
          obtain ⟨au, us, rfl, eau, iuu⟩ := iu21.tup_inv
          obtain ⟨w0, w1, rfl, i0, i1⟩ := two_inv iuu
          refine ⟨_, rfl, au, _, _, _, rfl, rfl, .inl (.inl eau), atI_nat (j := 0) rfl, ?_⟩
          refine ⟨_, .str "fault", i0.dp, .str _, i0.lay, by decide +kernel, by simp [toD, PyData.depth], ?_⟩
          refine ⟨rfl, _, rfl, ?_⟩
          rw [show (!decide (V.bl (isErr (Except.error n : Except Nat DS)) = V.bl (PyData.eqv (toD (.str "fault")) (.str "fault")))) = false by simp [isErr, toD, PyData.eqv]]
          exact iteF ⟨_, _, rfl, (s19.trans s20).trans s21⟩
        | ok s =>
          obtain ⟨au, us, rfl, eau, iuu⟩ := iu21.tup_inv
          obtain ⟨w0, w1, rfl, i0, i1⟩ := two_inv iuu
          refine ⟨_, rfl, au, _, _, _, rfl, rfl, .inl (.inl eau), atI_nat (j := 0) rfl, ?_⟩
          refine ⟨_, .str "fault", i0.dp, .str _, i0.lay, by decide +kernel, ?_, ?_⟩
          · have h1 := deepD (tabD s)
            simp only [outP, dep, depL] at hdep
            simp only [tabD] at h1 hdep ⊢
            simp only [dep] at h1 hdep
            omega
          refine ⟨rfl, _, rfl, ?_⟩
          rw [show (!decide (V.bl (isErr (Except.ok s : Except Nat DS)) = V.bl (PyData.eqv (toD (tabD s)) (.str "fault")))) = false by simp [isErr, tabD, toD, PyData.eqv]]
          exact iteF ⟨_, _, rfl, (s19.trans s20).trans s21⟩
      · rintro σ H19 ⟨y8, y9, rfl, s19⟩
        exact q _
end
end Kx
set_option maxHeartbeats 4000000
/-! The end: the program's top leaves the defs where the text says. -/
namespace Kx
open PySem L2
theorem all_mk {l : PySem.W.OpenLaw} {w : World} {K : PySem.W.Frag} {h : Heap} {mg : Str → Option Value} {fa f0 f1 f2 f3 f4 f5 f6 f7 f8 f9 f10 f11 f12 f13 f14 f15 f16 f17 f18 f19 f20 f21 f22 f23 f24 f25 f26 f27 f28 f29 f30 f31 f32 f33 f34 f35 f36 f37 f38 f39 f40 f41 f42 f43 f44 f45 f46 f47 f48 f49 f50 f51 f52 f53 f54 f55 f56 f57 f58 f59 f60 f61 : Addr} (X : K.In h) (G : h.Ns mainGlobals mg) (hfa : mg "law" = some (.ref fa))
    {od0 an0 od1 an1 od2 an2 od3 an3 od4 an4 od5 an5 od6 an6 od7 an7 od8 an8 od9 an9 od10 an10 od11 an11 od12 an12 od13 an13 od14 an14 od15 an15 od16 an16 od17 an17 od18 an18 od19 an19 od20 an20 od21 an21 od22 an22 od23 an23 od24 an24 od25 an25 od26 an26 od27 an27 od28 an28 od29 an29 od30 an30 od31 an31 od32 an32 od33 an33 od34 an34 od35 an35 od36 an36 od37 an37 od38 an38 od39 an39 od40 an40 od41 an41 od42 an42 od43 an43 od44 an44 od45 an45 od46 an46 od47 an47 od48 an48 od49 an49 od50 an50 od51 an51 od52 an52 od53 an53 od54 an54 od55 an55 od56 an56 od57 an57 od58 an58 od59 an59 od60 an60 od61 an61 : Option Addr} {sl0 sl1 sl2 sl3 sl4 sl5 sl6 sl7 sl8 sl9 sl10 sl11 sl12 sl13 sl14 sl15 sl16 sl17 sl18 sl19 sl20 sl21 sl22 sl23 sl24 sl25 sl26 sl27 sl28 sl29 sl30 sl31 sl32 sl33 sl34 sl35 sl36 sl37 sl38 sl39 sl40 sl41 sl42 sl43 sl44 sl45 sl46 sl47 sl48 sl49 sl50 sl51 sl52 sl53 sl54 sl55 sl56 sl57 sl58 sl59 sl60 sl61 : Array (Option Value)} {oc0 kV0 dc0 pm0 cd0 ct0 oc1 kV1 dc1 pm1 cd1 ct1 oc2 kV2 dc2 pm2 cd2 ct2 oc3 kV3 dc3 pm3 cd3 ct3 oc4 kV4 dc4 pm4 cd4 ct4 oc5 kV5 dc5 pm5 cd5 ct5 oc6 kV6 dc6 pm6 cd6 ct6 oc7 kV7 dc7 pm7 cd7 ct7 oc8 kV8 dc8 pm8 cd8 ct8 oc9 kV9 dc9 pm9 cd9 ct9 oc10 kV10 dc10 pm10 cd10 ct10 oc11 kV11 dc11 pm11 cd11 ct11 oc12 kV12 dc12 pm12 cd12 ct12 oc13 kV13 dc13 pm13 cd13 ct13 oc14 kV14 dc14 pm14 cd14 ct14 oc15 kV15 dc15 pm15 cd15 ct15 oc16 kV16 dc16 pm16 cd16 ct16 oc17 kV17 dc17 pm17 cd17 ct17 oc18 kV18 dc18 pm18 cd18 ct18 oc19 kV19 dc19 pm19 cd19 ct19 oc20 kV20 dc20 pm20 cd20 ct20 oc21 kV21 dc21 pm21 cd21 ct21 oc22 kV22 dc22 pm22 cd22 ct22 oc23 kV23 dc23 pm23 cd23 ct23 oc24 kV24 dc24 pm24 cd24 ct24 oc25 kV25 dc25 pm25 cd25 ct25 oc26 kV26 dc26 pm26 cd26 ct26 oc27 kV27 dc27 pm27 cd27 ct27 oc28 kV28 dc28 pm28 cd28 ct28 oc29 kV29 dc29 pm29 cd29 ct29 oc30 kV30 dc30 pm30 cd30 ct30 oc31 kV31 dc31 pm31 cd31 ct31 oc32 kV32 dc32 pm32 cd32 ct32 oc33 kV33 dc33 pm33 cd33 ct33 oc34 kV34 dc34 pm34 cd34 ct34 oc35 kV35 dc35 pm35 cd35 ct35 oc36 kV36 dc36 pm36 cd36 ct36 oc37 kV37 dc37 pm37 cd37 ct37 oc38 kV38 dc38 pm38 cd38 ct38 oc39 kV39 dc39 pm39 cd39 ct39 oc40 kV40 dc40 pm40 cd40 ct40 oc41 kV41 dc41 pm41 cd41 ct41 oc42 kV42 dc42 pm42 cd42 ct42 oc43 kV43 dc43 pm43 cd43 ct43 oc44 kV44 dc44 pm44 cd44 ct44 oc45 kV45 dc45 pm45 cd45 ct45 oc46 kV46 dc46 pm46 cd46 ct46 oc47 kV47 dc47 pm47 cd47 ct47 oc48 kV48 dc48 pm48 cd48 ct48 oc49 kV49 dc49 pm49 cd49 ct49 oc50 kV50 dc50 pm50 cd50 ct50 oc51 kV51 dc51 pm51 cd51 ct51 oc52 kV52 dc52 pm52 cd52 ct52 oc53 kV53 dc53 pm53 cd53 ct53 oc54 kV54 dc54 pm54 cd54 ct54 oc55 kV55 dc55 pm55 cd55 ct55 oc56 kV56 dc56 pm56 cd56 ct56 oc57 kV57 dc57 pm57 cd57 ct57 oc58 kV58 dc58 pm58 cd58 ct58 oc59 kV59 dc59 pm59 cd59 ct59 oc60 kV60 dc60 pm60 cd60 ct60 oc61 kV61 dc61 pm61 cd61 ct61 : Value}
    {C0 : Addr} (aC0 : PySem.W.nsIn K mainGlobals "Line" = some (some (.ref C0))) (pg0 : PySem.W.plainGet K C0 Str.empty = true) (hd0 : PySem.W.hasDictIn K C0 = true) (po0 : PySem.W.plainOver K C0 = true) (sa0 : PySem.W.findIn K (.ref C0) "__setattr__" = some (some (.builtin "object.__setattr__"))) (mk0 : PySem.W.makesIn K C0 = true) (kc0 : PySem.W.keepIn K (.ref C0) = true) (nx0_0 : PySem.W.findIn K (.ref C0) "number" = some none) (nx0_1 : PySem.W.findIn K (.ref C0) "at" = some none) (nx0_2 : PySem.W.findIn K (.ref C0) "tokens" = some none)
    {C1 : Addr} (aC1 : PySem.W.nsIn K mainGlobals "Question" = some (some (.ref C1))) (pg1 : PySem.W.plainGet K C1 Str.empty = true) (hd1 : PySem.W.hasDictIn K C1 = true) (po1 : PySem.W.plainOver K C1 = true) (sa1 : PySem.W.findIn K (.ref C1) "__setattr__" = some (some (.builtin "object.__setattr__"))) (mk1 : PySem.W.makesIn K C1 = true) (kc1 : PySem.W.keepIn K (.ref C1) = true) 
    {C2 : Addr} (aC2 : PySem.W.nsIn K mainGlobals "Draft" = some (some (.ref C2))) (pg2 : PySem.W.plainGet K C2 Str.empty = true) (hd2 : PySem.W.hasDictIn K C2 = true) (po2 : PySem.W.plainOver K C2 = true) (sa2 : PySem.W.findIn K (.ref C2) "__setattr__" = some (some (.builtin "object.__setattr__"))) (mk2 : PySem.W.makesIn K C2 = true) (kc2 : PySem.W.keepIn K (.ref C2) = true) (nx2_0 : PySem.W.findIn K (.ref C2) "asks" = some none) (nx2_1 : PySem.W.findIn K (.ref C2) "makers" = some none) (nx2_2 : PySem.W.findIn K (.ref C2) "families" = some none) (nx2_3 : PySem.W.findIn K (.ref C2) "constructors" = some none) (nx2_4 : PySem.W.findIn K (.ref C2) "functions" = some none) (nx2_5 : PySem.W.findIn K (.ref C2) "questions" = some none)
    {ti0 : PySem.Tok} (gi0 : PySem.W.nsIn K mainGlobals "MOST_NAME" = some (some (.int 12 ti0)))
    {ti1 : PySem.Tok} (gi1 : PySem.W.nsIn K mainGlobals "MOST_TEXT" = some (some (.int 6000 ti1)))
    {ti2 : PySem.Tok} (gi2 : PySem.W.nsIn K mainGlobals "MOST_OPEN" = some (some (.int 40 ti2)))
    {ti3 : PySem.Tok} (gi3 : PySem.W.nsIn K mainGlobals "MOST_DIGITS" = some (some (.int 2 ti3)))
    {ti4 : PySem.Tok} (gi4 : PySem.W.nsIn K mainGlobals "PERCENT_CODE" = some (some (.int 37 ti4)))
    (a0 : PySem.W.nsIn K mainGlobals "is_word" = some (some (.ref f0))) (l0 : K.lookup f0 = some ⟨oc0, od0, .func (PySem.W.fnOf "is_word" "is_word" (defArgs s_is_word) (defBody s_is_word) (defScope s_is_word) .none kV0 dc0 pm0 an0 cd0 ct0), sl0⟩) (c0 : PySem.W.codeIn K cd0 "is_word" = true) (k0 : PySem.W.keepIn K (.ref f0) = true)
    (a1 : PySem.W.nsIn K mainGlobals "rows_of" = some (some (.ref f1))) (l1 : K.lookup f1 = some ⟨oc1, od1, .func (PySem.W.fnOf "rows_of" "rows_of" (defArgs s_rows_of) (defBody s_rows_of) (defScope s_rows_of) .none kV1 dc1 pm1 an1 cd1 ct1), sl1⟩) (c1 : PySem.W.codeIn K cd1 "rows_of" = true) (k1 : PySem.W.keepIn K (.ref f1) = true)
    (a2 : PySem.W.nsIn K mainGlobals "_is_allowed" = some (some (.ref f2))) (l2 : K.lookup f2 = some ⟨oc2, od2, .func (PySem.W.fnOf "_is_allowed" "_is_allowed" (defArgs s_is_allowed) (defBody s_is_allowed) (defScope s_is_allowed) .none kV2 dc2 pm2 an2 cd2 ct2), sl2⟩) (c2 : PySem.W.codeIn K cd2 "_is_allowed" = true) (k2 : PySem.W.keepIn K (.ref f2) = true)
    (a3 : PySem.W.findIn K (.ref C0) "__init__" = some (some (.ref f3))) (i3 : PySem.W.isFn K (.ref f3) = true) (l3 : K.lookup f3 = some ⟨oc3, od3, .func (PySem.W.fnOf "__init__" "Line.__init__" (defArgs s_Line_init) (defBody s_Line_init) (defScope s_Line_init) .none kV3 dc3 pm3 an3 cd3 ct3), sl3⟩) (c3 : PySem.W.codeIn K cd3 "Line.__init__" = true) (k3 : PySem.W.keepIn K (.ref f3) = true)
    (a4 : PySem.W.findIn K (.ref C0) "refuse" = some (some (.ref f4))) (i4 : PySem.W.isFn K (.ref f4) = true) (l4 : K.lookup f4 = some ⟨oc4, od4, .func (PySem.W.fnOf "refuse" "Line.refuse" (defArgs s_Line_refuse) (defBody s_Line_refuse) (defScope s_Line_refuse) .none kV4 dc4 pm4 an4 cd4 ct4), sl4⟩) (c4 : PySem.W.codeIn K cd4 "Line.refuse" = true) (k4 : PySem.W.keepIn K (.ref f4) = true)
    (a5 : PySem.W.findIn K (.ref C0) "comes" = some (some (.ref f5))) (i5 : PySem.W.isFn K (.ref f5) = true) (l5 : K.lookup f5 = some ⟨oc5, od5, .func (PySem.W.fnOf "comes" "Line.comes" (defArgs s_Line_comes) (defBody s_Line_comes) (defScope s_Line_comes) .none kV5 dc5 pm5 an5 cd5 ct5), sl5⟩) (c5 : PySem.W.codeIn K cd5 "Line.comes" = true) (k5 : PySem.W.keepIn K (.ref f5) = true)
    (a6 : PySem.W.findIn K (.ref C0) "take" = some (some (.ref f6))) (i6 : PySem.W.isFn K (.ref f6) = true) (l6 : K.lookup f6 = some ⟨oc6, od6, .func (PySem.W.fnOf "take" "Line.take" (defArgs s_Line_take) (defBody s_Line_take) (defScope s_Line_take) .none kV6 dc6 pm6 an6 cd6 ct6), sl6⟩) (c6 : PySem.W.codeIn K cd6 "Line.take" = true) (k6 : PySem.W.keepIn K (.ref f6) = true)
    (a7 : PySem.W.findIn K (.ref C0) "skip" = some (some (.ref f7))) (i7 : PySem.W.isFn K (.ref f7) = true) (l7 : K.lookup f7 = some ⟨oc7, od7, .func (PySem.W.fnOf "skip" "Line.skip" (defArgs s_Line_skip) (defBody s_Line_skip) (defScope s_Line_skip) .none kV7 dc7 pm7 an7 cd7 ct7), sl7⟩) (c7 : PySem.W.codeIn K cd7 "Line.skip" = true) (k7 : PySem.W.keepIn K (.ref f7) = true)
    (a8 : PySem.W.findIn K (.ref C0) "finish" = some (some (.ref f8))) (i8 : PySem.W.isFn K (.ref f8) = true) (l8 : K.lookup f8 = some ⟨oc8, od8, .func (PySem.W.fnOf "finish" "Line.finish" (defArgs s_Line_finish) (defBody s_Line_finish) (defScope s_Line_finish) .none kV8 dc8 pm8 an8 cd8 ct8), sl8⟩) (c8 : PySem.W.codeIn K cd8 "Line.finish" = true) (k8 : PySem.W.keepIn K (.ref f8) = true)
    (a9 : PySem.W.findIn K (.ref C0) "take_word" = some (some (.ref f9))) (i9 : PySem.W.isFn K (.ref f9) = true) (l9 : K.lookup f9 = some ⟨oc9, od9, .func (PySem.W.fnOf "take_word" "Line.take_word" (defArgs s_Line_take_word) (defBody s_Line_take_word) (defScope s_Line_take_word) .none kV9 dc9 pm9 an9 cd9 ct9), sl9⟩) (c9 : PySem.W.codeIn K cd9 "Line.take_word" = true) (k9 : PySem.W.keepIn K (.ref f9) = true)
    (a10 : PySem.W.findIn K (.ref C0) "take_number" = some (some (.ref f10))) (i10 : PySem.W.isFn K (.ref f10) = true) (l10 : K.lookup f10 = some ⟨oc10, od10, .func (PySem.W.fnOf "take_number" "Line.take_number" (defArgs s_Line_take_number) (defBody s_Line_take_number) (defScope s_Line_take_number) .none kV10 dc10 pm10 an10 cd10 ct10), sl10⟩) (c10 : PySem.W.codeIn K cd10 "Line.take_number" = true) (k10 : PySem.W.keepIn K (.ref f10) = true)
    (a11 : PySem.W.findIn K (.ref C0) "take_tree" = some (some (.ref f11))) (i11 : PySem.W.isFn K (.ref f11) = true) (l11 : K.lookup f11 = some ⟨oc11, od11, .func (PySem.W.fnOf "take_tree" "Line.take_tree" (defArgs s_Line_take_tree) (defBody s_Line_take_tree) (defScope s_Line_take_tree) .none kV11 dc11 pm11 an11 cd11 ct11), sl11⟩) (c11 : PySem.W.codeIn K cd11 "Line.take_tree" = true) (k11 : PySem.W.keepIn K (.ref f11) = true)
    (a12 : PySem.W.findIn K (.ref C0) "take_trees" = some (some (.ref f12))) (i12 : PySem.W.isFn K (.ref f12) = true) (l12 : K.lookup f12 = some ⟨oc12, od12, .func (PySem.W.fnOf "take_trees" "Line.take_trees" (defArgs s_Line_take_trees) (defBody s_Line_take_trees) (defScope s_Line_take_trees) .none kV12 dc12 pm12 an12 cd12 ct12), sl12⟩) (c12 : PySem.W.codeIn K cd12 "Line.take_trees" = true) (k12 : PySem.W.keepIn K (.ref f12) = true)
    (a13 : PySem.W.nsIn K mainGlobals "_tokens_of" = some (some (.ref f13))) (l13 : K.lookup f13 = some ⟨oc13, od13, .func (PySem.W.fnOf "_tokens_of" "_tokens_of" (defArgs s_tokens_of) (defBody s_tokens_of) (defScope s_tokens_of) .none kV13 dc13 pm13 an13 cd13 ct13), sl13⟩) (c13 : PySem.W.codeIn K cd13 "_tokens_of" = true) (k13 : PySem.W.keepIn K (.ref f13) = true)
    (a14 : PySem.W.nsIn K mainGlobals "_token_end" = some (some (.ref f14))) (l14 : K.lookup f14 = some ⟨oc14, od14, .func (PySem.W.fnOf "_token_end" "_token_end" (defArgs s_token_end) (defBody s_token_end) (defScope s_token_end) .none kV14 dc14 pm14 an14 cd14 ct14), sl14⟩) (c14 : PySem.W.codeIn K cd14 "_token_end" = true) (k14 : PySem.W.keepIn K (.ref f14) = true)
    (a15 : PySem.W.nsIn K mainGlobals "_is_number" = some (some (.ref f15))) (l15 : K.lookup f15 = some ⟨oc15, od15, .func (PySem.W.fnOf "_is_number" "_is_number" (defArgs s_is_number) (defBody s_is_number) (defScope s_is_number) .none kV15 dc15 pm15 an15 cd15 ct15), sl15⟩) (c15 : PySem.W.codeIn K cd15 "_is_number" = true) (k15 : PySem.W.keepIn K (.ref f15) = true)
    (a16 : PySem.W.nsIn K mainGlobals "_most_open" = some (some (.ref f16))) (l16 : K.lookup f16 = some ⟨oc16, od16, .func (PySem.W.fnOf "_most_open" "_most_open" (defArgs s_most_open) (defBody s_most_open) (defScope s_most_open) .none kV16 dc16 pm16 an16 cd16 ct16), sl16⟩) (c16 : PySem.W.codeIn K cd16 "_most_open" = true) (k16 : PySem.W.keepIn K (.ref f16) = true)
    (a17 : PySem.W.findIn K (.ref C1) "__init__" = some (some (.ref f17))) (i17 : PySem.W.isFn K (.ref f17) = true) (l17 : K.lookup f17 = some ⟨oc17, od17, .func (PySem.W.fnOf "__init__" "Question.__init__" (defArgs s_Question_init) (defBody s_Question_init) (defScope s_Question_init) .none kV17 dc17 pm17 an17 cd17 ct17), sl17⟩) (c17 : PySem.W.codeIn K cd17 "Question.__init__" = true) (k17 : PySem.W.keepIn K (.ref f17) = true)
    (a18 : PySem.W.nsIn K mainGlobals "take_question" = some (some (.ref f18))) (l18 : K.lookup f18 = some ⟨oc18, od18, .func (PySem.W.fnOf "take_question" "take_question" (defArgs s_take_question) (defBody s_take_question) (defScope s_take_question) .none kV18 dc18 pm18 an18 cd18 ct18), sl18⟩) (c18 : PySem.W.codeIn K cd18 "take_question" = true) (k18 : PySem.W.keepIn K (.ref f18) = true)
    (a19 : PySem.W.findIn K (.ref C2) "__init__" = some (some (.ref f19))) (i19 : PySem.W.isFn K (.ref f19) = true) (l19 : K.lookup f19 = some ⟨oc19, od19, .func (PySem.W.fnOf "__init__" "Draft.__init__" (defArgs s_Draft_init) (defBody s_Draft_init) (defScope s_Draft_init) .none kV19 dc19 pm19 an19 cd19 ct19), sl19⟩) (c19 : PySem.W.codeIn K cd19 "Draft.__init__" = true) (k19 : PySem.W.keepIn K (.ref f19) = true)
    (a20 : PySem.W.nsIn K mainGlobals "read" = some (some (.ref f20))) (l20 : K.lookup f20 = some ⟨oc20, od20, .func (PySem.W.fnOf "read" "read" (defArgs s_read) (defBody s_read) (defScope s_read) .none kV20 dc20 pm20 an20 cd20 ct20), sl20⟩) (c20 : PySem.W.codeIn K cd20 "read" = true) (k20 : PySem.W.keepIn K (.ref f20) = true)
    (a21 : PySem.W.nsIn K mainGlobals "_drafted" = some (some (.ref f21))) (l21 : K.lookup f21 = some ⟨oc21, od21, .func (PySem.W.fnOf "_drafted" "_drafted" (defArgs s_drafted) (defBody s_drafted) (defScope s_drafted) .none kV21 dc21 pm21 an21 cd21 ct21), sl21⟩) (c21 : PySem.W.codeIn K cd21 "_drafted" = true) (k21 : PySem.W.keepIn K (.ref f21) = true)
    (a22 : PySem.W.nsIn K mainGlobals "_take_line" = some (some (.ref f22))) (l22 : K.lookup f22 = some ⟨oc22, od22, .func (PySem.W.fnOf "_take_line" "_take_line" (defArgs s_take_line) (defBody s_take_line) (defScope s_take_line) .none kV22 dc22 pm22 an22 cd22 ct22), sl22⟩) (c22 : PySem.W.codeIn K cd22 "_take_line" = true) (k22 : PySem.W.keepIn K (.ref f22) = true)
    (a23 : PySem.W.nsIn K mainGlobals "_take_maker" = some (some (.ref f23))) (l23 : K.lookup f23 = some ⟨oc23, od23, .func (PySem.W.fnOf "_take_maker" "_take_maker" (defArgs s_take_maker) (defBody s_take_maker) (defScope s_take_maker) .none kV23 dc23 pm23 an23 cd23 ct23), sl23⟩) (c23 : PySem.W.codeIn K cd23 "_take_maker" = true) (k23 : PySem.W.keepIn K (.ref f23) = true)
    (a24 : PySem.W.nsIn K mainGlobals "_take_constructor" = some (some (.ref f24))) (l24 : K.lookup f24 = some ⟨oc24, od24, .func (PySem.W.fnOf "_take_constructor" "_take_constructor" (defArgs s_take_constructor) (defBody s_take_constructor) (defScope s_take_constructor) .none kV24 dc24 pm24 an24 cd24 ct24), sl24⟩) (c24 : PySem.W.codeIn K cd24 "_take_constructor" = true) (k24 : PySem.W.keepIn K (.ref f24) = true)
    (a25 : PySem.W.nsIn K mainGlobals "_take_function" = some (some (.ref f25))) (l25 : K.lookup f25 = some ⟨oc25, od25, .func (PySem.W.fnOf "_take_function" "_take_function" (defArgs s_take_function) (defBody s_take_function) (defScope s_take_function) .none kV25 dc25 pm25 an25 cd25 ct25), sl25⟩) (c25 : PySem.W.codeIn K cd25 "_take_function" = true) (k25 : PySem.W.keepIn K (.ref f25) = true)
    (a26 : PySem.W.nsIn K mainGlobals "_take_kinds" = some (some (.ref f26))) (l26 : K.lookup f26 = some ⟨oc26, od26, .func (PySem.W.fnOf "_take_kinds" "_take_kinds" (defArgs s_take_kinds) (defBody s_take_kinds) (defScope s_take_kinds) .none kV26 dc26 pm26 an26 cd26 ct26), sl26⟩) (c26 : PySem.W.codeIn K cd26 "_take_kinds" = true) (k26 : PySem.W.keepIn K (.ref f26) = true)
    (a27 : PySem.W.nsIn K mainGlobals "_take_kind" = some (some (.ref f27))) (l27 : K.lookup f27 = some ⟨oc27, od27, .func (PySem.W.fnOf "_take_kind" "_take_kind" (defArgs s_take_kind) (defBody s_take_kind) (defScope s_take_kind) .none kV27 dc27 pm27 an27 cd27 ct27), sl27⟩) (c27 : PySem.W.codeIn K cd27 "_take_kind" = true) (k27 : PySem.W.keepIn K (.ref f27) = true)
    (a28 : PySem.W.nsIn K mainGlobals "_take_clause" = some (some (.ref f28))) (l28 : K.lookup f28 = some ⟨oc28, od28, .func (PySem.W.fnOf "_take_clause" "_take_clause" (defArgs s_take_clause) (defBody s_take_clause) (defScope s_take_clause) .none kV28 dc28 pm28 an28 cd28 ct28), sl28⟩) (c28 : PySem.W.codeIn K cd28 "_take_clause" = true) (k28 : PySem.W.keepIn K (.ref f28) = true)
    (a29 : PySem.W.nsIn K mainGlobals "_table" = some (some (.ref f29))) (l29 : K.lookup f29 = some ⟨oc29, od29, .func (PySem.W.fnOf "_table" "_table" (defArgs s_table) (defBody s_table) (defScope s_table) .none kV29 dc29 pm29 an29 cd29 ct29), sl29⟩) (c29 : PySem.W.codeIn K cd29 "_table" = true) (k29 : PySem.W.keepIn K (.ref f29) = true)
    (a30 : PySem.W.nsIn K mainGlobals "_program" = some (some (.ref f30))) (l30 : K.lookup f30 = some ⟨oc30, od30, .func (PySem.W.fnOf "_program" "_program" (defArgs s_program) (defBody s_program) (defScope s_program) .none kV30 dc30 pm30 an30 cd30 ct30), sl30⟩) (c30 : PySem.W.codeIn K cd30 "_program" = true) (k30 : PySem.W.keepIn K (.ref f30) = true)
    (a31 : PySem.W.nsIn K mainGlobals "_constructor_words" = some (some (.ref f31))) (l31 : K.lookup f31 = some ⟨oc31, od31, .func (PySem.W.fnOf "_constructor_words" "_constructor_words" (defArgs s_constructor_words) (defBody s_constructor_words) (defScope s_constructor_words) .none kV31 dc31 pm31 an31 cd31 ct31), sl31⟩) (c31 : PySem.W.codeIn K cd31 "_constructor_words" = true) (k31 : PySem.W.keepIn K (.ref f31) = true)
    (a32 : PySem.W.nsIn K mainGlobals "_kinds" = some (some (.ref f32))) (l32 : K.lookup f32 = some ⟨oc32, od32, .func (PySem.W.fnOf "_kinds" "_kinds" (defArgs s_kinds) (defBody s_kinds) (defScope s_kinds) .none kV32 dc32 pm32 an32 cd32 ct32), sl32⟩) (c32 : PySem.W.codeIn K cd32 "_kinds" = true) (k32 : PySem.W.keepIn K (.ref f32) = true)
    (a33 : PySem.W.nsIn K mainGlobals "_clauses" = some (some (.ref f33))) (l33 : K.lookup f33 = some ⟨oc33, od33, .func (PySem.W.fnOf "_clauses" "_clauses" (defArgs s_clauses) (defBody s_clauses) (defScope s_clauses) .none kV33 dc33 pm33 an33 cd33 ct33), sl33⟩) (c33 : PySem.W.codeIn K cd33 "_clauses" = true) (k33 : PySem.W.keepIn K (.ref f33) = true)
    (a34 : PySem.W.nsIn K mainGlobals "_declared" = some (some (.ref f34))) (l34 : K.lookup f34 = some ⟨oc34, od34, .func (PySem.W.fnOf "_declared" "_declared" (defArgs s_declared) (defBody s_declared) (defScope s_declared) .none kV34 dc34 pm34 an34 cd34 ct34), sl34⟩) (c34 : PySem.W.codeIn K cd34 "_declared" = true) (k34 : PySem.W.keepIn K (.ref f34) = true)
    (a35 : PySem.W.nsIn K mainGlobals "_law_state" = some (some (.ref f35))) (l35 : K.lookup f35 = some ⟨oc35, od35, .func (PySem.W.fnOf "_law_state" "_law_state" (defArgs s_law_state) (defBody s_law_state) (defScope s_law_state) .none kV35 dc35 pm35 an35 cd35 ct35), sl35⟩) (c35 : PySem.W.codeIn K cd35 "_law_state" = true) (k35 : PySem.W.keepIn K (.ref f35) = true)
    (a36 : PySem.W.nsIn K mainGlobals "_law_draw" = some (some (.ref f36))) (l36 : K.lookup f36 = some ⟨oc36, od36, .func (PySem.W.fnOf "_law_draw" "_law_draw" (defArgs s_law_draw) (defBody s_law_draw) (defScope s_law_draw) .none kV36 dc36 pm36 an36 cd36 ct36), sl36⟩) (c36 : PySem.W.codeIn K cd36 "_law_draw" = true) (k36 : PySem.W.keepIn K (.ref f36) = true)
    (a37 : PySem.W.nsIn K mainGlobals "_law_pick" = some (some (.ref f37))) (l37 : K.lookup f37 = some ⟨oc37, od37, .func (PySem.W.fnOf "_law_pick" "_law_pick" (defArgs s_law_pick) (defBody s_law_pick) (defScope s_law_pick) .none kV37 dc37 pm37 an37 cd37 ct37), sl37⟩) (c37 : PySem.W.codeIn K cd37 "_law_pick" = true) (k37 : PySem.W.keepIn K (.ref f37) = true)
    (a38 : PySem.W.nsIn K mainGlobals "_law_tree" = some (some (.ref f38))) (l38 : K.lookup f38 = some ⟨oc38, od38, .func (PySem.W.fnOf "_law_tree" "_law_tree" (defArgs s_law_tree) (defBody s_law_tree) (defScope s_law_tree) .none kV38 dc38 pm38 an38 cd38 ct38), sl38⟩) (c38 : PySem.W.codeIn K cd38 "_law_tree" = true) (k38 : PySem.W.keepIn K (.ref f38) = true)
    (a39 : PySem.W.nsIn K mainGlobals "_law_types" = some (some (.ref f39))) (l39 : K.lookup f39 = some ⟨oc39, od39, .func (PySem.W.fnOf "_law_types" "_law_types" (defArgs s_law_types) (defBody s_law_types) (defScope s_law_types) .none kV39 dc39 pm39 an39 cd39 ct39), sl39⟩) (c39 : PySem.W.codeIn K cd39 "_law_types" = true) (k39 : PySem.W.keepIn K (.ref f39) = true)
    (a40 : PySem.W.nsIn K mainGlobals "_law_table" = some (some (.ref f40))) (l40 : K.lookup f40 = some ⟨oc40, od40, .func (PySem.W.fnOf "_law_table" "_law_table" (defArgs s_law_table) (defBody s_law_table) (defScope s_law_table) .none kV40 dc40 pm40 an40 cd40 ct40), sl40⟩) (c40 : PySem.W.codeIn K cd40 "_law_table" = true) (k40 : PySem.W.keepIn K (.ref f40) = true)
    (a41 : PySem.W.nsIn K mainGlobals "_law_clause" = some (some (.ref f41))) (l41 : K.lookup f41 = some ⟨oc41, od41, .func (PySem.W.fnOf "_law_clause" "_law_clause" (defArgs s_law_clause) (defBody s_law_clause) (defScope s_law_clause) .none kV41 dc41 pm41 an41 cd41 ct41), sl41⟩) (c41 : PySem.W.codeIn K cd41 "_law_clause" = true) (k41 : PySem.W.keepIn K (.ref f41) = true)
    (a42 : PySem.W.nsIn K mainGlobals "_law_program" = some (some (.ref f42))) (l42 : K.lookup f42 = some ⟨oc42, od42, .func (PySem.W.fnOf "_law_program" "_law_program" (defArgs s_law_program) (defBody s_law_program) (defScope s_law_program) .none kV42 dc42 pm42 an42 cd42 ct42), sl42⟩) (c42 : PySem.W.codeIn K cd42 "_law_program" = true) (k42 : PySem.W.keepIn K (.ref f42) = true)
    (a43 : PySem.W.nsIn K mainGlobals "_law_text" = some (some (.ref f43))) (l43 : K.lookup f43 = some ⟨oc43, od43, .func (PySem.W.fnOf "_law_text" "_law_text" (defArgs s_law_text) (defBody s_law_text) (defScope s_law_text) .none kV43 dc43 pm43 an43 cd43 ct43), sl43⟩) (c43 : PySem.W.codeIn K cd43 "_law_text" = true) (k43 : PySem.W.keepIn K (.ref f43) = true)
    (a44 : PySem.W.nsIn K mainGlobals "_law_pairs" = some (some (.ref f44))) (l44 : K.lookup f44 = some ⟨oc44, od44, .func (PySem.W.fnOf "_law_pairs" "_law_pairs" (defArgs s_law_pairs) (defBody s_law_pairs) (defScope s_law_pairs) .none kV44 dc44 pm44 an44 cd44 ct44), sl44⟩) (c44 : PySem.W.codeIn K cd44 "_law_pairs" = true) (k44 : PySem.W.keepIn K (.ref f44) = true)
    (a45 : PySem.W.nsIn K mainGlobals "_law_lines" = some (some (.ref f45))) (l45 : K.lookup f45 = some ⟨oc45, od45, .func (PySem.W.fnOf "_law_lines" "_law_lines" (defArgs s_law_lines) (defBody s_law_lines) (defScope s_law_lines) .none kV45 dc45 pm45 an45 cd45 ct45), sl45⟩) (c45 : PySem.W.codeIn K cd45 "_law_lines" = true) (k45 : PySem.W.keepIn K (.ref f45) = true)
    (a46 : PySem.W.nsIn K mainGlobals "_law_is_letter" = some (some (.ref f46))) (l46 : K.lookup f46 = some ⟨oc46, od46, .func (PySem.W.fnOf "_law_is_letter" "_law_is_letter" (defArgs s_law_is_letter) (defBody s_law_is_letter) (defScope s_law_is_letter) .none kV46 dc46 pm46 an46 cd46 ct46), sl46⟩) (c46 : PySem.W.codeIn K cd46 "_law_is_letter" = true) (k46 : PySem.W.keepIn K (.ref f46) = true)
    (a47 : PySem.W.nsIn K mainGlobals "_law_tokens" = some (some (.ref f47))) (l47 : K.lookup f47 = some ⟨oc47, od47, .func (PySem.W.fnOf "_law_tokens" "_law_tokens" (defArgs s_law_tokens) (defBody s_law_tokens) (defScope s_law_tokens) .none kV47 dc47 pm47 an47 cd47 ct47), sl47⟩) (c47 : PySem.W.codeIn K cd47 "_law_tokens" = true) (k47 : PySem.W.keepIn K (.ref f47) = true)
    (a48 : PySem.W.nsIn K mainGlobals "_law_kind" = some (some (.ref f48))) (l48 : K.lookup f48 = some ⟨oc48, od48, .func (PySem.W.fnOf "_law_kind" "_law_kind" (defArgs s_law_kind) (defBody s_law_kind) (defScope s_law_kind) .none kV48 dc48 pm48 an48 cd48 ct48), sl48⟩) (c48 : PySem.W.codeIn K cd48 "_law_kind" = true) (k48 : PySem.W.keepIn K (.ref f48) = true)
    (a49 : PySem.W.nsIn K mainGlobals "_law_parsed" = some (some (.ref f49))) (l49 : K.lookup f49 = some ⟨oc49, od49, .func (PySem.W.fnOf "_law_parsed" "_law_parsed" (defArgs s_law_parsed) (defBody s_law_parsed) (defScope s_law_parsed) .none kV49 dc49 pm49 an49 cd49 ct49), sl49⟩) (c49 : PySem.W.codeIn K cd49 "_law_parsed" = true) (k49 : PySem.W.keepIn K (.ref f49) = true)
    (a50 : PySem.W.nsIn K mainGlobals "_law_pair_list" = some (some (.ref f50))) (l50 : K.lookup f50 = some ⟨oc50, od50, .func (PySem.W.fnOf "_law_pair_list" "_law_pair_list" (defArgs s_law_pair_list) (defBody s_law_pair_list) (defScope s_law_pair_list) .none kV50 dc50 pm50 an50 cd50 ct50), sl50⟩) (c50 : PySem.W.codeIn K cd50 "_law_pair_list" = true) (k50 : PySem.W.keepIn K (.ref f50) = true)
    (a51 : PySem.W.nsIn K mainGlobals "_law_head" = some (some (.ref f51))) (l51 : K.lookup f51 = some ⟨oc51, od51, .func (PySem.W.fnOf "_law_head" "_law_head" (defArgs s_law_head) (defBody s_law_head) (defScope s_law_head) .none kV51 dc51 pm51 an51 cd51 ct51), sl51⟩) (c51 : PySem.W.codeIn K cd51 "_law_head" = true) (k51 : PySem.W.keepIn K (.ref f51) = true)
    (a52 : PySem.W.nsIn K mainGlobals "_law_item" = some (some (.ref f52))) (l52 : K.lookup f52 = some ⟨oc52, od52, .func (PySem.W.fnOf "_law_item" "_law_item" (defArgs s_law_item) (defBody s_law_item) (defScope s_law_item) .none kV52 dc52 pm52 an52 cd52 ct52), sl52⟩) (c52 : PySem.W.codeIn K cd52 "_law_item" = true) (k52 : PySem.W.keepIn K (.ref f52) = true)
    (a53 : PySem.W.nsIn K mainGlobals "_law_marked" = some (some (.ref f53))) (l53 : K.lookup f53 = some ⟨oc53, od53, .func (PySem.W.fnOf "_law_marked" "_law_marked" (defArgs s_law_marked) (defBody s_law_marked) (defScope s_law_marked) .none kV53 dc53 pm53 an53 cd53 ct53), sl53⟩) (c53 : PySem.W.codeIn K cd53 "_law_marked" = true) (k53 : PySem.W.keepIn K (.ref f53) = true)
    (a54 : PySem.W.nsIn K mainGlobals "_law_read" = some (some (.ref f54))) (l54 : K.lookup f54 = some ⟨oc54, od54, .func (PySem.W.fnOf "_law_read" "_law_read" (defArgs s_law_read) (defBody s_law_read) (defScope s_law_read) .none kV54 dc54 pm54 an54 cd54 ct54), sl54⟩) (c54 : PySem.W.codeIn K cd54 "_law_read" = true) (k54 : PySem.W.keepIn K (.ref f54) = true)
    (a55 : PySem.W.nsIn K mainGlobals "_law_pair" = some (some (.ref f55))) (l55 : K.lookup f55 = some ⟨oc55, od55, .func (PySem.W.fnOf "_law_pair" "_law_pair" (defArgs s_law_pair) (defBody s_law_pair) (defScope s_law_pair) .none kV55 dc55 pm55 an55 cd55 ct55), sl55⟩) (c55 : PySem.W.codeIn K cd55 "_law_pair" = true) (k55 : PySem.W.keepIn K (.ref f55) = true)
    (a56 : PySem.W.nsIn K mainGlobals "_law_turned" = some (some (.ref f56))) (l56 : K.lookup f56 = some ⟨oc56, od56, .func (PySem.W.fnOf "_law_turned" "_law_turned" (defArgs s_law_turned) (defBody s_law_turned) (defScope s_law_turned) .none kV56 dc56 pm56 an56 cd56 ct56), sl56⟩) (c56 : PySem.W.codeIn K cd56 "_law_turned" = true) (k56 : PySem.W.keepIn K (.ref f56) = true)
    (a57 : PySem.W.nsIn K mainGlobals "_law_deep" = some (some (.ref f57))) (l57 : K.lookup f57 = some ⟨oc57, od57, .func (PySem.W.fnOf "_law_deep" "_law_deep" (defArgs s_law_deep) (defBody s_law_deep) (defScope s_law_deep) .none kV57 dc57 pm57 an57 cd57 ct57), sl57⟩) (c57 : PySem.W.codeIn K cd57 "_law_deep" = true) (k57 : PySem.W.keepIn K (.ref f57) = true)
    (a58 : PySem.W.nsIn K mainGlobals "_law_spoilt" = some (some (.ref f58))) (l58 : K.lookup f58 = some ⟨oc58, od58, .func (PySem.W.fnOf "_law_spoilt" "_law_spoilt" (defArgs s_law_spoilt) (defBody s_law_spoilt) (defScope s_law_spoilt) .none kV58 dc58 pm58 an58 cd58 ct58), sl58⟩) (c58 : PySem.W.codeIn K cd58 "_law_spoilt" = true) (k58 : PySem.W.keepIn K (.ref f58) = true)
    (a59 : PySem.W.nsIn K mainGlobals "_law_told" = some (some (.ref f59))) (l59 : K.lookup f59 = some ⟨oc59, od59, .func (PySem.W.fnOf "_law_told" "_law_told" (defArgs s_law_told) (defBody s_law_told) (defScope s_law_told) .none kV59 dc59 pm59 an59 cd59 ct59), sl59⟩) (c59 : PySem.W.codeIn K cd59 "_law_told" = true) (k59 : PySem.W.keepIn K (.ref f59) = true)
    (a60 : PySem.W.nsIn K mainGlobals "_law_by_kinds" = some (some (.ref f60))) (l60 : K.lookup f60 = some ⟨oc60, od60, .func (PySem.W.fnOf "_law_by_kinds" "_law_by_kinds" (defArgs s_law_by_kinds) (defBody s_law_by_kinds) (defScope s_law_by_kinds) .none kV60 dc60 pm60 an60 cd60 ct60), sl60⟩) (c60 : PySem.W.codeIn K cd60 "_law_by_kinds" = true) (k60 : PySem.W.keepIn K (.ref f60) = true)
    (a61 : PySem.W.nsIn K mainGlobals "law" = some (some (.ref f61))) (l61 : K.lookup f61 = some ⟨oc61, od61, .func (PySem.W.fnOf "law" "law" (defArgs s_law) (defBody s_law) (defScope s_law) .none kV61 dc61 pm61 an61 cd61 ct61), sl61⟩) (c61 : PySem.W.codeIn K cd61 "law" = true) (k61 : PySem.W.keepIn K (.ref f61) = true)
    (z0 : PySem.W.nsIn K mainGlobals "isinstance" = some none)
    (z1 : PySem.W.nsIn K mainGlobals "str" = some none)
    (z2 : PySem.W.nsIn K mainGlobals "len" = some none)
    (z3 : PySem.W.nsIn K mainGlobals "ord" = some none)
    (z4 : PySem.W.nsIn K mainGlobals "int" = some none)
    (z5 : PySem.W.nsIn K mainGlobals "tuple" = some none)
    (z6 : PySem.W.nsIn K mainGlobals "max" = some none)
    (z7 : PySem.W.nsIn K mainGlobals "enumerate" = some none)
    (z8 : PySem.W.nsIn K mainGlobals "dict" = some none)
    (z9 : PySem.W.nsIn K mainGlobals "abs" = some none)
    (z10 : PySem.W.nsIn K mainGlobals "range" = some none)
    (z11 : PySem.W.nsIn K mainGlobals "list" = some none)
    {R0 RI0 RD0 RN0 : Addr} {rnm0 rqn0 : Str} {rbs0 rsub0 : List Value} {rsn0 : List Str} {rab0 : Bool} {rcol0 : Option Bool} {rdd0 : Option Addr} {ra0 rb0 rc0 rd0 re0 : Option Value} {roc0 rdc0 rpm0 rcd0 rct0 : Value} {rod0 ran0 : Option Addr} {rsl0 : Array (Option Value)}
    (qg0 : PySem.W.nsIn K mainGlobals "BadText" = some (some (.ref R0))) (qx0 : K.lookup R0 = some (excClassObj rnm0 rqn0 R0 RN0 rbs0 [.ref RD0, .type "ValueError", .type "Exception", .type "BaseException", .type "object"] true rsn0 rsub0 rab0 rcol0 rdd0 ra0 rb0 rc0 rd0 re0 "ValueError.__new__"))
    (qa0 : PySem.W.findIn K (.ref R0) "__setattr__" = some (some (.builtin "object.__setattr__"))) (qb0 : PySem.W.findIn K (.ref R0) "__getattribute__" = some (some (.builtin "BaseException.__getattribute__"))) (qc0 : PySem.W.findIn K (.ref R0) "__getattr__" = some none) (qd0 : PySem.W.findIn K (.ref R0) "line" = some none)
    (qe0 : PySem.W.findIn K (.ref R0) "__init__" = some (some (.ref RI0))) (qf0 : PySem.W.typeIn K (.ref RI0) = some (.type "function")) (qh0 : PySem.W.keepIn K (.ref R0) = true) (qi0 : PySem.W.subIn K (.ref R0) (.type "BaseException") = some true) (qj0 : PySem.W.typeIn K (.ref R0) = some (.type "type")) (qk0 : PySem.W.hasDictIn K R0 = true) (ql0 : PySem.W.isClsIn K R0 = true) (qm0 : PySem.W.subIn K (.ref R0) (.ref R0) = some true)
    (qn0 : K.lookup RI0 = some ⟨roc0, rod0, .func (PySem.W.fnOf "__init__" "BadText.__init__" (defArgs s_BadText_init) (defBody s_BadText_init) (defScope s_BadText_init) .none .none rdc0 rpm0 ran0 rcd0 rct0), rsl0⟩) (qo0 : PySem.W.codeIn K rcd0 "BadText.__init__" = true)
    (qp0 : PySem.W.nsIn K mainGlobals "KindsError" = some (some (.ref RD0))) (qr0 : PySem.W.subIn K (.ref RD0) (.type "BaseException") = some true) (qs0 : PySem.W.isClsIn K RD0 = true) (qt0 : PySem.W.typeIn K (.ref RD0) = some (.type "type")) (qu0 : PySem.W.subIn K (.ref R0) (.ref RD0) = some true)
    : ∃ fd : FuncData, (∀ (s : Shared) (v : Value), BindsTo s fd ⟨[v], []⟩ [("script", v)]) ∧ ∀ base : Heap, K.In base → base.Ns mainGlobals mg → FnOk l.prog w K mg base CX0 101 fa fd ["script"] (spLaw K) := by
  have e := hfa.symm.trans (PySem.W.mg_of X G a61)
  cases e
  let T : Txt K mg := {
    c_Line := C0, cl_Line := ⟨pg0, hd0, po0, sa0⟩, mg_Line := PySem.W.mg_of X G aC0,
    no_Line_number := nx0_0,
    no_Line_at := nx0_1,
    no_Line_tokens := nx0_2,
    mk_Line := ⟨mk0, a3, i3, kc0⟩,
    c_Question := C1, cl_Question := ⟨pg1, hd1, po1, sa1⟩, mg_Question := PySem.W.mg_of X G aC1,
    mk_Question := ⟨mk1, a17, i17, kc1⟩,
    c_Draft := C2, cl_Draft := ⟨pg2, hd2, po2, sa2⟩, mg_Draft := PySem.W.mg_of X G aC2,
    no_Draft_asks := nx2_0,
    no_Draft_makers := nx2_1,
    no_Draft_families := nx2_2,
    no_Draft_constructors := nx2_3,
    no_Draft_functions := nx2_4,
    no_Draft_questions := nx2_5,
    mk_Draft := ⟨mk2, a19, i19, kc2⟩,
    t_MOST_NAME := ti0, g_MOST_NAME := PySem.W.mg_of X G gi0,
    t_MOST_TEXT := ti1, g_MOST_TEXT := PySem.W.mg_of X G gi1,
    t_MOST_OPEN := ti2, g_MOST_OPEN := PySem.W.mg_of X G gi2,
    t_MOST_DIGITS := ti3, g_MOST_DIGITS := PySem.W.mg_of X G gi3,
    t_PERCENT_CODE := ti4, g_PERCENT_CODE := PySem.W.mg_of X G gi4,
    a_is_word := f0, d_is_word := _, F_is_word := fun_mk (st := s_is_word) l0 c0 k0, b_is_word := (fun_mk (st := s_is_word) l0 c0 k0).binds (ps := ["value"]) (fun _ _ _ _ _ _ us hl => match us, hl with | [_], _ => rfl), m_is_word := PySem.W.mg_of X G a0,
    a_rows_of := f1, d_rows_of := _, F_rows_of := fun_mk (st := s_rows_of) l1 c1 k1, b_rows_of := (fun_mk (st := s_rows_of) l1 c1 k1).binds (ps := ["text"]) (fun _ _ _ _ _ _ us hl => match us, hl with | [_], _ => rfl), m_rows_of := PySem.W.mg_of X G a1,
    a_is_allowed := f2, d_is_allowed := _, F_is_allowed := fun_mk (st := s_is_allowed) l2 c2 k2, b_is_allowed := (fun_mk (st := s_is_allowed) l2 c2 k2).binds (ps := ["sign"]) (fun _ _ _ _ _ _ us hl => match us, hl with | [_], _ => rfl), m_is_allowed := PySem.W.mg_of X G a2,
    a_Line_init := f3, d_Line_init := _, F_Line_init := fun_mk (st := s_Line_init) l3 c3 k3, b_Line_init := (fun_mk (st := s_Line_init) l3 c3 k3).binds (ps := ["self", "row", "number"]) (fun _ _ _ _ _ _ us hl => match us, hl with | [_, _, _], _ => rfl), me_Line_init := ⟨a3, i3, k3⟩,
    a_Line_refuse := f4, d_Line_refuse := _, F_Line_refuse := fun_mk (st := s_Line_refuse) l4 c4 k4, b_Line_refuse := (fun_mk (st := s_Line_refuse) l4 c4 k4).binds (ps := ["self"]) (fun _ _ _ _ _ _ us hl => match us, hl with | [_], _ => rfl), me_Line_refuse := ⟨a4, i4, k4⟩,
    a_Line_comes := f5, d_Line_comes := _, F_Line_comes := fun_mk (st := s_Line_comes) l5 c5 k5, b_Line_comes := (fun_mk (st := s_Line_comes) l5 c5 k5).binds (ps := ["self", "token"]) (fun _ _ _ _ _ _ us hl => match us, hl with | [_, _], _ => rfl), me_Line_comes := ⟨a5, i5, k5⟩,
    a_Line_take := f6, d_Line_take := _, F_Line_take := fun_mk (st := s_Line_take) l6 c6 k6, b_Line_take := (fun_mk (st := s_Line_take) l6 c6 k6).binds (ps := ["self"]) (fun _ _ _ _ _ _ us hl => match us, hl with | [_], _ => rfl), me_Line_take := ⟨a6, i6, k6⟩,
    a_Line_skip := f7, d_Line_skip := _, F_Line_skip := fun_mk (st := s_Line_skip) l7 c7 k7, b_Line_skip := (fun_mk (st := s_Line_skip) l7 c7 k7).binds (ps := ["self", "token"]) (fun _ _ _ _ _ _ us hl => match us, hl with | [_, _], _ => rfl), me_Line_skip := ⟨a7, i7, k7⟩,
    a_Line_finish := f8, d_Line_finish := _, F_Line_finish := fun_mk (st := s_Line_finish) l8 c8 k8, b_Line_finish := (fun_mk (st := s_Line_finish) l8 c8 k8).binds (ps := ["self"]) (fun _ _ _ _ _ _ us hl => match us, hl with | [_], _ => rfl), me_Line_finish := ⟨a8, i8, k8⟩,
    a_Line_take_word := f9, d_Line_take_word := _, F_Line_take_word := fun_mk (st := s_Line_take_word) l9 c9 k9, b_Line_take_word := (fun_mk (st := s_Line_take_word) l9 c9 k9).binds (ps := ["self"]) (fun _ _ _ _ _ _ us hl => match us, hl with | [_], _ => rfl), me_Line_take_word := ⟨a9, i9, k9⟩,
    a_Line_take_number := f10, d_Line_take_number := _, F_Line_take_number := fun_mk (st := s_Line_take_number) l10 c10 k10, b_Line_take_number := (fun_mk (st := s_Line_take_number) l10 c10 k10).binds (ps := ["self"]) (fun _ _ _ _ _ _ us hl => match us, hl with | [_], _ => rfl), me_Line_take_number := ⟨a10, i10, k10⟩,
    a_Line_take_tree := f11, d_Line_take_tree := _, F_Line_take_tree := fun_mk (st := s_Line_take_tree) l11 c11 k11, b_Line_take_tree := (fun_mk (st := s_Line_take_tree) l11 c11 k11).binds (ps := ["self"]) (fun _ _ _ _ _ _ us hl => match us, hl with | [_], _ => rfl), me_Line_take_tree := ⟨a11, i11, k11⟩,
    a_Line_take_trees := f12, d_Line_take_trees := _, F_Line_take_trees := fun_mk (st := s_Line_take_trees) l12 c12 k12, b_Line_take_trees := (fun_mk (st := s_Line_take_trees) l12 c12 k12).binds (ps := ["self"]) (fun _ _ _ _ _ _ us hl => match us, hl with | [_], _ => rfl), me_Line_take_trees := ⟨a12, i12, k12⟩,
    a_tokens_of := f13, d_tokens_of := _, F_tokens_of := fun_mk (st := s_tokens_of) l13 c13 k13, b_tokens_of := (fun_mk (st := s_tokens_of) l13 c13 k13).binds (ps := ["row"]) (fun _ _ _ _ _ _ us hl => match us, hl with | [_], _ => rfl), m_tokens_of := PySem.W.mg_of X G a13,
    a_token_end := f14, d_token_end := _, F_token_end := fun_mk (st := s_token_end) l14 c14 k14, b_token_end := (fun_mk (st := s_token_end) l14 c14 k14).binds (ps := ["row", "start"]) (fun _ _ _ _ _ _ us hl => match us, hl with | [_, _], _ => rfl), m_token_end := PySem.W.mg_of X G a14,
    a_is_number := f15, d_is_number := _, F_is_number := fun_mk (st := s_is_number) l15 c15 k15, b_is_number := (fun_mk (st := s_is_number) l15 c15 k15).binds (ps := ["token"]) (fun _ _ _ _ _ _ us hl => match us, hl with | [_], _ => rfl), m_is_number := PySem.W.mg_of X G a15,
    a_most_open := f16, d_most_open := _, F_most_open := fun_mk (st := s_most_open) l16 c16 k16, b_most_open := (fun_mk (st := s_most_open) l16 c16 k16).binds (ps := ["tokens"]) (fun _ _ _ _ _ _ us hl => match us, hl with | [_], _ => rfl), m_most_open := PySem.W.mg_of X G a16,
    a_Question_init := f17, d_Question_init := _, F_Question_init := fun_mk (st := s_Question_init) l17 c17 k17, b_Question_init := (fun_mk (st := s_Question_init) l17 c17 k17).binds (ps := ["self", "word"]) (fun _ _ _ _ _ _ us hl => match us, hl with | [_, _], _ => rfl), me_Question_init := ⟨a17, i17, k17⟩,
    a_take_question := f18, d_take_question := _, F_take_question := fun_mk (st := s_take_question) l18 c18 k18, b_take_question := (fun_mk (st := s_take_question) l18 c18 k18).binds (ps := ["line"]) (fun _ _ _ _ _ _ us hl => match us, hl with | [_], _ => rfl), m_take_question := PySem.W.mg_of X G a18,
    a_Draft_init := f19, d_Draft_init := _, F_Draft_init := fun_mk (st := s_Draft_init) l19 c19 k19, b_Draft_init := (fun_mk (st := s_Draft_init) l19 c19 k19).binds (ps := ["self", "asks"]) (fun _ _ _ _ _ _ us hl => match us, hl with | [_, _], _ => rfl), me_Draft_init := ⟨a19, i19, k19⟩,
    a_read := f20, d_read := _, F_read := fun_mk (st := s_read) l20 c20 k20, b_read := (fun_mk (st := s_read) l20 c20 k20).binds (ps := ["text"]) (fun _ _ _ _ _ _ us hl => match us, hl with | [_], _ => rfl), m_read := PySem.W.mg_of X G a20,
    a_drafted := f21, d_drafted := _, F_drafted := fun_mk (st := s_drafted) l21 c21 k21, b_drafted := (fun_mk (st := s_drafted) l21 c21 k21).binds (ps := ["text", "asks"]) (fun _ _ _ _ _ _ us hl => match us, hl with | [_, _], _ => rfl), m_drafted := PySem.W.mg_of X G a21,
    a_take_line := f22, d_take_line := _, F_take_line := fun_mk (st := s_take_line) l22 c22 k22, b_take_line := (fun_mk (st := s_take_line) l22 c22 k22).binds (ps := ["draft", "line"]) (fun _ _ _ _ _ _ us hl => match us, hl with | [_, _], _ => rfl), m_take_line := PySem.W.mg_of X G a22,
    a_take_maker := f23, d_take_maker := _, F_take_maker := fun_mk (st := s_take_maker) l23 c23 k23, b_take_maker := (fun_mk (st := s_take_maker) l23 c23 k23).binds (ps := ["draft", "line"]) (fun _ _ _ _ _ _ us hl => match us, hl with | [_, _], _ => rfl), m_take_maker := PySem.W.mg_of X G a23,
    a_take_constructor := f24, d_take_constructor := _, F_take_constructor := fun_mk (st := s_take_constructor) l24 c24 k24, b_take_constructor := (fun_mk (st := s_take_constructor) l24 c24 k24).binds (ps := ["draft", "line"]) (fun _ _ _ _ _ _ us hl => match us, hl with | [_, _], _ => rfl), m_take_constructor := PySem.W.mg_of X G a24,
    a_take_function := f25, d_take_function := _, F_take_function := fun_mk (st := s_take_function) l25 c25 k25, b_take_function := (fun_mk (st := s_take_function) l25 c25 k25).binds (ps := ["draft", "line"]) (fun _ _ _ _ _ _ us hl => match us, hl with | [_, _], _ => rfl), m_take_function := PySem.W.mg_of X G a25,
    a_take_kinds := f26, d_take_kinds := _, F_take_kinds := fun_mk (st := s_take_kinds) l26 c26 k26, b_take_kinds := (fun_mk (st := s_take_kinds) l26 c26 k26).binds (ps := ["line"]) (fun _ _ _ _ _ _ us hl => match us, hl with | [_], _ => rfl), m_take_kinds := PySem.W.mg_of X G a26,
    a_take_kind := f27, d_take_kind := _, F_take_kind := fun_mk (st := s_take_kind) l27 c27 k27, b_take_kind := (fun_mk (st := s_take_kind) l27 c27 k27).binds (ps := ["line"]) (fun _ _ _ _ _ _ us hl => match us, hl with | [_], _ => rfl), m_take_kind := PySem.W.mg_of X G a27,
    a_take_clause := f28, d_take_clause := _, F_take_clause := fun_mk (st := s_take_clause) l28 c28 k28, b_take_clause := (fun_mk (st := s_take_clause) l28 c28 k28).binds (ps := ["draft", "line"]) (fun _ _ _ _ _ _ us hl => match us, hl with | [_, _], _ => rfl), m_take_clause := PySem.W.mg_of X G a28,
    a_table := f29, d_table := _, F_table := fun_mk (st := s_table) l29 c29 k29, b_table := (fun_mk (st := s_table) l29 c29 k29).binds (ps := ["draft"]) (fun _ _ _ _ _ _ us hl => match us, hl with | [_], _ => rfl), m_table := PySem.W.mg_of X G a29,
    a_program := f30, d_program := _, F_program := fun_mk (st := s_program) l30 c30 k30, b_program := (fun_mk (st := s_program) l30 c30 k30).binds (ps := ["draft"]) (fun _ _ _ _ _ _ us hl => match us, hl with | [_], _ => rfl), m_program := PySem.W.mg_of X G a30,
    a_constructor_words := f31, d_constructor_words := _, F_constructor_words := fun_mk (st := s_constructor_words) l31 c31 k31, b_constructor_words := (fun_mk (st := s_constructor_words) l31 c31 k31).binds (ps := ["draft"]) (fun _ _ _ _ _ _ us hl => match us, hl with | [_], _ => rfl), m_constructor_words := PySem.W.mg_of X G a31,
    a_kinds := f32, d_kinds := _, F_kinds := fun_mk (st := s_kinds) l32 c32 k32, b_kinds := (fun_mk (st := s_kinds) l32 c32 k32).binds (ps := ["kinds", "makers"]) (fun _ _ _ _ _ _ us hl => match us, hl with | [_, _], _ => rfl), m_kinds := PySem.W.mg_of X G a32,
    a_clauses := f33, d_clauses := _, F_clauses := fun_mk (st := s_clauses) l33 c33 k33, b_clauses := (fun_mk (st := s_clauses) l33 c33 k33).binds (ps := ["clauses", "constructors"]) (fun _ _ _ _ _ _ us hl => match us, hl with | [_, _], _ => rfl), m_clauses := PySem.W.mg_of X G a33,
    a_declared := f34, d_declared := _, F_declared := fun_mk (st := s_declared) l34 c34 k34, b_declared := (fun_mk (st := s_declared) l34 c34 k34).binds (ps := ["tree", "words"]) (fun _ _ _ _ _ _ us hl => match us, hl with | [_, _], _ => rfl), m_declared := PySem.W.mg_of X G a34,
    a_law_state := f35, d_law_state := _, F_law_state := fun_mk (st := s_law_state) l35 c35 k35, b_law_state := (fun_mk (st := s_law_state) l35 c35 k35).binds (ps := ["script"]) (fun _ _ _ _ _ _ us hl => match us, hl with | [_], _ => rfl), m_law_state := PySem.W.mg_of X G a35,
    a_law_draw := f36, d_law_draw := _, F_law_draw := fun_mk (st := s_law_draw) l36 c36 k36, b_law_draw := (fun_mk (st := s_law_draw) l36 c36 k36).binds (ps := ["state", "many"]) (fun _ _ _ _ _ _ us hl => match us, hl with | [_, _], _ => rfl), m_law_draw := PySem.W.mg_of X G a36,
    a_law_pick := f37, d_law_pick := _, F_law_pick := fun_mk (st := s_law_pick) l37 c37 k37, b_law_pick := (fun_mk (st := s_law_pick) l37 c37 k37).binds (ps := ["state", "row"]) (fun _ _ _ _ _ _ us hl => match us, hl with | [_, _], _ => rfl), m_law_pick := PySem.W.mg_of X G a37,
    a_law_tree := f38, d_law_tree := _, F_law_tree := fun_mk (st := s_law_tree) l38 c38 k38, b_law_tree := (fun_mk (st := s_law_tree) l38 c38 k38).binds (ps := ["state", "words", "names", "more", "deep"]) (fun _ _ _ _ _ _ us hl => match us, hl with | [_, _, _, _, _], _ => rfl), m_law_tree := PySem.W.mg_of X G a38,
    a_law_types := f39, d_law_types := _, F_law_types := fun_mk (st := s_law_types) l39 c39 k39, b_law_types := (fun_mk (st := s_law_types) l39 c39 k39).binds (ps := ["state", "families", "makers", "names", "many"]) (fun _ _ _ _ _ _ us hl => match us, hl with | [_, _, _, _, _], _ => rfl), m_law_types := PySem.W.mg_of X G a39,
    a_law_table := f40, d_law_table := _, F_law_table := fun_mk (st := s_law_table) l40 c40 k40, b_law_table := (fun_mk (st := s_law_table) l40 c40 k40).binds (ps := ["state"]) (fun _ _ _ _ _ _ us hl => match us, hl with | [_], _ => rfl), m_law_table := PySem.W.mg_of X G a40,
    a_law_clause := f41, d_law_clause := _, F_law_clause := fun_mk (st := s_law_clause) l41 c41 k41, b_law_clause := (fun_mk (st := s_law_clause) l41 c41 k41).binds (ps := ["state", "constructors", "many"]) (fun _ _ _ _ _ _ us hl => match us, hl with | [_, _, _], _ => rfl), m_law_clause := PySem.W.mg_of X G a41,
    a_law_program := f42, d_law_program := _, F_law_program := fun_mk (st := s_law_program) l42 c42 k42, b_law_program := (fun_mk (st := s_law_program) l42 c42 k42).binds (ps := ["state", "table"]) (fun _ _ _ _ _ _ us hl => match us, hl with | [_, _], _ => rfl), m_law_program := PySem.W.mg_of X G a42,
    a_law_text := f43, d_law_text := _, F_law_text := fun_mk (st := s_law_text) l43 c43 k43, b_law_text := (fun_mk (st := s_law_text) l43 c43 k43).binds (ps := ["tree"]) (fun _ _ _ _ _ _ us hl => match us, hl with | [_], _ => rfl), m_law_text := PySem.W.mg_of X G a43,
    a_law_pairs := f44, d_law_pairs := _, F_law_pairs := fun_mk (st := s_law_pairs) l44 c44 k44, b_law_pairs := (fun_mk (st := s_law_pairs) l44 c44 k44).binds (ps := ["pairs"]) (fun _ _ _ _ _ _ us hl => match us, hl with | [_], _ => rfl), m_law_pairs := PySem.W.mg_of X G a44,
    a_law_lines := f45, d_law_lines := _, F_law_lines := fun_mk (st := s_law_lines) l45 c45 k45, b_law_lines := (fun_mk (st := s_law_lines) l45 c45 k45).binds (ps := ["table", "program"]) (fun _ _ _ _ _ _ us hl => match us, hl with | [_, _], _ => rfl), m_law_lines := PySem.W.mg_of X G a45,
    a_law_is_letter := f46, d_law_is_letter := _, F_law_is_letter := fun_mk (st := s_law_is_letter) l46 c46 k46, b_law_is_letter := (fun_mk (st := s_law_is_letter) l46 c46 k46).binds (ps := ["char"]) (fun _ _ _ _ _ _ us hl => match us, hl with | [_], _ => rfl), m_law_is_letter := PySem.W.mg_of X G a46,
    a_law_tokens := f47, d_law_tokens := _, F_law_tokens := fun_mk (st := s_law_tokens) l47 c47 k47, b_law_tokens := (fun_mk (st := s_law_tokens) l47 c47 k47).binds (ps := ["line"]) (fun _ _ _ _ _ _ us hl => match us, hl with | [_], _ => rfl), m_law_tokens := PySem.W.mg_of X G a47,
    a_law_kind := f48, d_law_kind := _, F_law_kind := fun_mk (st := s_law_kind) l48 c48 k48, b_law_kind := (fun_mk (st := s_law_kind) l48 c48 k48).binds (ps := ["token"]) (fun _ _ _ _ _ _ us hl => match us, hl with | [_], _ => rfl), m_law_kind := PySem.W.mg_of X G a48,
    a_law_parsed := f49, d_law_parsed := _, F_law_parsed := fun_mk (st := s_law_parsed) l49 c49 k49, b_law_parsed := (fun_mk (st := s_law_parsed) l49 c49 k49).binds (ps := ["row", "k", "deep"]) (fun _ _ _ _ _ _ us hl => match us, hl with | [_, _, _], _ => rfl), m_law_parsed := PySem.W.mg_of X G a49,
    a_law_pair_list := f50, d_law_pair_list := _, F_law_pair_list := fun_mk (st := s_law_pair_list) l50 c50 k50, b_law_pair_list := (fun_mk (st := s_law_pair_list) l50 c50 k50).binds (ps := ["row", "k"]) (fun _ _ _ _ _ _ us hl => match us, hl with | [_, _], _ => rfl), m_law_pair_list := PySem.W.mg_of X G a50,
    a_law_head := f51, d_law_head := _, F_law_head := fun_mk (st := s_law_head) l51 c51 k51, b_law_head := (fun_mk (st := s_law_head) l51 c51 k51).binds (ps := ["row", "k", "least"]) (fun _ _ _ _ _ _ us hl => match us, hl with | [_, _, _], _ => rfl), m_law_head := PySem.W.mg_of X G a51,
    a_law_item := f52, d_law_item := _, F_law_item := fun_mk (st := s_law_item) l52 c52 k52, b_law_item := (fun_mk (st := s_law_item) l52 c52 k52).binds (ps := ["row"]) (fun _ _ _ _ _ _ us hl => match us, hl with | [_], _ => rfl), m_law_item := PySem.W.mg_of X G a52,
    a_law_marked := f53, d_law_marked := _, F_law_marked := fun_mk (st := s_law_marked) l53 c53 k53, b_law_marked := (fun_mk (st := s_law_marked) l53 c53 k53).binds (ps := ["tree", "words"]) (fun _ _ _ _ _ _ us hl => match us, hl with | [_, _], _ => rfl), m_law_marked := PySem.W.mg_of X G a53,
    a_law_read := f54, d_law_read := _, F_law_read := fun_mk (st := s_law_read) l54 c54 k54, b_law_read := (fun_mk (st := s_law_read) l54 c54 k54).binds (ps := ["text"]) (fun _ _ _ _ _ _ us hl => match us, hl with | [_], _ => rfl), m_law_read := PySem.W.mg_of X G a54,
    a_law_pair := f55, d_law_pair := _, F_law_pair := fun_mk (st := s_law_pair) l55 c55 k55, b_law_pair := (fun_mk (st := s_law_pair) l55 c55 k55).binds (ps := ["items"]) (fun _ _ _ _ _ _ us hl => match us, hl with | [_], _ => rfl), m_law_pair := PySem.W.mg_of X G a55,
    a_law_turned := f56, d_law_turned := _, F_law_turned := fun_mk (st := s_law_turned) l56 c56 k56, b_law_turned := (fun_mk (st := s_law_turned) l56 c56 k56).binds (ps := ["state", "row"]) (fun _ _ _ _ _ _ us hl => match us, hl with | [_, _], _ => rfl), m_law_turned := PySem.W.mg_of X G a56,
    a_law_deep := f57, d_law_deep := _, F_law_deep := fun_mk (st := s_law_deep) l57 c57 k57, b_law_deep := (fun_mk (st := s_law_deep) l57 c57 k57).binds (ps := ["state", "term"]) (fun _ _ _ _ _ _ us hl => match us, hl with | [_, _], _ => rfl), m_law_deep := PySem.W.mg_of X G a57,
    a_law_spoilt := f58, d_law_spoilt := _, F_law_spoilt := fun_mk (st := s_law_spoilt) l58 c58 k58, b_law_spoilt := (fun_mk (st := s_law_spoilt) l58 c58 k58).binds (ps := ["state", "lines"]) (fun _ _ _ _ _ _ us hl => match us, hl with | [_, _], _ => rfl), m_law_spoilt := PySem.W.mg_of X G a58,
    a_law_told := f59, d_law_told := _, F_law_told := fun_mk (st := s_law_told) l59 c59 k59, b_law_told := (fun_mk (st := s_law_told) l59 c59 k59).binds (ps := ["value"]) (fun _ _ _ _ _ _ us hl => match us, hl with | [_], _ => rfl), m_law_told := PySem.W.mg_of X G a59,
    a_law_by_kinds := f60, d_law_by_kinds := _, F_law_by_kinds := fun_mk (st := s_law_by_kinds) l60 c60 k60, b_law_by_kinds := (fun_mk (st := s_law_by_kinds) l60 c60 k60).binds (ps := ["value"]) (fun _ _ _ _ _ _ us hl => match us, hl with | [_], _ => rfl), m_law_by_kinds := PySem.W.mg_of X G a60,
    a_law := fa, d_law := _, F_law := fun_mk (st := s_law) l61 c61 k61, b_law := (fun_mk (st := s_law) l61 c61 k61).binds (ps := ["script"]) (fun _ _ _ _ _ _ us hl => match us, hl with | [_], _ => rfl), m_law := PySem.W.mg_of X G a61,
    c_BadText := R0, i_BadText := RI0, low_BadText := { name := PySem.W.mg_of X G qg0, made := ⟨_, _, _, _, _, _, _, _, _, _, _, _, _, _, _, qx0, KBt.refs_own⟩, sets := qa0, gets := qb0, geta := qc0, free := qd0, init := qe0, fnTy := qf0, keep := qh0, base := qi0, type := qj0, dict := qk0, caught := KBt.exm_from qi0 ql0 qj0 qm0, code := ⟨_, _, _, _, _, _, _, _, _, _, _, _, _, _, qn0, qo0⟩ },
    c_KindsError := RD0, up_BadText := ⟨PySem.W.mg_of X G qp0, KBt.exm_up qr0 qs0 qt0 qu0⟩,
    z_isinstance := PySem.W.mg_none_of X G z0,
    z_str := PySem.W.mg_none_of X G z1,
    z_len := PySem.W.mg_none_of X G z2,
    z_ord := PySem.W.mg_none_of X G z3,
    z_int := PySem.W.mg_none_of X G z4,
    z_tuple := PySem.W.mg_none_of X G z5,
    z_max := PySem.W.mg_none_of X G z6,
    z_enumerate := PySem.W.mg_none_of X G z7,
    z_dict := PySem.W.mg_none_of X G z8,
    z_abs := PySem.W.mg_none_of X G z9,
    z_range := PySem.W.mg_none_of X G z10,
    z_list := PySem.W.mg_none_of X G z11 }
  refine ⟨PySem.W.fnOf "law" "law" (defArgs s_law) (defBody s_law) (defScope s_law) .none kV61 dc61 pm61 an61 cd61 ct61, fun _ _ => .of_eq rfl, fun base _ _ => ?_⟩
  have d1 := ok_law_draw (P := l.prog) (w := w) (base := base) T
  have pk := ok_law_pick T d1
  have tr := all_tree (P := l.prog) (w := w) (base := base) T 3
  have ty := ok_law_types T pk tr
  have tx := all_text (P := l.prog) (w := w) (base := base) T 3
  have ln := ok_law_lines T tx (ok_law_pairs T tx)
  have rf := okx_Line_refuse (P := l.prog) (w := w) (base := base) T
  have wd := ok_is_word (P := l.prog) (w := w) (base := base) T
  have co := ok_Line_comes (P := l.prog) (w := w) (base := base) T
  have tk := okx_Line_take T rf
  have sk := okx_Line_skip T tk rf
  have fi := okx_Line_finish T rf
  have tw := okx_Line_take_word T wd tk rf
  have tn := okx_Line_take_number T (ok_is_number T) tk rf
  have t40 := allX_tree (P := l.prog) (w := w) (base := base) T 40
  have t41 := allX_tree (P := l.prog) (w := w) (base := base) T 41
  have ts40 := allX_trees (P := l.prog) (w := w) (base := base) T 40
  have k1 := okx_take_kind T sk tw t40
  have ks := okx_take_kinds T k1 sk co
  have mk := okx_take_maker T tn tw
  have cn := okx_take_constructor T k1 sk co ks tw
  have fn := okx_take_function T k1 sk ks tn tw
  have cl := okx_take_clause T t41 sk ts40 tw rf
  have li := okx_take_line T mk tw cn fn tk cl rf
  have di := ok_Draft_init (P := l.prog) (w := w) (base := base) T
  have lini := okx_Line_init T (ok_most_open T) (ok_tokens_of T (ok_token_end T)) rf
  have dr := okx_drafted T fi li lini di (okx_rows_of T (ok_is_allowed T))
  have de := all_decl (P := l.prog) (w := w) (base := base) T 41
  have kd := ok_kinds T de
  have rd := okx_read T dr (ok_table T de kd) (ok_program T de kd (ok_clauses T de) (ok_constructor_words T))
  have jk := ok_law_tokens T (ok_law_is_letter (P := l.prog) (w := w) (base := base) T)
  have jp := all_parsed (P := l.prog) (w := w) (base := base) T 41
  have jh := ok_law_head T (ok_law_pair_list T jp)
  have ji := ok_law_item T jh jp (ok_law_kind T)
  have jr := ok_law_read T ji (ok_law_pair T (all_marked T 41)) jk
  have sp := ok_law_spoilt T (ok_law_turned T pk d1) jk (ok_law_deep T d1) pk d1
  exact ok_law T (ok_law_state T) (ok_law_table T d1 pk ty) (ok_law_program T d1 ty (ok_law_clause T tr)) ln sp d1 pk jr (ok_law_told T rd) (ok_law_by_kinds T rd)
theorem law_walk {l : PySem.W.OpenLaw} {q : Program} {loose : List Str} {XP : (Str → Option Value) → Heap → Prop} {YP : World → Heap → Prop} {r : DefRec} {K : Params → PySem.W.Frag}
    (h63 : l.most = some 63) (hno : r.params.defaults = []) (hK : ∀ (w : World) (h : Heap), YP w h → (K w.params).In h)
    (ok : ∀ (w : World) (mg : Str → Option Value) (fa : Addr) (h : Heap), (K w.params).In h → h.Ns mainGlobals mg → mg r.name = some (.ref fa) →
      ∃ fd : FuncData, (∀ (s : Shared) (u : Value), BindsTo s fd ⟨[u], []⟩ [("script", u)]) ∧
        ∀ base : Heap, (K w.params).In base → base.Ns mainGlobals mg → FnOk l.prog w (K w.params) mg base CX0 101 fa fd ["script"] (spLaw (K w.params))) :
    PySem.W.WalkO q loose XP YP l.row.toRowW r [] (fun f vs => PySem.call f vs) :=
  L2.walk_of (n := 63) (k := 101) (x := "script") (CX := fun _ => CX0) (sp := fun w => spLaw (K w.params)) h63 (by decide) hno ⟨rfl, by decide, by decide⟩ hK ok
    (fun _ _ a ns few _ seq => ⟨a, ns, rfl, seq, few, fun _ => rfl⟩) fun _ _ _ _ _ z => z
end Kx
open PySem PySem.W PyProof.Rows
set_option maxRecDepth 100000 in
set_option maxHeartbeats 0 in
theorem PySem.Challenge.cw_exactkinds_k07_whole_rows_of_tokens_are_holds : PySem.Challenge.rw_exactkinds_k07_whole_rows_of_tokens_are.Holds := by
  w_on; o_law; k_head; (case hw => w_witness2)
  k_fill
  refine Kx.law_walk (l := PySem.Challenge.rw_exactkinds_k07_whole_rows_of_tokens_are) rfl rfl (fun _ _ Y => PySem.W.kIn_of Y) ?walked
  case walked =>
    intro w mg fa h inK names hmg
    refine' Kx.all_mk inK names hmg ?aC0 ?pg0 ?hd0 ?po0 ?sa0 ?mk0 ?kc0 ?nx0_0 ?nx0_1 ?nx0_2 ?aC1 ?pg1 ?hd1 ?po1 ?sa1 ?mk1 ?kc1 ?aC2 ?pg2 ?hd2 ?po2 ?sa2 ?mk2 ?kc2 ?nx2_0 ?nx2_1 ?nx2_2 ?nx2_3 ?nx2_4 ?nx2_5 ?gi0 ?gi1 ?gi2 ?gi3 ?gi4 ?a0 ?l0 ?c0 ?k0 ?a1 ?l1 ?c1 ?k1 ?a2 ?l2 ?c2 ?k2 ?a3 ?i3 ?l3 ?c3 ?k3 ?a4 ?i4 ?l4 ?c4 ?k4 ?a5 ?i5 ?l5 ?c5 ?k5 ?a6 ?i6 ?l6 ?c6 ?k6 ?a7 ?i7 ?l7 ?c7 ?k7 ?a8 ?i8 ?l8 ?c8 ?k8 ?a9 ?i9 ?l9 ?c9 ?k9 ?a10 ?i10 ?l10 ?c10 ?k10 ?a11 ?i11 ?l11 ?c11 ?k11 ?a12 ?i12 ?l12 ?c12 ?k12 ?a13 ?l13 ?c13 ?k13 ?a14 ?l14 ?c14 ?k14 ?a15 ?l15 ?c15 ?k15 ?a16 ?l16 ?c16 ?k16 ?a17 ?i17 ?l17 ?c17 ?k17 ?a18 ?l18 ?c18 ?k18 ?a19 ?i19 ?l19 ?c19 ?k19 ?a20 ?l20 ?c20 ?k20 ?a21 ?l21 ?c21 ?k21 ?a22 ?l22 ?c22 ?k22 ?a23 ?l23 ?c23 ?k23 ?a24 ?l24 ?c24 ?k24 ?a25 ?l25 ?c25 ?k25 ?a26 ?l26 ?c26 ?k26 ?a27 ?l27 ?c27 ?k27 ?a28 ?l28 ?c28 ?k28 ?a29 ?l29 ?c29 ?k29 ?a30 ?l30 ?c30 ?k30 ?a31 ?l31 ?c31 ?k31 ?a32 ?l32 ?c32 ?k32 ?a33 ?l33 ?c33 ?k33 ?a34 ?l34 ?c34 ?k34 ?a35 ?l35 ?c35 ?k35 ?a36 ?l36 ?c36 ?k36 ?a37 ?l37 ?c37 ?k37 ?a38 ?l38 ?c38 ?k38 ?a39 ?l39 ?c39 ?k39 ?a40 ?l40 ?c40 ?k40 ?a41 ?l41 ?c41 ?k41 ?a42 ?l42 ?c42 ?k42 ?a43 ?l43 ?c43 ?k43 ?a44 ?l44 ?c44 ?k44 ?a45 ?l45 ?c45 ?k45 ?a46 ?l46 ?c46 ?k46 ?a47 ?l47 ?c47 ?k47 ?a48 ?l48 ?c48 ?k48 ?a49 ?l49 ?c49 ?k49 ?a50 ?l50 ?c50 ?k50 ?a51 ?l51 ?c51 ?k51 ?a52 ?l52 ?c52 ?k52 ?a53 ?l53 ?c53 ?k53 ?a54 ?l54 ?c54 ?k54 ?a55 ?l55 ?c55 ?k55 ?a56 ?l56 ?c56 ?k56 ?a57 ?l57 ?c57 ?k57 ?a58 ?l58 ?c58 ?k58 ?a59 ?l59 ?c59 ?k59 ?a60 ?l60 ?c60 ?k60 ?a61 ?l61 ?c61 ?k61 ?z0 ?z1 ?z2 ?z3 ?z4 ?z5 ?z6 ?z7 ?z8 ?z9 ?z10 ?z11 ?qg0 ?qx0 ?qa0 ?qb0 ?qc0 ?qd0 ?qe0 ?qf0 ?qh0 ?qi0 ?qj0 ?qk0 ?ql0 ?qm0 ?qn0 ?qo0 ?qp0 ?qr0 ?qs0 ?qt0 ?qu0
    (case aC0 => k_is)
    (case pg0 => k_is)
    (case hd0 => k_is)
    (case po0 => k_is)
    (case sa0 => k_is)
    (case mk0 => k_is)
    (case kc0 => k_is)
    (case nx0_0 => k_is)
    (case nx0_1 => k_is)
    (case nx0_2 => k_is)
    (case aC1 => k_is)
    (case pg1 => k_is)
    (case hd1 => k_is)
    (case po1 => k_is)
    (case sa1 => k_is)
    (case mk1 => k_is)
    (case kc1 => k_is)
    (case aC2 => k_is)
    (case pg2 => k_is)
    (case hd2 => k_is)
    (case po2 => k_is)
    (case sa2 => k_is)
    (case mk2 => k_is)
    (case kc2 => k_is)
    (case nx2_0 => k_is)
    (case nx2_1 => k_is)
    (case nx2_2 => k_is)
    (case nx2_3 => k_is)
    (case nx2_4 => k_is)
    (case nx2_5 => k_is)
    (case gi0 => k_is)
    (case gi1 => k_is)
    (case gi2 => k_is)
    (case gi3 => k_is)
    (case gi4 => k_is)
    (case a0 => k_is)
    (case l0 => k_is)
    (case c0 => k_is)
    (case k0 => k_is)
    (case a1 => k_is)
    (case l1 => k_is)
    (case c1 => k_is)
    (case k1 => k_is)
    (case a2 => k_is)
    (case l2 => k_is)
    (case c2 => k_is)
    (case k2 => k_is)
    (case a3 => k_is)
    (case i3 => k_is)
    (case l3 => k_is)
    (case c3 => k_is)
    (case k3 => k_is)
    (case a4 => k_is)
    (case i4 => k_is)
    (case l4 => k_is)
    (case c4 => k_is)
    (case k4 => k_is)
    (case a5 => k_is)
    (case i5 => k_is)
    (case l5 => k_is)
    (case c5 => k_is)
    (case k5 => k_is)
    (case a6 => k_is)
    (case i6 => k_is)
    (case l6 => k_is)
    (case c6 => k_is)
    (case k6 => k_is)
    (case a7 => k_is)
    (case i7 => k_is)
    (case l7 => k_is)
    (case c7 => k_is)
    (case k7 => k_is)
    (case a8 => k_is)
    (case i8 => k_is)
    (case l8 => k_is)
    (case c8 => k_is)
    (case k8 => k_is)
    (case a9 => k_is)
    (case i9 => k_is)
    (case l9 => k_is)
    (case c9 => k_is)
    (case k9 => k_is)
    (case a10 => k_is)
    (case i10 => k_is)
    (case l10 => k_is)
    (case c10 => k_is)
    (case k10 => k_is)
    (case a11 => k_is)
    (case i11 => k_is)
    (case l11 => k_is)
    (case c11 => k_is)
    (case k11 => k_is)
    (case a12 => k_is)
    (case i12 => k_is)
    (case l12 => k_is)
    (case c12 => k_is)
    (case k12 => k_is)
    (case a13 => k_is)
    (case l13 => k_is)
    (case c13 => k_is)
    (case k13 => k_is)
    (case a14 => k_is)
    (case l14 => k_is)
    (case c14 => k_is)
    (case k14 => k_is)
    (case a15 => k_is)
    (case l15 => k_is)
    (case c15 => k_is)
    (case k15 => k_is)
    (case a16 => k_is)
    (case l16 => k_is)
    (case c16 => k_is)
    (case k16 => k_is)
    (case a17 => k_is)
    (case i17 => k_is)
    (case l17 => k_is)
    (case c17 => k_is)
    (case k17 => k_is)
    (case a18 => k_is)
    (case l18 => k_is)
    (case c18 => k_is)
    (case k18 => k_is)
    (case a19 => k_is)
    (case i19 => k_is)
    (case l19 => k_is)
    (case c19 => k_is)
    (case k19 => k_is)
    (case a20 => k_is)
    (case l20 => k_is)
    (case c20 => k_is)
    (case k20 => k_is)
    (case a21 => k_is)
    (case l21 => k_is)
    (case c21 => k_is)
    (case k21 => k_is)
    (case a22 => k_is)
    (case l22 => k_is)
    (case c22 => k_is)
    (case k22 => k_is)
    (case a23 => k_is)
    (case l23 => k_is)
    (case c23 => k_is)
    (case k23 => k_is)
    (case a24 => k_is)
    (case l24 => k_is)
    (case c24 => k_is)
    (case k24 => k_is)
    (case a25 => k_is)
    (case l25 => k_is)
    (case c25 => k_is)
    (case k25 => k_is)
    (case a26 => k_is)
    (case l26 => k_is)
    (case c26 => k_is)
    (case k26 => k_is)
    (case a27 => k_is)
    (case l27 => k_is)
    (case c27 => k_is)
    (case k27 => k_is)
    (case a28 => k_is)
    (case l28 => k_is)
    (case c28 => k_is)
    (case k28 => k_is)
    (case a29 => k_is)
    (case l29 => k_is)
    (case c29 => k_is)
    (case k29 => k_is)
    (case a30 => k_is)
    (case l30 => k_is)
    (case c30 => k_is)
    (case k30 => k_is)
    (case a31 => k_is)
    (case l31 => k_is)
    (case c31 => k_is)
    (case k31 => k_is)
    (case a32 => k_is)
    (case l32 => k_is)
    (case c32 => k_is)
    (case k32 => k_is)
    (case a33 => k_is)
    (case l33 => k_is)
    (case c33 => k_is)
    (case k33 => k_is)
    (case a34 => k_is)
    (case l34 => k_is)
    (case c34 => k_is)
    (case k34 => k_is)
    (case a35 => k_is)
    (case l35 => k_is)
    (case c35 => k_is)
    (case k35 => k_is)
    (case a36 => k_is)
    (case l36 => k_is)
    (case c36 => k_is)
    (case k36 => k_is)
    (case a37 => k_is)
    (case l37 => k_is)
    (case c37 => k_is)
    (case k37 => k_is)
    (case a38 => k_is)
    (case l38 => k_is)
    (case c38 => k_is)
    (case k38 => k_is)
    (case a39 => k_is)
    (case l39 => k_is)
    (case c39 => k_is)
    (case k39 => k_is)
    (case a40 => k_is)
    (case l40 => k_is)
    (case c40 => k_is)
    (case k40 => k_is)
    (case a41 => k_is)
    (case l41 => k_is)
    (case c41 => k_is)
    (case k41 => k_is)
    (case a42 => k_is)
    (case l42 => k_is)
    (case c42 => k_is)
    (case k42 => k_is)
    (case a43 => k_is)
    (case l43 => k_is)
    (case c43 => k_is)
    (case k43 => k_is)
    (case a44 => k_is)
    (case l44 => k_is)
    (case c44 => k_is)
    (case k44 => k_is)
    (case a45 => k_is)
    (case l45 => k_is)
    (case c45 => k_is)
    (case k45 => k_is)
    (case a46 => k_is)
    (case l46 => k_is)
    (case c46 => k_is)
    (case k46 => k_is)
    (case a47 => k_is)
    (case l47 => k_is)
    (case c47 => k_is)
    (case k47 => k_is)
    (case a48 => k_is)
    (case l48 => k_is)
    (case c48 => k_is)
    (case k48 => k_is)
    (case a49 => k_is)
    (case l49 => k_is)
    (case c49 => k_is)
    (case k49 => k_is)
    (case a50 => k_is)
    (case l50 => k_is)
    (case c50 => k_is)
    (case k50 => k_is)
    (case a51 => k_is)
    (case l51 => k_is)
    (case c51 => k_is)
    (case k51 => k_is)
    (case a52 => k_is)
    (case l52 => k_is)
    (case c52 => k_is)
    (case k52 => k_is)
    (case a53 => k_is)
    (case l53 => k_is)
    (case c53 => k_is)
    (case k53 => k_is)
    (case a54 => k_is)
    (case l54 => k_is)
    (case c54 => k_is)
    (case k54 => k_is)
    (case a55 => k_is)
    (case l55 => k_is)
    (case c55 => k_is)
    (case k55 => k_is)
    (case a56 => k_is)
    (case l56 => k_is)
    (case c56 => k_is)
    (case k56 => k_is)
    (case a57 => k_is)
    (case l57 => k_is)
    (case c57 => k_is)
    (case k57 => k_is)
    (case a58 => k_is)
    (case l58 => k_is)
    (case c58 => k_is)
    (case k58 => k_is)
    (case a59 => k_is)
    (case l59 => k_is)
    (case c59 => k_is)
    (case k59 => k_is)
    (case a60 => k_is)
    (case l60 => k_is)
    (case c60 => k_is)
    (case k60 => k_is)
    (case a61 => k_is)
    (case l61 => k_is)
    (case c61 => k_is)
    (case k61 => k_is)
    (case z0 => k_is)
    (case z1 => k_is)
    (case z2 => k_is)
    (case z3 => k_is)
    (case z4 => k_is)
    (case z5 => k_is)
    (case z6 => k_is)
    (case z7 => k_is)
    (case z8 => k_is)
    (case z9 => k_is)
    (case z10 => k_is)
    (case z11 => k_is)
    (case qg0 => k_is)
    (case qx0 => k_is)
    (case qa0 => k_is)
    (case qb0 => k_is)
    (case qc0 => k_is)
    (case qd0 => k_is)
    (case qe0 => k_is)
    (case qf0 => k_is)
    (case qh0 => k_is)
    (case qi0 => k_is)
    (case qj0 => k_is)
    (case qk0 => k_is)
    (case ql0 => k_is)
    (case qm0 => k_is)
    (case qn0 => k_is)
    (case qo0 => k_is)
    (case qp0 => k_is)
    (case qr0 => k_is)
    (case qs0 => k_is)
    (case qt0 => k_is)
    (case qu0 => k_is)

