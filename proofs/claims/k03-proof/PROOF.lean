import PyProof.Rows.All
import Wide.All
import OpenK.AllK
import Wide.FinOn
import HandS.ForMost
import HandS.ForExc
import HandS.Walk
import HandS.Iter
import PyProof.EnumMake
import PyProof.Draws
import HandS.Wide
import HandS.IsInst
import HandS.Text
import HandS.ExcInit
import HandS.TryOnly
import KE.KExcSuper
import HandS.ExcValue
import HandS.ExcField
import HandS.ExcIs
import KE.KExcIs
import HandS.Lambda
import HandS.ClsMeth
import HandS.ListItems
import PyProof.P3Eq
import HandS.EndTab
import HandS.ReplaceLit
import HandS.ReplaceDef
import HandS.FStr
import HandS.Star
import HandS.Sort
import PyProof.InstEq
import PyProof.NeKinds
import OpenK.KOps
import HandS.GenList
import HandS.TupAny
import HandS.Style
import PyProof.StrLaws
import PyProof.ReprRoads
import HandS.TupMul
import KE.KParD
import KE.KNestM
import PySem.Challenge.RW_ruleengine_k03_trees_checked
set_option Elab.async false
set_option maxRecDepth 100000
set_option maxHeartbeats 4000000
namespace E0
open PySem PySem.Spec PyProof.Rows L2
open AutoSeq1 (wpAny_loadPart')
/-! ### enumerate of a tuple -/
theorem enum_newT (l : Addr) (items : Array Value) (n : Nat) (dct : Option Addr) (sl : Array (Option Value)) :
    Meets (Builtin.«enumerate.__new__» ⟨[.type "enumerate", .ref l], []⟩) (fun _ R s => s.heap.get? l = some { cls := .type "tuple", dict := dct, data := .seq items n, slots := sl } ∧
      R (.ok (.ret (.ref (s.heap.push { cls := .type "tuple_iterator", data := .fields #[.ref l, .int 0 0] }).objs.size)))
        { s with heap := (s.heap.push { cls := .type "tuple_iterator", data := .fields #[.ref l, .int 0 0] }).push { cls := .type "enumerate", data := .fields #[.none, .bool false, .ref s.heap.objs.size, rawInt 0, .none, .none] } }) :=
  .of_wp fun prog w A R s h => by
    obtain ⟨hp, g, d, tk, os⟩ := s
    obtain ⟨hl, h⟩ := h
    have hs := sub_enumerate
    have hT : Heap.IsTuple (Shared.heap ⟨hp, g, d, tk, os⟩) l items := ⟨_, hl, rfl, n, rfl⟩
    wp_walk using wpAny_loadPart' hl
    refine wpAny_stack_any fun st => wpAny_pure ?_
    split
    · rename_i c _ _ _ _ _
      cases (c == Value.type "enumerate")
      · wp_walk using wpAny_loadPart' hl, wpAny_pyIter_tuple hT
        exact ⟨_, rfl, h⟩
      · wp_walk using wpAny_loadPart' hl, wpAny_pyIter_tuple hT
        exact ⟨_, rfl, h⟩
    · wp_walk using wpAny_loadPart' hl, wpAny_pyIter_tuple hT
      exact ⟨_, rfl, h⟩
section
variable {prog : Program} {w : World} {A : Around} {E : Value → Shared → Prop} {s : Shared}
theorem call_enumT {l : Addr} {items : Array Value} {Q : Value → Shared → Prop} (hL : s.heap.IsTuple l items)
    (h : ∀ h', IsEnum h' (s.heap.objs.size + 1) s.heap.objs.size 0 .none → h'.IsTupleIter s.heap.objs.size l 0 → h'.objs.size = s.heap.objs.size + 2 → (∀ b o, s.heap.get? b = some o → h'.get? b = some o) → Q (.ref (s.heap.objs.size + 1)) { s with heap := h' }) :
    wpAny (model prog w) A (call (.type "enumerate") [.ref l]) Q E s := by
  obtain ⟨⟨c, dct, dt, sl⟩, hl, hc, n, hd⟩ := hL
  have hc' : c = .type "tuple" := hc
  have hd' : dt = .seq items n := hd
  subst hc' hd'
  refine callType_new F.called_enumerate (by decide) (F.typeCall_enumerate_1 _) (F.newCall_enumerate_1 _) (fun obj => F.args_object_init_2 obj _) F.entry_enumerate_new (enum_newT l items n dct sl) ⟨hl, ?_⟩
  have hz : (s.heap.push { cls := .type "tuple_iterator", data := .fields #[.ref l, .int 0 0] }).objs.size = s.heap.objs.size + 1 := Heap.size_push ..
  show _ ∧ _
  rw [hz]
  have he : IsEnum ((s.heap.push { cls := .type "tuple_iterator", data := .fields #[.ref l, .int 0 0] }).push
      { cls := .type "enumerate", data := .fields #[.none, .bool false, .ref s.heap.objs.size, rawInt 0, .none, .none] }) (s.heap.objs.size + 1) s.heap.objs.size 0 .none := by
    have e := Heap.get?_push_size (s.heap.push { cls := .type "tuple_iterator", data := .fields #[.ref l, .int 0 0] }) (o := { cls := .type "enumerate", data := .fields #[.none, .bool false, .ref s.heap.objs.size, rawInt 0, .none, .none] }) rfl
    rw [hz] at e
    exact e
  exact ⟨⟨_, he, rfl⟩, h _ he ⟨_, Heap.get?_push_of_some _ (Heap.get?_push_size _ rfl), rfl, rfl⟩ (by rw [Heap.size_push, hz]) fun b o x => Heap.get?_push_of_some _ (Heap.get?_push_of_some _ x)⟩
theorem next_tup {it t : Addr} {i : Nat} {items : Array Value} {x : Value} {Q : Value → Shared → Prop} (hit : s.heap.IsTupleIter it t i) (ht : s.heap.IsTuple t items) (hx : items[i]? = some x)
    (hQ : ∀ h', h'.IsTupleIter it t (i + 1) → Heap.SameBut it s.heap h' → Q x { s with heap := h' }) : wpAny (model prog w) A (Builtin.SmallTypes.nextOf (.ref it)) Q E s := by
  obtain ⟨o, ho, hc, hd⟩ := id hit
  obtain ⟨ol, hol, _, nl, hdl⟩ := ht
  unfold Builtin.SmallTypes.nextOf
  refine wpAny_bind (wpAny_callSpecial?_slot (name := Str.ofString "__next__") hit.typeIs F.slot_tuple_iterator_next (wpAny_call_entry F.slot_tuple_iterator_next hit.typeIs F.entry_tuple_iterator_next ?_ (F.args_tuple_iterator_next_1 _)))
  show wpAny _ _ (field (.ref it) 0 >>= _) _ _ s
  refine wpAny_bind (wpAny_field ho hd (x := .ref t) rfl ?_)
  show wpAny _ _ (if (Value.ref t == Value.none) = true then _ else _) _ _ s
  rw [if_neg (show ¬ ((Value.ref t == Value.none) = true) from Bool.false_ne_true)]
  show wpAny _ _ (field (.ref it) 1 >>= _) _ _ s
  refine wpAny_bind (wpAny_field ho hd (x := .int i 0) rfl ?_)
  show wpAny _ _ (seqItems? (.ref t) >>= _) _ _ s
  refine wpAny_bind (wpAny_seqItems hol hdl ?_)
  simp only [Int.toNat_natCast, hx]
  refine wpAny_bind (wpAny_setField ho hd (by simp) (wpAny_pure ⟨x, rfl, wpAny_pure (hQ _ ?_ (Heap.SameBut.update ..))⟩))
  exact ⟨_, Heap.get?_update_self _ ho (Obj.isFreed_of_fields (Obj.data_mapFields hd _)), (Obj.cls_mapFields ..).trans hc, by rw [Obj.data_mapFields hd]; simp [rawInt]⟩
theorem next_tup_end {it t : Addr} {i : Nat} {items : Array Value} {Q : Value → Shared → Prop} (hh : A.handled = none) (hit : s.heap.IsTupleIter it t i) (ht : s.heap.IsTuple t items) (hx : items[i]? = none)
    (hE : ∀ h' e, Heap.ExtBut it s.heap h' → (∃ o, h'.get? e = some o ∧ o.cls = .type "StopIteration") → E (.ref e) { s with heap := h' }) : wpAny (model prog w) A (Builtin.SmallTypes.nextOf (.ref it)) Q E s := by
  obtain ⟨o, ho, hc, hd⟩ := id hit
  obtain ⟨ol, hol, _, nl, hdl⟩ := ht
  unfold Builtin.SmallTypes.nextOf
  refine wpAny_bind (wpAny_callSpecial?_slot (name := Str.ofString "__next__") hit.typeIs F.slot_tuple_iterator_next (wpAny_call_entry F.slot_tuple_iterator_next hit.typeIs F.entry_tuple_iterator_next ?_ (F.args_tuple_iterator_next_1 _)))
  show wpAny _ _ (field (.ref it) 0 >>= _) _ _ s
  refine wpAny_bind (wpAny_field ho hd (x := .ref t) rfl ?_)
  show wpAny _ _ (if (Value.ref t == Value.none) = true then _ else _) _ _ s
  rw [if_neg (show ¬ ((Value.ref t == Value.none) = true) from Bool.false_ne_true)]
  show wpAny _ _ (field (.ref it) 1 >>= _) _ _ s
  refine wpAny_bind (wpAny_field ho hd (x := .int i 0) rfl ?_)
  show wpAny _ _ (seqItems? (.ref t) >>= _) _ _ s
  refine wpAny_bind (wpAny_seqItems hol hdl ?_)
  simp only [Int.toNat_natCast, hx]
  refine wpAny_bind (wpAny_rule (wpAny_bind (wpAny_setField ho hd (by simp) ?_)))
  show wpAny _ _ (newExc (.type "StopIteration") [] >>= _) _ _ _
  refine wpAny_bind ?_
  simp only [newExc, newTuple]
  refine wpAny_bind (wpAny_newObj_type ?_ (by size_fits))
  refine wpAny_bind (m := firstArgMember _ _) (wpAny_of_eq (a := Value.none) (by first | rfl | (simp only [firstArgMember]; rfl)) ?_)
  refine wpAny_newObj_type ?_ (by size_fits)
  simp only [raiseNew]
  refine wpAny_bind (wpAny_handled ?_)
  first | rw [show A.in1.handled = none from hh] | rw [hh]
  refine wpAny_bind (wpAny_pure (wpAny_throw ?_))
  exact hE _ _ (((Heap.SameBut.update ..).extBut.push _).push _) ⟨_, Heap.get?_push_size _ rfl, rfl⟩
end
theorem drawsT {prog : Program} {w : World} {A : Around} (hh : A.handled = none) (it l : Addr) (hne : l ≠ it) (items : Array Value) : Draws prog w A it [it, l] items.size (fun i v => items[i]? = some v) (fun i h => h.IsTupleIter it l i ∧ h.IsTuple l items) where
  live := fun _ _ st => let ⟨o, ho, _⟩ := st.1; ⟨o, ho⟩
  frame := fun _ _ _ st hk => ⟨let ⟨o, ho, r⟩ := st.1; ⟨o, hk it (by simp) o ho, r⟩, let ⟨o, ho, r⟩ := st.2; ⟨o, hk l (by simp) o ho, r⟩⟩
  item := fun i s Q E hi st hQ => by
    refine next_tup st.1 st.2 (x := items[i]) (by simp [hi]) fun h' hit' hs' => ?_
    exact hQ _ h' s.toks (by simp [hi]) ⟨hit', st.2.extBut hs'.extBut hne⟩ hs'
  done := fun s Q E st hE => next_tup_end hh st.1 st.2 (by simp) hE
end E0

namespace E0
open PySem PySem.Spec PyProof.Rows L2
/-- the tuple at a, each item in a new pair with its place -/
def IteT (K : PySem.W.Frag) (a : Addr) : It :=
  ⟨fun i H => ∃ (xs : List V) (x : V), SqT K H a xs ∧ xs[i]? = some x, fun i H v H' => ∃ T x, v = .ref T ∧ H T = none ∧ H' = upd H T (.tup [.int (i : Nat), x]) ∧ ∀ xs, SqT K H a xs → xs[i]? = some x, fun i H => ∃ xs : List V, SqT K H a xs ∧ xs.length ≤ i⟩
theorem turn_enumT {P : Program} {w : World} {K : PySem.W.Frag} {elts : List Expr} {kk : Nat} {tpos : Pos} (a e it : Addr) (hai : a ≠ it) :
    Turn P w K (.Tuple elts kk tpos) (IteT K a) [e, it] e (fun i h => (∃ old, IsEnum h e it ((i : Nat) : Int) old) ∧ h.IsTupleIter it a i ∧ e ≠ it) where
  mem := by simp
  obj := fun i h st b hb => by
    obtain ⟨⟨old, he⟩, ⟨o, ho, hc, hd⟩, _⟩ := st
    rcases (show b = e ∨ b = it by simpa using hb) with z | z
    · rw [z]; exact ⟨_, he, fun v q => nomatch q⟩
    · rw [z]; exact ⟨o, ho, fun v q => by rw [hd] at q; cases q⟩
  keep := fun i h h' st k => let ⟨⟨old, he⟩, ⟨o, ho, r⟩, hne⟩ := st; ⟨⟨old, k e (by simp) _ he⟩, ⟨o, k it (by simp) o ho, r⟩, hne⟩
  item := by
    intro X hP hw hK hc i pins s σ H E I hf st hg
    subst hP hw hK
    obtain ⟨⟨old, he⟩, hit, hne⟩ := st
    obtain ⟨xs, x, hq, hx⟩ := hg
    obtain ⟨its, rv, p, hz⟩ := I.tuple hq
    obtain ⟨u, hu, ru⟩ := rv.get hx
    have hel : e < s.heap.objs.size := Heap.lt_size he
    have hil : it < s.heap.objs.size := by obtain ⟨_, q, _⟩ := hit; exact Heap.lt_size q
    have pT : s.heap.IsTuple a its.toArray := p
    have hae : a ≠ e := fun z => by
      obtain ⟨o, ho, hcl, _⟩ := pT
      rw [z, he] at ho
      cases ho
      exact absurd hcl (by simp)
    have hlt : i < its.toArray.size := by
      have := (List.getElem?_eq_some_iff.mp hu).1
      simpa using this
    have D := drawsT (prog := X.prog) (w := X.w) (A := X.A.in1) (I.ok.hd hc) it a hai its.toArray
    refine wpAny_pyNext_enum_itemD D he ⟨hit, pT⟩ hlt hne (by simp [hne, hae.symm]) fun x2 h' tk hP ho hst hT hsz hk => ?_
    have ex : x2 = u := by
      have e1 : its.toArray[i]? = some u := by simpa using hu
      have e2 : its.toArray[i]? = some x2 := hP
      rw [e1] at e2
      exact (Option.some.inj e2).symm
    subst ex
    refine ⟨_, rfl, wpAny_letOwnedTupleGo_enum (s := { s with heap := h', toks := tk + 1 }) ho fun h'' he' sb => ?_⟩
    have hT2 : h''.get? s.heap.objs.size = some { cls := .type "tuple", data := .seq #[.int i tk, x2] } := (sb.2 _ (Nat.ne_of_gt hel)).trans hT
    have new : ObjOk X.prog X.w (upd H s.heap.objs.size (.tup [.int (i : Nat), x])) h'' s.heap.objs.size (.tup [.int (i : Nat), x]) := ⟨by show 2 ≤ sizeLine; decide, [.int i tk, x2], .cons ⟨_, rfl⟩ (.cons ru .nil), ⟨_, hT2, rfl, _, rfl⟩⟩
    have I1 : L2.Inv X pins σ (upd H s.heap.objs.size (.tup [.int (i : Nat), x])) { s with heap := h'', toks := tk + 1 } :=
      I.turnedNew (ch := [e, it]) (fun b ob hb q => (sb.2 b (fun z => hb (by simp [z]))).trans (hk b ob (fun z => hb (by simp [z])) (fun z => hb (by simp [z])) q)) hf (Nat.le_refl _) new
    have hit2 : h''.IsTupleIter it a (i + 1) := by
      obtain ⟨o, ho, r⟩ := hst.1
      exact ⟨o, (sb.2 it (Ne.symm hne)).trans ho, r⟩
    refine ⟨.ref s.heap.objs.size, _, I1, rfl, ⟨_, x, rfl, I.hok.fresh (Nat.le_refl _), rfl, fun ys hy => by rw [I.tuple_inj hy hq]; exact hx⟩, ⟨⟨x2, ?_⟩, hit2, hne⟩, fun b hb => ?_⟩
    · have e1 : ((i + 1 : Nat) : Int) = (i : Int) + 1 := by omega
      rw [e1]; exact he'
    · have hb' : b < s.heap.objs.size := by
        rcases (show b = e ∨ b = it by simpa using hb) with z | z
        · rw [z]; exact hel
        · rw [z]; exact hil
      rw [upd_ne (Nat.ne_of_lt hb')]
      exact (hf b hb).1
  done := by
    intro X hP hw hK hc i pins s σ H E I hf st hg
    subst hP hw hK
    obtain ⟨⟨old, he⟩, hit, hne⟩ := st
    obtain ⟨xs, hq, hx⟩ := hg
    obtain ⟨its, rv, p, hz⟩ := I.tuple hq
    obtain ⟨f0, f1, f2, f3, f4, f5⟩ := hf it (by simp)
    have hl := rv.length
    have pT : s.heap.IsTuple a its.toArray := p
    have hT : s.TypeIs (.ref e) "enumerate" := ⟨_, he, rfl⟩
    unfold pyNext
    refine wpAny_bind (wpAny_attempt (wpAny_callSpecial?_slot (name := Str.ofString "__next__") hT F.slot_enumerate_next (wpAny_call_entry F.slot_enumerate_next hT F.entry_enumerate_next ?_ (F.args_enumerate_next_1 _))))
    show wpAny _ _ (field (.ref e) 2 >>= _) _ _ _
    refine wpAny_bind (wpAny_field he rfl (x := .ref it) rfl ?_)
    refine wpAny_bind (next_tup_end (A := X.A.in1) (I.ok.hd hc) hit pT (by simp; omega) fun h' x eb hx' => ?_)
    obtain ⟨o, ho, hcl⟩ := hx'
    refine wpAny_bind (wpAny_isInstance (T := "StopIteration") (b := true) ⟨o, ho, hcl⟩ isSubtype_stop ?_)
    exact wpAny_pure ⟨rfl, I.turned (t' := s.toks) (fun b o hb q => eb b o hb q) f0 f1 f3 f4 f5⟩
  self := fun A i s Q E st h => let ⟨⟨_, he⟩, _⟩ := st; wpAny_pyIter_enum he h
def iEnumT (K : PySem.W.Frag) (ta : TA) : TI := fun σ H R => ta σ H fun vs H1 => ∃ a xs, vs = [.ref a] ∧ SqT K H1 a xs ∧ R (IteT K a) H1
theorem pi_enumT {X : Cx} {e : Expr} {ta : TA} {p pos tpos : Pos} {elts : List Expr} {kk : Nat} (hg : Gl X "enumerate") (hm : X.mg "enumerate" = none) (ha : PA X [e] ta) (hs : starEach [e] X.env = [(false, eval e X.env)] := by rfl) :
    PI X (.Tuple elts kk tpos) (.Call (.Name "enumerate" p) [e] [] pos) (iEnumT X.K ta) := by
  refine ⟨fun pins s σ H R I h => ?_⟩
  refine Call_ (ld_blt I hg hm boot_enumerate (callWith_type1 (thn (ha.run pos pins s σ H _ I h) fun us s1 ⟨vs, H1, I1, r1, q1⟩ => ?_) hs rfl))
  obtain ⟨a, xs, ex, hq, q⟩ := q1
  subst ex
  cases r1 with
  | cons r rr =>
    cases rr
    cases r
    obtain ⟨its, rv, p', hz⟩ := I1.tuple hq
    have pT : s1.heap.IsTuple a its.toArray := p'
    have hal : a < s1.heap.objs.size := by
      obtain ⟨o, ho, _⟩ := pT
      exact Heap.lt_size ho
    refine call_enumT pT fun h' he hit hsz hk => wpAny_pyIter_enum he ?_
    have I2 : L2.Inv X pins σ H1 { s1 with heap := h' } := I1.kept (t' := s1.toks) hk
    refine ⟨s1.heap.objs.size + 1, [s1.heap.objs.size + 1, s1.heap.objs.size], _, _, H1, rfl, I2, turn_enumT a (s1.heap.objs.size + 1) s1.heap.objs.size (Nat.ne_of_lt hal), ⟨⟨.none, he⟩, hit, Nat.succ_ne_self _⟩, fun b hb => ?_, q⟩
    have hle : s1.heap.objs.size ≤ b := by
      rcases (show b = s1.heap.objs.size + 1 ∨ b = s1.heap.objs.size by simpa using hb) with z | z
      · rw [z]; exact Nat.le_add_right _ _
      · rw [z]; exact Nat.le_refl _
    exact I1.fpOk hle (I1.hok.fresh hle)
theorem walk_enumT {K : PySem.W.Frag} {a : Addr} {xs : List V} : Walk (IteT K a) xs.length (fun H => SqT K H a xs) (YPair (fun i => some (.int (i : Nat))) (fun i => xs[i]?)) := by
  refine ⟨fun i _ hi q => ⟨xs, xs[i], q, by simp [hi]⟩, fun _ q => ⟨xs, q, Nat.le_refl _⟩, fun i H v H' _ q y => ?_⟩
  obtain ⟨T, x, h1, h2, h3, h4⟩ := y
  exact ⟨T, .int (i : Nat), x, h1, h2, h3, rfl, h4 xs q⟩
end E0

namespace K3
open PySem L2
def top (i : Nat) : Stmt := PySem.Challenge.pw_ruleengine_k03_trees_checked.main.body.getD i (.Pass ⟨0, 0, 0, 0⟩)

abbrev sMixed : Stmt := top 31
abbrev sFolded : Stmt := top 32
abbrev sDraw : Stmt := top 33
abbrev sBegun : Stmt := top 34
abbrev sNumber : Stmt := top 10
abbrev sName : Stmt := top 11
abbrev sErrInit : Stmt := inClass (top 3) 0
abbrev sPathErr : Stmt := inClass (top 4) 0
abbrev sTreeInit : Stmt := inClass (top 14) 2
abbrev sTreeLen : Stmt := inClass (top 14) 3
abbrev sTreeEq : Stmt := inClass (top 14) 4
abbrev sTreeHas : Stmt := inClass (top 14) 5
abbrev sTreeGet : Stmt := inClass (top 14) 6
abbrev sEachPath : Stmt := inClass (top 14) 8
abbrev sPut : Stmt := inClass (top 14) 9
abbrev sVarInit : Stmt := inClass (top 15) 0
abbrev sVarEq : Stmt := inClass (top 15) 1
abbrev sWordInit : Stmt := inClass (top 16) 0
abbrev sWordEq : Stmt := inClass (top 16) 1
abbrev sRestInit : Stmt := inClass (top 17) 0
abbrev sRestEq : Stmt := inClass (top 17) 1
abbrev sLikeInit : Stmt := inClass (top 18) 2
abbrev sLikeEq : Stmt := inClass (top 18) 3
abbrev sTreePart : Stmt := top 19
abbrev sLikePart : Stmt := top 20
abbrev sLikeRow : Stmt := top 21
abbrev sIsNode : Stmt := top 22
abbrev sRowItems : Stmt := top 23
abbrev sNodesAmong : Stmt := top 24
abbrev sMeasures : Stmt := top 25
abbrev sNodeAt : Stmt := top 26
abbrev sNodeText : Stmt := top 27
abbrev sPartText : Stmt := top 28
abbrev sQuoted : Stmt := top 29
abbrev sBelow : Stmt := top 35
abbrev sDoubled : Stmt := top 36
abbrev sIsName : Stmt := top 37
abbrev sFault : Stmt := top 38
abbrev sNew : Stmt := top 39
abbrev sPiece : Stmt := top 40
abbrev sNodePair : Stmt := top 41
abbrev sSize : Stmt := top 42
abbrev sSaid : Stmt := top 43
abbrev sReadRight : Stmt := top 44
abbrev sTreeRight : Stmt := top 45
abbrev sEqualRight : Stmt := top 46
abbrev sLimitsRight : Stmt := top 47
abbrev sLaw : Stmt := top 48
/-! ### readings, as equations for simp -/
@[simp] theorem x_tOp {r : R2} {ta tb : TE} {σ : L2.St} {H : Hp} {Q : VK} : tOp r ta tb σ H Q = ta σ H fun x H1 => tb σ H1 fun y H2 => r x y H2 Q := rfl
@[simp] theorem x_rI {C : Int → Int → Prop} {g : Int → Int → V} {x y : V} {H : Hp} {Q : VK} : rI C g x y H Q = ∃ i j, x = .int i ∧ y = .int j ∧ C i j ∧ Q (g i j) H := rfl
@[simp] theorem x_rI0 {g : Int → Int → V} {x y : V} {H : Hp} {Q : VK} : rI0 g x y H Q = ∃ i j, x = .int i ∧ y = .int j ∧ Q (g i j) H := rfl
@[simp] theorem x_rU {g : Int → V} {x : V} {H : Hp} {Q : VK} : rU g x H Q = ∃ i, x = .int i ∧ Q (g i) H := rfl
@[simp] theorem x_tVar {i : Nat} {σ : L2.St} {H : Hp} {Q : VK} : tVar i σ H Q = ∃ v, σ[i]? = some (some v) ∧ Q v H := rfl
@[simp] theorem x_tC {v : V} {σ : L2.St} {H : Hp} {Q : VK} : tC v σ H Q = Q v H := rfl
@[simp] theorem x_gName {i : Nat} {v : V} {σ : L2.St} {H : Hp} {Q : L2.St → Hp → Prop} : gName i v σ H Q = Q (σ.set i (some v)) H := rfl
@[simp] theorem x_tAsg {te : TE} {g : TG} {D : Ends} {σ : L2.St} {H : Hp} : tAsg te g D σ H = te σ H fun x H1 => g x σ H1 D.nx := rfl
@[simp] theorem x_tSeq {t u : TS} {D : Ends} {σ : L2.St} {H : Hp} : tSeq t u D σ H = t { D with nx := u D } σ H := rfl
@[simp] theorem x_tRet {te : TE} {D : Ends} {σ : L2.St} {H : Hp} : tRet te D σ H = te σ H D.rt := rfl
@[simp] theorem x_tNext {D : Ends} {σ : L2.St} {H : Hp} : tNext D σ H = D.nx σ H := rfl
@[simp] theorem x_tDrop {te : TE} {D : Ends} {σ : L2.St} {H : Hp} : tDrop te D σ H = te σ H fun _ H1 => D.nx σ H1 := rfl
@[simp] theorem x_tIfS {c : TT} {t u : TS} {D : Ends} {σ : L2.St} {H : Hp} : tIfS c t u D σ H = c σ H fun b H1 => if b = true then t D σ H1 else u D σ H1 := rfl
@[simp] theorem x_tIf {c : TT} {t u : TE} {Q : VK} {σ : L2.St} {H : Hp} : tIf c t u σ H Q = c σ H fun b H1 => if b = true then t σ H1 Q else u σ H1 Q := rfl
@[simp] theorem x_tB {t : TE} {σ : L2.St} {H : Hp} {Q : Bool → Hp → Prop} : tB t σ H Q = t σ H fun x H1 => ∃ c, x = .bl c ∧ Q c H1 := rfl
@[simp] theorem x_tTest {t : TE} {σ : L2.St} {H : Hp} {Q : Bool → Hp → Prop} : tTest t σ H Q = t σ H fun x H1 => ∃ c, x = .bl c ∧ Q c H1 := rfl
@[simp] theorem x_tAnd {t u : TT} {σ : L2.St} {H : Hp} {Q : Bool → Hp → Prop} : tAnd t u σ H Q = t σ H fun c H1 => if c = true then u σ H1 Q else Q false H1 := rfl
@[simp] theorem x_tOr {t u : TT} {σ : L2.St} {H : Hp} {Q : Bool → Hp → Prop} : tOr t u σ H Q = t σ H fun c H1 => if c = true then Q true H1 else u σ H1 Q := rfl
@[simp] theorem x_tNot {t : TT} {σ : L2.St} {H : Hp} {Q : Bool → Hp → Prop} : tNot t σ H Q = t σ H fun c H1 => Q (!c) H1 := rfl
@[simp] theorem x_tAndV {ta tb : TE} {σ : L2.St} {H : Hp} {Q : VK} : tAndV ta tb σ H Q = ta σ H fun x H1 => ∃ c, x = .bl c ∧ if c = true then tb σ H1 Q else Q (.bl false) H1 := rfl
@[simp] theorem x_tOrV {ta tb : TE} {σ : L2.St} {H : Hp} {Q : VK} : tOrV ta tb σ H Q = ta σ H fun x H1 => ∃ c, x = .bl c ∧ if c = true then Q (.bl true) H1 else tb σ H1 Q := rfl
@[simp] theorem x_tNotV {ta : TE} {σ : L2.St} {H : Hp} {Q : VK} : tNotV ta σ H Q = ta σ H fun x H1 => ∃ c, x = .bl c ∧ Q (.bl (!c)) H1 := rfl
@[simp] theorem x_tNil {σ : L2.St} {H : Hp} {Q : List V → Hp → Prop} : tNil σ H Q = Q [] H := rfl
@[simp] theorem x_tCons {ta : TE} {tr : TA} {σ : L2.St} {H : Hp} {Q : List V → Hp → Prop} : tCons ta tr σ H Q = ta σ H fun x H1 => tr σ H1 fun xs H2 => Q (x :: xs) H2 := rfl
@[simp] theorem x_tCB {r : List V → Hp → VK → Prop} {t : TA} {σ : L2.St} {H : Hp} {Q : VK} : tCB r t σ H Q = t σ H fun vs H1 => r vs H1 Q := rfl
@[simp] theorem x_tCall {sp : Sp} {dvs : List V} {E : XK} {t : TA} {σ : L2.St} {H : Hp} {Q : VK} : tCall sp dvs E t σ H Q = t σ H fun vs H1 => sp (vs ++ dvs) H1 Q E := rfl
@[simp] theorem x_tLst {t : TA} {σ : L2.St} {H : Hp} {Q : VK} : tLst t σ H Q = t σ H fun xs H1 => xs.length ≤ sizeLine ∧ ∀ p, H1 p = none → Q (.ref p) (upd H1 p (.lst xs)) := rfl
@[simp] theorem x_tTup {t : TA} {σ : L2.St} {H : Hp} {Q : VK} : tTup t σ H Q = t σ H fun xs H1 => xs.length ≤ sizeLine ∧ ∀ p, H1 p = none → Q (.ref p) (upd H1 p (.tup xs)) := rfl
@[simp] theorem x_tDGet {td ty : TE} {σ : L2.St} {H : Hp} {Q : VK} : tDGet td ty σ H Q = td σ H fun x H1 => ty σ H1 fun y H2 => ∃ a v, x = .ref a ∧ DGet H2 a y (some v) ∧ Q v H2 := rfl
@[simp] theorem x_sDPut {td ty tv : TE} {D : Ends} {σ : L2.St} {H : Hp} : sDPut td ty tv D σ H = tv σ H fun v H1 => td σ H1 fun x H2 => ty σ H2 fun y H3 => ∃ a H4, x = .ref a ∧ DPut H3 a y v H4 ∧ D.nx σ H4 := rfl
@[simp] theorem x_rNeD {K : PySem.W.Frag} {x y : V} {H : Hp} {Q : VK} : rNeD K x y H Q = ∃ d e, Dp K H x d ∧ Dp K H y e ∧ SeqAt.shaped d = true ∧ SeqAt.shaped e = true ∧ Q (.bl (!PyData.eqv d e)) H := rfl
@[simp] theorem x_rEqD {K : PySem.W.Frag} {x y : V} {H : Hp} {Q : VK} : rEqD K x y H Q = ∃ d e, Dp K H x d ∧ Dp K H y e ∧ SeqAt.shaped d = true ∧ SeqAt.shaped e = true ∧ Q (.bl (PyData.eqv d e)) H := rfl
@[simp] theorem x_rIxL {K : PySem.W.Frag} {x y : V} {H : Hp} {Q : VK} : rIxL K x y H Q = ∃ p xs i v, x = .ref p ∧ y = .int i ∧ SqL K H p xs ∧ atI xs i = some v ∧ Q v H := rfl
@[simp] theorem x_rSetL {o i v : V} {H : Hp} {Q : Hp → Prop} : rSetL o i v H Q = ∃ p xs k j, o = .ref p ∧ i = .int k ∧ H p = some (.lst xs) ∧ ixN xs.length k = some j ∧ Q (upd H p (.lst (xs.set j v))) := rfl
@[simp] theorem x_gSub {to ti : TE} {t : TSet} {v : V} {σ : L2.St} {H : Hp} {Q : L2.St → Hp → Prop} : gSub to ti t v σ H Q = to σ H fun o H1 => ti σ H1 fun i H2 => t o i v H2 fun H3 => Q σ H3 := rfl
@[simp] theorem x_rEq {x y : V} {H : Hp} {Q : VK} : rEq x y H Q = (scal x y = true ∧ Q (.bl (decide (x = y))) H) := rfl
@[simp] theorem x_rNe {x y : V} {H : Hp} {Q : VK} : rNe x y H Q = (scal x y = true ∧ Q (.bl (!decide (x = y))) H) := rfl
@[simp] theorem x_rIsi {K : PySem.W.Frag} {xs : List V} {H : Hp} {Q : VK} : rIsi K xs H Q = ∃ (x c : V) (t u : Value) (b : Bool), xs = [x, c] ∧ ClsV c u ∧ TyX K H x t ∧ PySem.W.kitOne K t u = some b ∧ Q (.bl b) H := rfl
@[simp] theorem x_start {N : List Str} {vs : List V} : L2.start N vs = vs.map some ++ List.replicate (N.length - vs.length) none := rfl
def mixed (c n : Int) : Int := ((c * (1 + 2 * n) * 48271 % 2147483647 + 7919 * n * n + 104729 * n) * 69621 % 2147483629) / 7
theorem mixed_nonneg (c n : Int) : 0 ≤ mixed c n := by
  unfold mixed
  exact Int.ediv_nonneg (Int.emod_nonneg _ (by decide)) (by decide)
theorem mixed_lt (c n : Int) : mixed c n < 2147483648 := by
  unfold mixed
  have h := Int.emod_lt_of_pos ((c * (1 + 2 * n) * 48271 % 2147483647 + 7919 * n * n + 104729 * n) * 69621) (show (0 : Int) < 2147483629 by decide)
  omega
def spMixed : Sp := fun vs H Q _ => ∃ c n : Int, vs = [.int c, .int n] ∧ -(2 ^ 62) ≤ c ∧ c ≤ 2 ^ 62 ∧ 0 ≤ n ∧ n ≤ 2 ^ 30 ∧ Q (.int (mixed c n)) H
theorem scMixed : FnScope ["_law_cell", "_law_n", "_law_turned"] ["_law_cell", "_law_n"] (defScope sMixed) := ⟨rfl, rfl, rfl, by decide +kernel, rfl, by decide +kernel, by decide +kernel⟩
section
variable {P : Program} {w : World} {K : PySem.W.Frag} {mg : Str → Option Value} {base : Heap}
theorem ok_mixed {f : Addr} {fd : FuncData} (F : Fun K "_law_mixed" "_law_mixed" sMixed f fd) : FnOk P w K mg base CX0 1 f fd ["_law_cell", "_law_n"] spMixed := by
  refine F.ok scMixed (fun vs H Q E h => ?_) (fun cdv A outer s H vs Q E hr h => ?_)
  · obtain ⟨c, n, rfl, _⟩ := h
    rfl
  · obtain ⟨c, n, rfl, c0, c1, n0, n1, k⟩ := h
    refine ⟨_, pss_cons (ps_set (i := 2) scMixed.nd rfl (Or.inl rfl)
        (pe_op op_add (pe_op op_add (pe_op op_mod (pe_op op_mul (pe_op op_mul (pv 0) (pe_op op_add pe_int (pe_op op_mul pe_int (pv 1)))) pe_int) pe_int)
          (pe_op op_mul (pe_op op_mul pe_int (pv 1)) (pv 1))) (pe_op op_mul pe_int (pv 1))))
      (pss_one (ps_ret (pe_op op_fdiv (pe_op op_mod (pe_op op_mul (pv 2) pe_int) pe_int) pe_int))), ?_⟩
    simp [CMul, CDiv]
    exact ⟨.inl ⟨by omega, by omega⟩, .inr ⟨by omega, by omega⟩, k⟩

theorem fm0 (a : Int) {b : Int} (h : 0 < b) : 0 ≤ Int.fmod a b := by
  rw [Int.fmod_eq_emod_of_nonneg _ (by omega)]
  exact Int.emod_nonneg _ (by omega)
theorem ixN_n {n j : Nat} (hj : j < n) : ixN n (j : Int) = some j := by
  unfold ixN
  rw [if_pos (by omega), if_pos (by omega)]
  simp
theorem dg {H : Hp} {a : Addr} {kvs : List (Key × V)} {k : Key} {v : V} (e : H a = some (.dK kvs)) (h : valV kvs k = some v) : DGet H a (kV k) (some v) := by
  rw [← h]
  exact DGet.k e
theorem dpInts {K : PySem.W.Frag} {H : Hp} : ∀ l : List Int, DpAll K H (l.map V.int) (l.map PyData.int)
  | [] => .nil
  | i :: l => .cons (.int i) (dpInts l)
theorem shInts (l : List Int) : SeqAt.shaped (.list (l.map PyData.int)) = true := by
  have h1 : ∀ l : List Int, PyData.canLayAll0 (l.map PyData.int) = true := fun l => by
    induction l with
    | nil => rfl
    | cons i l ih => simp [PyData.canLayAll0, PyData.canLay0, ih]
  have h2 : ∀ l : List Int, PyData.depthAll (l.map PyData.int) = 0 := fun l => by
    induction l with
    | nil => rfl
    | cons i l ih => simp [PyData.depthAll, PyData.depth, ih]
  simp [SeqAt.shaped, PyData.canLay0, PyData.depth, h1, h2]
theorem eqvNil (l : List Int) : PyData.eqv (.list (l.map PyData.int)) (.list []) = l.isEmpty := by
  cases l <;> rfl
theorem ce_ : ¬ ((Sum.inr "cells" : Key) = (Sum.inr "spot" : Key)) := by decide +kernel
theorem ge_ : ¬ ((Sum.inr "great" : Key) = (Sum.inr "spot" : Key)) := by decide +kernel
theorem cg_ : ¬ ((Sum.inr "cells" : Key) = (Sum.inr "great" : Key)) := by decide +kernel
theorem sg_ : ¬ ((Sum.inr "spot" : Key) = (Sum.inr "great" : Key)) := by decide +kernel
def mD (lc lg : Addr) (n : Int) : List (Key × V) := [(.inr "cells", .ref lc), (.inr "great", .ref lg), (.inr "spot", .int n)]
theorem mD_s {lc lg : Addr} {n : Int} : valV (mD lc lg n) (.inr "spot") = some (.int n) := by
  unfold mD
  rw [valV_neg ce_, valV_neg ge_, valV_pos rfl]
theorem mD_g {lc lg : Addr} {n : Int} : valV (mD lc lg n) (.inr "great") = some (.ref lg) := by
  unfold mD
  rw [valV_neg cg_, valV_pos rfl]
theorem mD_c {lc lg : Addr} {n : Int} : valV (mD lc lg n) (.inr "cells") = some (.ref lc) := by
  unfold mD
  rw [valV_pos rfl]
theorem mD_put {lc lg : Addr} {n k : Int} : putK (mD lc lg n) (.inr "spot") (.int k) = mD lc lg k := by
  simp only [putK, mD, List.any_cons, List.any_nil, List.map_cons, List.map_nil, if_neg ce_, if_neg ge_]
  simp
theorem mD_putg {lc lg l2 : Addr} {n : Int} : putK (mD lc lg n) (.inr "great") (.ref l2) = mD lc l2 n := by
  simp only [putK, mD, List.any_cons, List.any_nil, List.map_cons, List.map_nil, if_neg cg_, if_neg sg_]
  simp
/-! ### the drawing state -/
/-- at m: the dict of the drawing state, its lists at lc and lg, spot n -/
structure MA (m lc lg : Addr) (n : Int) (H : Hp) : Prop where
  hm : H m = some (.dK (mD lc lg n))
  ne : lc ≠ lg
  hc : ∃ cs : List Int, H lc = some (.lst (cs.map V.int)) ∧ cs.length = 64 ∧ ∀ c ∈ cs, 0 ≤ c ∧ c < 2147483648
  hg : ∃ gs : List Int, H lg = some (.lst (gs.map V.int)) ∧ gs.length ≤ 63
  n0 : 0 ≤ n
def spDraw : Sp := fun vs H Q _ => ∃ (m lc lg : Addr) (n t : Int), vs = [.ref m, .int t] ∧ MA m lc lg n H ∧ n ≤ 1000000 ∧ 0 < t ∧ t < 1000000 ∧
  ∀ H' d, 0 ≤ d → d < t → MA m lc lg (n + 1) H' → (∀ b o, b ≠ m → b ≠ lg → H b = some o → H' b = some o) → Q (.int d) H'
theorem scDraw : FnScope ["_law_m", "_law_top", "_law_n", "_law_at", "_law_cell"] ["_law_m", "_law_top"] (defScope sDraw) := ⟨rfl, rfl, rfl, by decide +kernel, rfl, by decide +kernel, by decide +kernel⟩
theorem ok_draw {f fM : Addr} {fd fdM : FuncData} (F : Fun K "_law_draw" "_law_draw" sDraw f fd) (FM : Fun K "_law_mixed" "_law_mixed" sMixed fM fdM) (bM : Binds K fdM ["_law_cell", "_law_n"] []) (gM : mg "_law_mixed" = some (.ref fM)) (gL : mg "len" = none) :
    FnOk P w K mg base CX0 2 f fd ["_law_m", "_law_top"] spDraw := by
  have GM : FnOk P w K mg base CX0 1 fM fdM ["_law_cell", "_law_n"] spMixed := ok_mixed FM
  refine F.ok scDraw (fun vs H Q E h => ?_) (fun cdv A outer s H vs Q E hr h => ?_)
  · obtain ⟨m, lc, lg, n, t, rfl, _⟩ := h
    rfl
  · obtain ⟨m, lc, lg, n, t, rfl, M, n1, t0, t1, k⟩ := h
    have hu := hu_of hr
    refine ⟨_, pss_cons (ps_set (i := 2) scDraw.nd rfl (Or.inl rfl) (pe_dget hu (pv 0) pe_str (fun _ _ => rfl)))
      (pss_cons (ps_dput hu (pv 0) pe_str (pe_op op_add (pv 2) pe_int) rfl)
      (pss_cons (ps_if (pt_cmpR (op_neD hr.units) (pe_dget hu (pv 0) pe_str (fun _ _ => rfl)) (pe_lst pa_nil) (nomark _))
        (pss_cons (ps_set (i := 3) scDraw.nd rfl (Or.inl rfl) (pe_op op_modN (pv 2) (pe_callB call_len_seq (by rfl) gL PySem.boot_len (pa_cons (pe_dget hu (pv 0) pe_str (fun _ _ => rfl)) pa_nil))))
        (pss_cons (ps_set (i := 4) scDraw.nd rfl (Or.inl rfl) (pe_ix ix_list (pe_dget hu (pv 0) pe_str (fun _ _ => rfl)) (pv 3) (fun _ _ => rfl)))
        (pss_one (ps_if (pt_cmpR op_gt (pv 4) pe_int (nomark _))
          (pss_cons (ps_asg (pe_op op_fdivN (pv 4) (pv 1)) (pg_sub (pe_dget hu (pv 0) pe_str (fun _ _ => rfl)) (pv 3) set_list))
          (pss_one (ps_ret (pe_op op_modN (pv 4) (pv 1)))))
          pss_nil))))
        pss_nil)
      (pss_one (ps_ret (pe_op op_modN (pe_call GM hr rfl gM FM.kp bM .nil pass0 (pa_cons
          (pe_call GM hr rfl gM FM.kp bM .nil pass0 (pa_cons (pe_op op_add (pe_ix ix_list (pe_dget hu (pv 0) pe_str (fun _ _ => rfl)) (pe_op op_modN (pv 2) pe_int) (fun _ _ => rfl)) (pe_op op_mul pe_int (pe_op op_fdivN (pv 2) pe_int))) (pa_cons (pv 2) pa_nil)))
          (pa_cons (pe_op op_add (pv 2) pe_int) pa_nil))) (pv 1))))))
      , ?_⟩
    obtain ⟨hm, ne, ⟨cs, hc, lcs, bcs⟩, ⟨gs, hg, lgs⟩, n0⟩ := M
    have nmc : m ≠ lc := ne_of hm hc (by intro q; cases q)
    have nmg : m ≠ lg := ne_of hm hg (by intro q; cases q)
    have tail : ∀ H2 : Hp, H2 m = some (.dK (mD lc lg (n + 1))) → H2 lc = some (.lst (cs.map V.int)) → H2 lg = some (.lst (gs.map V.int)) → (∀ b o, b ≠ m → H b = some o → H2 b = some o) → ∀ (v3 v4 : Option V),
        (fun σ H => tRet (tOp (rI (fun _ j => j ≠ 0) fun i j => V.int (i.fmod j)) (tCall spMixed [] E0 (tCons (tCall spMixed [] E0 (tCons (tOp (rI0 fun i j => V.int (i + j)) (tOp (rIxL K) (tDGet (tVar 0) (tC (.str "cells"))) (tOp (rI (fun _ j => j ≠ 0) fun i j => V.int (i.fmod j)) (tVar 2) (tC (.int 64)))) (tOp (rI CMul fun i j => V.int (i * j)) (tC (.int 31)) (tOp (rI CDivN fun i j => V.int (i.fdiv j)) (tVar 2) (tC (.int 64))))) (tCons (tVar 2) tNil))) (tCons (tOp (rI0 fun i j => V.int (i + j)) (tVar 2) (tC (.int 7))) tNil))) (tVar 1)) { nx := fun _ H' => Q .non H', rt := Q } σ H) [some (.ref m), some (.int t), some (.int n), v3, v4] H2 := by
      intro H2 hm2 hc2 hg2 o2 v3 v4
      have f0 : 0 ≤ Int.fmod n 64 := fm0 _ (by decide)
      have f1 : Int.fmod n 64 < 64 := Int.fmod_lt_of_pos n (by decide)
      obtain ⟨j, ej⟩ := Int.eq_ofNat_of_zero_le f0
      have jl : j < cs.length := by omega
      have hj : (cs.map V.int)[j]? = some (.int cs[j]) := by simp [jl]
      have bj := bcs cs[j] (List.getElem_mem jl)
      have ed : Int.fdiv n 64 = n / 64 := Int.fdiv_eq_ediv_of_nonneg n (by decide)
      refine ⟨_, rfl, m, _, rfl, dg (k := .inr "cells") hm2 mD_c, _, rfl, _, _, rfl, rfl, (by show (64 : Int) ≠ 0; decide), _, _, _, _, rfl, rfl, SqL.of hc2, at_of ej hj, _, rfl, _, _, rfl, rfl, ⟨by decide, by decide⟩, _, _, rfl, rfl, .inl ⟨by decide, by decide⟩, _, _, rfl, rfl, ?_⟩
      refine ⟨_, rfl, _, _, rfl, by omega, by omega, n0, by omega, ?_⟩
      refine ⟨_, rfl, _, _, rfl, rfl, ?_⟩
      have b0 := mixed_nonneg (cs[j] + 31 * Int.fdiv n 64) n
      have b1 := mixed_lt (cs[j] + 31 * Int.fdiv n 64) n
      refine ⟨_, _, rfl, by omega, by omega, by omega, by omega, ?_⟩
      refine ⟨_, rfl, _, _, rfl, rfl, (by omega), ?_⟩
      exact k _ _ (fm0 _ t0) (Int.fmod_lt_of_pos _ t0) ⟨hm2, ne, ⟨cs, hc2, lcs, bcs⟩, ⟨gs, hg2, lgs⟩, by omega⟩ (fun b o hb _ e => o2 b o hb e)
    -- n = m["spot"]; m["spot"] = n + 1
    refine ⟨_, rfl, m, _, rfl, dg (k := .inr "spot") hm mD_s, ?_⟩
    refine ⟨_, rfl, _, _, rfl, rfl, _, rfl, m, _, rfl, DPut.k (k := Sum.inr "spot") hm (by show 3 < sizeLine; decide), ?_⟩
    rw [mD_put]
    generalize eH1 : upd H m (.dK (mD lc lg (n + 1))) = H1
    have hm1 : H1 m = some (.dK (mD lc lg (n + 1))) := by rw [← eH1, upd_same]
    have hc1 : H1 lc = some (.lst (cs.map V.int)) := by rw [← eH1, upd_ne nmc.symm, hc]
    have hg1 : H1 lg = some (.lst (gs.map V.int)) := by rw [← eH1, upd_ne nmg.symm, hg]
    have o1 : ∀ b, b ≠ m → H1 b = H b := fun b hb => by rw [← eH1, upd_ne hb]
    -- m["great"] != []
    refine ⟨_, rfl, m, _, rfl, dg (k := .inr "great") hm1 mD_g, (by decide), fun p hp => ?_⟩
    generalize eH2 : upd H1 p (.lst []) = H2
    have np : ∀ b o, H1 b = some o → b ≠ p := fun b o h => ne_of_none h hp
    have hm2 : H2 m = some (.dK (mD lc lg (n + 1))) := by rw [← eH2, upd_ne (np _ _ hm1), hm1]
    have hc2 : H2 lc = some (.lst (cs.map V.int)) := by rw [← eH2, upd_ne (np _ _ hc1), hc1]
    have hg2 : H2 lg = some (.lst (gs.map V.int)) := by rw [← eH2, upd_ne (np _ _ hg1), hg1]
    have hp2 : H2 p = some (.lst []) := by rw [← eH2, upd_same]
    have o2 : ∀ b o, b ≠ m → H b = some o → H2 b = some o := fun b o hb e => by
      have e1 : H1 b = some o := (o1 b hb).trans e
      rw [← eH2, upd_ne (np _ _ e1), e1]
    have nlp : lg ≠ p := np _ _ hg1
    refine ⟨_, _, .lst (SqL.of hg2) (dpInts gs), .lst (xs := []) (SqL.of hp2) .nil, shInts gs, (by decide), _, rfl, ?_⟩
    rw [eqvNil]
    refine ite2 (fun h => ?_) (fun h => ?_)
    · have gl : 0 < gs.length := by
        cases gs with
        | nil => simp at h
        | cons a l => simp
      -- at = n % len(m["great"]); cell = m["great"][at]
      have gN : ((gs.map V.int).length : Int) ≠ 0 := by rw [List.length_map]; omega
      have f0 : 0 ≤ Int.fmod n ((gs.map V.int).length : Int) := fm0 _ (by rw [List.length_map]; omega)
      have f1 : Int.fmod n ((gs.map V.int).length : Int) < (gs.length : Int) := by
        have q := Int.fmod_lt_of_pos n (show (0 : Int) < ((gs.map V.int).length : Int) by rw [List.length_map]; omega)
        rw [List.length_map] at q ⊢
        exact q
      refine ⟨_, rfl, _, rfl, m, _, rfl, dg (k := .inr "great") hm2 mD_g, _, _, rfl, .inl (SqL.of hg2), _, _, rfl, rfl, gN, ?_⟩
      obtain ⟨j, ej⟩ := Int.eq_ofNat_of_zero_le f0
      have jl : j < gs.length := by omega
      have hj : (gs.map V.int)[j]? = some (.int gs[j]) := by simp [jl]
      refine ⟨_, rfl, m, _, rfl, dg (k := .inr "great") hm2 mD_g, _, rfl, _, _, _, _, rfl, rfl, SqL.of hg2, at_of ej hj, ?_⟩
      -- if cell > 0
      refine ⟨_, rfl, _, _, rfl, rfl, _, rfl, ?_⟩
      refine ite2 (fun h0 => ?_) (fun h0 => ?_)
      · refine ⟨_, rfl, _, rfl, _, _, rfl, rfl, ⟨by omega, by omega⟩, ?_⟩
        refine ⟨_, rfl, m, _, rfl, dg (k := .inr "great") hm2 mD_g, _, rfl, _, _, _, j, rfl, rfl, hg2, (by rw [ej]; exact ixN_n (by rw [List.length_map]; exact jl)), ?_⟩
        refine ⟨_, rfl, _, rfl, _, _, rfl, rfl, (by omega), ?_⟩
        refine k _ _ (fm0 _ t0) (Int.fmod_lt_of_pos _ t0) ⟨by rw [upd_ne nmg]; exact hm2, ne, ⟨cs, by rw [upd_ne ne]; exact hc2, lcs, bcs⟩, ⟨gs.set j ((gs[j]).fdiv t), ?_, by rw [List.length_set]; exact lgs⟩, by omega⟩ (fun b o hb hb2 e => ?_)
        · rw [upd_same, List.map_set]
        · rw [upd_ne hb2]
          exact o2 b o hb e
      · exact tail H2 hm2 hc2 hg2 o2 _ _
    · exact tail H2 hm2 hc2 hg2 o2 _ _
end
end K3

namespace K3
open PySem L2
section
variable {P : Program} {w : World} {K : PySem.W.Frag} {mg : Str → Option Value} {base : Heap}
def CellsOk (cs : List Int) : Prop := cs.length = 64 ∧ ∀ c ∈ cs, 0 ≤ c ∧ c < 2147483648
theorem CellsOk.set {cs : List Int} (h : CellsOk cs) (j : Nat) {v : Int} (h0 : 0 ≤ v) (h1 : v < 2147483648) : CellsOk (cs.set j v) := by
  refine ⟨by rw [List.length_set]; exact h.1, fun c hc => ?_⟩
  rcases List.mem_or_eq_of_mem_set hc with z | z
  · exact h.2 c z
  · rw [z]
    exact ⟨h0, h1⟩
theorem getI {cs : List Int} {j : Nat} (h : j < cs.length) : (cs.map V.int)[j]? = some (V.int cs[j]) := by simp [h]
def spFolded (K : PySem.W.Frag) : Sp := fun vs H Q _ => ∃ (a : Addr) (ns : List Int), vs = [.ref a] ∧ SqL K H a (ns.map V.int) ∧
  ∀ H' p cs, Same H H' → H p = none → H' p = some (.lst (cs.map V.int)) → CellsOk cs → Q (.ref p) H'
theorem scFolded : FnScope ["_law_script", "_law_n", "_law_found", "_law_cell"] ["_law_script"] (defScope sFolded) := ⟨rfl, rfl, rfl, by decide +kernel, rfl, by decide +kernel, by decide +kernel⟩
theorem same_upd {H0 H : Hp} {D : Addr} {o : HO} (s : Same H0 H) (n : H0 D = none) : Same H0 (upd H D o) := fun b x e => by
  rw [upd_ne (ne_of_none e n)]
  exact s b x e
theorem ok_folded {f : Addr} {fd : FuncData} (F : Fun K "_law_folded" "_law_folded" sFolded f fd) (gR : mg "range" = none) (gE : mg "enumerate" = none) :
    FnOk P w K mg base CX0 1 f fd ["_law_script"] (spFolded K) := by
  refine F.ok scFolded (fun vs H Q E h => ?_) (fun cdv A outer s H vs Q E hr h => ?_)
  · obtain ⟨a, ns, rfl, _⟩ := h
    rfl
  · obtain ⟨a, ns, rfl, hS, k⟩ := h
    refine ⟨_, pss_cons (ps_setLc (i := 2) (own := [("_law_n", 1)]) (g := gName 1) (tt := tYes) rfl scFolded.nd rfl rfl (sw_true rfl rfl rfl (by decide +kernel)) (pi_range1 rfl gR (pa_cons pe_int pa_nil))
          (blkOk_by (N := ["_law_script", "_law_n", "_law_found", "_law_cell"]) (sc := defScope sFolded) (by decide +kernel)) (fun _ _ _ _ _ => pg_name (i := 1) scFolded.nd rfl (Or.inl rfl)) (fun _ _ _ _ _ => pts_nil) (fun _ _ _ _ _ => pe_op op_add pe_int (pv 1)))
      (pss_cons (ps_for PassesOwn.never rfl (pi_enum rfl gE (pa_cons (pv 0) pa_nil)) (pg_tup (by rfl) (pgs_cons (pg_name (i := 1) scFolded.nd rfl (.inl rfl)) (pgs_cons (pg_name (i := 3) scFolded.nd rfl (.inl rfl)) pgs_nil)))
        (pss_one (ps_asg (pe_op op_mod (pe_op op_add (pe_op op_mul (pe_ix ix_list (pv 2) (pe_op op_mod (pv 1) pe_int) (fun _ _ => rfl)) pe_int) (pv 3)) pe_int) (pg_sub (pv 2) (pe_op op_mod (pv 1) pe_int) set_list))))
      (pss_cons (ps_for PassesOwn.never rfl (pi_range2 rfl gR (pa_cons pe_int (pa_cons pe_int pa_nil))) (pg_name (i := 1) scFolded.nd rfl (Or.inl rfl))
        (pss_one (ps_asg (pe_op op_mod (pe_op op_add (pe_ix ix_list (pv 2) (pv 1) (fun _ _ => rfl)) (pe_op op_mul (pe_ix ix_list (pv 2) (pe_op op_sub (pv 1) pe_int) (fun _ _ => rfl)) pe_int)) pe_int) (pg_sub (pv 2) (pv 1) set_list))))
      (pss_one (ps_ret (pv 2))))), ?_⟩
    refine ⟨64, rfl, by decide, by decide, fun D hD => lc_range (n := 64) (fun i H' => Same H H' ∧ H' D = some (.lst (((List.range i).map fun k : Nat => (17 + (k : Int))).map V.int))) ⟨same_upd (Same.refl H) hD, by rw [upd_same]; rfl⟩ ?_ ?_⟩
    · rintro i H' hi ⟨s1, h1⟩
      refine ⟨rfl, ?_⟩
      dsimp only [tYes]
      rw [if_pos rfl]
      refine ⟨_, rfl, _, _, rfl, rfl, _, h1, ?_, same_upd s1 hD, ?_⟩
      · rw [List.length_map, List.length_map, List.length_range]
        exact Nat.lt_trans hi (by decide)
      · rw [upd_same, List.range_succ]
        simp
    · rintro H' ⟨s1, h1⟩
      generalize ecs : ((List.range 64).map fun k : Nat => (17 + (k : Int))) = cs at h1
      have ok0 : CellsOk cs := by
        rw [← ecs]
        refine ⟨by simp, fun c hc => ?_⟩
        obtain ⟨k, hk, rfl⟩ := List.mem_map.mp hc
        have := List.mem_range.mp hk
        omega
      refine ⟨_, rfl, a, _, rfl, s1.seq hS, for_it walk_enum (fun _ σ H2 => ∃ (v1 v3 : Option V) (ds : List Int), σ = [some (.ref a), v1, some (.ref D), v3] ∧ Same H H2 ∧ H2 D = some (.lst (ds.map V.int)) ∧ CellsOk ds) ⟨_, _, cs, rfl, s1, h1, ok0⟩ (fun i σ H2 _ ⟨_, _, _, _, s2, _⟩ => s2.seq hS) ?_ ?_⟩
      · rintro i x σ H2 H3 hi ⟨v1, v3, ds, rfl, s2, h2, ok2⟩ ⟨T, y, z, rfl, hT, rfl, ey, ez⟩
        have ey : some (V.int (i : Nat)) = some y := ey
        cases ey
        have ez : (ns.map V.int)[i]? = some z := ez
        rw [List.length_map] at hi
        rw [getI hi] at ez
        cases ez
        have h2' : (upd H2 T (.tup [.int (i : Nat), .int ns[i]])) D = some (.lst (ds.map V.int)) := by rw [upd_ne (ne_of_none h2 hT)]; exact h2
        refine ⟨T, _, rfl, .inl (.inl upd_same), rfl, _, _, rfl, ?_⟩
        refine ⟨_, _, rfl, rfl, ?_⟩
        have j0 : ((i : Nat) : Int) % 64 = ((i % 64 : Nat) : Int) := by omega
        have jl : i % 64 < ds.length := by rw [ok2.1]; omega
        refine ⟨_, rfl, _, rfl, _, _, rfl, rfl, (by show (0 : Int) < 64; decide), _, _, _, _, rfl, rfl, SqL.of h2', at_of j0 (getI jl), _, _, rfl, rfl, .inr ⟨by decide, by decide⟩, _, rfl, _, _, rfl, rfl, _, _, rfl, rfl, (by show (0 : Int) < 2147483647; decide), ?_⟩
        refine ⟨_, rfl, _, rfl, _, _, rfl, rfl, (by show (0 : Int) < 64; decide), _, _, _, i % 64, rfl, rfl, h2', (by rw [j0]; exact ixN_n (by rw [List.length_map]; exact jl)), ?_⟩
        have b0 := Int.emod_nonneg (ds[i % 64] * 48271 + ns[i]) (show (2147483647 : Int) ≠ 0 by decide)
        have b1 := Int.emod_lt_of_pos (ds[i % 64] * 48271 + ns[i]) (show (0 : Int) < 2147483647 by decide)
        exact ⟨_, _, ds.set (i % 64) ((ds[i % 64] * 48271 + ns[i]) % 2147483647), rfl, same_upd (same_upd s2 (s2.free hT)) hD, by rw [upd_same, List.map_set], ok2.set _ b0 (by omega)⟩
      · rintro σ H2 ⟨v1, v3, ds, rfl, s2, h2, ok2⟩
        refine ⟨1, 64, rfl, ⟨by decide, by decide, by decide, by decide⟩, for_range (lo := 1) (n := 63) (fun _ σ H3 => ∃ (v1 v3 : Option V) (ds : List Int), σ = [some (.ref a), v1, some (.ref D), v3] ∧ Same H H3 ∧ H3 D = some (.lst (ds.map V.int)) ∧ CellsOk ds) ⟨_, _, ds, rfl, s2, h2, ok2⟩ ?_ ?_⟩
        · rintro i σ H3 hi ⟨v1, v3, es, rfl, s3, h3, ok3⟩
          have j0 : (1 + ((i : Nat) : Int)) = ((i + 1 : Nat) : Int) := by omega
          have j1 : (1 + ((i : Nat) : Int)) - 1 = ((i : Nat) : Int) := by omega
          have jl : i + 1 < es.length := by rw [ok3.1]; omega
          have jk : i < es.length := by omega
          refine ⟨_, rfl, _, rfl, _, _, _, _, rfl, rfl, SqL.of h3, at_of j0 (getI jl), _, rfl, _, rfl, _, _, rfl, rfl, _, _, _, _, rfl, rfl, SqL.of h3, at_of j1 (getI jk), _, _, rfl, rfl, .inr ⟨by decide, by decide⟩, _, _, rfl, rfl, _, _, rfl, rfl, (by show (0 : Int) < 2147483647; decide), ?_⟩
          refine ⟨_, rfl, _, rfl, _, _, _, i + 1, rfl, rfl, h3, (by rw [j0]; exact ixN_n (by rw [List.length_map]; exact jl)), ?_⟩
          have b0 := Int.emod_nonneg (es[i + 1] + es[i] * 16807) (show (2147483647 : Int) ≠ 0 by decide)
          have b1 := Int.emod_lt_of_pos (es[i + 1] + es[i] * 16807) (show (0 : Int) < 2147483647 by decide)
          exact ⟨_, _, es.set (i + 1) ((es[i + 1] + es[i] * 16807) % 2147483647), rfl, same_upd s3 hD, by rw [upd_same, List.map_set], ok3.set _ b0 (by omega)⟩
        · rintro σ H3 ⟨v1, v3, es, rfl, s3, h3, ok3⟩
          exact ⟨_, rfl, k _ _ _ s3 hD h3 ok3⟩
end
end K3

namespace K3
open PySem L2
section
variable {P : Program} {w : World} {K : PySem.W.Frag} {mg : Str → Option Value} {base : Heap}
def spBegun (K : PySem.W.Frag) : Sp := fun vs H Q _ => ∃ (a : Addr) (ns : List Int), vs = [.ref a] ∧ SqL K H a (ns.map V.int) ∧ ns.length ≤ 63 ∧
  ∀ H' m lc lg, Same H H' → H m = none → H lg = none → MA m lc lg 0 H' → Q (.ref m) H'
theorem scBegun : FnScope ["_law_script", "_law_m", "_law_cell"] ["_law_script"] (defScope sBegun) := ⟨rfl, rfl, rfl, by decide +kernel, rfl, by decide +kernel, by decide +kernel⟩
theorem ok_begun {f fM : Addr} {fd fdM : FuncData} (F : Fun K "_law_begun" "_law_begun" sBegun f fd) (FM : Fun K "_law_folded" "_law_folded" sFolded fM fdM) (bM : Binds K fdM ["_law_script"] []) (gM : mg "_law_folded" = some (.ref fM)) (gR : mg "range" = none) (gE : mg "enumerate" = none) :
    FnOk P w K mg base CX0 2 f fd ["_law_script"] (spBegun K) := by
  have GM : FnOk P w K mg base CX0 1 fM fdM ["_law_script"] (spFolded K) := ok_folded FM gR gE
  refine F.ok scBegun (fun vs H Q E h => ?_) (fun cdv A outer s H vs Q E hr h => ?_)
  · obtain ⟨a, ns, rfl, _⟩ := h
    rfl
  · obtain ⟨a, ns, rfl, hS, hl, k⟩ := h
    have hu := hu_of hr
    refine ⟨_, pss_cons (ps_set (i := 1) scBegun.nd rfl (Or.inl rfl) (pe_disp (pps_cons pe_str (pe_call GM hr rfl gM FM.kp bM .nil pass0 (pa_cons (pv 0) pa_nil)) (pps_cons pe_str (pe_lst pa_nil) (pps_cons pe_str pe_int pps_nil))) rfl rfl (by intro q; cases q) (by decide)))
      (pss_cons (ps_dput hu (pv 1) pe_str (pe_lc (own := [("_law_cell", 2)]) (g := gName 2) (tt := tYes) rfl scBegun.nd (pi_list (pv 0))
          (blkOk_by (N := ["_law_script", "_law_m", "_law_cell"]) (sc := defScope sBegun) (by decide +kernel)) (fun _ _ _ _ _ => pg_name (i := 2) scBegun.nd rfl (Or.inl rfl)) (fun _ _ _ _ _ => pts_nil)
          (fun _ _ _ _ _ => pe_ifExp (pt_cmpR op_ge (pv 2) (pe_op op_pow pe_int pe_int) (nomark _)) (pv 2) pe_int)) rfl)
      (pss_one (ps_ret (pv 1)))), ?_⟩
    intro m hm
    refine ⟨_, rfl, a, ns, rfl, (same_upd (Same.refl H) hm).seq hS, fun H1 lc cs s1 nlc hc okc => ?_⟩
    refine ⟨by decide, fun l0 nl0 => ?_⟩
    have s0 : Same H H1 := (same_upd (Same.refl H) hm).trans s1
    have nm1 : lc ≠ m := fun e => by
      rw [e, upd_same] at nlc
      cases nlc
    have hm1 : H1 m = some (.dK []) := s1 _ _ upd_same
    have e1 : (upd H1 l0 (.lst [])) m = some (.dK []) := by rw [upd_ne (ne_of_none hm1 nl0)]; exact hm1
    have e2 : (upd H1 l0 (.lst [])) lc = some (.lst (cs.map V.int)) := by rw [upd_ne (ne_of_none hc nl0)]; exact hc
    refine ⟨e1, mD lc l0 0, rfl, (by show 3 ≤ 15; decide), ?_⟩
    have em : mergeK [] (mD lc l0 0) = mD lc l0 0 := by
      simp only [mergeK, mD, List.foldl_cons, List.foldl_nil, putK, List.any_nil, List.any_cons, List.nil_append, List.cons_append, Bool.false_eq_true, if_false, decide_eq_false cg_, decide_eq_false ce_, decide_eq_false ge_, Bool.or_false]
    rw [em]
    generalize eH2 : upd (upd H1 l0 (.lst [])) m (.dK (mD lc l0 0)) = H2
    have hm2 : H2 m = some (.dK (mD lc l0 0)) := by rw [← eH2, upd_same]
    have hc2 : H2 lc = some (.lst (cs.map V.int)) := by rw [← eH2, upd_ne nm1]; exact e2
    have s2 : Same H H2 := fun b o e => by
      rw [← eH2, upd_ne (ne_of_none e hm)]
      exact same_upd s0 (s0.free nl0) b o e
    refine ⟨_, rfl, a, rfl, ⟨_, s2.seq hS⟩, fun D hD => lc_list (xs := ns.map V.int) (K := K) (a := a) (fun i H' => ∃ gs : List Int, Same H H' ∧ H' m = some (.dK (mD lc l0 0)) ∧ H' lc = some (.lst (cs.map V.int)) ∧ H' D = some (.lst (gs.map V.int)) ∧ gs.length = i) ⟨[], same_upd s2 (s2.free hD), by rw [upd_ne (ne_of_none hm2 hD)]; exact hm2, by rw [upd_ne (ne_of_none hc2 hD)]; exact hc2, upd_same, rfl⟩ (fun i H' _ ⟨_, s', _⟩ => s'.seq hS) ?_ ?_⟩
    · rintro i x H' hx ⟨gs, s', h1, h2, h3, h4⟩
      have hi : i < ns.length := by
        have q := (List.getElem?_eq_some_iff.mp hx).1
        rw [List.length_map] at q
        exact q
      rw [getI hi] at hx
      cases hx
      have go : ∀ z : Int, ∃ acc, H' D = some (.lst acc) ∧ acc.length < sizeLine ∧ ∃ gs : List Int, Same H (upd H' D (.lst (acc ++ [V.int z]))) ∧ (upd H' D (.lst (acc ++ [V.int z]))) m = some (.dK (mD lc l0 0)) ∧ (upd H' D (.lst (acc ++ [V.int z]))) lc = some (.lst (cs.map V.int)) ∧ (upd H' D (.lst (acc ++ [V.int z]))) D = some (.lst (gs.map V.int)) ∧ gs.length = i + 1 := fun z => by
        refine ⟨_, h3, ?_, gs ++ [z], same_upd s' (s2.free hD), ?_, ?_, ?_, ?_⟩
        · rw [List.length_map, h4]
          exact Nat.lt_of_lt_of_le hi (Nat.le_trans hl (by decide))
        · rw [upd_ne (ne_of_none hm2 hD)]; exact h1
        · rw [upd_ne (ne_of_none hc2 hD)]; exact h2
        · rw [upd_same, List.map_append]; rfl
        · rw [List.length_append, h4]; rfl
      refine ⟨rfl, ?_⟩
      dsimp only [tYes]
      rw [if_pos rfl]
      refine ⟨_, rfl, _, _, rfl, rfl, ⟨by decide, by decide, by decide⟩, _, _, rfl, rfl, _, rfl, ?_⟩
      refine ite2 (fun _ => ⟨_, rfl, go _⟩) (fun _ => go _)
    · rintro H' ⟨gs, s', h1, h2, h3, h4⟩
      refine ⟨_, rfl, m, _, rfl, DPut.k (k := Sum.inr "great") h1 (by show 3 < sizeLine; decide), ?_⟩
      rw [mD_putg]
      have nDm : D ≠ m := (ne_of_none hm2 hD).symm
      have nDc : D ≠ lc := (ne_of_none hc2 hD).symm
      refine ⟨_, rfl, k _ m lc D (fun b o e => ?_) hm (s2.free hD) ⟨upd_same, nDc.symm, ⟨cs, by rw [upd_ne nm1]; exact h2, okc.1, okc.2⟩, ⟨gs, by rw [upd_ne nDm]; exact h3, ?_⟩, by decide⟩⟩
      · rw [upd_ne (ne_of_none e hm)]
        exact s' b o e
      · rw [h4, List.length_map]
        exact hl
end
end K3

namespace K3
open PySem L2
/-! ### names -/
def LET : Str := "ABCDEFGHIJKLMNOPQRSTUVWXYZabcdefghijklmnopqrstuvwxyz"
def SIG : Str := "ABCDEFGHIJKLMNOPQRSTUVWXYZabcdefghijklmnopqrstuvwxyz0123456789_"
def LLET : Str := "abcdefghijklmnopqrstuvwxyzABCDEFGHIJKLMNOPQRSTUVWXYZ"
def DIG : Str := "0123456789_"
def inS (z : Str) (c : Nat) : Bool := decide (c ∈ z.cps.toList)
def nameS (z : Str) : Bool := decide (1 ≤ z.length) && decide (z.length ≤ 20) && (match z.cps.toList with | [] => false | c :: _ => inS LET c) && z.cps.toList.all (inS SIG)
def nameV : V → Bool
  | .str z => nameS z
  | _ => false
def NotStr (K : PySem.W.Frag) (H : Hp) (v : V) : Prop := (∀ z, v ≠ .str z) ∧ (∀ a, v = .ref a → ∃ o, H a = some o) ∧ ∃ t, TyX K H v t ∧ PySem.W.kitOne K t (.type "str") = some false
def Val (K : PySem.W.Frag) (H : Hp) (v : V) : Prop := (∃ z, v = .str z ∧ z.length ≤ 1000 ∧ PyData.strOk z = true) ∨ NotStr K H v
theorem NotStr.nameV {K : PySem.W.Frag} {H : Hp} {v : V} (h : NotStr K H v) : nameV v = false := by
  cases v with
  | str z => exact absurd rfl (h.1 z)
  | _ => rfl
section
variable {P : Program} {w : World} {K : PySem.W.Frag} {mg : Str → Option Value} {base : Heap}
def spName (K : PySem.W.Frag) : Sp := fun vs H Q _ => ∃ v, vs = [v] ∧ Val K H v ∧ ∀ H', Same H H' → Q (.bl (nameV v)) H'
structure TxtN (mg : Str → Option Value) : Prop where
  isi : mg "isinstance" = none
  str : mg "str" = none
  len : mg "len" = none
  all : mg "all" = none
  mx : ∃ t, mg "MAX_NAME" = some (.int 20 t)
  lt : ∃ t, mg "LETTERS" = some (.str LET t)
  sg : ∃ t, mg "NAME_SIGNS" = some (.str SIG t)
theorem scName : FnScope ["value", "sign"] ["value"] (defScope sName) := ⟨rfl, rfl, rfl, by decide +kernel, rfl, by decide +kernel, by decide +kernel⟩
theorem ok_name {f : Addr} {fd : FuncData} (F : Fun K "is_name" "is_name" sName f fd) (T : TxtN mg) : FnOk P w K mg base CX0 1 f fd ["value"] (spName K) := by
  refine F.ok scName (fun vs H Q E h => ?_) (fun cdv A outer s H vs Q E hr h => ?_)
  · obtain ⟨v, rfl, _⟩ := h
    rfl
  · obtain ⟨v, rfl, hv, k⟩ := h
    have hu := hu_of hr
    obtain ⟨tm, mx⟩ := T.mx
    obtain ⟨tl, lt⟩ := T.lt
    obtain ⟨tg, sg⟩ := T.sg
    refine ⟨_, pss_cons (ps_if (PW.pt (pw_or (pt_not (pt_val (pe_callB call_isi (by rfl) T.isi PyProof.Rows.boot_isinstance (pa_cons (pv 0) (pa_cons (pe_bltn (v := .ty "str") rfl T.str PyProof.Rows.boot_str rfl) pa_nil)))))
          (pw_or1 (pt_not (pt_chain op_le op_le pe_int (pe_callB call_len (by rfl) T.len PySem.boot_len (pa_cons (pv 0) pa_nil)) (pe_glob (v := .int 20) rfl mx ⟨_, rfl⟩))))))
        (pss_one (ps_ret pe_bl)) pss_nil)
      (pss_one (ps_ret (pe_and (pe_cmpR op_in_sign (pe_ix ix_str (pv 0) pe_int (fun _ _ => rfl)) (pe_glob (v := .str LET) rfl lt ⟨_, rfl⟩) (by rfl))
        (pe_one (pe_callB (cr_all rfl) (by rfl) T.all (show bootBuiltins "all" = some (.builtin "all") by decide +kernel) (pa_cons (pe_lc (own := [("sign", 1)]) (g := gName 1) (tt := tYes) rfl scName.nd (pi_str (pv 0)) (blkOk_by (N := ["value", "sign"]) (sc := defScope sName) (by decide +kernel))
          (fun _ _ _ _ _ => pg_name (i := 1) scName.nd rfl (Or.inl rfl)) (fun _ _ _ _ _ => pts_nil) (fun _ _ _ _ _ => pe_cmpR op_in_sign (pv 1) (pe_glob (v := .str SIG) rfl sg ⟨_, rfl⟩) (by rfl))) pa_nil)))))), ?_⟩
    rcases hv with ⟨z, rfl, hz, ho⟩ | hv
    · refine ⟨_, rfl, _, _, _, _, true, rfl, .ty "str", .base (.str z), kit_ty (by decide +kernel), _, rfl, ?_⟩
      refine iteF ?_
      -- 1 <= len(value) <= MAX_NAME
      have hz' : z.length ≤ sizeLine := Nat.le_trans hz (by decide)
      refine ⟨_, rfl, _, z.length, rfl, ⟨hz', rfl⟩, _, _, rfl, rfl, _, rfl, ?_⟩
      have eL : z.length = z.cps.toList.length := by simp [Str.length]
      have no : nameS z = false → Q (.bl false) H := fun e => by
        have q := k H (Same.refl H)
        change Q (V.bl (nameS z)) H at q
        rw [e] at q
        exact q
      refine ite2 (fun h1 => ?_) (fun h1 => ?_)
      · have h1' : 1 ≤ z.length := by have := of_decide_eq_true h1; omega
        refine ⟨_, _, rfl, rfl, _, rfl, ?_⟩
        by_cases h2 : ((z.length : Nat) : Int) ≤ 20
        · rw [decide_eq_true h2]
          refine iteF ?_
          have h2' : z.length ≤ 20 := by omega
          obtain ⟨c, l, ec⟩ : ∃ c l, z.cps.toList = c :: l := by
            cases q : z.cps.toList with
            | nil => rw [eL, q] at h1'; cases h1'
            | cons c l => exact ⟨c, l, rfl⟩
          have en : nameS z = (inS LET c && z.cps.toList.all (inS SIG)) := by
            unfold nameS
            rw [decide_eq_true h1', decide_eq_true h2', ec]
            rfl
          refine ⟨_, rfl, z, 0, c, rfl, rfl, hz', (atI_nat (j := 0) (by rw [ec]; rfl) : atI z.cps.toList ((0 : Nat) : Int) = some c), c, LET, rfl, rfl, _, rfl, ?_⟩
          refine ite2 (fun h3 => ?_) (fun h3 => ?_)
          · refine ⟨_, rfl, z, rfl, fun D hD => lc_it walk_str (fun i H' => Same H H' ∧ H' D = some (.lst (((z.cps.toList.take i).map (inS SIG)).map V.bl))) ⟨same_upd (Same.refl H) hD, by rw [upd_same]; rfl⟩ (fun _ _ _ _ => True.intro) ?_ ?_⟩
            · rintro i x H1 H2 hi ⟨s1, e1⟩ ⟨rfl, y, hy, rfl⟩
              have hy' : z.cps.toList[i]? = some y := by simpa using hy
              refine ⟨rfl, ?_⟩
              dsimp only [tYes]
              rw [if_pos rfl]
              refine ⟨_, rfl, y, SIG, rfl, rfl, _, e1, ?_, same_upd s1 hD, ?_⟩
              · rw [List.length_map, List.length_map]
                exact Nat.lt_of_le_of_lt (List.length_take_le _ _) (by
                  have : i < z.length := by rw [eL]; simpa using hi
                  exact Nat.lt_of_lt_of_le this hz')
              · rw [upd_same, List.take_add_one, hy']
                simp [inS]
            · rintro H1 ⟨s1, e1⟩
              rw [show z.cps.size = z.cps.toList.length by simp, List.take_length] at e1
              refine ⟨D, _, rfl, SqL.of e1, ?_⟩
              have q := k H1 s1
              change Q (V.bl (nameS z)) H1 at q
              rw [en, show inS LET c = true from h3] at q
              have e3 : ∀ l : List Nat, (l.map (inS SIG)).all id = l.all (inS SIG) := fun l => by
                induction l with
                | nil => rfl
                | cons a l ih => simp [ih]
              rw [e3]
              exact q
          · refine no ?_
            rw [en, show inS LET c = false from Bool.not_eq_true _ ▸ h3]
            rfl
        · rw [decide_eq_false h2]
          refine iteT ?_
          refine no ?_
          unfold nameS
          rw [decide_eq_false (show ¬ z.length ≤ 20 by omega)]
          simp
      · refine ⟨_, rfl, ?_⟩
        have e0 : z.length = 0 := by
          have : ¬ (1 : Int) ≤ z.length := fun q => h1 (decide_eq_true q)
          omega
        refine iteT ?_
        refine no ?_
        unfold nameS
        rw [e0]
        rfl
    · obtain ⟨t, ht, hk⟩ := hv.2.2
      refine ⟨_, rfl, _, _, _, _, false, rfl, .ty "str", ht, hk, _, rfl, ?_⟩
      refine iteT (iteT ?_)
      have q := k H (Same.refl H)
      rw [hv.nameV] at q
      exact q
end
end K3

namespace K3
open PySem L2
section
variable {P : Program} {w : World} {K : PySem.W.Frag} {mg : Str → Option Value} {base : Heap}
/-- what the written part says of an own exception class with one field, whose __init__ says super().__init__('..') -/
structure ErrC (P : Program) (K : PySem.W.Frag) (mg : Str → Option Value) (C fI cda cc : Addr) (fld qual : Str) (st : Stmt) : Prop where
  ox : OexC K C
  fi : PySem.W.findIn K (.ref C) "__init__" = some (some (.ref fI))
  ti : PySem.W.typeIn K (.ref fI) = some (.type "function")
  fn : ∃ (oc : Value) (od : Option Addr) (kV doc pm : Value) (an : Option Addr) (ct : Value) (osl : Array (Option Value)),
    K.lookup fI = some ⟨oc, od, .func (PySem.W.ksFn "__init__" qual (defArgs st) (defBody st) (defScope st) .none kV doc pm an (.ref cda) ct cc), osl⟩
  cd : PySem.W.codeIn K (.ref cda) qual = true
  cod : ∃ (ccl : Value) (cdd : Option Addr) (vs : Array Value) (ccs : Array (Option Value)) (file : Str) (tf : Tok), K.lookup cda = some ⟨ccl, cdd, .fields vs, ccs⟩ ∧ vs[2]? = some (.str file tf) ∧ ((P.main.file : Str) == file) = true
  cel : ∃ (cl : Value) (cld : Option Addr) (csl : Array (Option Value)), K.lookup cc = some ⟨cl, cld, .cell (some (.ref C)), csl⟩
  mr : PySem.W.mroIn K C (.ref C) = some true
  al : ∀ cd, PySem.W.clsIn K C = some cd → PySem.W.alongIn K "__init__" ((cd.mro.dropWhile (· != .ref C)).drop 1) = some (some (.builtin "ValueError.__init__"))
  sup : PySem.W.nsIn K mainGlobals "super" = some none
  opq : PySem.W.nsIn K cStatics "thirdparty.any" = some none
  ve : PySem.W.subIn K (.ref C) (.type "ValueError") = some true
  ei : PySem.W.excInitIn K C [.type "ValueError", .type "Exception", .type "BaseException", .type "object"] "ValueError.__new__" = true
  nf : PySem.W.findIn K (.ref C) fld = some none
  top : (P.main.scope.names.lookup ("super" : Str)).isSome = false
abbrev scErr : Scope := { kind := .function, names := [("self", .local), ("part", .local), ("__class__", .free), ("super", .globalImplicit)], isGenerator := false, isCoroutine := false }
def spErr (C : Addr) (fld : Str) : Sp := fun vs H Q _ => ∃ (a : Addr) (y : V), vs = [.ref a, y] ∧ H a = some (exo a C none) ∧
  ∀ dx, H dx = none → dx ≠ a → Q .non (upd (upd H dx (exd dx [(fld, y)])) a (exo a C (some dx)))
open PySem.W PySem.Calls in
/-- the __init__ of such a class, as the text has it: super().__init__('..'); self.fld = part -/
theorem ok_errInit {C fI cda cc : Addr} (T : ErrC P K mg C fI cda cc "part" "InvalidTree.__init__" sErrInit)
    {kV doc pm ct oc : Value} {od an : Option Addr} {osl : Array (Option Value)}
    (lk : K.lookup fI = some ⟨oc, od, .func (PySem.W.ksFn "__init__" "InvalidTree.__init__" (defArgs sErrInit) (defBody sErrInit) (defScope sErrInit) .none kV doc pm an (.ref cda) ct cc), osl⟩) :
    FnOk P w K mg base (L2.CX P w) 1 fI (PySem.W.ksFn "__init__" "InvalidTree.__init__" (defArgs sErrInit) (defBody sErrInit) (defScope sErrInit) .none kV doc pm an (.ref cda) ct cc) ["self", "part"] (spErr C "part") := by
  refine ⟨fun vs H Q E h => ?_, fun A outer s H args us vs Q E hr e0 hbd r h => ?_⟩
  · obtain ⟨a, y, rfl, _⟩ := h
    rfl
  · obtain ⟨a, y, rfl, ha, k⟩ := h
    obtain ⟨u0, u, rfl, r1, r2⟩ := vals2 r
    obtain rfl : u0 = Value.ref a := r1
    have KX : K.In s.heap := e0.mod.kin.keeps fun b o e => (e0.bs b o e).1
    have lim : s.heap.NoLimit := e0.mod.nolimit.keeps fun b o e => (e0.bs b o e).1
    obtain ⟨t1, hx⟩ := exo_at e0.hok ha
    obtain ⟨nm, q, N, bs, bm, sn, sub, ab, col, dd, k0, k1, k2, k3, k5, hC, hbm⟩ := T.ox.cls
    have hcl : clsIn K C = some { name := nm, bases := bs, mro := .ref C :: bm, ns := N, qualname := q, hasDict := true, slotNames := sn, subclasses := sub, abstract := ab, collection := col, hasDel := false } := by unfold clsIn; rw [hC] <;> rfl
    have hal := T.al _ hcl
    obtain ⟨ccl, cdd, cvs, ccs, file, tf, hcda, hvs, hfile⟩ := T.cod
    obtain ⟨cl, cld, csl, hcel⟩ := T.cel
    refine ks_codeAny_call_defAt (fd := ksFn "__init__" "InvalidTree.__init__" (defArgs sErrInit) (defBody sErrInit) (defScope sErrInit) .none kV doc pm an (.ref cda) ct cc) (body := defBody sErrInit) hr.depth (KX _ _ lk) rfl lim (codeRec_of KX T.cd) rfl hbd (show ∀ x ∈ (defScope sErrInit).names, x.2 ≠ .cell by decide +kernel) ?_ (fun h0 hns hk => ?_)
    · intro z hz
      rcases List.mem_cons.mp hz with e | hz
      · rw [e]; rfl
      · rcases List.mem_cons.mp hz with e | hz
        · rw [e]; rfl
        · cases hz
    · generalize eL : s.heap.objs.size = L at hns
      rw [show (callEnv (ksFn "__init__" "InvalidTree.__init__" (defArgs sErrInit) (defBody sErrInit) (defScope sErrInit) .none kV doc pm an (.ref cda) ct cc) L fI) = ksEnv "InvalidTree.__init__" (defScope sErrInit) L fI (.ref cda) cc from rfl]
      have up : ∀ {b o}, K.lookup b = some o → h0.get? b = some o := fun {b o} e => hk b o (KX b o e)
      have KX0 : K.In h0 := fun b o e => up e
      have hx0 := hk _ _ hx
      obtain ⟨mb, hmb, hbl⟩ := e0.mod.blt
      have hbk : ∀ b o, base.get? b = some o → h0.get? b = some o := fun b o e => hk b o (e0.bs b o e).1
      refine ks_wpAt_execs_cons (ks_wpAt_Expr_any (ks_wpAt_MethodCall (ks_wpAt_super_base (fd := ksFn "__init__" "InvalidTree.__init__" (defArgs sErrInit) (defBody sErrInit) (defScope sErrInit) .none kV doc pm an (.ref cda) ct cc) rfl rfl (by decide +kernel) rfl (up lk) rfl rfl rfl (up hcda) rfl hvs hfile T.top ?_)))
      refine ks_loadName_global rfl rfl (loadGlobal_builtin (env := ksEnv "InvalidTree.__init__" (defScope sErrInit) L fI (.ref cda) cc) (e0.mod.glob.keeps hbk) (mg_none_of e0.mod.kin e0.mod.glob T.sup) (hmb.keeps hbk) ((hbl _ (by decide +kernel)).trans PyProof.Rows.Boot.«super») ⟨rfl, ?_⟩)
      refine wpAny_loadName_free rfl rfl rfl ⟨_, up hcel, rfl⟩ ?_
      refine wpAny_loadName_local rfl rfl hns rfl ?_
      refine ks_wpAny_isType_cls (up hC) rfl ⟨rfl, ?_⟩
      refine ks_wpAny_call_super (up hC) rfl hx0 rfl (fun c e => by cases e) (looks_mroIn KX0 T.mr) (fun h1 so1 up1 => ?_)
      have KX1 : K.In h1 := fun b o e => up1 _ _ (up e)
      have hI1 : InstAt h1 a { cls := Value.ref C, data := Data.fields #[Value.ref t1, Value.none, Value.none, Value.none, Value.bool false, Value.none] } C none := ⟨up1 _ _ hx0, rfl, rfl, trivial⟩
      refine kxs_getMethod kxs_ValueError so1 (looks_opaque KX1 T.opq) (fun A Q E s k q => wpAny_bind ((looks_clsIn KX1 hcl) A _ E s k (wpAny_pure q))) rfl KX1 hal (hI1.type.andThen (looks_subIn KX1 T.ve)) (ks_ne KX1 hI1 hcl) (by decide +kernel) ?_
      generalize hu : h1.objs.size = z
      have lt1 : ∀ {b o}, h1.get? b = some o → b ≠ z := fun {b o} e q => by
        have w1 := Heap.lt_size e
        rw [q, ← hu] at w1
        exact Nat.lt_irrefl _ w1
      have up2 : ∀ b o, h1.get? b = some o → (h1.push (kxs_mw "ValueError.__init__" a)).get? b = some o := fun b o e => Heap.get?_push_of_some _ e
      have hmw : (h1.push (kxs_mw "ValueError.__init__" a)).get? z = some (kxs_mw "ValueError.__init__" a) := by
        rw [← hu]
        exact Heap.get?_push_size _ rfl
      generalize h1.push (kxs_mw "ValueError.__init__" a) = h2 at up2 hmw
      have all2 : ∀ b o, h0.get? b = some o → h2.get? b = some o := fun b o e => up2 b o (up1 b o e)
      refine kxs_callWith (i := "ValueError.__init__") (u := z) (x := a) (by rfl) (evalArgs_plain ?_)
      refine Calls.spliced_cons ?_
      refine Calls.Constant_str (pos := ⟨7, 25, 7, 39⟩) (k := 0) ?_
      refine Calls.spliced_nil ⟨hmw, ?_⟩
      have hbn : ∀ {b o}, h0.get? b = some o → H b ≠ none ∨ b = L → base.get? b = none := fun {b o} _ q => by
        cases e : base.get? b with
        | none => rfl
        | some v =>
          have w1 := e0.bs b v e
          rcases q with q | q
          · exact absurd w1.2 q
          · have w2 := Heap.lt_size w1.1
            rw [q, ← eL] at w2
            exact absurd w2 (Nat.lt_irrefl _)
      have aL : a ≠ L := fun q => by
        have w2 := Heap.lt_size hx
        rw [q, ← eL] at w2
        exact Nat.lt_irrefl _ w2
      have ba : base.get? a = none := hbn hx0 (.inl (by rw [ha]; exact fun q => nomatch q))
      have bz : base.get? z = none := by
        cases e : base.get? z with
        | none => rfl
        | some v => exact absurd rfl (lt1 (up1 _ _ (hbk _ _ e)))
      obtain ⟨oL, eL1, eL2, hoL, rL⟩ := id hns
      have F2 : PyProof.Rows.Fr base L h2 (fun x => List.lookup x ([("self" : Str), "part"].zip [Value.ref a, u]).reverse) := ⟨⟨oL, eL1, eL2, all2 _ _ hoL, rL⟩, fun b o e => all2 b o (hbk b o e), by rw [← eL]; exact e0.bsz⟩
      have za : z ≠ a := fun q => lt1 (up1 _ _ hx0) q.symm
      have zL : z ≠ L := fun q => lt1 (up1 _ _ hoL) q.symm
      refine kxs_call (t := t1) (dv := none) (c2 := .none) (s := ⟨h2, _, _, _, _⟩) F2 e0.mod.kin (news_at aL ba (all2 _ _ hx0)) F.excBase_ValueError T.ei (List.mem_cons_of_mem _ (mem_rest zL bz hmw za)) (.head rest_ne) (by show 1 ≤ sizeLine; decide) (fun t3 h3 F3 N3 _ => ?_)
      have k3 : ∀ b o, b ≠ L → b ≠ a → h2.get? b = some o → h3.get? b = some o := kept_of_news (fun b o e => all2 b o (hbk b o e)) F3 (fun p hp => N3 p (List.mem_cons_of_mem _ (List.mem_cons_of_mem _ hp)))
      have hx3 : h3.get? a = some ({ cls := .ref C, dict := none, data := .fields #[.ref t3, .none, .none, .none, .bool false, .none] } : Obj) := (N3 _ (List.mem_cons_of_mem _ (List.mem_cons_self ..))).1
      have all3 : ∀ b o, b ≠ a → s.heap.get? b = some o → h3.get? b = some o := fun b o hb e => k3 b o (fun q => by
        have w2 := Heap.lt_size e
        rw [q, ← eL] at w2
        exact Nat.lt_irrefl _ w2) hb (all2 b o (hk b o e))
      have KX3 : K.In h3 := e0.mod.kin.keeps F3.keep
      show wpAt _ _ _ (execs _ _) _ _ _
      refine ks_wpAt_execs_cons (ks_wpAt_Assign_Attr (wpAt_of_wpAny ?_))
      refine wpAny_Name (wpAny_loadName_local rfl rfl F3.ns rfl ?_) (by decide)
      refine wpAny_Name (wpAny_loadName_local rfl rfl F3.ns rfl ?_) (by decide)
      refine set_plain KX3 (ox := { cls := .ref C, dict := none, data := .fields #[.ref t3, .none, .none, .none, .bool false, .none] }) (od := none) ⟨hx3, rfl, rfl, trivial⟩ T.ox.sa ?_
      refine HandSPX.exc_osa KX3 hx3 hcl (show HandSPX.refsVE (.ref C :: bm) = true from hbm) rfl T.nf (fun hF tkF dx kF dn dne hxF hnF => ?_)
      have Ldx : s.heap.objs.size ≤ dx := by
        obtain ⟨o3, _, _, e3, _⟩ := F3.ns
        have w2 := Heap.lt_size e3
        rw [eL]
        exact Nat.le_trans (Nat.le_of_lt w2) dn
      have Hdx : H dx = none := e0.hok.fresh Ldx
      have keepF : ∀ b o, b ≠ a → s.heap.get? b = some o → hF.get? b = some o := fun b o nb e => kF b o nb (all3 b o nb e)
      have na : ∀ {b : Addr}, H b = none → b ≠ a := fun {b} n q => by
        rw [q, ha] at n
        cases n
      have nd : ∀ {b : Addr} {o : Obj}, s.heap.get? b = some o → b ≠ dx := fun {b o} e q => by
        have w2 := Heap.lt_size e
        rw [q] at w2
        exact absurd (Nat.lt_of_lt_of_le w2 Ldx) (Nat.lt_irrefl _)
      have same : ∀ b o, H b = some o → o ≠ exo a C none → (upd (upd H dx (exd dx [("part", y)])) a (exo a C (some dx))) b = some o := fun b o e ne => by
        rw [upd_ne (fun q => ne (by rw [q, ha] at e; exact (Option.some.inj e).symm)), upd_ne (ne_of_none e Hdx)]
        exact e
      have un : Un (frs outer) [] H (upd (upd H dx (exd dx [("part", y)])) a (exo a C (some dx))) s.heap hF := {
        keep := fun b o e n _ _ => keepF b o (na n) e
        slot := fun b o e n _ _ => ⟨o.slots, keepF b o (na n) e⟩
        free := fun b o e n _ => by
          rw [upd_ne (na n), upd_ne (nd e)]
          exact n
        there := fun b o e _ => by
          by_cases q : b = a
          · rw [q]
            exact ⟨_, hxF⟩
          · exact ⟨o, keepF b o q e⟩
        tups := fun b xs e => same b _ e (fun q => exo_tup q.symm)
        frzs := fun b o v e => same b _ e (fun q => exo_frz q.symm)
        tbls := fun b ps e => ⟨#[], by rw [same b _ e (fun q => exo_tbl q.symm)]; simp⟩ }
      have okF : HOk P w (upd (upd H dx (exd dx [("part", y)])) a (exo a C (some dx))) hF := fun b o e => by
        by_cases q : b = a
        · subst q
          rw [upd_same] at e
          cases e
          exact exo_ok hxF
        · rw [upd_ne q] at e
          by_cases q2 : b = dx
          · subst q2
            rw [upd_same] at e
            cases e
            exact exd_ok hnF (relO_put (fs := []) r2 fun g => True.intro)
          · rw [upd_ne q2] at e
            exact (e0.hok b o e).stay (fun c v hc z => keepF c v (by
                rcases hc with hc | hc
                · rw [hc]
                  exact q
                · exact at_ne ha hc exo_own) z) (fun c hc => same c _ hc (fun q => exo_own q.symm)) (fun c xs hc => same c _ hc (fun q => exo_tup q.symm))
      show wpAt _ _ _ (execs [] _) _ _ _
      refine wpAt_of_wpAny (wpAny_pure ?_)
      exact ⟨.non, _, rfl, e0.bare, un, okF, rfl, k dx Hdx dne⟩
end
end K3

namespace K3
open PySem L2
/-- at a: a caught exception of the class cls with its dict at d -/
def ExK (cls : Value) (d : Option Addr) (a : Addr) : HO := .ext fun h => ∃ (oe : Obj) (vs : Array Value), h.get? a = some oe ∧ Zc cls d oe ∧ oe.data = .fields vs
/-- what the body's exceptions are wished to do: caught by c, its object tracked behind the suite -/
def wKeep (K : PySem.W.Frag) (c : Value) (i j n : Nat) (D : Ends) : WX := fun cls d σ H =>
  PySem.W.exmOne K cls c = some true ∧ ∀ a, H a = none → σ.length = n → D.nx (((σ.set i (some (.ref a))).set j (some (.ref a))).set i none) (upd H a (ExK cls d a))
section
variable {X : Cx} {pins : List (Addr × Obj)} {σ : L2.St} {H : Hp} {s : Shared}
/-- an object that was not there at the entry, pinned till now, is tracked from now on -/
theorem Inv.takeUp {a : Addr} {oe : Obj} {vs : Array Value} {cls : Value} {d : Option Addr} (I : L2.Inv X pins σ H s) (ha : s.heap.get? a = some oe) (hz : Zc cls d oe) (hd : oe.data = .fields vs) (na : H a = none) (n0 : X.s_0.heap.get? a = none)
    (nL : a ≠ X.env.locals) (nC : ∀ x c, X.env.cells.lookup x = some c → c ≠ a) (nP : ∀ p ∈ X.pn ++ pins, p.1 ≠ a) : L2.Inv X pins σ (upd H a (ExK cls d a)) s := by
  have ne : ∀ b o, X.s_0.heap.get? b = some o → b ≠ a := fun b o e z => by
    rw [z, n0] at e
    cases e
  refine ⟨I.ok, I.os, I.bare, ⟨I.base.keep, I.base.slot, fun b o e n x => ?_, I.base.there, fun b xs e => ?_, fun b o u e => ?_, fun b ps e => ?_⟩, I.loc, I.cell, ?_, fun x c e => ?_, fun p hp => ?_, fun b u e => ?_, I.len⟩
  · rw [upd_ne (ne b o e)]
    exact I.base.free b o e n x
  · have q := I.base.tups b xs e
    rw [upd_ne (ne_of_none q na)]
    exact q
  · have q := I.base.frzs b o u e
    rw [upd_ne (ne_of_none q na)]
    exact q
  · obtain ⟨m, q⟩ := I.base.tbls b ps e
    exact ⟨m, by rw [upd_ne (ne_of_none q na)]; exact q⟩
  · rw [upd_ne nL.symm]
    exact I.free
  · rw [upd_ne (nC x c e)]
    exact I.freeC x c e
  · obtain ⟨q1, q2, q3⟩ := I.pin p hp
    exact ⟨q1, by rw [upd_ne (nP p hp)]; exact q2, q3⟩
  · by_cases q : b = a
    · subst q
      rw [upd_same] at e
      cases e
      exact ⟨⟨oe, vs, ha, hz, hd⟩, ⟨oe, ha⟩, fun h1 h2 ⟨o, v, w1, w2⟩ k => ⟨o, v, k o w1, w2⟩⟩
    · rw [upd_ne q] at e
      exact (I.hok b u e).stay (fun _ _ _ w => w) (fun c w => by rw [upd_ne (ne_of_none w na)]; exact w) fun c xs w => by rw [upd_ne (ne_of_none w na)]; exact w
end
section
variable {X : Cx} {x n : Str} {c : Value} {i j : Nat} {body : List Stmt} {np q1 q2 q3 pos pos' : Pos} {m : Str} {tb : WX → TS}
/-- try: body / except x as n: m = n -/
theorem ps_try_keep (hs : X.stack = X.env :: X.outer) (hf : X.env.frame = some X.env.locals) (hex : X.ex = []) (hN : X.N.Nodup) (hi : X.N[i]? = some n) (hj : X.N[j]? = some m) (hln : X.env.kindOf n = some .local) (hlm : X.env.kindOf m = some .local)
    (hij : i ≠ j) (hmb : X.fn m = true ∨ X.env.scope.names.lookup m = some .local) (hc : Names X x c)
    (hb : ∀ (W : WX) (pn : List (Addr × Obj)) (xe : Value → Shared → Prop), Takes (X.tr pn xe) W → PassesOwn (model X.prog X.w) X.A X.env xe → PSs (X.tr pn xe) body (tb W))
    (hd1 : (n == ("__debug__" : Str)) = false) (hd2 : (n == ("__classdict__" : Str)) = false) (hsw : swapsWith (.Name n q2) (some (.Name m q1)) q3.line X.env = pure false) :
    PS X (.Try body [.ExceptHandler (some (.Name x np)) (some n) [.Assign [.Name m q1] (.Name n q2) q3] pos'] [] [] pos) (fun D σ H => tb (wKeep X.K c i j X.N.length D) D σ H) := by
  refine ⟨fun pins s σ H D I h => ?_⟩
  have okX := I.ok
  have frX : X.A.frames = some (X.env :: X.outer) := by
    rw [okX.frames, hs]
  let clause : ExceptHandler := .ExceptHandler (some (.Name x np)) (some n) [.Assign [.Name m q1] (.Name n q2) q3] pos'
  refine wpAny_Try_except ?_
  refine wpAny_mono ((hb (wKeep X.K c i j X.N.length D) (X.pn ++ pins) (fun e s₁ => wpAny (model X.prog X.w) X.A (noteFrame e X.env) (fun _ s₂ => wpAny (model X.prog X.w) X.A (setFlight e none) (fun _ s₃ => wpAny (model X.prog X.w) X.A (handleBy e X.env [clause]) (SP X pins D) X.xe s₃) X.xe s₂) X.xe s₁)
    (fun u s' air => ?caught) PassesOwn.looking).run [] s σ H D (I.toTry _) h) (fun f s1 hsp => ?thru) (fun e s1 he => he)
  case thru =>
    cases f with
    | next =>
      obtain ⟨σ6, H6, S6, q6⟩ := hsp
      exact wpAny_execs_nil ⟨_, _, S6.ofTry okX, q6⟩
    | brk =>
      obtain ⟨σ6, H6, S6, q6⟩ := hsp
      exact ⟨_, _, S6.ofTry okX, q6⟩
    | cont =>
      obtain ⟨σ6, H6, S6, q6⟩ := hsp
      exact ⟨_, _, S6.ofTry okX, q6⟩
    | ret u =>
      obtain ⟨v6, σ6, H6, S6, r6, q6⟩ := hsp
      exact ⟨_, _, _, S6.ofTry okX, r6, q6⟩
  case caught =>
    obtain ⟨a, B, sI, pins1, σ1, H1, cls, d, rfl, J0, nb, up, sky, na, os, ag, hex1, hnx⟩ := air
    have J : L2.Inv X pins σ1 H1 sI := J0.ofTry okX
    rw [hs] at sky
    show wpAny (model X.prog X.w) X.A (noteFrame (.ref a) X.env) _ _ _
    refine Sky.land Zc.steady frX hf sky fun h3 fl3 up3 => ?_
    have J3 : L2.Inv X pins σ1 H1 { s' with heap := h3 } := J.landed nb fl3.1 (up.trans up3) os ag
    obtain ⟨oe3, vs3, he3, hz3, hd3⟩ := fl3.there
    have nfr : a ∉ frs (X.env :: X.outer) := fun hm => by
      obtain ⟨_, o1, e1, hnf⟩ := fl3.2.2.1.mem hm
      rw [he3] at e1
      cases e1
      exact hnf _ hd3
    have nL : a ≠ X.env.locals := fun z => nfr (List.mem_filterMap.mpr ⟨X.env, List.mem_cons_self, by rw [hf, z]⟩)
    have nF : a ∉ X.fs := fun hm => by
      obtain ⟨e1, he1, w1⟩ := List.mem_filterMap.mp hm
      exact nfr (List.mem_filterMap.mpr ⟨e1, List.mem_cons_of_mem _ he1, w1⟩)
    have nI : sI.heap.get? a = none := by
      cases e1 : sI.heap.get? a with
      | none => rfl
      | some o1 =>
        have w1 := nb a o1 e1 (by rw [hs]; exact nfr)
        rw [fl3.2.1] at w1
        cases w1
    have n0 : X.s_0.heap.get? a = none := by
      cases e1 : X.s_0.heap.get? a with
      | none => rfl
      | some o1 =>
        obtain ⟨o2, w1⟩ := J.base.there a o1 e1 (by rw [hex]; exact fun z => nomatch z)
        rw [nI] at w1
        cases w1
    have S3 := J3.suite he3 hd3 na nL nF
    refine wpAny_handleBy_cons (codeAny_handlers_test ?_) (by intro w1; cases w1)
    have LT : PySem.W.Looks (model X.prog X.w) h3 (typeOf (.ref a)) cls := fun A Q E s k w1 => wpAny_typeOf_ref (k _ _ he3) (by rw [hz3.1]; exact w1)
    have LM := PySem.W.exm_one (M := model X.prog X.w) (J3.kIn) LT hex1
    have test : ∀ {Q : Value → Shared → Prop} {E : Value → Shared → Prop}, Q c { s' with heap := h3 } →
        wpAny (model X.prog X.w) (X.A.mark (some (.ref a))) (eval (.Name x np) X.env) Q E { s' with heap := h3 } := fun {Q E} w1 => by
      obtain ⟨hg, hdbg, hm | ⟨hm, hv, hnn⟩⟩ := hc
      · exact ld_glob (X := X.suite a ((a, oe3) :: (X.pn ++ pins))) S3 hg hm w1 hdbg
      · exact ld_blt (X := X.suite a ((a, oe3) :: (X.pn ++ pins))) S3 hg hm hv w1 hnn hdbg
    refine test (LM.here ?_)
    refine codeAny_handlers_suite_as ?_
    refine HandSPX.lands_againZ fl3 fun h4 fl4 up4 => ?_
    have J4 : L2.Inv X pins σ1 H1 { s' with heap := h4 } := J.landed nb fl4.1 ((up.trans up3).trans up4) os ag
    obtain ⟨oe4, vs4, he4, hz4, hd4⟩ := fl4.there
    have S4 := J4.suite he4 hd4 na nL nF
    refine store_ok (X := X.suite a ((a, oe4) :: (X.pn ++ pins))) (v := .ref a) S4 hN hi (.inl hln) rfl (fun s5 S5 => ?_) (.inr hln)
    have hpa : PE (X.suite a ((a, oe4) :: (X.pn ++ pins))) (.Name n q2) (tVar i) := pe_var hi (.inl hln) hd1 hd2
    have hps : PS (X.suite a ((a, oe4) :: (X.pn ++ pins))) (.Assign [.Name m q1] (.Name n q2) q3) (tAsg (tVar i) (gName j)) := ps_asg hpa (pg_name hN hj (.inl hlm)) hsw
    have iσ : i < (σ1.set i (some (V.ref a))).length := by
      rw [List.length_set, J4.len]
      exact (List.getElem?_eq_some_iff.mp hi).1
    have at_i : (σ1.set i (some (V.ref a)))[i]? = some (some (V.ref a)) := by
      rw [List.length_set] at iσ
      exact List.getElem?_set_self iσ
    refine wpAny_mono ((pss_one hps).run [] s5 _ H1 { nx := fun σ6 H6 => σ6 = (σ1.set i (some (V.ref a))).set j (some (V.ref a)) ∧ H6 = H1, rt := fun _ _ => False } S5 ⟨V.ref a, at_i, rfl, rfl⟩) (fun f s6 hsp => ?_) (fun _ _ z => False.elim z)
    cases f with
    | next =>
      obtain ⟨σ6, H6, S6, e6, e7⟩ := hsp
      subst e6 e7
      have pa := S6.pin (a, oe4) (List.mem_append_left _ List.mem_cons_self)
      have U0 : L2.Inv X pins _ _ s6 := S6.unsuite okX
      have U := Inv.takeUp U0 pa.1 hz4 hd4 na n0 nL (fun x1 c1 w1 w2 => by
        obtain ⟨v1, o1, w3, w4⟩ := U0.cell x1 c1 w1
        rw [w2, pa.1] at w3
        cases w3
        rw [hd4] at w4
        cases w4) (fun p hp w2 => by
        have w3 := (J.pin p hp).1
        rw [w2, nI] at w3
        cases w3)
      exact gone_ok U hN hi hln (fun s7 J7 => ⟨_, _, J7, hnx a na J.len⟩)
    | brk =>
      obtain ⟨_, _, _, z⟩ := hsp
      exact z.elim
    | cont =>
      obtain ⟨_, _, _, z⟩ := hsp
      exact z.elim
    | ret u =>
      obtain ⟨_, _, _, _, _, z⟩ := hsp
      exact z.elim
end
end K3

namespace K3
open PySem L2
/-- what an own exception class says of its instances -/
structure ExcL (K : PySem.W.Frag) (C : Addr) : Prop where
  cl : (PySem.W.clsIn K C).isSome = true
  ga : PySem.W.findIn K (.ref C) "__getattribute__" = some (some (.builtin "BaseException.__getattribute__"))
  gg : PySem.W.findIn K (.ref C) "__getattr__" = some none
  ex : PySem.W.subIn K (.ref C) (.type "BaseException") = some true
  hd : PySem.W.hasDictIn K C = true
  ca : PySem.W.findIn K (.ref C) "__class__" = some (some (.builtin "object.__class__"))
  cg : PySem.W.specialIn K (.builtin "object.__class__") "__get__" = some (some (.builtin "getset_descriptor.__get__"))
  tk : PySem.W.takesIn K (.builtin "object.__class__") = some true
  mo : PySem.W.mroIn K C (.type "object") = some true
section
variable {X : Cx} {pins : List (Addr × Obj)} {σ : L2.St} {H : Hp} {s : Shared}
theorem exk_inst {a C dd : Addr} {fs : List (Str × V)} (I : L2.Inv X pins σ H s) (ha : H a = some (ExK (.ref C) (some dd) a)) (hd : H dd = some (.xd fs)) :
    ∃ oe od, PySem.W.InstAt s.heap a oe C (some od) ∧ (∀ f v, fs.lookup f = some v → ∃ u, PySem.W.lookIn f od = some (some u) ∧ RelV v u) := by
  obtain ⟨⟨oe, vs, e1, e2, e3⟩, _, _⟩ := I.hok a _ ha
  have hx : ObjOk X.prog X.w H s.heap dd (.xd fs) := I.hok dd _ hd
  obtain ⟨mA, hns, hr⟩ := hx
  obtain ⟨od, ho, hl⟩ := lookIn_ns hns
  refine ⟨oe, od, ⟨e1, e2.1, by unfold PySem.W.notCls; rw [e3] <;> rfl, by rw [e2.2]; exact ho⟩, fun f v l => ?_⟩
  obtain ⟨u, hu, ru⟩ := RelO.some_of (v := v) (o := mA f) (by rw [← l]; exact hr f)
  exact ⟨u, by rw [hl, hu], ru⟩
end
def tExk (K : PySem.W.Frag) (n : Str) (te : TE) : TE := fun σ H Q => te σ H fun x H1 => ∃ (a C dd : Addr) (fs : List (Str × V)) (v : V), x = .ref a ∧ H1 a = some (ExK (.ref C) (some dd) a) ∧ H1 dd = some (.xd fs) ∧ ExcL K C ∧ PySem.W.findIn K (.ref C) n = some none ∧ fs.lookup n = some v ∧ Q v H1
theorem pe_exk {X : Cx} {e : Expr} {te : TE} {pos : Pos} {n : Str} (he : PE X e te) (hb : attributeBase e n X.env (eval e X.env) = eval e X.env := by rfl) : PE X (.Attribute e n pos) (tExk X.K n te) := by
  refine ⟨fun pins s σ H Q I h => ?_⟩
  refine attr_of hb (thn (he.run pins s σ H _ I h) fun u s1 hh => ?_)
  obtain ⟨x, H1, I1, rx, a, C, dd, fs, v, ex, ha, hd, L, nf, l, q⟩ := hh
  subst ex
  obtain rfl : u = Value.ref a := rx
  obtain ⟨oe, od, J, look⟩ := exk_inst I1 ha hd
  obtain ⟨u, hu, ru⟩ := look n v l
  exact HandSPX.exc_get I1.kIn J L.ga L.gg L.ex (PySem.W.findObj_own L.hd nf rfl hu) (handed_of ru) ⟨v, H1, I1.tok _, ru, q⟩
def rIsK (K : PySem.W.Frag) : List V → Hp → VK → Prop := fun xs H Q => ∃ (a C C2 dd : Addr) (fs : List (Str × V)) (b : Bool), xs = [.ref a, .ref C2] ∧ H a = some (ExK (.ref C) (some dd) a) ∧ H dd = some (.xd fs) ∧ ExcL K C ∧ PySem.W.kitOne K (.ref C) (.ref C2) = some b ∧ Q (.bl b) H
theorem call_isK {X : Cx} : CallR X (.builtin "isinstance") (rIsK X.K) := by
  intro pins s σ H xs us Q I r h
  obtain ⟨a, C, C2, dd, fs, b, rfl, ha, hd, L, e, q⟩ := h
  obtain ⟨u1, u2, rfl, r1, r2⟩ := vals2 r
  obtain rfl : u1 = Value.ref a := r1
  obtain rfl : u2 = Value.ref C2 := r2
  obtain ⟨oe, od, J, _⟩ := exk_inst I ha hd
  exact PySem.W.kia_one (PySem.W.kitx_exc L.cl L.ga L.gg L.ex L.ca L.cg L.tk L.mo) I.kIn J e (fun z => nomatch z) fun tk => ⟨.bl b, H, I.tok tk, rfl, q⟩
@[simp] theorem x_tExk {K : PySem.W.Frag} {n : Str} {te : TE} {σ : L2.St} {H : Hp} {Q : VK} : tExk K n te σ H Q = te σ H fun x H1 => ∃ (a C dd : Addr) (fs : List (Str × V)) (v : V), x = .ref a ∧ H1 a = some (ExK (.ref C) (some dd) a) ∧ H1 dd = some (.xd fs) ∧ ExcL K C ∧ PySem.W.findIn K (.ref C) n = some none ∧ fs.lookup n = some v ∧ Q v H1 := rfl
end K3

namespace K3
open PySem L2
section
variable {X : Cx} {C fI cda cc : Addr}
/-- the facts that a raise of InvalidTree asks -/
structure ErrF (P : Program) (K : PySem.W.Frag) (mg : Str → Option Value) (C : Addr) : Prop where
  ex : ∃ fI cda cc, ErrC P K mg C fI cda cc "part" "InvalidTree.__init__" sErrInit
  mgC : mg "InvalidTree" = some (.ref C)
theorem pmk_form {e : Expr} {te : TE} {p pos : Pos} (T : ErrF X.prog X.K X.mg C) (hr : Room 2 X.A) (hg : Gl X "InvalidTree") (he : PE X e te)
    (hs : starEach [e] X.env = (false, eval e X.env) :: starEach [] X.env := by rfl) :
    PMk X (.Call (.Name "InvalidTree" p) [e] [] pos) (tMkO C (spErr C "part") [] (tCons te tNil)) := by
  obtain ⟨fI, cda, cc, TC⟩ := T.ex
  obtain ⟨oc, od, kV, doc, pm, an, ct, osl, lk⟩ := TC.fn
  exact pmk_oex TC.ox TC.fi TC.ti (ok_errInit TC lk) hr (.all fun us hl => match us, hl with | [_, _], _ => rfl) .nil passL hg T.mgC (pa_cons he pa_nil (by exact hs)) (by decide) hs (by rfl)
theorem raise_ans {H1 : Hp} {v : V} {Q : XK} (k : ∀ d, H1 d = none → Q (.ref C) (some d) (upd H1 d (.xd [("part", v)]))) :
    ([v] : List V).length ≤ 1000 ∧ ∀ a, H1 a = none → spErr C "part" (.ref a :: ([v] ++ [])) (upd H1 a (exo a C none))
      (fun u H2 => u = .non ∧ ∃ (d : Addr) (fs : List (Str × V)), H2 a = some (exo a C (some d)) ∧ H2 d = some (exd d fs) ∧ H1 d = none ∧ Q (.ref C) (some d) (upd (del H2 a) d (.xd fs))) (fun _ _ _ => False) := by
  refine ⟨by show 1 ≤ 1000; decide, fun a na => ⟨a, v, rfl, upd_same, fun dx ndx ne => ?_⟩⟩
  rw [upd_ne ne] at ndx
  refine ⟨rfl, dx, [("part", v)], upd_same, by rw [upd_ne ne, upd_same], ndx, ?_⟩
  have e : upd (del (upd (upd (upd H1 a (exo a C none)) dx (exd dx [("part", v)])) a (exo a C (some dx))) a) dx (.xd [("part", v)]) = upd H1 dx (.xd [("part", v)]) := by
    funext b
    by_cases q : b = dx
    · rw [q, upd_same, upd_same]
    · rw [upd_ne q, upd_ne q]
      by_cases q2 : b = a
      · rw [q2, del_same, na]
      · rw [del_ne q2, upd_ne q2, upd_ne q, upd_ne q2]
  rw [e]
  exact k dx ndx
end
/-! ### values stand while their own object stands -/
theorem TyOf.keep {K : PySem.W.Frag} {H H' : Hp} {v : V} {t : Value} (h : TyOf K H v t) (k : ∀ a o, v = .ref a → H a = some o → H' a = some o) : TyOf K H' v t := by
  cases h with
  | non => exact .non
  | bl x => exact .bl x
  | int i => exact .int i
  | str x => exact .str x
  | flt x => exact .flt x
  | lst e => exact .lst (k _ _ rfl e)
  | frz e => exact .frz (k _ _ rfl e)
  | tup e => exact .tup (k _ _ rfl e)
  | dK e => exact .dK (k _ _ rfl e)
  | dT e => exact .dT (k _ _ rfl e)
  | ins e cl ha hn htk hm => exact .ins (k _ _ rfl e) cl ha hn htk hm
theorem TyX.keep {K : PySem.W.Frag} {H H' : Hp} {v : V} {t : Value} (h : TyX K H v t) (k : ∀ a o, v = .ref a → H a = some o → H' a = some o) : TyX K H' v t := by
  cases h with
  | base h => exact .base (TyOf.keep h k)
  | byt b => exact .byt b
  | set e => exact .set (k _ _ rfl e)
  | kList e c => exact .kList e c
  | kTuple e c => exact .kTuple e c
  | kDict e c => exact .kDict e c
  | fTuple e => exact .fTuple (k _ _ rfl e)
  | fDict e => exact .fDict (k _ _ rfl e)
theorem Val.keep {K : PySem.W.Frag} {H H' : Hp} {v : V} (h : Val K H v) (k : ∀ a o, v = .ref a → H a = some o → H' a = some o) : Val K H' v := by
  rcases h with h | ⟨h1, h0, t, h2, h3⟩
  · exact .inl h
  · exact .inr ⟨h1, fun a e => let ⟨o, q⟩ := h0 a e; ⟨o, k a o e q⟩, t, TyX.keep h2 k, h3⟩
theorem Val.ne {K : PySem.W.Frag} {H : Hp} {v : V} {x : Addr} (h : Val K H v) (n : H x = none) : v ≠ .ref x := fun e => by
  rcases h with ⟨z, e2, _⟩ | h
  · rw [e] at e2
    cases e2
  · obtain ⟨o, q⟩ := h.2.1 x e
    rw [n] at q
    cases q
theorem Val.same {K : PySem.W.Frag} {H H' : Hp} {v : V} (h : Val K H v) (s : Same H H') : Val K H' v := Val.keep h fun a o _ e => s a o e
end K3

namespace K3
open PySem L2
open LamX (ExtN Tabs TabS TabB LamS lamS_by lamSB)
/-! ### what stands while tables of code grow -/
theorem rd_ext {H H' : Hp} {a : Addr} {xs : List V} (e : ExtN H H') (h : Rd H a (.lst xs)) : Rd H' a (.lst xs) := by
  rcases h with h | ⟨o, h⟩
  · exact .inl (e _ _ h fun ps q => by cases q)
  · exact .inr ⟨o, e _ _ h fun ps q => by cases q⟩
theorem seq_ext {K : PySem.W.Frag} {H H' : Hp} {a : Addr} {xs : List V} (e : ExtN H H') (h : SqL K H a xs) : SqL K H' a xs := by
  rcases h with h | h
  · exact .inl (rd_ext e h)
  · exact .inr h
/-- a text, or another thing whose own object stands -/
def ValB (K : PySem.W.Frag) (H : Hp) (v : V) : Prop := (∃ z, v = .str z ∧ z.length ≤ 1000 ∧ PyData.strOk z = true) ∨ ((∀ z, v ≠ .str z) ∧ (∀ a, v = .ref a → ∃ o, H a = some o ∧ ∀ ps, o ≠ .tbl ps) ∧ ∃ t, TyX K H v t ∧ PySem.W.kitOne K t (.type "str") = some false)
theorem ValB.val {K : PySem.W.Frag} {H : Hp} {v : V} (h : ValB K H v) : Val K H v := by
  rcases h with h | ⟨h1, h2, h3⟩
  · exact .inl h
  · exact .inr ⟨h1, fun a e => let ⟨o, q, _⟩ := h2 a e; ⟨o, q⟩, h3⟩
theorem ValB.ext {K : PySem.W.Frag} {H H' : Hp} {v : V} (h : ValB K H v) (e : ExtN H H') : ValB K H' v := by
  rcases h with h | ⟨h1, h2, t, h3, h4⟩
  · exact .inl h
  · refine .inr ⟨h1, fun a q => ?_, t, TyX.keep h3 fun a o q1 q2 => ?_, h4⟩
    · obtain ⟨o, q1, q2⟩ := h2 a q
      exact ⟨o, e _ _ q1 q2, q2⟩
    · obtain ⟨o', q3, q4⟩ := h2 a q1
      rw [q2] at q3
      cases q3
      exact e _ _ q2 q4
theorem ValB.same {K : PySem.W.Frag} {H H' : Hp} {v : V} (h : ValB K H v) (e : Same H H') : ValB K H' v := h.ext (ExtN.of e)
theorem layStrs : ∀ l : List Str, (∀ x ∈ l, PyData.strOk x = true) → PyData.canLayAll0 (l.map PyData.str) = true := fun l => by
  induction l with
  | nil => intro _; rfl
  | cons i l ih =>
    intro h
    simp [PyData.canLayAll0, PyData.canLay0, ih (fun x hx => h x (List.mem_cons_of_mem _ hx)), h i (List.mem_cons_self ..)]
theorem depStrs : ∀ l : List Str, PyData.depthAll (l.map PyData.str) = 0 := fun l => by
  induction l with
  | nil => rfl
  | cons i l ih => simp [PyData.depthAll, PyData.depth, ih]
theorem shTup {l : List Str} (h : ∀ x ∈ l, PyData.strOk x = true) : SeqAt.shaped (.tuple (l.map PyData.str)) = true := by
  simp [SeqAt.shaped, PyData.canLay0, PyData.depth, layStrs l h, depStrs]
/-- a list of tuples of texts -/
theorem shLT {ls : List (List Str)} (h : ∀ l ∈ ls, ∀ x ∈ l, PyData.strOk x = true) : SeqAt.shaped (.list (ls.map fun l => .tuple (l.map PyData.str))) = true := by
  have h1 : ∀ ls : List (List Str), (∀ l ∈ ls, ∀ x ∈ l, PyData.strOk x = true) → PyData.canLayAll0 (ls.map fun l => PyData.tuple (l.map PyData.str)) = true := fun ls => by
    induction ls with
    | nil => intro _; rfl
    | cons i l ih =>
      intro h
      simp [PyData.canLayAll0, PyData.canLay0, ih (fun x hx => h x (List.mem_cons_of_mem _ hx)), layStrs i (h i (List.mem_cons_self ..))]
  have h2 : ∀ ls : List (List Str), PyData.depthAll (ls.map fun l => PyData.tuple (l.map PyData.str)) ≤ 1 := fun ls => by
    induction ls with
    | nil => exact Nat.zero_le _
    | cons i l ih => 
      simp only [PyData.depthAll, PyData.depth, depStrs, List.map_cons]
      omega
  have := h2 ls
  have e : PyData.depthAll (ls.map fun l => PyData.tuple (l.map PyData.str)) + 1 ≤ 64 := by omega
  simp [SeqAt.shaped, PyData.canLay0, PyData.depth, h1 ls h]
  omega
theorem eqvNilT (l : List Str) : PyData.eqv (.tuple (l.map PyData.str)) (.tuple []) = l.isEmpty := by
  cases l <;> rfl
theorem lay_of {d : PyData} (h : SeqAt.shaped d = true) : d.canLay0 = true := by
  unfold SeqAt.shaped at h
  exact (Bool.and_eq_true _ _ ▸ h).1
/-! ### a def whose code object is known -/
structure FunC (K : PySem.W.Frag) (x qual : Str) (st : Stmt) (f : Addr) (fd : FuncData) (c : Addr) : Prop where
  ex : ∃ (oc : Value) (od : Option Addr) (kV doc pm : Value) (an : Option Addr) (ct : Value) (osl : Array (Option Value)),
    fd = PySem.W.fnOf x qual (defArgs st) (defBody st) (defScope st) .none kV doc pm an (.ref c) ct ∧ K.lookup f = some ⟨oc, od, .func fd, osl⟩ ∧ PySem.W.codeIn K (.ref c) qual = true
  kp : PySem.W.keepIn K (.ref f) = true
section
variable {P : Program} {w : World} {K : PySem.W.Frag} {mg : Str → Option Value} {base : Heap}
theorem FunC.ok {x qual : Str} {st : Stmt} {f c : Addr} {fd : FuncData} {N ps : List Str} {k : Nat} {sp : Sp} (F : FunC K x qual st f fd c) (S : FnScope N ps (defScope st)) (len : ∀ vs H Q E, sp vs H Q E → vs.length = ps.length)
    (hbody : ∀ (A : Around) (outer : List Env) (s : Shared) (H : Hp) (vs : List V) (Q : VK) (E : XK), Room k (A.deeper (PyProof.Rows.envOfC qual (defScope st) s.heap.objs.size f (.ref c))) → sp vs H Q E →
      ∃ t, PSs (cxOf CX0 P w K mg base N qual (defScope st) f (.ref c) A outer s H E).nox (defBody st) t ∧ t { nx := fun _ H' => Q .non H', rt := Q } (L2.start N vs) H) : FnOk P w K mg base CX0 (k + 1) f fd ps sp := by
  obtain ⟨oc, od, kV, doc, pm, an, ct, osl, rfl, lk, hcd⟩ := F.ex
  refine fn_of lk hcd S len fun A outer s H vs Q E hr hsp => ?_
  obtain ⟨t, h, q⟩ := hbody A outer s H vs Q E hr hsp
  exact ⟨t, h.nox, q⟩
end
theorem putK_new {kvs : List (Key × V)} {k : Key} {v : V} (h : k ∉ kvs.map Prod.fst) : putK kvs k v = kvs ++ [(k, v)] := by
  unfold putK
  rw [if_neg]
  intro q
  rw [List.any_eq_true] at q
  obtain ⟨p, hp, e⟩ := q
  exact h (List.mem_map.mpr ⟨p, hp, of_decide_eq_true e⟩)
theorem ext_upd {H H1 H2 : Hp} {l : Addr} {u : HO} (e1 : ExtN H H1) (n : H1 l = none) (e2 : ExtN H H2) : ExtN H (upd H2 l u) := fun b o e nt => by
  have nb : b ≠ l := fun q => by
    have z := e1 b o e nt
    rw [q, n] at z
    cases z
  rw [upd_ne nb]
  exact e2 b o e nt
theorem tabs_upd {T : List (Addr × Str)} {H : Hp} {l : Addr} {u : HO} (t : Tabs T H) (h1 : ∀ ps, H l ≠ some (.tbl ps)) (h2 : ∀ c q, H l ≠ some (LamX.CodeO c q)) : Tabs T (upd H l u) := fun p hp => by
  obtain ⟨ps, a, b, c⟩ := t p hp
  refine ⟨ps, by rw [upd_ne (fun q => h1 ps (by rw [← q]; exact a))]; exact a, b, fun pos cv hcv => ?_⟩
  obtain ⟨c0, e1, e2⟩ := c pos cv hcv
  exact ⟨c0, e1, by rw [upd_ne (fun q => h2 c0 _ (by rw [← q]; exact e2))]; exact e2⟩
theorem tabs_lst {T : List (Addr × Str)} {H : Hp} {l : Addr} {u : HO} {xs : List V} (t : Tabs T H) (h : H l = some (.lst xs)) : Tabs T (upd H l u) :=
  tabs_upd t (fun ps z => by rw [h] at z; cases z) fun c q z => by
    rw [h] at z
    unfold LamX.CodeO at z
    cases z
theorem tabs_dK {T : List (Addr × Str)} {H : Hp} {l : Addr} {u : HO} {xs : List (Key × V)} (t : Tabs T H) (h : H l = some (.dK xs)) : Tabs T (upd H l u) :=
  tabs_upd t (fun ps z => by rw [h] at z; cases z) fun c q z => by
    rw [h] at z
    unfold LamX.CodeO at z
    cases z
def mkP (p : Str × Str) : Key × V := (.inr p.1, .str p.2)
def dpP (p : Str × Str) : PyData := .tuple [.str p.1, .str p.2]
theorem dpPairs {K : PySem.W.Frag} {H : Hp} : ∀ {ps : List (Str × Str)} {ts : List Addr}, Paired (fun (t : Addr) (q : Key × V) => H t = some (.tup [kV q.1, q.2])) ts (ps.map mkP) → DpAll K H (ts.map V.ref) (ps.map dpP)
  | [], _, h => by
    cases h
    exact .nil
  | p :: ps, _, h => by
    cases h with
    | cons a t => exact .cons (.tup (SqT.of a) (.cons (.str _) (.cons (.str _) .nil))) (dpPairs t)
theorem shForm {a b : Str} {ps : List (Str × Str)} (ha : PyData.strOk a = true) (hb : PyData.strOk b = true) (h : ∀ p ∈ ps, PyData.strOk p.1 = true ∧ PyData.strOk p.2 = true) : SeqAt.shaped (.list [.str a, .str b, .tuple (ps.map dpP)]) = true := by
  have h1 : ∀ ps : List (Str × Str), (∀ p ∈ ps, PyData.strOk p.1 = true ∧ PyData.strOk p.2 = true) → PyData.canLayAll0 (ps.map dpP) = true := fun ps => by
    induction ps with
    | nil => intro _; rfl
    | cons i l ih =>
      intro h
      simp [PyData.canLayAll0, PyData.canLay0, dpP, ih (fun x hx => h x (List.mem_cons_of_mem _ hx)), h i (List.mem_cons_self ..)]
  have h2 : ∀ ps : List (Str × Str), PyData.depthAll (ps.map dpP) ≤ 1 := fun ps => by
    induction ps with
    | nil => exact Nat.zero_le _
    | cons i l ih =>
      have e : PyData.depth (dpP i) = 1 := by simp [dpP, PyData.depth, PyData.depthAll]
      rw [List.map_cons]
      simp only [PyData.depthAll, e]
      omega
  have h3 := h2 ps
  have e : PyData.depthAll (ps.map dpP) + 1 + 1 ≤ 64 := by omega
  simp [SeqAt.shaped, PyData.canLay0, PyData.canLayAll0, PyData.depth, PyData.depthAll, h1 ps h, ha, hb]
  omega
/-! ### which values are right and wrong -/
section
variable {K : PySem.W.Frag} {H : Hp}
theorem valB_str {z : Str} (h : z.length ≤ 1000) (o : PyData.strOk z = true) : ValB K H (.str z) := .inl ⟨z, rfl, h, o⟩
theorem valB_other {v : V} {a : String} (h1 : ∀ z, v ≠ .str z) (h2 : ∀ b, v = .ref b → ∃ o, H b = some o ∧ ∀ ps, o ≠ .tbl ps) (h3 : TyOf K H v (.type a)) (h4 : kitB a "str" = some false) : ValB K H v := .inr ⟨h1, h2, _, .base h3, kit_ty h4⟩
theorem valB_non : ValB K H .non := valB_other (fun _ => nofun) (fun _ => nofun) .non (by decide +kernel)
theorem valB_bl {b : Bool} : ValB K H (.bl b) := valB_other (fun _ => nofun) (fun _ => nofun) (.bl b) (by decide +kernel)
theorem valB_int {i : Int} : ValB K H (.int i) := valB_other (fun _ => nofun) (fun _ => nofun) (.int i) (by decide +kernel)
theorem valB_tup {a : Addr} {xs : List V} (e : H a = some (.tup xs)) : ValB K H (.ref a) := valB_other (fun _ => nofun) (fun b q => by cases q; exact ⟨_, e, fun _ => nofun⟩) (.tup e) (by decide +kernel)
theorem valB_lst {a : Addr} {xs : List V} (e : H a = some (.lst xs)) : ValB K H (.ref a) := valB_other (fun _ => nofun) (fun b q => by cases q; exact ⟨_, e, fun _ => nofun⟩) (.lst e) (by decide +kernel)
theorem valB_dK {a : Addr} {xs : List (Key × V)} (e : H a = some (.dK xs)) : ValB K H (.ref a) := valB_other (fun _ => nofun) (fun b q => by cases q; exact ⟨_, e, fun _ => nofun⟩) (.dK e) (by decide +kernel)
end
/-! ### a text written several times -/
def timesS (z : Str) (n : Nat) : Str := ⟨(List.replicate n z.cps).foldl (· ++ ·) #[]⟩
def rMulS : R2 := fun x y H Q => ∃ (z : Str) (n : Nat), x = .str z ∧ y = .int (n : Int) ∧ 2 ≤ n ∧ n ≤ 1000 ∧ 1 ≤ z.length ∧ z.length ≤ 100 ∧ (timesS z n).length ≤ 100000 ∧ Q (.str (timesS z n)) H
theorem op_mul_str {X : Cx} : OpR X (binaryOp .Mult) rMulS := by
  intro pins s σ H x y v u Q I rx ry h
  obtain ⟨z, n, rfl, rfl, n1, n2, z1, z2, hl, q⟩ := h
  obtain ⟨t, rfl⟩ := rx
  obtain ⟨t', rfl⟩ := ry
  have e1 : ¬ ((n : Int) < 1) := by omega
  have e2 : ¬ ((((n : Int) == 1) || (z.length == 0)) = true) := by
    rw [Bool.or_eq_true, beq_iff_eq, beq_iff_eq]
    omega
  refine PySem.P.mul_str ?_ (fun _ _ => ?_) (fun _ _ => ?_) ?_
  · rw [decide_eq_false (by omega), decide_eq_false (by omega)]
    rfl
  · have h3 : (1000 : Int) ≤ (2 ^ 63 - 1) / (n : Int) := (Int.le_ediv_iff_mul_le (by omega)).mpr (by omega)
    omega
  · have h4 : z.length * n ≤ 100 * 1000 := Nat.mul_le_mul z2 n2
    have e : ((n : Int)).toNat = n := by omega
    rw [e]
    have h5 : 100000 ≤ sizeLine := by decide
    exact decide_eq_false (by omega)
  · rw [if_neg e1, if_neg e2]
    have e : ((n : Int)).toNat = n := by omega
    rw [e]
    refine ⟨?_, ⟨.str (timesS z n), H, I.tok _, ⟨_, rfl⟩, q⟩⟩
    exact Nat.le_trans hl (by decide)
/-! ### what stands while the law draws and asks -/
def FD (m lg : Addr) (H H' : Hp) : Prop := ∀ b o, b ≠ m → b ≠ lg → H b = some o → (∀ ps, o ≠ .tbl ps) → H' b = some o
theorem FD.refl {m lg : Addr} (H : Hp) : FD m lg H H := fun _ _ _ _ e _ => e
theorem FD.trans {m lg : Addr} {H H1 H2 : Hp} (a : FD m lg H H1) (b : FD m lg H1 H2) : FD m lg H H2 := fun c o h1 h2 e n => b c o h1 h2 (a c o h1 h2 e n) n
theorem FD.ext {m lg : Addr} {H H' : Hp} (e : ExtN H H') : FD m lg H H' := fun b o _ _ q n => e b o q n
theorem FD.same {m lg : Addr} {H H' : Hp} (e : Same H H') : FD m lg H H' := fun b o _ _ q _ => e b o q
theorem FD.draw {m lg : Addr} {H H' : Hp} (e : ∀ b o, b ≠ m → b ≠ lg → H b = some o → H' b = some o) : FD m lg H H' := fun b o h1 h2 q _ => e b o h1 h2 q
theorem MA.ext {m lc lg : Addr} {n : Int} {H H' : Hp} (M : MA m lc lg n H) (e : ExtN H H') : MA m lc lg n H' := by
  obtain ⟨hm, ne, ⟨cs, hc, c1, c2⟩, ⟨gs, hg, g1⟩, n0⟩ := M
  exact ⟨e _ _ hm fun _ => nofun, ne, ⟨cs, e _ _ hc fun _ => nofun, c1, c2⟩, ⟨gs, e _ _ hg fun _ => nofun, g1⟩, n0⟩
theorem MA.same {m lc lg : Addr} {n : Int} {H H' : Hp} (M : MA m lc lg n H) (e : Same H H') : MA m lc lg n H' := M.ext (ExtN.of e)
theorem tabs_draw {T : List (Addr × Str)} {m lc lg : Addr} {n : Int} {H H' : Hp} (t : Tabs T H) (M : MA m lc lg n H) (e : ∀ b o, b ≠ m → b ≠ lg → H b = some o → H' b = some o) : Tabs T H' := fun p hp => by
  obtain ⟨hm, _, _, ⟨gs, hg, _⟩, _⟩ := M
  obtain ⟨ps, a, b, c⟩ := t p hp
  refine ⟨ps, e _ _ (ne_of a hm (by intro q; cases q)) (ne_of a hg (by intro q; cases q)) a, b, fun pos cv hcv => ?_⟩
  obtain ⟨c0, e1, e2⟩ := c pos cv hcv
  refine ⟨c0, e1, e _ _ (ne_of e2 hm ?_) (ne_of e2 hg ?_) e2⟩
  · unfold LamX.CodeO
    intro q
    cases q
  · unfold LamX.CodeO
    intro q
    cases q
def keyB (z : Str) : Bool := decide (z.length ≤ 1000) && PyData.strOk z
/-- a value that is not touched by drawing -/
structure OkV (K : PySem.W.Frag) (m lg : Addr) (H : Hp) (v : V) : Prop where
  b : ValB K H v
  m : v ≠ .ref m
  g : v ≠ .ref lg
theorem OkV.fd {K : PySem.W.Frag} {m lg : Addr} {H H' : Hp} {v : V} (h : OkV K m lg H v) (e : FD m lg H H') : OkV K m lg H' v := by
  refine ⟨?_, h.m, h.g⟩
  rcases h.b with q | ⟨h1, h2, t, h3, h4⟩
  · exact .inl q
  · have go : ∀ a o, v = .ref a → H a = some o → H' a = some o := fun a o q q2 => by
      obtain ⟨o', q3, q4⟩ := h2 a q
      rw [q2] at q3
      cases q3
      exact e a o (fun z => h.m (by rw [q, z])) (fun z => h.g (by rw [q, z])) q2 q4
    refine .inr ⟨h1, fun a q => ?_, t, TyX.keep h3 go, h4⟩
    obtain ⟨o, q2, q4⟩ := h2 a q
    exact ⟨o, go a o q q2, q4⟩
theorem okV_str {K : PySem.W.Frag} {m lg : Addr} {H : Hp} {z : Str} (h : keyB z = true) : OkV K m lg H (.str z) := by
  unfold keyB at h
  rw [Bool.and_eq_true] at h
  exact ⟨valB_str (of_decide_eq_true h.1) h.2, nofun, nofun⟩
theorem okV_of {K : PySem.W.Frag} {m lg : Addr} {H : Hp} {v : V} (h : ValB K H v) (n : ∀ a, v ≠ .ref a) : OkV K m lg H v := ⟨h, n m, n lg⟩
/-- a list of values that stands -/
structure LsV (K : PySem.W.Frag) (m lg : Addr) (H : Hp) (l : Addr) (xs : List V) : Prop where
  at_ : H l = some (.lst xs)
  nm : l ≠ m
  ng : l ≠ lg
  ok : ∀ x ∈ xs, OkV K m lg H x
theorem LsV.fd {K : PySem.W.Frag} {m lg : Addr} {H H' : Hp} {l : Addr} {xs : List V} (h : LsV K m lg H l xs) (e : FD m lg H H') : LsV K m lg H' l xs := ⟨e _ _ h.nm h.ng h.at_ fun _ => nofun, h.nm, h.ng, fun x hx => (h.ok x hx).fd e⟩
end K3

namespace K3
open PySem L2
open LamX (ExtN Tabs TabS TabB)
/-! ### parts of nodes: texts, rows, variables, nodes of trees and of patterns -/
inductive Tr where
  | tx (s : Str)
  | row (ts : List Tr)
  | vr (k : Nat) (n : Str)
  | nd (lk : Bool) (f : Str) (ps : List Tr)
/-- it can stand for a node -/
def isN : Tr → Bool
  | .nd .. => true
  | .vr 0 _ => true
  | _ => false
/-- the nodes among parts -/
def below : List Tr → List Tr
  | [] => []
  | .row ts :: ps => ts.filter isN ++ below ps
  | p :: ps => (if isN p = true then [p] else []) ++ below ps
def quoteS (s : Str) : Str := "\"" ++ (Txt.replace (Txt.replace (Txt.replace s "\\" "\\\\") "\"" "\\\"") "\n" "\\n") ++ "\""
def varS : Nat → Str → Str
  | 0, n => n
  | 1, n => "$" ++ n
  | _, n => "*" ++ n
mutual
def said : Tr → Str
  | .tx s => quoteS s
  | .row ts => "[" ++ Txt.join ", " (saids ts) ++ "]"
  | .vr k n => varS k n
  | .nd _ f ps => f ++ "(" ++ Txt.join ", " (saids ps) ++ ")"
def saids : List Tr → List Str
  | [] => []
  | t :: ts => said t :: saids ts
end
/-! size and levels of what can stand for a node; of a row, those of its items -/
mutual
def size : Tr → Nat
  | .nd _ _ ps => 1 + sizes ps
  | .vr 0 _ => 1
  | .row ts => sizes ts
  | _ => 0
def sizes : List Tr → Nat
  | [] => 0
  | t :: ts => size t + sizes ts
end
mutual
def levels : Tr → Nat
  | .nd _ _ ps => levelss ps + 1
  | .vr 0 _ => 1
  | .row ts => levelss ts
  | _ => 0
def levelss : List Tr → Nat
  | [] => 0
  | t :: ts => max (levels t) (levelss ts)
end
structure Cl5 where
  T : Addr
  L : Addr
  V : Addr
  W : Addr
  R : Addr
def Cl5.v (c : Cl5) : Nat → Addr
  | 0 => c.V
  | 1 => c.W
  | _ => c.R
def Cl5.n (c : Cl5) : Bool → Addr
  | false => c.T
  | true => c.L
/-- the nodes among parts, as they stand: rows are looked through -/
def KidsAt (H : Hp) : List V → List Tr → List V → Prop
  | [], [], cs => cs = []
  | x :: xs, .row ts :: ps, cs => ∃ a ys r, x = .ref a ∧ H a = some (.tup ys) ∧ ys.length = ts.length ∧ cs = ((ys.zip ts).filter fun p => isN p.2).map Prod.fst ++ r ∧ KidsAt H xs ps r
  | x :: xs, p :: ps, cs => ∃ r, cs = (if isN p = true then [x] else []) ++ r ∧ KidsAt H xs ps r
  | _, _, _ => False
mutual
def PtAt (C : Cl5) (H : Hp) : V → Tr → Prop
  | v, .tx s => v = .str s
  | v, .row ts => ∃ a xs, v = .ref a ∧ H a = some (.tup xs) ∧ PtsAt C H xs ts
  | v, .vr k n => ∃ x dx fs, v = .ref x ∧ H x = some (.ins (C.v k) dx fs) ∧ fs.lookup ("name" : Str) = some (.str n) ∧ fs.lookup ("text" : Str) = some (.str (varS k n)) ∧ (k = 0 → fs.lookup ("size" : Str) = some (.int 1) ∧ fs.lookup ("levels" : Str) = some (.int 1))
  | v, .nd lk f ps => ∃ x dx fs pa xs, v = .ref x ∧ H x = some (.ins (C.n lk) dx fs) ∧ fs.lookup ("form" : Str) = some (.str f) ∧ fs.lookup ("parts" : Str) = some (.ref pa) ∧ H pa = some (.tup xs) ∧ PtsAt C H xs ps ∧
      fs.lookup ("size" : Str) = some (.int ((1 + sizes ps : Nat) : Int)) ∧ fs.lookup ("levels" : Str) = some (.int ((levelss ps + 1 : Nat) : Int)) ∧ fs.lookup ("text" : Str) = some (.str (f ++ "(" ++ Txt.join ", " (saids ps) ++ ")")) ∧
      (lk = false → ∃ ca cs, fs.lookup ("children" : Str) = some (.ref ca) ∧ H ca = some (.tup cs) ∧ KidsAt H xs ps cs)
def PtsAt (C : Cl5) (H : Hp) : List V → List Tr → Prop
  | [], [] => True
  | x :: xs, t :: ts => PtAt C H x t ∧ PtsAt C H xs ts
  | _, _ => False
end
/-- instances and tuples stand -/
def tiO : HO → Bool
  | .ins .. => true
  | .tup _ => true
  | _ => false
def KpO (H H' : Hp) : Prop := ∀ b o, tiO o = true → H b = some o → H' b = some o
theorem KpO.same {H H' : Hp} (e : Same H H') : KpO H H' := fun b o _ q => e b o q
theorem KpO.ext {H H' : Hp} (e : ExtN H H') : KpO H H' := fun b o h q => e b o q fun ps z => by rw [z] at h; cases h
theorem KpO.trans {H H1 H2 : Hp} (a : KpO H H1) (b : KpO H1 H2) : KpO H H2 := fun c o h q => b c o h (a c o h q)
theorem KidsAt.kpo {H H' : Hp} (e : KpO H H') : ∀ {xs : List V} {ps : List Tr} {cs : List V}, KidsAt H xs ps cs → KidsAt H' xs ps cs
  | [], [], _, h => h
  | x :: xs, .row ts :: ps, cs, h => by
    obtain ⟨a, ys, r, h1, h2, h3, h4, h5⟩ := h
    exact ⟨a, ys, r, h1, e _ _ rfl h2, h3, h4, KidsAt.kpo e h5⟩
  | x :: xs, .tx _ :: ps, cs, h => by obtain ⟨r, h1, h2⟩ := h; exact ⟨r, h1, KidsAt.kpo e h2⟩
  | x :: xs, .vr _ _ :: ps, cs, h => by obtain ⟨r, h1, h2⟩ := h; exact ⟨r, h1, KidsAt.kpo e h2⟩
  | x :: xs, .nd _ _ _ :: ps, cs, h => by obtain ⟨r, h1, h2⟩ := h; exact ⟨r, h1, KidsAt.kpo e h2⟩
  | [], _ :: _, _, h => False.elim (by cases ‹Tr› <;> exact h)
  | _ :: _, [], _, h => False.elim h
mutual
theorem PtAt.kpo {C : Cl5} {H H' : Hp} (e : KpO H H') : ∀ {v : V} (t : Tr), PtAt C H v t → PtAt C H' v t
  | _, .tx _, h => h
  | _, .row ts, h => by
    obtain ⟨a, xs, h1, h2, h3⟩ := h
    exact ⟨a, xs, h1, e _ _ rfl h2, PtsAt.kpo e ts h3⟩
  | _, .vr k n, h => by
    obtain ⟨x, dx, fs, h1, h2, h3⟩ := h
    exact ⟨x, dx, fs, h1, e _ _ rfl h2, h3⟩
  | _, .nd lk f ps, h => by
    obtain ⟨x, dx, fs, pa, xs, h1, h2, h3, h4, h5, h6, h7, h8, h9, h10⟩ := h
    exact ⟨x, dx, fs, pa, xs, h1, e _ _ rfl h2, h3, h4, e _ _ rfl h5, PtsAt.kpo e ps h6, h7, h8, h9, fun z => let ⟨ca, cs, k1, k2, k3⟩ := h10 z; ⟨ca, cs, k1, e _ _ rfl k2, k3.kpo e⟩⟩
theorem PtsAt.kpo {C : Cl5} {H H' : Hp} (e : KpO H H') : ∀ {xs : List V} (ts : List Tr), PtsAt C H xs ts → PtsAt C H' xs ts
  | [], [], h => h
  | x :: xs, t :: ts, h => ⟨PtAt.kpo e t h.1, PtsAt.kpo e ts h.2⟩
  | [], _ :: _, h => False.elim h
  | _ :: _, [], h => False.elim h
end
theorem ptsAt_iff {C : Cl5} {H : Hp} : ∀ {xs : List V} {ts : List Tr}, PtsAt C H xs ts ↔ Paired (PtAt C H) xs ts
  | [], [] => ⟨fun _ => .nil, fun _ => True.intro⟩
  | x :: xs, t :: ts => ⟨fun h => .cons h.1 (ptsAt_iff.mp h.2), fun h => by cases h with | cons a b => exact ⟨a, ptsAt_iff.mpr b⟩⟩
  | [], _ :: _ => ⟨fun h => False.elim h, fun h => nomatch h⟩
  | _ :: _, [] => ⟨fun h => False.elim h, fun h => nomatch h⟩
theorem saids_map : ∀ ts : List Tr, saids ts = ts.map said
  | [] => rfl
  | t :: ts => by
    show said t :: saids ts = _
    rw [saids_map ts]
    rfl
end K3

namespace K3
open PySem L2
open LamX (ExtN Tabs TabS TabB)
structure Own (K : PySem.W.Frag) (A : Addr) : Prop where
  cl : Cls K A
  ha : PySem.W.findIn K (.ref A) "__class__" = some (some (.builtin "object.__class__"))
  hn : PySem.W.specialIn K (.builtin "object.__class__") "__get__" = some (some (.builtin "getset_descriptor.__get__"))
  htk : PySem.W.takesIn K (.builtin "object.__class__") = some true
  hm : PySem.W.mroIn K A (.type "object") = some true
theorem Own.ty {K : PySem.W.Frag} {A x dx : Addr} {H : Hp} {fs : List (Str × V)} (T : Own K A) (h : H x = some (.ins A dx fs)) : TyX K H (.ref x) (.ref A) := .base (.ins h T.cl T.ha T.hn T.htk T.hm)
def Cl5.all (C : Cl5) : List Addr := [C.T, C.L, C.V, C.W, C.R]
theorem Cl5.v_mem (C : Cl5) (k : Nat) : C.v k ∈ C.all := by
  match k with
  | 0 => simp [Cl5.v, Cl5.all]
  | 1 => simp [Cl5.v, Cl5.all]
  | _ + 2 => simp [Cl5.v, Cl5.all]
theorem Cl5.n_mem (C : Cl5) (b : Bool) : C.n b ∈ C.all := by cases b <;> simp [Cl5.n, Cl5.all]
/-- the five classes, and what the types say of each other -/
structure Ty5 (K : PySem.W.Frag) (C : Cl5) : Prop where
  own : ∀ a ∈ C.all, Own K a
  nd : C.all.Nodup
  kit : ∀ a ∈ C.all, ∀ b ∈ C.all, PySem.W.kitOne K (.ref a) (.ref b) = some (decide (a = b))
  str : ∀ a ∈ C.all, PySem.W.kitOne K (.ref a) (.type "str") = some false
  tup : ∀ a ∈ C.all, PySem.W.kitOne K (.ref a) (.type "tuple") = some false
  bs : ∀ a ∈ C.all, PySem.W.kitOne K (.type "str") (.ref a) = some false
  bt : ∀ a ∈ C.all, PySem.W.kitOne K (.type "tuple") (.ref a) = some false
def tyT (C : Cl5) : Tr → Value
  | .tx _ => .type "str"
  | .row _ => .type "tuple"
  | .vr k _ => .ref (C.v k)
  | .nd lk _ _ => .ref (C.n lk)
theorem PtAt.ty {K : PySem.W.Frag} {C : Cl5} {H : Hp} (T : Ty5 K C) : ∀ {v : V} {t : Tr}, PtAt C H v t → TyX K H v (tyT C t)
  | _, .tx s, h => by
    rw [show _ = V.str s from h]
    exact .base (.str _)
  | _, .row ts, h => by
    obtain ⟨a, xs, h1, h2, _⟩ := h
    rw [h1]
    exact .base (.tup h2)
  | _, .vr k n, h => by
    obtain ⟨x, dx, fs, h1, h2, _⟩ := h
    rw [h1]
    exact (T.own _ (C.v_mem k)).ty h2
  | _, .nd lk f ps, h => by
    obtain ⟨x, dx, fs, pa, xs, h1, h2, _⟩ := h
    rw [h1]
    exact (T.own _ (C.n_mem lk)).ty h2
def isT : Tr → Bool
  | .nd false _ _ => true
  | _ => false
def isTx : Tr → Bool
  | .tx _ => true
  | _ => false
def isRow : Tr → Bool
  | .row _ => true
  | _ => false
theorem kit_T {K : PySem.W.Frag} {C : Cl5} (T : Ty5 K C) (t : Tr) : PySem.W.kitOne K (tyT C t) (.ref C.T) = some (isT t) := by
  have mT : C.T ∈ C.all := C.n_mem false
  have nd := T.nd
  simp only [Cl5.all, List.nodup_cons, List.mem_cons, List.not_mem_nil, or_false, not_or] at nd
  obtain ⟨⟨a1, a2, a3, a4⟩, _⟩ := nd
  match t with
  | .tx _ => exact T.bs _ mT
  | .row _ => exact T.bt _ mT
  | .vr 0 _ => exact (T.kit _ (C.v_mem 0) _ mT).trans (by rw [decide_eq_false (fun q => a2 q.symm)]; rfl)
  | .vr 1 _ => exact (T.kit _ (C.v_mem 1) _ mT).trans (by rw [decide_eq_false (fun q => a3 q.symm)]; rfl)
  | .vr (n + 2) _ => exact (T.kit _ (C.v_mem (n + 2)) _ mT).trans (by rw [decide_eq_false (fun q => a4 q.symm)]; rfl)
  | .nd false _ _ => exact (T.kit _ (C.n_mem false) _ mT).trans (by show some (decide (C.T = C.T)) = some true; rw [decide_eq_true rfl])
  | .nd true _ _ => exact (T.kit _ (C.n_mem true) _ mT).trans (by rw [decide_eq_false (fun q => a1 q.symm)]; rfl)
theorem kit_str {K : PySem.W.Frag} {C : Cl5} (T : Ty5 K C) (t : Tr) : PySem.W.kitOne K (tyT C t) (.type "str") = some (isTx t) := by
  match t with
  | .tx _ => exact kit_ty (r := true) (by decide +kernel)
  | .row _ => exact kit_ty (r := false) (by decide +kernel)
  | .vr k _ => exact T.str _ (C.v_mem k)
  | .nd b _ _ => exact T.str _ (C.n_mem b)
theorem kit_tup {K : PySem.W.Frag} {C : Cl5} (T : Ty5 K C) (t : Tr) : PySem.W.kitOne K (tyT C t) (.type "tuple") = some (isRow t) := by
  match t with
  | .tx _ => exact kit_ty (r := false) (by decide +kernel)
  | .row _ => exact kit_ty (r := true) (by decide +kernel)
  | .vr k _ => exact T.tup _ (C.v_mem k)
  | .nd b _ _ => exact T.tup _ (C.n_mem b)
theorem kit_N {K : PySem.W.Frag} {C : Cl5} (T : Ty5 K C) (t : Tr) : PySem.W.kitAny K (tyT C t) [.ref C.L, .ref C.T, .ref C.V] = some (isN t) := by
  have nd := T.nd
  simp only [Cl5.all, List.nodup_cons, List.mem_cons, List.not_mem_nil, or_false, not_or] at nd
  obtain ⟨⟨a1, a2, a3, a4⟩, ⟨b2, b3, b4⟩, ⟨c3, c4⟩, _⟩ := nd
  have mT : C.T ∈ C.all := C.n_mem false
  have mL : C.L ∈ C.all := C.n_mem true
  have mV : C.V ∈ C.all := C.v_mem 0
  unfold PySem.W.kitAny PySem.W.kitAny PySem.W.kitAny PySem.W.kitAny
  match t with
  | .tx _ =>
    show (match PySem.W.kitOne K (.type "str") (.ref C.L) with | some true => some true | some false => _ | none => none) = _
    rw [T.bs _ mL]
    dsimp only
    rw [show PySem.W.kitOne K (tyT C (.tx _)) (.ref C.T) = some false from T.bs _ mT]
    dsimp only
    rw [show PySem.W.kitOne K (tyT C (.tx _)) (.ref C.V) = some false from T.bs _ mV]
    rfl
  | .row _ =>
    rw [show PySem.W.kitOne K (tyT C (.row _)) (.ref C.L) = some false from T.bt _ mL]
    dsimp only
    rw [show PySem.W.kitOne K (tyT C (.row _)) (.ref C.T) = some false from T.bt _ mT]
    dsimp only
    rw [show PySem.W.kitOne K (tyT C (.row _)) (.ref C.V) = some false from T.bt _ mV]
    rfl
  | .vr 0 n =>
    rw [show PySem.W.kitOne K (tyT C (.vr 0 n)) (.ref C.L) = some false from (T.kit _ mV _ mL).trans (by rw [decide_eq_false (fun q => b2 q.symm)])]
    dsimp only
    rw [show PySem.W.kitOne K (tyT C (.vr 0 n)) (.ref C.T) = some false from (T.kit _ mV _ mT).trans (by rw [decide_eq_false (fun q => a2 q.symm)])]
    dsimp only
    rw [show PySem.W.kitOne K (tyT C (.vr 0 n)) (.ref C.V) = some true from (T.kit _ mV _ mV).trans (by rw [decide_eq_true rfl])]
    rfl
  | .vr 1 n =>
    rw [show PySem.W.kitOne K (tyT C (.vr 1 n)) (.ref C.L) = some false from (T.kit _ (C.v_mem 1) _ mL).trans (by rw [decide_eq_false (fun q => b3 q.symm)])]
    dsimp only
    rw [show PySem.W.kitOne K (tyT C (.vr 1 n)) (.ref C.T) = some false from (T.kit _ (C.v_mem 1) _ mT).trans (by rw [decide_eq_false (fun q => a3 q.symm)])]
    dsimp only
    rw [show PySem.W.kitOne K (tyT C (.vr 1 n)) (.ref C.V) = some false from (T.kit _ (C.v_mem 1) _ mV).trans (by rw [decide_eq_false (fun q => c3 q.symm)])]
    rfl
  | .vr (k + 2) n =>
    rw [show PySem.W.kitOne K (tyT C (.vr (k + 2) n)) (.ref C.L) = some false from (T.kit _ (C.v_mem (k + 2)) _ mL).trans (by rw [decide_eq_false (fun q => b4 q.symm)])]
    dsimp only
    rw [show PySem.W.kitOne K (tyT C (.vr (k + 2) n)) (.ref C.T) = some false from (T.kit _ (C.v_mem (k + 2)) _ mT).trans (by rw [decide_eq_false (fun q => a4 q.symm)])]
    dsimp only
    rw [show PySem.W.kitOne K (tyT C (.vr (k + 2) n)) (.ref C.V) = some false from (T.kit _ (C.v_mem (k + 2)) _ mV).trans (by rw [decide_eq_false (fun q => c4 q.symm)])]
    rfl
  | .nd false f ps =>
    rw [show PySem.W.kitOne K (tyT C (.nd false f ps)) (.ref C.L) = some false from (T.kit _ mT _ mL).trans (by rw [decide_eq_false a1])]
    dsimp only
    rw [show PySem.W.kitOne K (tyT C (.nd false f ps)) (.ref C.T) = some true from (T.kit _ mT _ mT).trans (by rw [decide_eq_true rfl])]
    rfl
  | .nd true f ps =>
    rw [show PySem.W.kitOne K (tyT C (.nd true f ps)) (.ref C.L) = some true from (T.kit _ mL _ mL).trans (by rw [decide_eq_true rfl])]
    rfl
/-! ### _is_node, _is_tree_part -/
structure TxtT (mg : Str → Option Value) (C : Cl5) : Prop where
  isi : mg "isinstance" = none
  str : mg "str" = none
  tup : mg "tuple" = none
  len : mg "len" = none
  all : mg "all" = none
  mx : ∃ t, mg "MAX_TEXT" = some (.int 60 t)
  gT : mg "Tree" = some (.ref C.T)
  gL : mg "Like" = some (.ref C.L)
  gV : mg "Var" = some (.ref C.V)
  gW : mg "Word" = some (.ref C.W)
  gR : mg "Rest" = some (.ref C.R)
section
variable {P : Program} {w : World} {K : PySem.W.Frag} {mg : Str → Option Value} {base : Heap}
def spIsNode (C : Cl5) : Sp := fun vs H Q _ => ∃ v t, vs = [v] ∧ PtAt C H v t ∧ ∀ H', Same H H' → Q (.bl (isN t)) H'
theorem scIsNode : FnScope ["value"] ["value"] (defScope sIsNode) := ⟨rfl, rfl, rfl, by decide +kernel, rfl, by decide +kernel, by decide +kernel⟩
theorem ok_isNode {C : Cl5} {f : Addr} {fd : FuncData} (F : Fun K "is_node" "is_node" sIsNode f fd) (T : TxtT mg C) (T5 : Ty5 K C) : FnOk P w K mg base CX0 1 f fd ["value"] (spIsNode C) := by
  refine F.ok scIsNode (fun vs H Q E h => ?_) (fun cdv A outer s H vs Q E hr h => ?_)
  · obtain ⟨v, t, rfl, _⟩ := h
    rfl
  · obtain ⟨v, t, rfl, hv, k⟩ := h
    refine ⟨_, pss_one (ps_ret (pe_callB call_isiT (by rfl) T.isi PyProof.Rows.boot_isinstance (pa_cons (pv 0) (pa_cons (pe_tup (pa_cons (pe_glob (v := .ref C.L) rfl T.gL rfl) (pa_cons (pe_glob (v := .ref C.T) rfl T.gT rfl) (pa_cons (pe_glob (v := .ref C.V) rfl T.gV rfl) pa_nil)))) pa_nil)))), ?_⟩
    refine ⟨_, rfl, by show 3 ≤ sizeLine; decide, fun p hp => ?_⟩
    have s1 : Same H (upd H p (.tup [.ref C.L, .ref C.T, .ref C.V])) := same_upd (Same.refl H) hp
    exact ⟨v, p, [.ref C.L, .ref C.T, .ref C.V], tyT C t, _, isN t, rfl, upd_same, .cons (.own _) (.cons (.own _) (.cons (.own _) .nil)), PtAt.ty T5 (PtAt.kpo (KpO.same s1) t hv), kit_N T5 t, k _ s1⟩
end
end K3

namespace K3
open PySem L2
open LamX (ExtN Tabs TabS TabB)
/-- a part that a node of a tree can have -/
def okP : Tr → Bool
  | .tx s => decide (s.length ≤ 60)
  | .row ts => ts.all isT
  | .nd false _ _ => true
  | _ => false
/-- a value that is no part of a tree -/
def BadT (K : PySem.W.Frag) (C : Cl5) (H : Hp) (v : V) : Prop :=
  (∃ s, v = .str s ∧ 60 < s.length ∧ s.length ≤ 1000) ∨
  (∃ a xs bs, v = .ref a ∧ H a = some (.tup xs) ∧ xs.length ≤ 1000 ∧ Paired (fun x b => ∃ t, TyX K H x t ∧ PySem.W.kitOne K t (.ref C.T) = some b ∧ ∀ a, x = .ref a → ∃ o, H a = some o) xs bs ∧ bs.all id = false) ∨
  (∃ t, TyX K H v t ∧ PySem.W.kitOne K t (.type "str") = some false ∧ PySem.W.kitOne K t (.type "tuple") = some false ∧ PySem.W.kitOne K t (.ref C.T) = some false)
theorem TyX.sm {K : PySem.W.Frag} {H H' : Hp} {v : V} {t : Value} (h : TyX K H v t) (e : Same H H') : TyX K H' v t := TyX.keep h fun a o _ q => e a o q
theorem all_isT {C : Cl5} {H : Hp} {K : PySem.W.Frag} (T5 : Ty5 K C) : ∀ {xs : List V} {ts : List Tr}, PtsAt C H xs ts → ∃ bs, Paired (fun x b => ∃ t, TyX K H x t ∧ PySem.W.kitOne K t (.ref C.T) = some b) xs bs ∧ bs = ts.map isT
  | [], [], _ => ⟨[], .nil, rfl⟩
  | x :: xs, t :: ts, h => by
    obtain ⟨bs, h1, h2⟩ := all_isT T5 h.2
    exact ⟨isT t :: bs, .cons ⟨_, PtAt.ty T5 h.1, kit_T T5 t⟩ h1, by rw [h2]; rfl⟩
  | [], _ :: _, h => False.elim h
  | _ :: _, [], h => False.elim h
theorem pts_len {C : Cl5} {H : Hp} : ∀ {xs : List V} {ts : List Tr}, PtsAt C H xs ts → xs.length = ts.length
  | [], [], _ => rfl
  | x :: xs, t :: ts, h => by rw [List.length_cons, List.length_cons, pts_len h.2]
  | [], _ :: _, h => False.elim h
  | _ :: _, [], h => False.elim h
section
variable {P : Program} {w : World} {K : PySem.W.Frag} {mg : Str → Option Value} {base : Heap}
def rowB : Tr → Nat
  | .row ts => ts.length
  | .tx s => s.length
  | _ => 0
def spTreePart (K : PySem.W.Frag) (C : Cl5) : Sp := fun vs H Q _ => ∃ v, vs = [v] ∧ ((∃ t, PtAt C H v t ∧ rowB t ≤ 1000 ∧ ∀ H', Same H H' → Q (.bl (okP t)) H') ∨ (BadT K C H v ∧ ∀ H', Same H H' → Q (.bl false) H'))
theorem scTreePart : FnScope ["part", "item"] ["part"] (defScope sTreePart) := ⟨rfl, rfl, rfl, by decide +kernel, rfl, by decide +kernel, by decide +kernel⟩
theorem ok_treePart {C : Cl5} {f : Addr} {fd : FuncData} (F : Fun K "_is_tree_part" "_is_tree_part" sTreePart f fd) (T : TxtT mg C) (T5 : Ty5 K C) : FnOk P w K mg base CX0 1 f fd ["part"] (spTreePart K C) := by
  refine F.ok scTreePart (fun vs H Q E h => ?_) (fun cdv A outer s H vs Q E hr h => ?_)
  · obtain ⟨v, rfl, _⟩ := h
    rfl
  · obtain ⟨v, rfl, hv⟩ := h
    obtain ⟨tm, mx⟩ := T.mx
    refine ⟨_, pss_cons (ps_if (pt_val (pe_callB call_isi (by rfl) T.isi PyProof.Rows.boot_isinstance (pa_cons (pv 0) (pa_cons (pe_bltn (v := .ty "str") rfl T.str PyProof.Rows.boot_str rfl) pa_nil)))) (pss_one (ps_ret (pe_cmpR op_le (pe_callB call_len (by rfl) T.len PySem.boot_len (pa_cons (pv 0) pa_nil)) (pe_glob (v := .int 60) rfl mx ⟨_, rfl⟩) (nomark _)))) pss_nil)
      (pss_cons (ps_if (pt_val (pe_callB call_isi (by rfl) T.isi PyProof.Rows.boot_isinstance (pa_cons (pv 0) (pa_cons (pe_bltn (v := .ty "tuple") rfl T.tup PyProof.Rows.boot_tuple rfl) pa_nil)))) (pss_one (ps_ret
          (pe_callB (cr_all rfl) (by rfl) T.all (show bootBuiltins "all" = some (.builtin "all") by decide +kernel) (pa_cons (pe_lc (own := [("item", 1)]) (g := gName 1) (tt := tYes) (te := tCB (rIsi K) (tCons (tVar 1) (tCons (tC (.ref C.T)) tNil))) rfl scTreePart.nd (pi_tup (pv 0))
            (blkOk_by (N := ["part", "item"]) (sc := defScope sTreePart) (by decide +kernel)) (fun _ _ _ _ _ => pg_name (i := 1) scTreePart.nd rfl (Or.inl rfl)) (fun _ _ _ _ _ => pts_nil)
            (fun _ _ _ _ _ => pe_callB call_isi (by rfl) T.isi PyProof.Rows.boot_isinstance (pa_cons (pv 1) (pa_cons (pe_glob (v := .ref C.T) rfl T.gT rfl) pa_nil)))) pa_nil)))) pss_nil)
      (pss_one (ps_ret (pe_callB call_isi (by rfl) T.isi PyProof.Rows.boot_isinstance (pa_cons (pv 0) (pa_cons (pe_glob (v := .ref C.T) rfl T.gT rfl) pa_nil)))))), ?_⟩
    -- a tuple whose items have these types
    have go : ∀ (a : Addr) (xs : List V) (bs : List Bool), v = .ref a → H a = some (.tup xs) → xs.length ≤ 1000 → Paired (fun x b => ∃ t, TyX K H x t ∧ PySem.W.kitOne K t (.ref C.T) = some b) xs bs → ∀ {Q' : VK}, (∀ H', Same H H' → Q' (.bl (bs.all id)) H') →
        ∀ D, H D = none → ∃ W : Nat → Nat → Hp → Prop, (∃ m, W 0 m (upd H D (.lst []))) ∧ ∀ i m H2, W i m H2 → ((Itt K a).stop i H2 ∧ (∃ (a_1 : Addr) (bs_1 : List Bool), [V.ref D] = [V.ref a_1] ∧ SqL K H2 a_1 (bs_1.map V.bl) ∧ Q' (.bl (bs_1.all id)) H2)) ∨
          ((Itt K a).go i H2 ∧ ∃ Nx : Hp → Prop, (∀ H', Nx H' → ∃ m', m' < m ∧ W (i + 1) m' H') ∧ ∀ x H', (Itt K a).yld i H2 x H' → gName 1 x (wipe [some v, none] [1]) H' fun σ2 H3 => wipe σ2 [1] = wipe [some v, none] [1] ∧ tYes σ2 H3 fun b H4 =>
            if b = true then tCB (rIsi K) (tCons (tVar 1) (tCons (tC (.ref C.T)) tNil)) σ2 H4 fun y H5 => ∃ acc, H5 D = some (.lst acc) ∧ acc.length < sizeLine ∧ Nx (upd H5 D (.lst (acc ++ [y]))) else Nx H4) := by
      intro a xs bs ev ha hl hp Q' hq D hD
      have bl : bs.length = xs.length := hp.length.symm
      refine lc_tup (K := K) (a := a) (xs := xs) (fun i H' => Same H H' ∧ H' D = some (.lst ((bs.take i).map V.bl))) ⟨same_upd (Same.refl H) hD, upd_same⟩ (fun i H' _ ⟨s', _⟩ => SqT.of (s' _ _ ha)) ?_ ?_
      · rintro i x H1 hx ⟨s1, e1⟩
        obtain ⟨b, eb, t, ht, hk⟩ := LiI.paired_get hp hx
        have il : i < xs.length := (List.getElem?_eq_some_iff.mp hx).1
        refine ⟨rfl, ?_⟩
        dsimp only [tYes]
        rw [if_pos rfl]
        refine ⟨_, rfl, x, .ref C.T, t, _, b, rfl, .own _, TyX.sm ht s1, hk, _, e1, ?_, same_upd s1 hD, ?_⟩
        · rw [List.length_map]
          exact Nat.lt_of_le_of_lt (List.length_take_le _ _) (by
            have : sizeLine > 1000 := by decide
            omega)
        · rw [upd_same, List.take_add_one, eb]
          simp
      · rintro H1 ⟨s1, e1⟩
        rw [← bl, List.take_length] at e1
        exact ⟨D, bs, rfl, SqL.of e1, hq _ s1⟩
    rcases hv with ⟨t, ht, hb, k⟩ | ⟨hbad, k⟩
    · have ty := PtAt.ty T5 ht
      refine ⟨_, rfl, _, _, _, _, isTx t, rfl, .ty "str", ty, kit_str T5 t, _, rfl, ?_⟩
      match t, ht, hb, k, ty with
      | .tx s, ht, hb, k, ty =>
        refine iteT ?_
        have ev : v = .str s := ht
        subst ev
        have hz : s.length ≤ sizeLine := Nat.le_trans hb (by decide)
        refine ⟨_, rfl, _, s.length, rfl, ⟨hz, rfl⟩, _, _, rfl, rfl, ?_⟩
        have q := k H (Same.refl H)
        have e : decide (((s.length : Nat) : Int) ≤ 60) = decide (s.length ≤ 60) := decide_eq_decide.mpr ⟨fun h => by omega, fun h => by omega⟩
        change Q (.bl (decide (s.length ≤ 60))) H at q
        rw [← e] at q
        exact q
      | .row ts, ht, hb, k, ty =>
        refine iteF ?_
        refine ⟨_, rfl, _, _, _, _, true, rfl, .ty "tuple", ty, kit_tup T5 (.row ts), _, rfl, ?_⟩
        refine iteT ?_
        obtain ⟨a, xs, ev, ha, hp⟩ := ht
        obtain ⟨bs, pb, eb⟩ := all_isT T5 hp
        have xl := pts_len hp
        have hb : ts.length ≤ 1000 := hb
        subst ev
        refine ⟨_, rfl, a, rfl, ⟨_, SqT.of ha⟩, fun D hD => go a xs bs rfl ha (by omega) pb (fun H' s' => ?_) D hD⟩
        have q := k H' s'
        rw [eb]
        have e : (ts.map isT).all id = ts.all isT := by simp [List.all_map]
        rw [e]
        exact q
      | .vr j n, ht, hb, k, ty =>
        refine iteF ?_
        refine ⟨_, rfl, _, _, _, _, false, rfl, .ty "tuple", ty, kit_tup T5 (.vr j n), _, rfl, ?_⟩
        refine iteF ?_
        exact ⟨_, rfl, _, _, _, _, false, rfl, .own _, ty, kit_T T5 (.vr j n), k _ (Same.refl H)⟩
      | .nd lk f ps, ht, hb, k, ty =>
        refine iteF ?_
        refine ⟨_, rfl, _, _, _, _, false, rfl, .ty "tuple", ty, kit_tup T5 (.nd lk f ps), _, rfl, ?_⟩
        refine iteF ?_
        refine ⟨_, rfl, _, _, _, _, _, rfl, .own _, ty, kit_T T5 (.nd lk f ps), ?_⟩
        cases lk <;> exact k _ (Same.refl H)
    · rcases hbad with ⟨s, rfl, h1, h2⟩ | ⟨a, xs, bs, rfl, ha, hl, hp, hb⟩ | ⟨t, ht, h1, h2, h3⟩
      · refine ⟨_, rfl, _, _, _, _, true, rfl, .ty "str", .base (.str s), kit_ty (r := true) (by decide +kernel), _, rfl, ?_⟩
        refine iteT ?_
        have hz : s.length ≤ sizeLine := Nat.le_trans h2 (by decide)
        refine ⟨_, rfl, _, s.length, rfl, ⟨hz, rfl⟩, _, _, rfl, rfl, ?_⟩
        have e : decide (((s.length : Nat) : Int) ≤ 60) = false := decide_eq_false (by omega)
        have q := k _ (Same.refl H)
        rw [← e] at q
        exact q
      · refine ⟨_, rfl, _, _, _, _, false, rfl, .ty "str", .base (.tup ha), kit_ty (r := false) (by decide +kernel), _, rfl, ?_⟩
        refine iteF ?_
        refine ⟨_, rfl, _, _, _, _, true, rfl, .ty "tuple", .base (.tup ha), kit_ty (r := true) (by decide +kernel), _, rfl, ?_⟩
        refine iteT ?_
        refine ⟨_, rfl, a, rfl, ⟨_, SqT.of ha⟩, fun D hD => go a xs bs rfl ha hl (Paired.mapP hp fun x b q => let ⟨t, z1, z2, _⟩ := q; ⟨t, z1, z2⟩) (fun H' s' => ?_) D hD⟩
        rw [hb]
        exact k _ s'
      · refine ⟨_, rfl, _, _, _, _, false, rfl, .ty "str", ht, h1, _, rfl, ?_⟩
        refine iteF ?_
        refine ⟨_, rfl, _, _, _, _, false, rfl, .ty "tuple", ht, h2, _, rfl, ?_⟩
        refine iteF ?_
        exact ⟨_, rfl, _, _, _, _, false, rfl, .own _, ht, h3, k _ (Same.refl H)⟩
end
end K3

namespace K3
open PySem L2
open CwR (tReplC pet_replC pet_replT PET.of pst_ret psst_nil psst_one pst_if)
/-! ### texts of nodes -/
section
variable {P : Program} {w : World} {K : PySem.W.Frag} {mg : Str → Option Value} {base : Heap}
theorem pst_set {X : Cx} {i : Nat} {x : Str} {e : Expr} {te : TE} {pos pos' : Pos} (nod : X.N.Nodup) (at_ : X.N[i]? = some x) (lc : Loc X.env.scope x) (he : PET X e te) (sw : swapsWith e (some (.Name x pos')) pos.line X.env = pure false := by rfl) (fr : X.fn x = true ∨ X.env.scope.names.lookup x = some .local := by first | exact .inl rfl | exact .inr rfl | assumption) :
    PST X (.Assign [.Name x pos'] e pos) (tAsg te (gName i)) := fun pins z σ H D n0 I h =>
  wpAny_Assign_Name (thn (he pins z σ H _ n0 I h) fun _ _ ⟨_, H1, I1, rv, q⟩ => store_ok I1 nod at_ lc rv (fun _ I2 => ⟨_, H1, I2, q⟩) fr) sw
theorem funT_ok {x qual : Str} {st : Stmt} {f : Addr} {fd : FuncData} {N ps : List Str} {k : Nat} {sp : Sp} (F : Fun K x qual st f fd) (S : FnScope N ps (defScope st)) (nc : ∀ y ∈ (defScope st).names, y.2 ≠ .cell) (one : 1 ≤ ps.length) (len : ∀ vs H Q E, sp vs H Q E → vs.length = ps.length)
    (hbody : ∀ (cdv : Value) (A : Around) (outer : List Env) (s : Shared) (H : Hp) (vs : List V) (Q : VK) (E : XK), Room k (A.deeper (PyProof.Rows.envOfC qual (defScope st) s.heap.objs.size f cdv)) → sp vs H Q E →
      ∃ t, PSsT (cxOf CX0 P w K mg base N qual (defScope st) f cdv A outer s H E) (defBody st) t ∧ t { nx := fun _ H' => Q .non H', rt := Q } (L2.start N vs) H) : FnOk P w K mg base CX0 (k + 1) f fd ps sp := by
  obtain ⟨oc, od, kV, doc, pm, an, cdv, ct, osl, rfl, lk, hcd⟩ := F.ex
  exact fn_ofT lk hcd S nc one len fun A outer s H vs Q E hr hsp => hbody cdv A outer s H vs Q E hr hsp
theorem str_app_assoc (a b c : Str) : a ++ b ++ c = a ++ (b ++ c) := by
  show (⟨a.cps ++ b.cps ++ c.cps⟩ : Str) = ⟨a.cps ++ (b.cps ++ c.cps)⟩
  rw [Array.append_assoc]
theorem str_nil_app (a : Str) : Str.empty ++ a = a := by
  show (⟨#[] ++ a.cps⟩ : Str) = a
  rw [Array.empty_append]
theorem str_len (a b : Str) : (a ++ b).length = a.length + b.length := by
  show (a.cps ++ b.cps).size = _
  rw [Array.size_append]
  rfl
theorem quote_len {s : Str} (h : s.length ≤ 1000) : (quoteS s).length ≤ 27030 := by
  have l1 := TK.replace_len s "\\" "\\\\"
  have l2 := TK.replace_len (Txt.replace s "\\" "\\\\") "\"" "\\\""
  have l3 := TK.replace_len (Txt.replace (Txt.replace s "\\" "\\\\") "\"" "\\\"") "\n" "\\n"
  have e1 : ("\\\\" : Str).length = 2 := by decide +kernel
  have e2 : ("\\\"" : Str).length = 2 := by decide +kernel
  have e3 : ("\\n" : Str).length = 2 := by decide +kernel
  have e4 : ("\"" : Str).length = 1 := by decide +kernel
  rw [e1] at l1
  rw [e2] at l2
  rw [e3] at l3
  unfold quoteS
  rw [str_len, str_len, e4]
  omega
def spQuoted : Sp := fun vs H Q _ => ∃ s, vs = [.str s] ∧ s.length ≤ 1000 ∧ Q (.str (quoteS s)) H
theorem scQuoted : FnScope ["text", "marked"] ["text"] (defScope sQuoted) := ⟨rfl, rfl, rfl, by decide +kernel, rfl, by decide +kernel, by decide +kernel⟩
theorem ok_quoted {f : Addr} {fd : FuncData} (F : Fun K "_quoted" "_quoted" sQuoted f fd) : FnOk P w K mg base CX0 1 f fd ["text"] spQuoted := by
  refine funT_ok F scQuoted (by decide +kernel) (by decide) (fun vs H Q E h => ?_) (fun cdv A outer s H vs Q E hr h => ?_)
  · obtain ⟨z, rfl, _⟩ := h
    rfl
  · obtain ⟨z, rfl, hz, k⟩ := h
    refine ⟨_, psst_cons (pst_set (i := 1) scQuoted.nd rfl (Or.inl rfl) (pet_replT (pet_replT (pet_replC (pv 0)))))
      (psst_one (pst_ret (PET.of (pe_joined (.cons pe_str (.cons (pe_fmt (pv 1)) (.cons pe_str .nil))))))), ?_⟩
    have l1 := TK.replace_len z "\\" "\\\\"
    have l2 := TK.replace_len (Txt.replace z "\\" "\\\\") "\"" "\\\""
    have l3 := TK.replace_len (Txt.replace (Txt.replace z "\\" "\\\\") "\"" "\\\"") "\n" "\\n"
    have e1 : ("\\\\" : Str).length = 2 := by decide +kernel
    have e2 : ("\\\"" : Str).length = 2 := by decide +kernel
    have e3 : ("\\n" : Str).length = 2 := by decide +kernel
    have e4 : ("\"" : Str).length = 1 := by decide +kernel
    rw [e1] at l1
    rw [e2] at l2
    rw [e3] at l3
    have big : 100000 ≤ sizeLine := by decide
    refine ⟨_, rfl, z, rfl, by rw [e1]; omega, _, rfl, by rw [e2]; omega, _, rfl, by rw [e3]; omega, ?_⟩
    refine ⟨_, rfl, by rw [str_len, e4]; show 0 + 1 ≤ sizeLine; omega, _, rfl, .inl ⟨_, rfl, by omega, _, rfl, by rw [str_len, str_len, e4]; show 0 + 1 + _ ≤ sizeLine; omega, _, rfl, by rw [str_len, str_len, str_len, e4]; show 0 + 1 + _ + 1 ≤ sizeLine; omega, ?_⟩⟩
    rw [str_nil_app]
    exact k
end
end K3

namespace K3
open PySem L2
theorem saids_len : ∀ ts : List Tr, (saids ts).length = ts.length
  | [] => rfl
  | t :: ts => by
    show (said t :: saids ts).length = _
    rw [List.length_cons, List.length_cons, saids_len ts]
theorem sep_len : (", " : Str).length = 2 := by decide +kernel
/-- the length of a join, from above -/
def joinB (ts : List Tr) : Nat := ((saids ts).map (·.length)).sum + ts.length * 2
theorem join_len (ts : List Tr) : (Txt.join ", " (saids ts)).length ≤ joinB ts := by
  have h := PySem.size_glued ", " (saids ts)
  rw [sep_len, saids_len] at h
  show (Builtin.Str.glued ", " (saids ts)).length ≤ _
  rw [h]
  unfold joinB
  have : (ts.length - 1) * 2 ≤ ts.length * 2 := Nat.mul_le_mul_right _ (Nat.sub_le _ _)
  omega
def hasText : Tr → Bool
  | .vr .. => true
  | .nd .. => true
  | _ => false
/-- its text is short enough -/
def okTx : Tr → Prop
  | .tx s => s.length ≤ 1000
  | .row ts => (∀ t ∈ ts, hasText t = true) ∧ ts.length ≤ 1000 ∧ joinB ts ≤ 16000000
  | _ => True
structure Na5 (K : PySem.W.Frag) (C : Cl5) : Prop where
  na : ∀ a ∈ C.all, ∀ f ∈ ([("form" : Str), "parts", "children", "size", "levels", "text", "name"] : List Str), NoAttr K a f
theorem said_nd (lk : Bool) (f : Str) (ps : List Tr) : said (.nd lk f ps) = f ++ "(" ++ Txt.join ", " (saids ps) ++ ")" := by simp only [said]
theorem said_row (ts : List Tr) : said (.row ts) = "[" ++ Txt.join ", " (saids ts) ++ "]" := by simp only [said]
theorem said_tx (s : Str) : said (.tx s) = quoteS s := by simp only [said]
theorem text_of {K : PySem.W.Frag} {C : Cl5} {H : Hp} : ∀ {v : V} {t : Tr}, PtAt C H v t → hasText t = true → ∃ x A dx fs, v = .ref x ∧ H x = some (.ins A dx fs) ∧ A ∈ C.all ∧ fs.lookup ("text" : Str) = some (.str (said t))
  | _, .tx _, _, h => nomatch h
  | _, .row _, _, h => nomatch h
  | _, .vr k n, h, _ => by
    obtain ⟨x, dx, fs, h1, h2, h3, h4, _⟩ := h
    exact ⟨x, _, dx, fs, h1, h2, C.v_mem k, by rw [h4]; simp only [said]⟩
  | _, .nd lk f ps, h, _ => by
    obtain ⟨x, dx, fs, pa, xs, h1, h2, h3, h4, h5, h6, h7, h8, h9, _⟩ := h
    exact ⟨x, _, dx, fs, h1, h2, C.n_mem lk, by rw [h9, said_nd]⟩
section
variable {P : Program} {w : World} {K : PySem.W.Frag} {mg : Str → Option Value} {base : Heap}
def spPartText (C : Cl5) : Sp := fun vs H Q _ => ∃ v t, vs = [v] ∧ PtAt C H v t ∧ okTx t ∧ ∀ H', Same H H' → Q (.str (said t)) H'
def NPT : List Str := ["part", "inner", "item"]
theorem scPartText : FnScope NPT ["part"] (defScope sPartText) := ⟨rfl, rfl, rfl, by decide +kernel, rfl, by decide +kernel, by decide +kernel⟩
theorem ok_partText {C : Cl5} {f fQ : Addr} {fd fdQ : FuncData} (F : Fun K "part_text" "part_text" sPartText f fd) (T : TxtT mg C) (T5 : Ty5 K C) (N5 : Na5 K C) (GQ : FnOk P w K mg base CX0 1 fQ fdQ ["text"] spQuoted) (gQ : mg "_quoted" = some (.ref fQ)) (kQ : PySem.W.keepIn K (.ref fQ) = true) (bQ : Binds K fdQ ["text"] []) :
    FnOk P w K mg base CX0 2 f fd ["part"] (spPartText C) := by
  refine F.ok scPartText (fun vs H Q E h => ?_) (fun cdv A outer s H vs Q E hr h => ?_)
  · obtain ⟨v, t, rfl, _⟩ := h
    rfl
  · obtain ⟨v, t, rfl, hv, ho, k⟩ := h
    refine ⟨_, pss_cons (ps_if (pt_val (pe_callB call_isi (by rfl) T.isi PyProof.Rows.boot_isinstance (pa_cons (pv 0) (pa_cons (pe_bltn (v := .ty "str") rfl T.str PyProof.Rows.boot_str rfl) pa_nil)))) (pss_one (ps_ret (pe_call GQ hr rfl gQ kQ bQ .nil pass0 (pa_cons (pv 0) pa_nil)))) pss_nil)
      (pss_cons (ps_if (pt_val (pe_callB call_isi (by rfl) T.isi PyProof.Rows.boot_isinstance (pa_cons (pv 0) (pa_cons (pe_bltn (v := .ty "tuple") rfl T.tup PyProof.Rows.boot_tuple rfl) pa_nil))))
          (pss_cons (ps_set (i := 1) scPartText.nd rfl (Or.inl rfl) (pe_bm PySem.F.plainAttrs_str PySem.F.slot_str_join PySem.F.type_str_join mt_join pe_str (pa_cons (pe_lc (own := [("item", 2)]) (g := gName 2) (tt := tYes) (te := tFld K (tVar 2) "text") rfl scPartText.nd (pi_tup (pv 0))
            (blkOk_by (N := NPT) (sc := defScope sPartText) (by decide +kernel)) (fun _ _ _ _ _ => pg_name (i := 2) scPartText.nd rfl (Or.inl rfl)) (fun _ _ _ _ _ => pts_nil) (fun _ _ _ _ _ => pe_fld (pv 2) rfl)) pa_nil)))
          (pss_one (ps_ret (pe_joined (.cons pe_str (.cons (pe_fmt (pv 1)) (.cons pe_str .nil))))))) pss_nil)
      (pss_one (ps_ret (pe_fld (pv 0) rfl)))), ?_⟩
    have ty := PtAt.ty T5 hv
    have big : sizeLine ≥ 16777216 := by decide
    refine ⟨_, rfl, _, _, _, _, isTx t, rfl, .ty "str", ty, kit_str T5 t, _, rfl, ?_⟩
    have fld : hasText t = true → isTx t = false → isRow t = false → tFld K (tVar 0) "text" [some v, none, none] H Q := fun h1 _ _ => by
      obtain ⟨x, Ax, dx, fs, e1, e2, e3, e4⟩ := text_of (K := K) hv h1
      exact ⟨_, rfl, x, Ax, dx, fs, _, e1, e2, (T5.own _ e3).cl, N5.na _ e3 _ (by decide +kernel), e4, k _ (Same.refl H)⟩
    match t, hv, ho, k, ty, fld with
    | .tx z, hv, ho, k, ty, _ =>
      refine iteT ?_
      have ev : v = .str z := hv
      subst ev
      refine ⟨_, rfl, z, rfl, ho, ?_⟩
      rw [← said_tx]
      exact k _ (Same.refl H)
    | .row ts, hv, ho, k, ty, _ =>
      refine iteF ?_
      refine ⟨_, rfl, _, _, _, _, true, rfl, .ty "tuple", ty, kit_tup T5 (.row ts), _, rfl, ?_⟩
      refine iteT ?_
      obtain ⟨a, xs, ev, ha, hp⟩ := hv
      subst ev
      obtain ⟨o1, o2, o3⟩ := ho
      have xl := pts_len hp
      have pp := ptsAt_iff.mp hp
      refine ⟨rfl, _, rfl, a, rfl, ⟨_, SqT.of ha⟩, fun D hD => lc_tup (K := K) (a := a) (xs := xs) (fun i H' => Same H H' ∧ H' D = some (.lst (((saids ts).take i).map V.str))) ⟨same_upd (Same.refl H) hD, upd_same⟩ (fun i H' _ ⟨s', _⟩ => SqT.of (s' _ _ ha)) ?_ ?_⟩
      · rintro i x H1 hx ⟨s1, e1⟩
        obtain ⟨ti, et, hi⟩ := LiI.paired_get pp hx
        have il : i < xs.length := (List.getElem?_eq_some_iff.mp hx).1
        obtain ⟨y, Ay, dy, gs, q1, q2, q3, q4⟩ := text_of (K := K) (PtAt.kpo (KpO.same s1) ti hi) (o1 ti (List.mem_of_getElem? et))
        refine ⟨rfl, ?_⟩
        dsimp only [tYes]
        rw [if_pos rfl]
        refine ⟨_, rfl, y, Ay, dy, gs, _, q1, q2, (T5.own _ q3).cl, N5.na _ q3 _ (by decide +kernel), q4, _, e1, ?_, same_upd s1 hD, ?_⟩
        · rw [List.length_map]
          exact Nat.lt_of_le_of_lt (List.length_take_le _ _) (by omega)
        · have es : (saids ts)[i]? = some (said ti) := by rw [saids_map, List.getElem?_map, et]; rfl
          rw [upd_same, List.take_add_one, es]
          simp
      · rintro H1 ⟨s1, e1⟩
        rw [xl, ← saids_len ts, List.take_length] at e1
        have jl := join_len ts
        refine ⟨", ", D, saids ts, rfl, rfl, .inl (SqL.of e1), ?_, ?_⟩
        · rw [sep_len, saids_len]
          unfold joinB at o3
          omega
        have b1 : ("[" : Str).length = 1 := by decide +kernel
        have b2 : ("]" : Str).length = 1 := by decide +kernel
        refine ⟨_, rfl, by rw [str_len, b1]; show 0 + 1 ≤ sizeLine; omega, _, rfl, .inl ⟨_, rfl, by omega, _, rfl, by rw [str_len, str_len, b1]; show 0 + 1 + _ ≤ sizeLine; omega, _, rfl, by rw [str_len, str_len, str_len, b1, b2]; show 0 + 1 + _ + 1 ≤ sizeLine; omega, ?_⟩⟩
        rw [str_nil_app, ← said_row]
        exact k _ s1
    | .vr j n, hv, ho, k, ty, fld =>
      refine iteF ?_
      refine ⟨_, rfl, _, _, _, _, false, rfl, .ty "tuple", ty, kit_tup T5 (.vr j n), _, rfl, ?_⟩
      exact iteF (fld rfl rfl rfl)
    | .nd lk g ps, hv, ho, k, ty, fld =>
      refine iteF ?_
      refine ⟨_, rfl, _, _, _, _, false, rfl, .ty "tuple", ty, kit_tup T5 (.nd lk g ps), _, rfl, ?_⟩
      exact iteF (fld rfl rfl rfl)
end
end K3

namespace K3
open PySem L2
section
variable {P : Program} {w : World} {K : PySem.W.Frag} {mg : Str → Option Value} {base : Heap}
def spNodeText (C : Cl5) : Sp := fun vs H Q _ => ∃ (f : Str) (a : Addr) (xs : List V) (ps : List Tr), vs = [.str f, .ref a] ∧ H a = some (.tup xs) ∧ PtsAt C H xs ps ∧ (∀ p ∈ ps, okTx p) ∧ ps.length ≤ 1000 ∧ joinB ps ≤ 16000000 ∧ f.length ≤ 1000 ∧
  ∀ H', Same H H' → Q (.str (f ++ "(" ++ Txt.join ", " (saids ps) ++ ")")) H'
def NNT : List Str := ["form", "parts", "inner", "part"]
theorem scNodeText : FnScope NNT ["form", "parts"] (defScope sNodeText) := ⟨rfl, rfl, rfl, by decide +kernel, rfl, by decide +kernel, by decide +kernel⟩
theorem ok_nodeText {C : Cl5} {f fP : Addr} {fd fdP : FuncData} (F : Fun K "_node_text" "_node_text" sNodeText f fd) (GP : FnOk P w K mg base CX0 2 fP fdP ["part"] (spPartText C)) (gP : mg "part_text" = some (.ref fP)) (kP : PySem.W.keepIn K (.ref fP) = true) (bP : Binds K fdP ["part"] []) :
    FnOk P w K mg base CX0 3 f fd ["form", "parts"] (spNodeText C) := by
  refine F.ok scNodeText (fun vs H Q E h => ?_) (fun cdv A outer s H vs Q E hr h => ?_)
  · obtain ⟨g, a, xs, ps, rfl, _⟩ := h
    rfl
  · obtain ⟨g, a, xs, ps, rfl, ha, hp, ho, hl, hj, hg, k⟩ := h
    refine ⟨_, pss_cons (ps_set (i := 2) scNodeText.nd rfl (Or.inl rfl) (pe_bm PySem.F.plainAttrs_str PySem.F.slot_str_join PySem.F.type_str_join mt_join pe_str (pa_cons (pe_lc (own := [("part", 3)]) (g := gName 3) (tt := tYes) (te := tCall (spPartText C) [] E0 (tCons (tVar 3) tNil)) rfl scNodeText.nd (pi_tup (pv 1))
        (blkOk_by (N := NNT) (sc := defScope sNodeText) (by decide +kernel)) (fun _ _ _ _ _ => pg_name (i := 3) scNodeText.nd rfl (Or.inl rfl)) (fun _ _ _ _ _ => pts_nil) (fun _ _ _ _ _ => pe_call GP hr rfl gP kP bP .nil pass0 (pa_cons (pv 3) pa_nil))) pa_nil)))
      (pss_one (ps_ret (pe_joined (.cons (pe_fmt (pv 0)) (.cons pe_str (.cons (pe_fmt (pv 2)) (.cons pe_str .nil))))))), ?_⟩
    have big : sizeLine ≥ 16777216 := by decide
    have xl := pts_len hp
    have pp := ptsAt_iff.mp hp
    refine ⟨rfl, _, rfl, a, rfl, ⟨_, SqT.of ha⟩, fun D hD => lc_tup (K := K) (a := a) (xs := xs) (fun i H' => Same H H' ∧ H' D = some (.lst (((saids ps).take i).map V.str))) ⟨same_upd (Same.refl H) hD, upd_same⟩ (fun i H' _ ⟨s', _⟩ => SqT.of (s' _ _ ha)) ?_ ?_⟩
    · rintro i x H1 hx ⟨s1, e1⟩
      obtain ⟨ti, et, hi⟩ := LiI.paired_get pp hx
      have il : i < xs.length := (List.getElem?_eq_some_iff.mp hx).1
      refine ⟨rfl, ?_⟩
      dsimp only [tYes]
      rw [if_pos rfl]
      refine ⟨_, rfl, x, ti, rfl, PtAt.kpo (KpO.same s1) ti hi, ho ti (List.mem_of_getElem? et), fun H2 s2 => ⟨_, s2 _ _ e1, ?_, same_upd (s1.trans s2) hD, ?_⟩⟩
      · rw [List.length_map]
        exact Nat.lt_of_le_of_lt (List.length_take_le _ _) (by omega)
      · have es : (saids ps)[i]? = some (said ti) := by rw [saids_map, List.getElem?_map, et]; rfl
        rw [upd_same, List.take_add_one, es]
        simp
    · rintro H1 ⟨s1, e1⟩
      rw [xl, ← saids_len ps, List.take_length] at e1
      have jl := join_len ps
      refine ⟨", ", D, saids ps, rfl, rfl, .inl (SqL.of e1), ?_, ?_⟩
      · rw [sep_len, saids_len]
        unfold joinB at hj
        omega
      have b1 : ("(" : Str).length = 1 := by decide +kernel
      have b2 : (")" : Str).length = 1 := by decide +kernel
      refine ⟨_, rfl, .inl ⟨g, rfl, by omega, _, rfl, by rw [str_len]; show 0 + g.length ≤ sizeLine; omega, _, rfl, by rw [str_len, str_len, b1]; show 0 + g.length + 1 ≤ sizeLine; omega, _, rfl, .inl ⟨_, rfl, by omega, _, rfl, by rw [str_len, str_len, str_len, b1]; show 0 + g.length + 1 + _ ≤ sizeLine; omega, _, rfl, by rw [str_len, str_len, str_len, str_len, b1, b2]; show 0 + g.length + 1 + _ + 1 ≤ sizeLine; omega, ?_⟩⟩⟩
      rw [str_nil_app]
      exact k _ s1
/-! ### size and levels -/
theorem meas_of {C : Cl5} {H : Hp} : ∀ {v : V} {t : Tr}, PtAt C H v t → isN t = true → ∃ x A dx fs, v = .ref x ∧ H x = some (.ins A dx fs) ∧ A ∈ C.all ∧ fs.lookup ("size" : Str) = some (.int ((size t : Nat) : Int)) ∧ fs.lookup ("levels" : Str) = some (.int ((levels t : Nat) : Int))
  | _, .tx _, _, h => nomatch h
  | _, .row _, _, h => nomatch h
  | _, .vr 0 n, h, _ => by
    obtain ⟨x, dx, fs, h1, h2, h3, h4, h5⟩ := h
    obtain ⟨a, b⟩ := h5 rfl
    exact ⟨x, _, dx, fs, h1, h2, C.v_mem 0, a.trans (by simp only [size]; rfl), b.trans (by simp only [levels]; rfl)⟩
  | _, .vr (_ + 1) _, _, h => nomatch h
  | _, .nd lk f ps, h, _ => by
    obtain ⟨x, dx, fs, pa, xs, h1, h2, h3, h4, h5, h6, h7, h8, h9, _⟩ := h
    exact ⟨x, _, dx, fs, h1, h2, C.n_mem lk, h7.trans (by simp only [size]), h8.trans (by simp only [levels])⟩
theorem sizes_snoc : ∀ (ts : List Tr) (t : Tr), sizes (ts ++ [t]) = sizes ts + size t
  | [], t => by simp only [List.nil_append, sizes, Nat.add_zero, Nat.zero_add]
  | a :: ts, t => by simp only [List.cons_append, sizes, sizes_snoc ts t, Nat.add_assoc]
theorem levelss_snoc : ∀ (ts : List Tr) (t : Tr), levelss (ts ++ [t]) = max (levelss ts) (levels t)
  | [], t => by simp only [List.nil_append, levelss, Nat.max_zero, Nat.zero_max]
  | a :: ts, t => by simp only [List.cons_append, levelss, levelss_snoc ts t, Nat.max_assoc]
def spMeasures (C : Cl5) : Sp := fun vs H Q _ => ∃ (a : Addr) (xs : List V) (ts : List Tr), vs = [.ref a] ∧ H a = some (.tup xs) ∧ PtsAt C H xs ts ∧ (∀ t ∈ ts, isN t = true) ∧
  ∀ H' p, Same H H' → H p = none → H' p = some (.tup [.int ((1 + sizes ts : Nat) : Int), .int ((levelss ts + 1 : Nat) : Int)]) → Q (.ref p) H'
def NME : List Str := ["nodes", "size", "deepest", "node"]
theorem scMeasures : FnScope NME ["nodes"] (defScope sMeasures) := ⟨rfl, rfl, rfl, by decide +kernel, rfl, by decide +kernel, by decide +kernel⟩
theorem ok_measures {C : Cl5} {f : Addr} {fd : FuncData} (F : Fun K "_measures_above" "_measures_above" sMeasures f fd) (T5 : Ty5 K C) (N5 : Na5 K C) : FnOk P w K mg base CX0 1 f fd ["nodes"] (spMeasures C) := by
  refine F.ok scMeasures (fun vs H Q E h => ?_) (fun cdv A outer s H vs Q E hr h => ?_)
  · obtain ⟨a, xs, ts, rfl, _⟩ := h
    rfl
  · obtain ⟨a, xs, ts, rfl, ha, hp, hn, k⟩ := h
    refine ⟨_, pss_cons (ps_set (i := 1) scMeasures.nd rfl (Or.inl rfl) pe_int) (pss_cons (ps_set (i := 2) scMeasures.nd rfl (Or.inl rfl) pe_int)
      (pss_cons (ps_for PassesOwn.never rfl (pi_tup (pv 0)) (pg_name (i := 3) scMeasures.nd rfl (Or.inl rfl)) (pss_cons (ps_aug (i := 1) scMeasures.nd rfl (Or.inl rfl) (pe_fld (pv 3) rfl) iop_add)
        (pss_one (ps_if (pt_cmpR op_gt (pe_fld (pv 3) rfl) (pv 2) (nomark _)) (pss_one (ps_set (i := 2) scMeasures.nd rfl (Or.inl rfl) (pe_fld (pv 3) rfl))) pss_nil))))
      (pss_one (ps_ret (pe_tup (pa_cons (pv 1) (pa_cons (pe_op op_add (pv 2) pe_int) pa_nil))))))), ?_⟩
    have xl := pts_len hp
    have pp := ptsAt_iff.mp hp
    refine ⟨_, rfl, a, rfl, ⟨_, SqT.of ha⟩, for_tup (K := K) (a := a) (xs := xs) (fun i σ H' => ∃ v3 : Option V, σ = [some (.ref a), some (.int ((1 + sizes (ts.take i) : Nat) : Int)), some (.int ((levelss (ts.take i) : Nat) : Int)), v3] ∧ H' = H) ⟨_, rfl, rfl⟩ (fun i σ H' _ ⟨_, _, e⟩ => by rw [e]; exact SqT.of ha) ?_ ?_⟩
    · rintro i x σ H' hx ⟨v3, rfl, rfl⟩
      obtain ⟨ti, et, hi⟩ := LiI.paired_get pp hx
      obtain ⟨y, A_, dy, gs, rfl, q2, q3, q4, q5⟩ := meas_of hi (hn ti (List.mem_of_getElem? et))
      have cl := (T5.own _ q3).cl
      have sz : sizes (ts.take (i + 1)) = sizes (ts.take i) + size ti := by rw [List.take_add_one, et]; exact sizes_snoc _ _
      have lv : levelss (ts.take (i + 1)) = max (levelss (ts.take i)) (levels ti) := by rw [List.take_add_one, et]; exact levelss_snoc _ _
      refine ⟨_, rfl, _, rfl, y, A_, dy, gs, _, rfl, q2, cl, N5.na _ q3 _ (by decide +kernel), q4, _, _, rfl, rfl, ?_⟩
      refine ⟨_, rfl, y, A_, dy, gs, _, rfl, q2, cl, N5.na _ q3 _ (by decide +kernel), q5, _, rfl, _, _, rfl, rfl, _, rfl, ?_⟩
      have esz : (((1 + sizes (ts.take i) : Nat) : Int) + ((size ti : Nat) : Int)) = ((1 + sizes (ts.take (i + 1)) : Nat) : Int) := by rw [sz]; omega
      refine ite2 (fun h => ?_) (fun h => ?_)
      · have h := of_decide_eq_true h
        refine ⟨_, rfl, y, A_, dy, gs, _, rfl, q2, cl, N5.na _ q3 _ (by decide +kernel), q5, some (.ref y), ?_, rfl⟩
        rw [← esz, ← show levels ti = levelss (ts.take (i + 1)) by rw [lv]; omega]
        rfl
      · have h : ¬ ((levelss (ts.take i) : Nat) : Int) < ((levels ti : Nat) : Int) := fun q => h (decide_eq_true q)
        refine ⟨some (.ref y), ?_, rfl⟩
        rw [← esz, ← show levelss (ts.take i) = levelss (ts.take (i + 1)) by rw [lv]; omega]
        rfl
    · rintro σ H' ⟨v3, rfl, rfl⟩
      rw [xl, List.take_length]
      refine ⟨_, rfl, _, rfl, _, _, rfl, rfl, by show 2 ≤ sizeLine; decide, fun p hp2 => ?_⟩
      exact k _ p (same_upd (Same.refl _) hp2) hp2 upd_same
end
end K3

namespace K3
open PySem L2
/-! ### the nodes among parts -/
def kidOne (H : Hp) (x : V) (p : Tr) (ks : List V) : Prop := match p with
  | .row ts => ∃ a ys, x = .ref a ∧ H a = some (.tup ys) ∧ ys.length = ts.length ∧ ks = ((ys.zip ts).filter fun p => isN p.2).map Prod.fst
  | p => ks = if isN p = true then [x] else []
theorem kids_snoc {H : Hp} {x : V} {p : Tr} {ks : List V} (h1 : kidOne H x p ks) : ∀ {xs : List V} {ps : List Tr} {cs : List V}, KidsAt H xs ps cs → KidsAt H (xs ++ [x]) (ps ++ [p]) (cs ++ ks)
  | [], [], cs, h => by
    rw [show cs = [] from h]
    cases p with
    | row ts =>
      obtain ⟨a, ys, e1, e2, e3, e4⟩ := h1
      exact ⟨a, ys, [], e1, e2, e3, by rw [List.nil_append, e4, List.append_nil], rfl⟩
    | tx s => exact ⟨[], by rw [List.nil_append, List.append_nil]; exact h1, rfl⟩
    | vr k n => exact ⟨[], by rw [List.nil_append, List.append_nil]; exact h1, rfl⟩
    | nd lk f qs => exact ⟨[], by rw [List.nil_append, List.append_nil]; exact h1, rfl⟩
  | y :: xs, .row ts :: ps, cs, h => by
    obtain ⟨a, ys, r, e1, e2, e3, e4, e5⟩ := h
    exact ⟨a, ys, r ++ ks, e1, e2, e3, by rw [e4, List.append_assoc], kids_snoc h1 e5⟩
  | y :: xs, .tx s :: ps, cs, h => by obtain ⟨r, e1, e2⟩ := h; exact ⟨r ++ ks, by rw [e1, List.append_assoc], kids_snoc h1 e2⟩
  | y :: xs, .vr k n :: ps, cs, h => by obtain ⟨r, e1, e2⟩ := h; exact ⟨r ++ ks, by rw [e1, List.append_assoc], kids_snoc h1 e2⟩
  | y :: xs, .nd lk f qs :: ps, cs, h => by obtain ⟨r, e1, e2⟩ := h; exact ⟨r ++ ks, by rw [e1, List.append_assoc], kids_snoc h1 e2⟩
  | [], _ :: _, _, h => False.elim (by cases ‹Tr› <;> exact h)
  | _ :: _, [], _, h => False.elim h
theorem below_snoc : ∀ (ps : List Tr) (p : Tr), below (ps ++ [p]) = below ps ++ below [p]
  | [], p => by simp only [List.nil_append, below]
  | .row ts :: ps, p => by simp only [List.cons_append, below, below_snoc ps p, List.append_assoc]
  | .tx s :: ps, p => by simp only [List.cons_append, below, below_snoc ps p, List.append_assoc]
  | .vr k n :: ps, p => by simp only [List.cons_append, below, below_snoc ps p, List.append_assoc]
  | .nd lk f qs :: ps, p => by simp only [List.cons_append, below, below_snoc ps p, List.append_assoc]
theorem pts_app {C : Cl5} {H : Hp} : ∀ {xs ys : List V} {ts us : List Tr}, PtsAt C H xs ts → PtsAt C H ys us → PtsAt C H (xs ++ ys) (ts ++ us)
  | [], _, [], _, _, h => h
  | _ :: _, _, _ :: _, _, h, h2 => ⟨h.1, pts_app h.2 h2⟩
  | [], _, _ :: _, _, h, _ => False.elim h
  | _ :: _, _, [], _, h, _ => False.elim h
def picked (ys : List V) (us : List Tr) : List V := ((ys.zip us).filter fun p => isN p.2).map Prod.fst
theorem pts_picked {C : Cl5} {H : Hp} : ∀ {ys : List V} {us : List Tr}, PtsAt C H ys us → PtsAt C H (picked ys us) (us.filter isN)
  | [], [], h => h
  | y :: ys, u :: us, h => by
    have ih := pts_picked h.2
    unfold picked at ih ⊢
    rw [List.zip_cons_cons]
    cases e : isN u with
    | true =>
      rw [List.filter_cons_of_pos (by exact e), List.filter_cons_of_pos (by exact e), List.map_cons]
      exact ⟨h.1, ih⟩
    | false =>
      rw [List.filter_cons_of_neg (by rw [e]; exact Bool.false_ne_true), List.filter_cons_of_neg (by show ¬ isN u = true; rw [e]; exact Bool.false_ne_true)]
      exact ih
  | [], _ :: _, h => False.elim h
  | _ :: _, [], h => False.elim h
theorem picked_len (ys : List V) (us : List Tr) : (picked ys us).length ≤ us.length := by
  unfold picked
  rw [List.length_map]
  exact Nat.le_trans (List.length_filter_le _ _) (by rw [List.length_zip]; exact Nat.min_le_right _ _)
theorem picked_snoc {ys : List V} {us : List Tr} {j : Nat} {y : V} {u : Tr} (h1 : ys[j]? = some y) (h2 : us[j]? = some u) : picked (ys.take (j + 1)) (us.take (j + 1)) = picked (ys.take j) (us.take j) ++ (if isN u = true then [y] else []) := by
  have l1 : j < ys.length := (List.getElem?_eq_some_iff.mp h1).1
  have l2 : j < us.length := (List.getElem?_eq_some_iff.mp h2).1
  unfold picked
  rw [List.take_add_one, List.take_add_one, h1, h2]
  rw [List.zip_append (by rw [List.length_take, List.length_take]; omega), List.filter_append, List.map_append]
  congr 1
  cases e : isN u <;> simp [e]
section
variable {P : Program} {w : World} {K : PySem.W.Frag} {mg : Str → Option Value} {base : Heap}
def rowLen : Tr → Nat
  | .row ts => ts.length
  | _ => 0
def spNodes (C : Cl5) : Sp := fun vs H Q _ => ∃ (a : Addr) (xs : List V) (ps : List Tr), vs = [.ref a] ∧ H a = some (.tup xs) ∧ PtsAt C H xs ps ∧ ps.length ≤ 1000 ∧ (∀ p ∈ ps, rowLen p ≤ 1000) ∧
  ∀ H' p cs, Same H H' → H p = none → H' p = some (.tup cs) → KidsAt H' xs ps cs → PtsAt C H' cs (below ps) → Q (.ref p) H'
def NNA : List Str := ["parts", "nodes", "part", "row", "item"]
theorem scNodes : FnScope NNA ["parts"] (defScope sNodesAmong) := ⟨rfl, rfl, rfl, by decide +kernel, rfl, by decide +kernel, by decide +kernel⟩
theorem ok_nodes {C : Cl5} {f fN : Addr} {fd fdN : FuncData} (F : Fun K "nodes_among" "nodes_among" sNodesAmong f fd) (T : TxtT mg C) (T5 : Ty5 K C) (GN : FnOk P w K mg base CX0 1 fN fdN ["value"] (spIsNode C)) (gN : mg "is_node" = some (.ref fN)) (kN : PySem.W.keepIn K (.ref fN) = true) (bN : Binds K fdN ["value"] []) :
    FnOk P w K mg base CX0 2 f fd ["parts"] (spNodes C) := by
  refine F.ok scNodes (fun vs H Q E h => ?_) (fun cdv A outer s H vs Q E hr h => ?_)
  · obtain ⟨a, xs, ps, rfl, _⟩ := h
    rfl
  · obtain ⟨a, xs, ps, rfl, ha, hp, hl, hb, k⟩ := h
    refine ⟨_, pss_cons (ps_set (i := 1) scNodes.nd rfl (Or.inl rfl) (pe_lst pa_nil))
      (pss_cons (ps_for PassesOwn.never rfl (pi_tup (pv 0)) (pg_name (i := 2) scNodes.nd rfl (Or.inl rfl))
        (pss_cons (ps_set (i := 3) scNodes.nd rfl (Or.inl rfl) (pe_ifExp (pt_val (pe_callB call_isi (by rfl) T.isi PyProof.Rows.boot_isinstance (pa_cons (pv 2) (pa_cons (pe_bltn (v := .ty "tuple") rfl T.tup PyProof.Rows.boot_tuple rfl) pa_nil)))) (pv 2) (pe_tup (pa_cons (pv 2) pa_nil))))
        (pss_one (ps_expr (pe_bm PySem.F.plainAttrs_list PySem.F.slot_list_extend PySem.F.type_list_extend mt_extend (pv 1) (pa_cons (pe_lc (own := [("item", 4)]) (g := gName 4) (tt := tB (tCall (spIsNode C) [] E0 (tCons (tVar 4) tNil))) (te := tVar 4) rfl scNodes.nd (pi_tup (pv 3))
          (blkOk_by (N := NNA) (sc := defScope sNodesAmong) (by decide +kernel)) (fun _ _ _ _ _ => pg_name (i := 4) scNodes.nd rfl (Or.inl rfl)) (fun _ _ _ _ _ => pts_one (pt_val (pe_call GN hr rfl gN kN bN .nil pass0 (pa_cons (pv 4) pa_nil)))) (fun _ _ _ _ _ => pv 4)) pa_nil))))))
      (pss_one (ps_ret (pe_callTy call_tuple_of (by rfl) T.tup PyProof.Rows.boot_tuple (pa_cons (pv 1) pa_nil))))), ?_⟩
    have big : sizeLine ≥ 16777216 := by decide
    have xl := pts_len hp
    have pp := ptsAt_iff.mp hp
    refine ⟨Nat.zero_le _, fun nd hnd => ?_⟩
    refine ⟨_, rfl, a, rfl, ⟨_, SqT.of (same_upd (Same.refl H) hnd _ _ ha)⟩, for_tup (K := K) (a := a) (xs := xs) (fun i σ H' => ∃ (v2 v3 : Option V) (acc : List V), σ = [some (.ref a), some (.ref nd), v2, v3, none] ∧ Same H H' ∧ H' nd = some (.lst acc) ∧ acc.length ≤ 1000 * i ∧ KidsAt H' (xs.take i) (ps.take i) acc ∧ PtsAt C H' acc (below (ps.take i)))
      ⟨_, _, [], rfl, same_upd (Same.refl H) hnd, upd_same, Nat.zero_le _, rfl, True.intro⟩ (fun i σ H' _ ⟨_, _, _, _, s', _⟩ => SqT.of (s' _ _ ha)) ?_ ?_⟩
    · rintro i x σ H1 hx ⟨v2, v3, acc, rfl, s1, hN1, al, kd, pa⟩
      obtain ⟨p, ep, hi⟩ := LiI.paired_get pp hx
      have il : i < xs.length := (List.getElem?_eq_some_iff.mp hx).1
      have hi1 := PtAt.kpo (KpO.same s1) p hi
      have ty := PtAt.ty T5 hi1
      have rb := hb p (List.mem_of_getElem? ep)
      have ex : xs.take (i + 1) = xs.take i ++ [x] := by rw [List.take_add_one, hx]; rfl
      have eps : ps.take (i + 1) = ps.take i ++ [p] := by rw [List.take_add_one, ep]; rfl
      refine ⟨_, rfl, _, _, _, _, isRow p, rfl, .ty "tuple", ty, kit_tup T5 p, _, rfl, ?_⟩
      refine ite2 (fun hrow => ?r1) (fun hrow => ?r2)
      case' r1 =>
        obtain ⟨us, rfl⟩ : ∃ us, p = .row us := by cases p with
          | row us => exact ⟨us, rfl⟩
          | tx _ => cases hrow
          | vr _ _ => cases hrow
          | nd _ _ _ => cases hrow
        obtain ⟨ra, ys, erx, hra, hys⟩ := id hi1
        subst erx
        refine ⟨_, rfl, ?_⟩
        obtain ⟨H2, rfl⟩ : ∃ t, t = H1 := ⟨_, rfl⟩
        have s12 : Same H2 H2 := Same.refl H2
        have one : ∀ H', Same H2 H' → kidOne H' (.ref ra) (.row us) (picked ys us) ∧ below [Tr.row us] = us.filter isN := fun H' s' => ⟨⟨ra, ys, rfl, s' _ _ hra, pts_len hys, rfl⟩, by simp only [below, List.append_nil]⟩
        have ul : us.length ≤ 1000 := rb
        have hx2 : hx = hx := rfl
      case' r2 =>
        refine ⟨_, rfl, by show 1 ≤ sizeLine; omega, fun ra hra0 => ?_⟩
        generalize e2 : upd H1 ra _ = H2
        have s12 : Same H1 H2 := by rw [← e2]; exact same_upd (Same.refl H1) hra0
        have hra : H2 ra = some (.tup [x]) := by rw [← e2, upd_same]
        clear e2
        obtain ⟨ys, eys⟩ : ∃ ys, ys = [x] := ⟨_, rfl⟩
        obtain ⟨us, eus⟩ : ∃ us, us = [p] := ⟨_, rfl⟩
        rw [← eys] at hra
        have hys : PtsAt C H2 ys us := by rw [eys, eus]; exact ⟨PtAt.kpo (KpO.same s12) p hi1, True.intro⟩
        have one : ∀ H', Same H2 H' → kidOne H' x p (picked ys us) ∧ below [p] = us.filter isN := fun H' s' => by
          rw [eys, eus]
          cases p with
          | row us => exact absurd rfl hrow
          | tx z => exact ⟨rfl, rfl⟩
          | vr j n => cases j <;> exact ⟨rfl, rfl⟩
          | nd lk f qs => exact ⟨rfl, rfl⟩
        have ul : us.length ≤ 1000 := by rw [eus]; show 1 ≤ 1000; decide
        have hx2 : hx = hx := rfl
      all_goals
        have sH2 := s1.trans s12
        have yl := pts_len hys
        have pys := ptsAt_iff.mp hys
        have hN2 := s12 _ _ hN1
        refine ⟨_, rfl, .inl ⟨rfl, _, SqL.of hN2⟩, _, rfl, ra, rfl, ⟨_, SqT.of hra⟩, fun D hD => lc_tup (K := K) (a := ra) (xs := ys) (fun j H' => Same H2 H' ∧ H' D = some (.lst (picked (ys.take j) (us.take j)))) ⟨same_upd (Same.refl H2) hD, upd_same⟩ (fun j H' _ ⟨s', _⟩ => SqT.of (s' _ _ hra)) ?_ ?_⟩
        · rintro j y H3 hy ⟨s3, e3⟩
          obtain ⟨u, eu, hu⟩ := LiI.paired_get pys hy
          have jl : j < ys.length := (List.getElem?_eq_some_iff.mp hy).1
          have ps_ := picked_snoc hy eu
          refine ⟨rfl, ?_⟩
          refine ⟨_, rfl, y, u, rfl, PtAt.kpo (KpO.same s3) u hu, fun H4 s4 => ⟨_, rfl, ?_⟩⟩
          have s24 := s3.trans s4
          have e4 := s4 _ _ e3
          refine ite2 (fun hn => ?_) (fun hn => ?_)
          · rw [if_pos hn] at ps_
            refine ⟨_, rfl, _, e4, ?_, same_upd s24 hD, by rw [upd_same, ps_]⟩
            have := picked_len (ys.take j) (us.take j)
            rw [List.length_take] at this
            omega
          · rw [if_neg hn, List.append_nil] at ps_
            exact ⟨s24, by rw [ps_]; exact e4⟩
        · rintro H3 ⟨s3, e3⟩
          rw [List.take_length, yl, List.take_length] at e3
          have hN3 := s3 _ _ hN2
          have pl := picked_len ys us
          refine ⟨nd, D, acc, _, rfl, rfl, hN3, e3, by omega, ?_⟩
          have sF : Same H (upd H3 nd (.lst (acc ++ picked ys us))) := same_upd (sH2.trans s3) hnd
          have kp : KpO H3 (upd H3 nd (.lst (acc ++ picked ys us))) := fun b o hb' q => by
            have ne : b ≠ nd := fun z => by rw [z, hN3] at q; cases q; cases hb'
            rw [upd_ne ne]
            exact q
          have k13 : KpO H2 H3 := KpO.same s3
          obtain ⟨on, eb⟩ := one H3 s3
          refine ⟨_, _, _, rfl, sF, upd_same, by rw [List.length_append]; omega, ?_, ?_⟩
          · rw [ex, eps]
            exact KidsAt.kpo kp (kids_snoc on (KidsAt.kpo ((KpO.same s12).trans k13) kd))
          · rw [eps, below_snoc, eb]
            exact PtsAt.kpo kp _ (pts_app (PtsAt.kpo ((KpO.same s12).trans k13) _ pa) (PtsAt.kpo k13 _ (pts_picked hys)))
    · rintro σ H1 ⟨v2, v3, acc, rfl, s1, hN1, al, kd, pa⟩
      rw [xl] at kd
      rw [xl] at pa
      rw [← xl, List.take_length, xl, List.take_length] at kd
      rw [List.take_length] at pa
      refine ⟨_, rfl, nd, acc, rfl, .inl ⟨SqL.of hN1, fun p hp2 => ?_⟩⟩
      have s2 : Same H1 (upd H1 p (.tup acc)) := same_upd (Same.refl H1) hp2
      exact k _ p acc (s1.trans s2) (s1.free hp2) upd_same (KidsAt.kpo (KpO.same s2) kd) (PtsAt.kpo (KpO.same s2) _ pa)
end
end K3

namespace K3
open PySem L2 E0
/-! ### Tree's own making -/
def SameX (x : Addr) (H H' : Hp) : Prop := ∀ b o, b ≠ x → H b = some o → H' b = some o
theorem Same.x {x : Addr} {H H' : Hp} (s : Same H H') : SameX x H H' := fun b o _ e => s b o e
theorem SameX.trans {x : Addr} {H H1 H2 : Hp} (a : SameX x H H1) (b : SameX x H1 H2) : SameX x H H2 := fun c o n e => b c o n (a c o n e)
theorem SameX.upd {x : Addr} {H : Hp} {o : HO} : SameX x H (upd H x o) := fun b u n e => by rw [upd_ne n]; exact e
theorem lk_put3 {f g : Str} {v : V} {fs : List (Str × V)} (h : ¬ g = f) : (putF f v fs).lookup g = fs.lookup g := by rw [lookup_putF, if_neg h]
theorem lk_put1 {f : Str} {v : V} {fs : List (Str × V)} : (putF f v fs).lookup f = some v := by rw [lookup_putF, if_pos rfl]
theorem sizes_app : ∀ (a b : List Tr), sizes (a ++ b) = sizes a + sizes b
  | [], b => by simp only [List.nil_append, sizes, Nat.zero_add]
  | t :: a, b => by simp only [List.cons_append, sizes, sizes_app a b, Nat.add_assoc]
theorem levelss_app : ∀ (a b : List Tr), levelss (a ++ b) = max (levelss a) (levelss b)
  | [], b => by simp only [List.nil_append, levelss, Nat.zero_max]
  | t :: a, b => by simp only [List.cons_append, levelss, levelss_app a b, Nat.max_assoc]
theorem isT_isN {t : Tr} (h : isT t = true) : isN t = true := by
  match t, h with
  | .nd false _ _, _ => rfl
theorem below_ok : ∀ {ps : List Tr}, (∀ p ∈ ps, okP p = true) → sizes (below ps) = sizes ps ∧ levelss (below ps) = levelss ps ∧ ∀ t ∈ below ps, isN t = true
  | [], _ => ⟨rfl, rfl, fun t h => nomatch h⟩
  | p :: ps, h => by
    obtain ⟨a, b, c⟩ := below_ok (ps := ps) fun q hq => h q (List.mem_cons_of_mem _ hq)
    have hp := h p (List.mem_cons_self ..)
    match p, hp with
    | .tx s, _ =>
      refine ⟨?_, ?_, fun t ht => c t ht⟩
      · show sizes ([] ++ below ps) = size (.tx s) + sizes ps
        rw [List.nil_append, a]
        simp only [size, Nat.zero_add]
      · show levelss ([] ++ below ps) = max (levels (.tx s)) (levelss ps)
        rw [List.nil_append, b]
        simp only [levels, Nat.zero_max]
    | .row ts, hp =>
      have ht : ∀ t ∈ ts, isN t = true := fun t ht => isT_isN (List.all_eq_true.mp hp t ht)
      have e : below (.row ts :: ps) = ts ++ below ps := by
        show ts.filter isN ++ below ps = _
        rw [List.filter_eq_self.mpr ht]
      rw [e]
      refine ⟨?_, ?_, fun t hm => (List.mem_append.mp hm).elim (ht t) (c t)⟩
      · rw [sizes_app, a]
        simp only [sizes, size]
      · rw [levelss_app, b]
        simp only [levelss, levels]
    | .nd false f qs, _ =>
      refine ⟨?_, ?_, fun t hm => ?_⟩
      · show sizes ([.nd false f qs] ++ below ps) = _
        rw [sizes_app, a]
        simp only [sizes, Nat.add_zero]
      · show levelss ([.nd false f qs] ++ below ps) = _
        rw [levelss_app, b]
        simp only [levelss, Nat.max_zero]
      · rcases List.mem_append.mp (show t ∈ [Tr.nd false f qs] ++ below ps from hm) with q | q
        · rw [List.mem_singleton.mp q]; rfl
        · exact c t q
/-- a value among what a tree is asked to have -/
inductive PI where
  | good (t : Tr)
  | bad
def PIAt (K : PySem.W.Frag) (C : Cl5) (H : Hp) (v : V) : PI → Prop
  | .good t => PtAt C H v t ∧ okP t = true ∧ rowB t ≤ 1000 ∧ okTx t
  | .bad => BadT K C H v
theorem PIAt.same {K : PySem.W.Frag} {C : Cl5} {H H' : Hp} {v : V} (s : Same H H') : ∀ {i : PI}, PIAt K C H v i → PIAt K C H' v i
  | .good t, h => ⟨PtAt.kpo (KpO.same s) t h.1, h.2⟩
  | .bad, h => by
    rcases h with h | ⟨a, xs, bs, h1, h2, h3, h4, h5⟩ | ⟨t, h1, h2⟩
    · exact .inl h
    · exact .inr (.inl ⟨a, xs, bs, h1, s _ _ h2, h3, Paired.mapP h4 fun x b q => let ⟨t, q1, q2, q3⟩ := q; ⟨t, TyX.sm q1 s, q2, fun a e => let ⟨o, z⟩ := q3 a e; ⟨o, s _ _ z⟩⟩, h5⟩)
    · exact .inr (.inr ⟨t, TyX.sm h1 s, h2⟩)
def firstBad : Nat → List PI → Option Nat
  | _, [] => none
  | n, .bad :: _ => some n
  | n, .good _ :: r => firstBad (n + 1) r
def partsOf : List PI → List Tr
  | [] => []
  | .good t :: r => t :: partsOf r
  | .bad :: r => partsOf r
def treeDue (n : V) (pis : List PI) : Option V :=
  if nameV n = false then some (.str "form") else match firstBad 0 pis with
    | some i => some (.int ((i : Nat) : Int))
    | none => if 400 < 1 + sizes (partsOf pis) ∨ 100 < levelss (partsOf pis) + 1 then some (.str "size") else none
theorem good_all {K : PySem.W.Frag} {C : Cl5} {H : Hp} : ∀ {xs : List V} {pis : List PI} {n : Nat}, Paired (PIAt K C H) xs pis → firstBad n pis = none → PtsAt C H xs (partsOf pis) ∧ (∀ t ∈ partsOf pis, okP t = true ∧ rowB t ≤ 1000 ∧ okTx t) ∧ (partsOf pis).length = pis.length
  | _, _, _, .nil, _ => ⟨True.intro, (fun t h => nomatch h), rfl⟩
  | _, .bad :: _, _, .cons _ _, h => nomatch h
  | _, .good t :: _, _, .cons a r, h => by
    obtain ⟨h1, h2, h3⟩ := good_all r h
    refine ⟨⟨a.1, h1⟩, fun u hu => ?_, congrArg (· + 1) h3⟩
    rcases List.mem_cons.mp hu with q | q
    · rw [q]; exact a.2
    · exact h2 u q
/-! parts do not look at an instance that has nothing yet -/
theorem KidsAt.kx {H H' : Hp} {x dx A : Addr} {gs : List (Str × V)} (hx : H x = some (.ins A dx gs)) (e : SameX x H H') : ∀ {xs : List V} {ps : List Tr} {cs : List V}, KidsAt H xs ps cs → KidsAt H' xs ps cs
  | [], [], _, h => h
  | v :: xs, .row ts :: ps, cs, h => by
    obtain ⟨a, ys, r, h1, h2, h3, h4, h5⟩ := h
    exact ⟨a, ys, r, h1, e _ _ (fun q => by rw [q, hx] at h2; cases h2) h2, h3, h4, KidsAt.kx hx e h5⟩
  | v :: xs, .tx _ :: ps, cs, h => by obtain ⟨r, h1, h2⟩ := h; exact ⟨r, h1, KidsAt.kx hx e h2⟩
  | v :: xs, .vr _ _ :: ps, cs, h => by obtain ⟨r, h1, h2⟩ := h; exact ⟨r, h1, KidsAt.kx hx e h2⟩
  | v :: xs, .nd _ _ _ :: ps, cs, h => by obtain ⟨r, h1, h2⟩ := h; exact ⟨r, h1, KidsAt.kx hx e h2⟩
  | [], _ :: _, _, h => False.elim (by cases ‹Tr› <;> exact h)
  | _ :: _, [], _, h => False.elim h
mutual
theorem PtAt.kx {C : Cl5} {H H' : Hp} {x dx A : Addr} (hx : H x = some (.ins A dx [])) (e : SameX x H H') : ∀ {v : V} (t : Tr), PtAt C H v t → PtAt C H' v t
  | _, .tx _, h => h
  | _, .row ts, h => by
    obtain ⟨a, xs, h1, h2, h3⟩ := h
    exact ⟨a, xs, h1, e _ _ (fun q => by rw [q, hx] at h2; cases h2) h2, PtsAt.kx hx e ts h3⟩
  | _, .vr k n, h => by
    obtain ⟨y, dy, fs, h1, h2, h3, h4⟩ := h
    exact ⟨y, dy, fs, h1, e _ _ (fun q => by rw [q, hx] at h2; cases h2; cases h3) h2, h3, h4⟩
  | _, .nd lk f ps, h => by
    obtain ⟨y, dy, fs, pa, xs, h1, h2, h3, h4, h5, h6, h7, h8, h9, h10⟩ := h
    exact ⟨y, dy, fs, pa, xs, h1, e _ _ (fun q => by rw [q, hx] at h2; cases h2; cases h3) h2, h3, h4, e _ _ (fun q => by rw [q, hx] at h5; cases h5) h5, PtsAt.kx hx e ps h6, h7, h8, h9, fun z => let ⟨ca, cs, k1, k2, k3⟩ := h10 z; ⟨ca, cs, k1, e _ _ (fun q => by rw [q, hx] at k2; cases k2) k2, k3.kx hx e⟩⟩
theorem PtsAt.kx {C : Cl5} {H H' : Hp} {x dx A : Addr} (hx : H x = some (.ins A dx [])) (e : SameX x H H') : ∀ {xs : List V} (ts : List Tr), PtsAt C H xs ts → PtsAt C H' xs ts
  | [], [], h => h
  | v :: xs, t :: ts, h => ⟨PtAt.kx hx e t h.1, PtsAt.kx hx e ts h.2⟩
  | [], _ :: _, h => False.elim h
  | _ :: _, [], h => False.elim h
end
theorem at1 : ¬ ("form" : Str) = "parts" ∧ ¬ ("form" : Str) = "children" ∧ ¬ ("form" : Str) = "size" ∧ ¬ ("form" : Str) = "levels" ∧ ¬ ("form" : Str) = "text" := by decide +kernel
theorem at2 : ¬ ("parts" : Str) = "children" ∧ ¬ ("parts" : Str) = "size" ∧ ¬ ("parts" : Str) = "levels" ∧ ¬ ("parts" : Str) = "text" := by decide +kernel
theorem at3 : ¬ ("children" : Str) = "size" ∧ ¬ ("children" : Str) = "levels" ∧ ¬ ("children" : Str) = "text" := by decide +kernel
theorem at4 : ¬ ("size" : Str) = "levels" ∧ ¬ ("size" : Str) = "text" ∧ ¬ ("levels" : Str) = "text" := by decide +kernel
/-- its parts are just these values -/
def HasP (H : Hp) (x : Addr) (xs : List V) : Prop := ∃ A dx fs pa, H x = some (.ins A dx fs) ∧ fs.lookup ("parts" : Str) = some (.ref pa) ∧ H pa = some (.tup xs) ∧ fs.lookup ("each_path" : Str) = none ∧ fs.lookup ("put" : Str) = none
theorem HasP.kpo {H H' : Hp} {x : Addr} {xs : List V} (e : KpO H H') (h : HasP H x xs) : HasP H' x xs := by
  obtain ⟨A, dx, fs, pa, h1, h2, h3, h4⟩ := h
  exact ⟨A, dx, fs, pa, e _ _ rfl h1, h2, e _ _ rfl h3, h4⟩
theorem at6 : ¬ ("each_path" : Str) = "form" ∧ ¬ ("each_path" : Str) = "parts" ∧ ¬ ("each_path" : Str) = "children" ∧ ¬ ("each_path" : Str) = "size" ∧ ¬ ("each_path" : Str) = "levels" ∧ ¬ ("each_path" : Str) = "text" := by decide +kernel
theorem at7 : ¬ ("put" : Str) = "form" ∧ ¬ ("put" : Str) = "parts" ∧ ¬ ("put" : Str) = "children" ∧ ¬ ("put" : Str) = "size" ∧ ¬ ("put" : Str) = "levels" ∧ ¬ ("put" : Str) = "text" := by decide +kernel
def NTI : List Str := ["self", "form", "parts", "spot", "part", "children", "size", "levels"]
theorem scTreeInit : FnScope NTI ["self", "form", "parts"] (defScope sTreeInit) := ⟨rfl, rfl, rfl, by decide +kernel, rfl, by decide +kernel, by decide +kernel⟩
section
variable {P : Program} {w : World} {K : PySem.W.Frag} {mg : Str → Option Value} {base : Heap}
def spTreeInit (K : PySem.W.Frag) (C : Cl5) (CI : Addr) : Sp := fun vs H Q E => ∃ (x dx p : Addr) (n : V) (xs : List V) (pis : List PI), vs = [.ref x, n, .ref p] ∧ H x = some (.ins C.T dx []) ∧ H p = some (.tup xs) ∧ Val K H n ∧ Paired (PIAt K C H) xs pis ∧ pis.length ≤ 1000 ∧ joinB (partsOf pis) ≤ 16000000 ∧
  (match treeDue n pis with
   | some u => ∀ H' dd, Same H H' → H dd = none → H' dd = some (.xd [("part", u)]) → E (.ref CI) (some dd) H'
   | none => ∀ H' z, n = .str z → SameX x H H' → PtAt C H' (.ref x) (.nd false z (partsOf pis)) → HasP H' x xs → Q .non H')
structure TxtI (P : Program) (w : World) (K : PySem.W.Frag) (mg : Str → Option Value) (base : Heap) (C : Cl5) (CI fN fP fA fM fX : Addr) (fdN fdP fdA fdM fdX : FuncData) : Prop where
  er : ErrF P K mg CI
  enu : mg "enumerate" = none
  gT : mg "Tree" = some (.ref C.T)
  mx : ∃ mc t1 t2, ClX.CRead K C.T mc ∧ ClX.CVal K C.T mc "MAX_NODES" (.int 400) (.int 400 t1) ∧ ClX.CVal K C.T mc "MAX_LEVELS" (.int 100) (.int 100 t2)
  GN : FnOk P w K mg base CX0 1 fN fdN ["value"] (spName K)
  gN : mg "is_name" = some (.ref fN)
  kN : PySem.W.keepIn K (.ref fN) = true
  bN : Binds K fdN ["value"] []
  GP : FnOk P w K mg base CX0 1 fP fdP ["part"] (spTreePart K C)
  gP : mg "_is_tree_part" = some (.ref fP)
  kP : PySem.W.keepIn K (.ref fP) = true
  bP : Binds K fdP ["part"] []
  GA : FnOk P w K mg base CX0 2 fA fdA ["parts"] (spNodes C)
  gA : mg "nodes_among" = some (.ref fA)
  kA : PySem.W.keepIn K (.ref fA) = true
  bA : Binds K fdA ["parts"] []
  GM : FnOk P w K mg base CX0 1 fM fdM ["nodes"] (spMeasures C)
  gM : mg "_measures_above" = some (.ref fM)
  kM : PySem.W.keepIn K (.ref fM) = true
  bM : Binds K fdM ["nodes"] []
  GX : FnOk P w K mg base CX0 3 fX fdX ["form", "parts"] (spNodeText C)
  gX : mg "_node_text" = some (.ref fX)
  kX : PySem.W.keepIn K (.ref fX) = true
  bX : Binds K fdX ["form", "parts"] []
theorem body_treeInit {C : Cl5} {CI fN fP fA fM fX : Addr} {fdN fdP fdA fdM fdX : FuncData} (T : TxtI P w K mg base C CI fN fP fA fM fX fdN fdP fdA fdM fdX) (T5 : Ty5 K C) (N5 : Na5 K C)
    {f : Addr} {cdv : Value} {A : Around} {outer : List Env} {s : Shared} {H : Hp} {vs : List V} {Q : VK} {E : XK} (hr : Room 3 (A.deeper (PyProof.Rows.envOfC "Tree.__init__" (defScope sTreeInit) s.heap.objs.size f cdv))) (h : spTreeInit K C CI vs H Q E) :
    ∃ t, PSs (cxOf (L2.CX P w) P w K mg base NTI "Tree.__init__" (defScope sTreeInit) f cdv A outer s H E) (defBody sTreeInit) t ∧ t { nx := fun _ H' => Q .non H', rt := Q } (L2.start NTI vs) H := by
  obtain ⟨x, dx, p, n, xs, pis, rfl, hx, hp0, hn, hp, hl, hj, k⟩ := h
  have hr2 : Room 2 _ := hr.mono (by decide)
  have hr1 : Room 1 _ := hr.mono (by decide)
  obtain ⟨mc, t1, t2, cr, cv1, cv2⟩ := T.mx
  have tkE : Takes (cxOf (L2.CX P w) P w K mg base NTI "Tree.__init__" (defScope sTreeInit) f cdv A outer s H E) (fun cls dd _ H => E cls dd H) := takes_of rfl rfl rfl rfl
  refine ⟨_, pss_cons (ps_if (pt_not (pt_val (pe_call T.GN hr1 (by rfl) T.gN T.kN T.bN .nil pass0 (pa_cons (pv 1) pa_nil)))) (pss_one (ps_raise rfl tkE (pmk_form T.er hr2 rfl pe_str))) pss_nil)
    (pss_cons (ps_for (passes_of rfl) rfl (pi_enumT rfl T.enu (pa_cons (pv 2) pa_nil)) (pg_tup (by rfl) (pgs_cons (pg_name (i := 3) scTreeInit.nd rfl (.inl rfl)) (pgs_cons (pg_name (i := 4) scTreeInit.nd rfl (.inl rfl)) pgs_nil)))
      (pss_one (ps_if (pt_not (pt_val (pe_call T.GP hr1 (by rfl) T.gP T.kP T.bP .nil pass0 (pa_cons (pv 4) pa_nil)))) (pss_one (ps_raise rfl tkE (pmk_form T.er hr2 rfl (pv 3)))) pss_nil)))
    (pss_cons (ps_set (i := 5) scTreeInit.nd rfl (Or.inl rfl) (pe_call T.GA hr2 (by rfl) T.gA T.kA T.bA .nil pass0 (pa_cons (pv 2) pa_nil)))
    (pss_cons (ps_asg (pe_call T.GM hr1 (by rfl) T.gM T.kM T.bM .nil pass0 (pa_cons (pv 5) pa_nil)) (pg_tup (by rfl) (pgs_cons (pg_name (i := 6) scTreeInit.nd rfl (.inl rfl)) (pgs_cons (pg_name (i := 7) scTreeInit.nd rfl (.inl rfl)) pgs_nil))))
    (pss_cons (ps_if (PW.pt (pw_or (pt_cmpR op_gt (pv 6) (ClX.pe_cval (pe_glob (v := .ref C.T) rfl T.gT rfl)) (nomark _)) (pw_or1 (pt_cmpR op_gt (pv 7) (ClX.pe_cval (pe_glob (v := .ref C.T) rfl T.gT rfl)) (nomark _))))) (pss_one (ps_raise rfl tkE (pmk_form T.er hr2 rfl pe_str))) pss_nil)
    (pss_cons (ps_fld (pv 0) (pv 1) rfl) (pss_cons (ps_fld (pv 0) (pv 2) rfl) (pss_cons (ps_fld (pv 0) (pv 5) rfl) (pss_cons (ps_fld (pv 0) (pv 6) rfl) (pss_cons (ps_fld (pv 0) (pv 7) rfl)
    (pss_one (ps_fld (pv 0) (pe_call T.GX hr (by rfl) T.gX T.kX T.bX .nil pass0 (pa_cons (pv 1) (pa_cons (pv 2) pa_nil))) rfl))))))))))), ?_⟩
  have bad : ∀ (u : V) (H1 : Hp), treeDue n pis = some u → Same H H1 → ∀ dd, H1 dd = none → E (.ref CI) (some dd) (upd H1 dd (.xd [("part", u)])) := fun u H1 e s1 dd hdd => by
    rw [e] at k
    exact k _ dd (same_upd s1 (s1.free hdd)) (s1.free hdd) upd_same
  refine ⟨_, rfl, n, rfl, hn, fun H1 s1 => ⟨_, rfl, ?_⟩⟩
  cases hnv : nameV n with
  | false =>
    refine iteT ?_
    exact raise_ans fun dd hdd => bad _ _ (by unfold treeDue; rw [if_pos hnv]) s1 dd hdd
  | true =>
    refine iteF ?_
    obtain ⟨z, rfl⟩ : ∃ z, n = .str z := by
      cases n with
      | str z => exact ⟨z, rfl⟩
      | _ => cases hnv
    have e0 : treeDue (.str z) pis = match firstBad 0 pis with
      | some i => some (.int ((i : Nat) : Int))
      | none => if 400 < 1 + sizes (partsOf pis) ∨ 100 < levelss (partsOf pis) + 1 then some (.str "size") else none := by
      unfold treeDue
      rw [if_neg (by rw [hnv]; exact Bool.noConfusion)]
    refine ⟨_, rfl, p, xs, rfl, SqT.of (s1 _ _ hp0), for_it walk_enumT (fun i σ H' => ∃ v3 v4 : Option V, σ = [some (.ref x), some (.str z), some (.ref p), v3, v4, none, none, none] ∧ Same H H' ∧ firstBad 0 pis = firstBad i (pis.drop i))
      ⟨_, _, rfl, s1, rfl⟩ (fun i σ H' _ ⟨_, _, _, s', _⟩ => SqT.of (s' _ _ hp0)) ?_ ?_⟩
    · rintro i vv σ H2 H3 hi ⟨v3, v4, rfl, s2, fb⟩ ⟨Tp, y, u, rfl, hT, rfl, ey, ez⟩
      have ey : some (V.int (i : Nat)) = some y := ey
      cases ey
      have ez : xs[i]? = some u := ez
      obtain ⟨it, eit, hit⟩ := LiI.paired_get hp ez
      have hil : i < pis.length := (List.getElem?_eq_some_iff.mp eit).1
      have hdrop : pis.drop i = it :: pis.drop (i + 1) := by
        rw [List.drop_eq_getElem_cons hil]
        rw [List.getElem?_eq_getElem hil] at eit
        rw [Option.some.inj eit]
      have s3 : Same H (upd H2 Tp (.tup [.int (i : Nat), u])) := same_upd s2 (s2.free hT)
      refine ⟨Tp, _, rfl, .inl (.inl upd_same), rfl, _, _, rfl, ?_⟩
      refine ⟨_, _, rfl, rfl, ?_⟩
      have hit3 := hit.same s3
      generalize upd H2 Tp (.tup [.int (i : Nat), u]) = H3 at s3 hit3 ⊢
      cases it with
      | good t =>
        refine ⟨_, rfl, u, rfl, .inl ⟨t, hit3.1, hit3.2.2.1, fun H4 s4 => ⟨_, rfl, ?_⟩⟩⟩
        rw [hit3.2.1]
        refine iteF ?_
        exact ⟨_, _, rfl, s3.trans s4, by rw [fb, hdrop]; rfl⟩
      | bad =>
        refine ⟨_, rfl, u, rfl, .inr ⟨hit3, fun H4 s4 => ⟨_, rfl, ?_⟩⟩⟩
        refine iteT ?_
        refine ⟨_, rfl, ?_⟩
        exact raise_ans fun dd hdd => bad _ _ (by rw [e0, fb, hdrop]; rfl) (s3.trans s4) dd hdd
    · rintro σ H2 ⟨v3, v4, rfl, s2, fb⟩
      have xl := hp.length
      rw [xl, List.drop_length] at fb
      have fb : firstBad 0 pis = none := fb
      rw [fb] at e0
      dsimp only at e0
      obtain ⟨pts, okp, pl⟩ := good_all hp fb
      have hok : ∀ t ∈ partsOf pis, okP t = true := fun t ht => (okp t ht).1
      obtain ⟨b1, b2, b3⟩ := below_ok hok
      generalize partsOf pis = ps at e0 pts okp pl hok b1 b2 b3 hj k ⊢
      have pts2 := PtsAt.kpo (KpO.same s2) ps pts
      refine ⟨_, rfl, p, xs, ps, rfl, s2 _ _ hp0, pts2, by omega, fun t ht => by
        have q := (okp t ht).2.1
        cases t with
        | row ts => exact q
        | _ => exact Nat.zero_le _, fun H3 ca cs s3 nca hca kids bl => ?_⟩
      refine ⟨_, rfl, ca, cs, below ps, rfl, hca, bl, b3, fun H4 tp s4 ntp htp => ?_⟩
      refine ⟨tp, _, rfl, .inl (.inl htp), rfl, _, _, rfl, ?_⟩
      refine ⟨_, _, rfl, rfl, ?_⟩
      rw [b1, b2]
      have s34 := s2.trans s3
      have s04 := s34.trans s4
      refine ⟨_, rfl, C.T, mc, _, _, rfl, cr, cv1, _, _, rfl, rfl, _, rfl, ?_⟩
      refine ite2 (fun h1 => ?_) (fun h1 => ?_)
      · have h1 := of_decide_eq_true h1
        refine iteT ?_
        exact raise_ans fun dd hdd => bad _ _ (by rw [e0, if_pos (.inl (by omega))]) s04 dd hdd
      have h1 : ¬ (400 : Int) < ((1 + sizes ps : Nat) : Int) := fun q => h1 (decide_eq_true q)
      refine ⟨_, rfl, C.T, mc, _, _, rfl, cr, cv2, _, _, rfl, rfl, _, rfl, ?_⟩
      refine ite2 (fun h2 => ?_) (fun h2 => ?_)
      · have h2 := of_decide_eq_true h2
        exact raise_ans fun dd hdd => bad _ _ (by rw [e0, if_pos (.inr (by omega))]) s04 dd hdd
      have h2 : ¬ (100 : Int) < ((levelss ps + 1 : Nat) : Int) := fun q => h2 (decide_eq_true q)
      have e1 : treeDue (.str z) pis = none := by rw [e0, if_neg (fun q => q.elim (fun q => h1 (by omega)) (fun q => h2 (by omega)))]
      rw [e1] at k
      have k : ∀ H' z', V.str z = .str z' → SameX x H H' → PtAt C H' (.ref x) (.nd false z' ps) → HasP H' x xs → Q .non H' := k
      have mT : C.T ∈ C.all := C.n_mem false
      have cl := (T5.own _ mT).cl
      have hx4 := s04 _ _ hx
      have zl : z.length ≤ 20 := by
        have q : nameS z = true := hnv
        unfold nameS at q
        simp only [Bool.and_eq_true, decide_eq_true_eq] at q
        exact q.1.1.2
      refine ⟨_, rfl, _, rfl, x, C.T, dx, _, rfl, hx4, cl, N5.na _ mT _ (by decide +kernel), (by show 0 < 1000; decide), ?_⟩
      refine ⟨_, rfl, _, rfl, x, C.T, dx, _, rfl, upd_same, cl, N5.na _ mT _ (by decide +kernel), (by show 1 < 1000; decide), ?_⟩
      rw [upd_upd]
      refine ⟨_, rfl, _, rfl, x, C.T, dx, _, rfl, upd_same, cl, N5.na _ mT _ (by decide +kernel), (by show 2 < 1000; decide), ?_⟩
      rw [upd_upd]
      refine ⟨_, rfl, _, rfl, x, C.T, dx, _, rfl, upd_same, cl, N5.na _ mT _ (by decide +kernel), (by show 3 < 1000; decide), ?_⟩
      rw [upd_upd]
      refine ⟨_, rfl, _, rfl, x, C.T, dx, _, rfl, upd_same, cl, N5.na _ mT _ (by decide +kernel), (by show 4 < 1000; decide), ?_⟩
      rw [upd_upd]
      generalize eF : putF "levels" (V.int ((levelss ps + 1 : Nat) : Int)) _ = F5
      generalize e5 : upd H4 x (.ins C.T dx F5) = H5
      have X5 : SameX x H4 H5 := by rw [← e5]; exact SameX.upd
      have hx5 : H5 x = some (.ins C.T dx F5) := by rw [← e5, upd_same]
      have pts4 := PtsAt.kpo (KpO.same (s3.trans s4)) ps pts2
      have pts5 := PtsAt.kx hx4 X5 ps pts4
      have np : p ≠ x := fun q => by rw [q, hx] at hp0; cases hp0
      have nc : ca ≠ x := fun q => by rw [q, s34 _ _ hx] at hca; cases hca
      have hp5 := X5 _ _ np (s04 _ _ hp0)
      have hc5 := X5 _ _ nc (s4 _ _ hca)
      have kd5 := (KidsAt.kpo (KpO.same s4) kids).kx hx4 X5
      clear e5
      refine ⟨_, rfl, _, rfl, z, p, xs, ps, rfl, hp5, pts5, fun t ht => (okp t ht).2.2, by omega, hj, by omega, fun H6 s6 => ?_⟩
      refine ⟨_, rfl, x, C.T, dx, _, rfl, s6 _ _ hx5, cl, N5.na _ mT _ (by decide +kernel), ?_, ?_⟩
      · rw [← eF]
        show 5 < 1000
        decide
      have X6 : SameX x H5 (upd H6 x (.ins C.T dx (putF "text" (.str (z ++ "(" ++ Txt.join ", " (saids ps) ++ ")")) F5))) := SameX.trans (Same.x s6) SameX.upd
      have XX : SameX x H (upd H6 x (.ins C.T dx (putF "text" (.str (z ++ "(" ++ Txt.join ", " (saids ps) ++ ")")) F5))) := SameX.trans (Same.x s04) (SameX.trans X5 X6)
      have hpa : (putF "text" (.str (z ++ "(" ++ Txt.join ", " (saids ps) ++ ")")) F5).lookup ("parts" : Str) = some (.ref p) := by
        rw [lk_put3 at2.2.2.2, ← eF, lk_put3 at2.2.2.1, lk_put3 at2.2.1, lk_put3 at2.1, lk_put1]
      refine k _ z rfl XX ⟨x, dx, _, p, xs, rfl, upd_same, ?_, hpa, XX _ _ np hp0, PtsAt.kx hx XX ps pts, ?_, ?_, lk_put1, fun _ => ⟨ca, cs, ?_, X6 _ _ nc hc5, ?_⟩⟩ ⟨_, _, _, p, upd_same, hpa, XX _ _ np hp0, ?_, ?_⟩
      · rw [lk_put3 at1.2.2.2.2, ← eF, lk_put3 at1.2.2.2.1, lk_put3 at1.2.2.1, lk_put3 at1.2.1, lk_put3 at1.1, lk_put1]
      · rw [lk_put3 at4.2.1, ← eF, lk_put3 at4.1, lk_put1]
      · rw [lk_put3 at4.2.2, ← eF, lk_put1]
      · rw [lk_put3 at3.2.2, ← eF, lk_put3 at3.2.1, lk_put3 at3.1, lk_put1]
      · exact kd5.kx hx5 X6
      · rw [lk_put3 at6.2.2.2.2.2, ← eF, lk_put3 at6.2.2.2.2.1, lk_put3 at6.2.2.2.1, lk_put3 at6.2.2.1, lk_put3 at6.2.1, lk_put3 at6.1]
        rfl
      · rw [lk_put3 at7.2.2.2.2.2, ← eF, lk_put3 at7.2.2.2.2.1, lk_put3 at7.2.2.2.1, lk_put3 at7.2.2.1, lk_put3 at7.2.1, lk_put3 at7.1]
        rfl
end
end K3

namespace K3
open PySem L2 E0
def TreeRes (C : Cl5) (CI : Addr) (n : V) (xs : List V) (pis : List PI) (E : XK) (H : Hp) (Q : VK) : Prop := match treeDue n pis with
  | some u => ∀ H' dd, Same H H' → H dd = none → H' dd = some (.xd [("part", u)]) → E (.ref CI) (some dd) H'
  | none => ∀ H' x z, n = .str z → Same H H' → H x = none → PtAt C H' (.ref x) (.nd false z (partsOf pis)) → HasP H' x xs → Q (.ref x) H'
section
variable {P : Program} {w : World} {K : PySem.W.Frag} {mg : Str → Option Value} {base : Heap}
def spTreeNew (K : PySem.W.Frag) (C : Cl5) (CI : Addr) : Sp := fun vs H Q E => ∃ ws rest, vs = ws ++ rest ∧ ws.length = ([("self" : Str), ("form" : Str)] : List Str).length ∧ rest.length ≤ sizeLine ∧ ∀ p, H p = none → spTreeInit K C CI (ws ++ [V.ref p]) (upd H p (.tup rest)) Q E
theorem treeInit_fnR {C : Cl5} {CI fN fP fA fM fX f : Addr} {fd fdN fdP fdA fdM fdX : FuncData} (F : Fun K "__init__" "Tree.__init__" sTreeInit f fd) (T : TxtI P w K mg base C CI fN fP fA fM fX fdN fdP fdA fdM fdX) (T5 : Ty5 K C) (N5 : Na5 K C) : FnR P w K mg base (L2.CX P w) 4 f (spTreeNew K C CI) := by
  obtain ⟨oc, od, kV, doc, pm, an, cdv, ct, osl, rfl, lk, hcd⟩ := F.ex
  refine StX.fn_star (N := NTI) (ps := ["self", "form"]) (pv := "parts") lk hcd scTreeInit StX.cxUp ?_ fun A outer s H vs Q E hr h => body_treeInit T T5 N5 hr h
  intro us rest hl
  match us, hl with
  | [a, b], _ => cases rest <;> rfl
theorem tree_made {C : Cl5} {CI : Addr} {n : V} {xs : List V} {pis : List PI} {H : Hp} {Q : VK} {E : XK} (hn : Val K H n) (hp : Paired (PIAt K C H) xs pis) (hl : pis.length ≤ 1000) (hj : joinB (partsOf pis) ≤ 16000000) (k : TreeRes C CI n xs pis E H Q) {x dx : Addr} (nx : H x = none) (ndx : H dx = none) (ne : dx ≠ x) :
    spTreeNew K C CI (.ref x :: n :: xs) (upd (upd H dx (.own x)) x (.ins C.T dx [])) (fun v H2 => v = .non ∧ Q (.ref x) H2) E := by
  refine ⟨[.ref x, n], xs, rfl, rfl, by rw [hp.length]; exact Nat.le_trans hl (by decide), fun p np => ?_⟩
  have s1 : Same H (upd (upd H dx (.own x)) x (.ins C.T dx [])) := fun b o e => by
    rw [upd_ne (ne_of_none e nx), upd_ne (ne_of_none e ndx)]
    exact e
  have hx1 : (upd (upd H dx (.own x)) x (.ins C.T dx [])) x = some (.ins C.T dx []) := upd_same
  have s2 : Same H (upd (upd (upd H dx (.own x)) x (.ins C.T dx [])) p (.tup xs)) := same_upd s1 (s1.free np)
  have hx2 : (upd (upd (upd H dx (.own x)) x (.ins C.T dx [])) p (.tup xs)) x = some (.ins C.T dx []) := by rw [upd_ne (ne_of_none hx1 np)]; exact hx1
  refine ⟨x, dx, p, n, xs, pis, rfl, hx2, upd_same, hn.same s2, Paired.mapP hp fun a b q => q.same s2, hl, hj, ?_⟩
  unfold TreeRes at k
  cases e : treeDue n pis with
  | some u =>
    rw [e] at k
    exact fun H' dd s' nd hd => k H' dd (s2.trans s') (s2.free nd) hd
  | none =>
    rw [e] at k
    exact fun H' z ez sX at_ hpp => ⟨rfl, k H' x z ez (fun b o q => sX b o (ne_of_none q nx) (s2 b o q)) nx at_ hpp⟩
/-! ### ==: by the texts -/
def spTreeEq (K : PySem.W.Frag) (C : Cl5) : Sp := fun vs H Q _ => ∃ (v y : V) (t : Tr), vs = [v, y] ∧ PtAt C H v t ∧ isT t = true ∧
  ((∃ u, PtAt C H y u ∧ isT u = true ∧ Q (.bl (decide (said t = said u))) H) ∨ (∃ ty, TyX K H y ty ∧ PySem.W.kitOne K ty (.ref C.T) = some false ∧ Q (.bl false) H))
theorem scTreeEq : FnScope ["self", "other"] ["self", "other"] (defScope sTreeEq) := ⟨rfl, rfl, rfl, by decide +kernel, rfl, by decide +kernel, by decide +kernel⟩
theorem isT_text {t : Tr} (h : isT t = true) : hasText t = true := by
  match t, h with
  | .nd false _ _, _ => rfl
theorem ok_treeEq {C : Cl5} {f : Addr} {fd : FuncData} (F : Fun K "__eq__" "Tree.__eq__" sTreeEq f fd) (T : TxtT mg C) (T5 : Ty5 K C) (N5 : Na5 K C) : FnOk P w K mg base CX0 1 f fd ["self", "other"] (spTreeEq K C) := by
  refine F.ok scTreeEq (fun vs H Q E h => ?_) (fun cdv A outer s H vs Q E hr h => ?_)
  · obtain ⟨v, y, t, rfl, _⟩ := h
    rfl
  · obtain ⟨v, y, t, rfl, hv, ht, q⟩ := h
    refine ⟨_, pss_one (ps_ret (pe_and (pe_callB call_isi (by rfl) T.isi PyProof.Rows.boot_isinstance (pa_cons (pv 1) (pa_cons (pe_glob (v := .ref C.T) rfl T.gT rfl) pa_nil))) (pe_one (pe_cmpR op_eq (pe_fld (pv 0) rfl) (pe_fld (pv 1) rfl) (nomark _))))), ?_⟩
    rcases q with ⟨u, hu, hut, q⟩ | ⟨ty, hty, hk, q⟩
    · obtain ⟨x, A1, dx, fs, rfl, e2, e3, e4⟩ := text_of (K := K) hv (isT_text ht)
      obtain ⟨x2, A2, dx2, gs, rfl, g2, g3, g4⟩ := text_of (K := K) hu (isT_text hut)
      have hkT := kit_T T5 u
      rw [hut] at hkT
      refine ⟨_, rfl, _, _, _, _, true, rfl, .own C.T, PtAt.ty T5 hu, hkT, _, rfl, ?_⟩
      refine iteT ?_
      refine ⟨_, rfl, x, A1, dx, fs, _, rfl, e2, (T5.own _ e3).cl, N5.na _ e3 _ (by decide +kernel), e4, _, rfl, x2, A2, dx2, gs, _, rfl, g2, (T5.own _ g3).cl, N5.na _ g3 _ (by decide +kernel), g4, rfl, ?_⟩
      have e : decide (V.str (said t) = V.str (said u)) = decide (said t = said u) := decide_eq_decide.mpr ⟨fun q => V.str.inj q, fun q => by rw [q]⟩
      rw [e]
      exact q
    · refine ⟨_, rfl, _, _, _, _, false, rfl, .own C.T, hty, hk, _, rfl, ?_⟩
      exact iteF q
end
end K3

namespace K3
open PySem L2
theorem dpStrs {K : PySem.W.Frag} {H : Hp} : ∀ l : List Str, DpAll K H (l.map V.str) (l.map PyData.str)
  | [] => .nil
  | i :: l => .cons (.str i) (dpStrs l)
theorem shStrs (l : List Str) (h : ∀ x ∈ l, PyData.strOk x = true) : SeqAt.shaped (.list (l.map PyData.str)) = true := by
  have h1 : ∀ l : List Str, (∀ x ∈ l, PyData.strOk x = true) → PyData.canLayAll0 (l.map PyData.str) = true := fun l => by
    induction l with
    | nil => intro _; rfl
    | cons i l ih =>
      intro h
      simp [PyData.canLayAll0, PyData.canLay0, ih (fun x hx => h x (List.mem_cons_of_mem _ hx)), h i (List.mem_cons_self ..)]
  have h2 : ∀ l : List Str, PyData.depthAll (l.map PyData.str) = 0 := fun l => by
    induction l with
    | nil => rfl
    | cons i l ih => simp [PyData.depthAll, PyData.depth, ih]
  simp [SeqAt.shaped, PyData.canLay0, PyData.depth, h1 l h, h2]
theorem eqvNilS (l : List Str) : PyData.eqv (.list (l.map PyData.str)) (.list []) = l.isEmpty := by
  cases l <;> rfl
def sgn (c : Nat) : Str := ⟨#[c]⟩
theorem filt_all (l : List Nat) : ((l.filter fun c => !inS SIG c).map sgn).isEmpty = l.all (inS SIG) := by
  induction l with
  | nil => rfl
  | cons a l ih =>
    cases h : inS SIG a <;> simp [h, List.filter_cons] at ih ⊢
    exact ih
theorem str_ext {a b : Str} (h : a.cps.toList = b.cps.toList) : a = b := by
  cases a; cases b; simp at h; subst h; rfl
theorem len_toList (z : Str) : z.length = z.cps.toList.length := by simp [Str.length]
theorem mem_same {a b : Str} (h1 : (a.cps.toList.all fun x => decide (x ∈ b.cps.toList)) = true) (h2 : (b.cps.toList.all fun x => decide (x ∈ a.cps.toList)) = true) (c : Nat) : inS a c = inS b c := by
  have e : c ∈ a.cps.toList ↔ c ∈ b.cps.toList := by
    rw [List.all_eq_true] at h1 h2
    exact ⟨fun h => of_decide_eq_true (h1 c h), fun h => of_decide_eq_true (h2 c h)⟩
  unfold inS
  exact decide_eq_decide.mpr e
theorem let_same (c : Nat) : inS LLET c = inS LET c := mem_same (by decide +kernel) (by decide +kernel) c
def LSIG : Str := LLET ++ DIG
theorem sig_same (c : Nat) : inS LSIG c = inS SIG c := mem_same (by decide +kernel) (by decide +kernel) c
theorem ok_iff {z : Str} : PyData.strOk z = true ↔ ∀ c ∈ z.cps.toList, c < 0x110000 := by
  unfold PyData.strOk
  rw [← Array.all_toList, List.all_eq_true]
  simp
section
variable {P : Program} {w : World} {K : PySem.W.Frag} {mg : Str → Option Value} {base : Heap}
theorem scLName : FnScope ["_law_thing", "_law_letters", "_law_sign"] ["_law_thing"] (defScope sIsName) := ⟨rfl, rfl, rfl, by decide +kernel, rfl, by decide +kernel, by decide +kernel⟩
theorem ok_lName {f : Addr} {fd : FuncData} (F : Fun K "_law_is_name" "_law_is_name" sIsName f fd) (T : TxtN mg) : FnOk P w K mg base CX0 1 f fd ["_law_thing"] (spName K) := by
  refine F.ok scLName (fun vs H Q E h => ?_) (fun cdv A outer s H vs Q E hr h => ?_)
  · obtain ⟨v, rfl, _⟩ := h
    rfl
  · obtain ⟨v, rfl, hv, k⟩ := h
    refine ⟨_, pss_cons (ps_set (i := 1) scLName.nd rfl (Or.inr rfl) pe_str)
      (pss_cons (ps_if (PW.pt (pw_or (pt_not (pt_val (pe_callB call_isi (by rfl) T.isi PyProof.Rows.boot_isinstance (pa_cons (pv 0) (pa_cons (pe_bltn (v := .ty "str") rfl T.str PyProof.Rows.boot_str rfl) pa_nil)))))
          (pw_or (pt_cmpR op_eq (pv 0) pe_str (nomark _)) (pw_or (pt_cmpR op_gt (pe_callB call_len (by rfl) T.len PySem.boot_len (pa_cons (pv 0) pa_nil)) pe_int (nomark _))
            (pw_or1 (pt_cmpR op_notIn_sign (pe_ix ix_str (pv 0) pe_int (fun _ _ => rfl)) (pv 1) (by rfl)))))))
        (pss_one (ps_ret pe_bl)) pss_nil)
      (pss_one (ps_ret (pe_cmpR (op_eqD hr.units) (pe_lc (own := [("_law_sign", 2)]) (g := gName 2) (tt := tTest _) rfl scLName.nd (pi_str (pv 0)) (blkOk_by (N := ["_law_thing", "_law_letters", "_law_sign"]) (sc := defScope sIsName) (by decide +kernel))
          (fun _ _ _ _ _ => pg_name (i := 2) scLName.nd rfl (Or.inl rfl)) (fun _ _ _ _ _ => pts_one (pt_cmpR op_notIn_sign (pv 2) (pe_op op_add_str (pv 1) pe_str) (by rfl))) (fun _ _ _ _ _ => pv 2)) (pe_lst pa_nil) (nomark _))))), ?_⟩
    rcases hv with ⟨z, rfl, hz, ho⟩ | hv
    · refine ⟨_, rfl, _, _, _, _, true, rfl, .ty "str", .base (.str z), kit_ty (by decide +kernel), _, rfl, ?_⟩
      refine iteF ?_
      have no : nameS z = false → Q (.bl false) H := fun e => by
        have q := k H (Same.refl H)
        change Q (V.bl (nameS z)) H at q
        rw [e] at q
        exact q
      have hz' : z.length ≤ sizeLine := Nat.le_trans hz (by decide)
      have eL := len_toList z
      -- thing == ""
      refine ⟨_, rfl, rfl, _, rfl, ?_⟩
      refine ite2 (fun h => ?_) (fun h => ?_)
      · have e : z = "" := V.str.inj (of_decide_eq_true h)
        refine iteT (no ?_)
        rw [e]
        decide +kernel
      · have ne : ¬ z = "" := fun e => h (decide_eq_true (by rw [e]))
        obtain ⟨c, l, ec⟩ : ∃ c l, z.cps.toList = c :: l := by
          cases q : z.cps.toList with
          | nil => exact absurd (str_ext (q.trans (by decide +kernel))) ne
          | cons c l => exact ⟨c, l, rfl⟩
        have h1' : 1 ≤ z.length := by rw [eL, ec]; simp
        refine ⟨_, rfl, _, z.length, rfl, ⟨hz', rfl⟩, _, _, rfl, rfl, _, rfl, ?_⟩
        refine ite2 (fun h2 => ?_) (fun h2 => ?_)
        · refine iteT (no ?_)
          have : ¬ z.length ≤ 20 := by have := of_decide_eq_true h2; omega
          unfold nameS
          rw [decide_eq_false this]
          simp
        · have h2' : z.length ≤ 20 := by
            have : ¬ (20 : Int) < z.length := fun q => h2 (decide_eq_true q)
            omega
          have en : nameS z = (inS LET c && z.cps.toList.all (inS SIG)) := by
            unfold nameS
            rw [decide_eq_true h1', decide_eq_true h2', ec]
            rfl
          refine ⟨_, rfl, z, 0, c, rfl, rfl, hz', (atI_nat (j := 0) (by rw [ec]; rfl) : atI z.cps.toList ((0 : Nat) : Int) = some c), _, rfl, c, LLET, rfl, rfl, _, rfl, ?_⟩
          have el : decide (c ∈ LLET.cps.toList) = inS LET c := let_same c
          rw [el]
          cases h3 : inS LET c with
          | false =>
            refine iteT (no ?_)
            rw [en, h3]
            rfl
          | true =>
            refine iteF ?_
            refine ⟨_, rfl, z, rfl, fun D hD => lc_it walk_str (fun i H' => Same H H' ∧ H' D = some (.lst ((((z.cps.toList.take i).filter fun c => !inS SIG c).map sgn).map V.str))) ⟨same_upd (Same.refl H) hD, by rw [upd_same]; rfl⟩ (fun _ _ _ _ => True.intro) ?_ ?_⟩
            · rintro i x H1 H2 hi ⟨s1, e1⟩ ⟨rfl, y, hy, rfl⟩
              have hy' : z.cps.toList[i]? = some y := by simpa using hy
              refine ⟨rfl, ?_⟩
              refine ⟨_, rfl, _, rfl, _, _, rfl, rfl, (by decide +kernel), y, LSIG, rfl, rfl, _, rfl, ?_⟩
              have eg : decide (y ∈ LSIG.cps.toList) = inS SIG y := sig_same y
              rw [eg]
              have et : z.cps.toList.take (i + 1) = z.cps.toList.take i ++ [y] := by rw [List.take_add_one, hy']; rfl
              rw [et, List.filter_append, List.map_append, List.map_append]
              cases h4 : inS SIG y with
              | false =>
                refine iteT ?_
                refine ⟨_, rfl, _, e1, ?_, same_upd s1 hD, ?_⟩
                · rw [List.length_map, List.length_map]
                  refine Nat.lt_of_le_of_lt (List.length_filter_le _ _) (Nat.lt_of_le_of_lt (List.length_take_le _ _) ?_)
                  have : i < z.length := by rw [eL]; simpa using hi
                  exact Nat.lt_of_lt_of_le this hz'
                · rw [upd_same]
                  simp [h4, sgn]
              | true =>
                refine iteF ?_
                refine ⟨s1, ?_⟩
                rw [e1]
                simp [h4]
            · rintro H1 ⟨s1, e1⟩
              rw [show z.cps.size = z.cps.toList.length by simp, List.take_length] at e1
              refine ⟨by decide, fun l hl => ?_⟩
              have e2 : (upd H1 l (.lst [])) D = some (.lst (((z.cps.toList.filter fun c => !inS SIG c).map sgn).map V.str)) := by rw [upd_ne (ne_of_none e1 hl)]; exact e1
              refine ⟨_, _, .lst (SqL.of e2) (dpStrs _), .lst (xs := []) (SqL.of upd_same) .nil, shStrs _ (fun x hx => ?_), (by decide), ?_⟩
              · obtain ⟨c, hc, rfl⟩ := List.mem_map.mp hx
                have hc' := ok_iff.mp ho c (List.mem_filter.mp hc).1
                rw [ok_iff]
                intro d hd
                have e : d = c := by simpa [sgn] using hd
                rw [e]
                exact hc'
              rw [eqvNilS, filt_all]
              have q := k (upd H1 l (.lst [])) (same_upd s1 (s1.free hl))
              change Q (V.bl (nameS z)) _ at q
              rw [en, h3] at q
              exact q
    · obtain ⟨t, ht, hk⟩ := hv.2.2
      refine ⟨_, rfl, _, _, _, _, false, rfl, .ty "str", ht, hk, _, rfl, ?_⟩
      refine iteT (iteT ?_)
      have q := k H (Same.refl H)
      rw [hv.nameV] at q
      exact q
end
end K3

namespace K3
open PySem L2 E0
open LamX (ExtN Tabs TabS TabB)
section
variable {P : Program} {w : World} {K : PySem.W.Frag} {mg : Str → Option Value} {base : Heap}
def spDoubled : Sp := fun vs H Q _ => ∃ k : Nat, k < 2 ∧ vs = [.int (k : Int)] ∧ ∀ H' p xs, Same H H' → H p = none → H' p = some (if k = 0 then .tup xs else .lst xs) → (k = 0 → ∃ q ys, xs = [.ref q, .ref q] ∧ H' q = some (.tup ys)) → Q (.ref p) H'
theorem scDoubled : FnScope ["_law_kind_of", "_law_found", "_law_n"] ["_law_kind_of"] (defScope sDoubled) := ⟨rfl, rfl, rfl, by decide +kernel, rfl, by decide +kernel, by decide +kernel⟩
theorem ok_doubled {f : Addr} {fd : FuncData} (F : Fun K "_law_doubled" "_law_doubled" sDoubled f fd) (gR : mg "range" = none) : FnOk P w K mg base CX0 1 f fd ["_law_kind_of"] spDoubled := by
  refine F.ok scDoubled (fun vs H Q E h => ?_) (fun cdv A outer s H vs Q E hr h => ?_)
  · obtain ⟨k, _, rfl, _⟩ := h
    rfl
  · obtain ⟨k, hk, rfl, q⟩ := h
    refine ⟨_, pss_cons (ps_set (i := 1) scDoubled.nd rfl (Or.inl rfl) (pe_tup pa_nil))
      (pss_cons (ps_for PassesOwn.never rfl (pi_range1 rfl gR (pa_cons pe_int pa_nil)) (pg_name (i := 2) scDoubled.nd rfl (Or.inl rfl))
        (pss_one (ps_set (i := 1) scDoubled.nd rfl (Or.inl rfl) (pe_ix ix_list (pe_lst (pa_cons (pe_tup (pa_cons (pv 1) (pa_cons (pv 1) pa_nil))) (pa_cons (pe_lst (pa_cons (pv 1) (pa_cons (pv 1) pa_nil))) pa_nil))) (pv 0) (fun _ _ => rfl)))))
      (pss_one (ps_ret (pv 1)))), ?_⟩
    refine ⟨by decide, fun p0 hp0 => ?_⟩
    refine ⟨40, rfl, by decide, by decide, for_range (n := 40) (fun i σ H' => ∃ (v2 : Option V) (p : Addr), σ = [some (.int (k : Int)), some (.ref p), v2] ∧ Same H H' ∧ H p = none ∧ (k = 0 → ∃ ys, H' p = some (.tup ys)) ∧ (0 < i → ∃ xs, H' p = some (if k = 0 then .tup xs else .lst xs) ∧ (k = 0 → ∃ q ys, xs = [.ref q, .ref q] ∧ H' q = some (.tup ys))))
      ⟨_, p0, rfl, same_upd (Same.refl H) hp0, hp0, fun _ => ⟨_, upd_same⟩, fun h => by omega⟩ ?_ ?_⟩
    · rintro i σ H1 hi ⟨v2, p, rfl, s1, hp, h0, hx⟩
      refine ⟨_, rfl, _, rfl, (by show 2 ≤ sizeLine; decide), fun t ht => ?_⟩
      refine ⟨_, rfl, _, rfl, (by show 2 ≤ sizeLine; decide), fun l hl => ?_⟩
      refine ⟨by show 2 ≤ sizeLine; decide, fun r hr' => ?_⟩
      generalize eH4 : upd (upd (upd H1 t (.tup [.ref p, .ref p])) l (.lst [.ref p, .ref p])) r (.lst [.ref t, .ref l]) = H4
      have a1 : (upd H1 t (.tup [.ref p, .ref p])) t = some (.tup [.ref p, .ref p]) := upd_same
      have a2 : (upd (upd H1 t (.tup [.ref p, .ref p])) l (.lst [.ref p, .ref p])) t = some (.tup [.ref p, .ref p]) := by rw [upd_ne (ne_of_none a1 hl)]; exact a1
      have a3 : H4 t = some (.tup [.ref p, .ref p]) := by rw [← eH4, upd_ne (ne_of_none a2 hr')]; exact a2
      have b2 : (upd (upd H1 t (.tup [.ref p, .ref p])) l (.lst [.ref p, .ref p])) l = some (.lst [.ref p, .ref p]) := upd_same
      have b3 : H4 l = some (.lst [.ref p, .ref p]) := by rw [← eH4, upd_ne (ne_of_none b2 hr')]; exact b2
      have c3 : H4 r = some (.lst [.ref t, .ref l]) := by rw [← eH4, upd_same]
      have s2 : Same H1 (upd H1 t (.tup [.ref p, .ref p])) := same_upd (Same.refl H1) ht
      have s3 : Same H1 (upd (upd H1 t (.tup [.ref p, .ref p])) l (.lst [.ref p, .ref p])) := same_upd s2 (s2.free hl)
      have s4 : Same H1 H4 := by rw [← eH4]; exact same_upd s3 (s3.free hr')
      have nt : H t = none := s1.free ht
      have nl : H l = none := s1.free (s2.free hl)
      match k, hk with
      | 0, _ =>
        refine ⟨_, rfl, r, _, _, .ref t, rfl, rfl, SqL.of c3, atI_nat (j := 0) rfl, ?_⟩
        exact ⟨_, t, rfl, s1.trans s4, nt, fun _ => ⟨_, a3⟩, fun _ => ⟨_, a3, fun _ => let ⟨ys, hy⟩ := h0 rfl; ⟨p, ys, rfl, s4 _ _ hy⟩⟩⟩
      | 1, _ =>
        refine ⟨_, rfl, r, _, _, .ref l, rfl, rfl, SqL.of c3, atI_nat (j := 1) rfl, ?_⟩
        exact ⟨_, l, rfl, s1.trans s4, nl, fun z => (nomatch z), fun _ => ⟨_, b3, fun z => (nomatch z)⟩⟩
    · rintro σ H1 ⟨v2, p, rfl, s1, hp, _, hx⟩
      obtain ⟨xs, e, e2⟩ := hx (by decide)
      exact ⟨_, rfl, q _ p xs s1 hp e e2⟩
end

end K3

namespace K3
open PySem L2 E0
open LamX (ExtN Tabs TabS TabB LamS lamS_by lamSB)
/-! ### what _law_fault makes of a call -/
def TFault (CI : Addr) : (XK → Hp → VK → Prop) → Hp → VK → Prop := fun tl H Q => ∀ (E' : XK) (Q' : VK),
  (∀ (dd : Addr) (v : V) (H' : Hp), H' dd = some (.xd [("part", v)]) → (∀ H'' p, Same H' H'' → H' p = none → H'' p = some (.tup [.str "wrong", v]) → Q (.ref p) H'') → E' (.ref CI) (some dd) H') →
  (∀ v H', (∀ H'' p, Same H' H'' → H' p = none → H'' p = some (.tup []) → Q (.ref p) H'') → Q' v H') → tl E' H Q'
theorem scFault : FnScope ["_law_call", "_law_error", "e"] ["_law_call"] (defScope sFault) := ⟨rfl, rfl, rfl, by decide +kernel, rfl, by decide +kernel, by decide +kernel⟩
theorem fault_gives {X : Cx} {g CS CI : Addr} {cdg : Value} {q : Str} (hS : X.mg "RuleengineError" = some (.ref CS)) (hI : X.mg "InvalidTree" = some (.ref CI)) (hi : X.mg "isinstance" = none) (L : ExcL X.K CI) (nf : PySem.W.findIn X.K (.ref CI) "part" = some none)
    (hx : PySem.W.exmOne X.K (.ref CI) (.ref CS) = some true) (hk : PySem.W.kitOne X.K (.ref CI) (.ref CI) = some true) :
    LamX.GivesTo X ["_law_call", "_law_error", "e"] "_law_fault" (defScope sFault) g cdg (defBody sFault) "_law_call" q (TFault CI) := by
  intro f c' s H Q tl act hc h
  refine ⟨_, pss_cons (ps_set (i := 1) scFault.nd rfl (Or.inl rfl) pe_non)
    (pss_cons (ps_try_keep (i := 2) (j := 1) (c := .ref CS) (tb := fun W D σ H => ∃ Ech : XK, (∀ cls d σ' H', Ech cls d H' → W cls d σ' H') ∧ σ[0]? = some (some (.ref f)) ∧ H c' = some (LamX.CodeO c' q) ∧ tl Ech H (fun _ H' => D.nx σ H'))
        rfl rfl rfl scFault.nd rfl rfl rfl rfl (by decide) (Or.inr rfl) ⟨rfl, by decide, .inl hS⟩ (fun W pn xe tk _ => ?_) (by decide) (by decide) rfl)
    (pss_cons (ps_if (pt_cmpR op_isN (pv 1) pe_non (nomark _)) (pss_one (ps_ret (pe_tup pa_nil))) pss_nil)
    (pss_one (ps_ret (pe_ifExp (pt_val (pe_callB call_isK (by rfl) hi PyProof.Rows.boot_isinstance (pa_cons (pv 1) (pa_cons (pe_glob (v := .ref CI) rfl hI rfl) pa_nil)))) (pe_tup (pa_cons pe_str (pa_cons (pe_exk (pv 1)) pa_nil))) (pe_tup (pa_cons pe_str (pa_cons pe_non pa_nil)))))))), ?_⟩
  · refine ⟨fun pins s' σ H' D I h' => ?_⟩
    obtain ⟨Ech, hW, h1, h2, h3⟩ := h'
    exact (pss_one (ps_expr (act W pn xe Ech _ _ tk hW))).run pins s' σ H' D I ⟨h1, h2, h3⟩
  · have hKI : X.mg "InvalidTree" = some (.ref CI) := hI
    refine ⟨fun cls d H' => cls = .ref CI ∧ ∃ (dd : Addr) (v : V), d = some dd ∧ H' dd = some (.xd [("part", v)]) ∧ ∀ H'' p, Same H' H'' → H' p = none → H'' p = some (.tup [.str "wrong", v]) → Q (.ref p) H'', ?_, rfl, hc, ?_⟩
    · rintro cls d σ' H' ⟨rfl, dd, v, rfl, hd, k⟩
      refine ⟨hx, fun a na hlen => ?_⟩
      have hlen : σ'.length = 3 := hlen
      obtain ⟨s0, s1, s2, rfl⟩ : ∃ s0 s1 s2, σ' = [s0, s1, s2] := by
        match σ', hlen with
        | [s0, s1, s2], _ => exact ⟨s0, s1, s2, rfl⟩
      have nda : dd ≠ a := ne_of_none hd na
      have hd' : (upd H' a (ExK (.ref CI) (some dd) a)) dd = some (.xd [("part", v)]) := by rw [upd_ne nda]; exact hd
      refine ⟨_, rfl, rfl, _, rfl, ?_⟩
      refine iteF ?_
      refine ⟨_, rfl, a, CI, CI, dd, _, true, rfl, upd_same, hd', L, hk, _, rfl, ?_⟩
      refine iteT ?_
      refine ⟨_, rfl, a, CI, dd, _, v, rfl, upd_same, hd', L, nf, by simp [List.lookup], (by show 2 ≤ sizeLine; decide), fun p hp => ?_⟩
      have npa : p ≠ a := fun e => by
        rw [e, upd_same] at hp
        cases hp
      refine k _ p (same_upd (same_upd (Same.refl H') na) ?_) ?_ upd_same
      · rw [upd_ne npa] at hp
        exact hp
      · rw [upd_ne npa] at hp
        exact hp
    · refine h _ _ (fun dd v H' hd k => ⟨rfl, dd, v, rfl, hd, k⟩) (fun v H' k => ?_)
      refine ⟨_, rfl, rfl, _, rfl, ?_⟩
      refine iteT ?_
      exact ⟨by decide, fun p hp => k _ p (same_upd (Same.refl H') hp) hp upd_same⟩
/-- what a call of _law_fault asks of the text -/
structure TxtA (K : PySem.W.Frag) (mg : Str → Option Value) (CI CS fA : Addr) (fdA : FuncData) : Prop where
  F : Fun K "_law_fault" "_law_fault" sFault fA fdA
  b : Binds K fdA ["_law_call"] []
  g : mg "_law_fault" = some (.ref fA)
  gS : mg "RuleengineError" = some (.ref CS)
  gI : mg "InvalidTree" = some (.ref CI)
  isi : mg "isinstance" = none
  L : ExcL K CI
  nf : PySem.W.findIn K (.ref CI) "part" = some none
  hx : PySem.W.exmOne K (.ref CI) (.ref CS) = some true
  hk : PySem.W.kitOne K (.ref CI) (.ref CI) = some true
theorem pe_fault {X : Cx} {T : List (Addr × Str)} {CI CS fA c Pt : Addr} {fdA : FuncData} {k : Nat} {params : Arguments} {body : Expr} {scope : Scope} {t : XK → TE} {p lpos pos : Pos} (A : TxtA X.K X.mg CI CS fA fdA) (hg : Gl X "_law_fault")
    (TB : TabB X.base X.mg c Pt) (hcode : X.env.code = .ref c) (hmT : (Pt, X.env.qual ++ "<lambda>") ∈ T) (hu : ∀ p ∈ T, p.1 = Pt → p.2 = X.env.qual ++ "<lambda>") (hr : Room (k + 2) X.A) (L : LamS X.env.scope scope) (hdef : defaultsOf params X.env = ([], []))
    (hbind : ∀ (q : Str) (cl : List (Str × Addr)) (pm cv ctv : Value), bindArgs (PySem.W.kla_fn "<lambda>" q params body scope cl pm cv ctv) ⟨[], []⟩ = pure [])
    (hbody : ∀ (A : Around) (outer : List Env) (s : Shared) (H : Hp) (E : XK) (f c' : Addr), Room k (A.deeper (LamX.lamEnv X scope s.heap.objs.size f c')) → PE (LamX.lamCx X A outer s H E scope f c') body (t E)) :
    PE X (.Call (.Name "_law_fault" p) [.Lambda params body scope lpos] [] pos) (LamX.tLam T (TFault CI) t) := by
  obtain ⟨oc, od, kV, doc, pm, an, cdv, ct, osl, e, lk, hcd⟩ := A.F.ex
  subst e
  exact LamX.pe_lamcall (a := "_law_call") (Ng := ["_law_call", "_law_error", "e"]) hg A.g A.F.kp lk hcd A.b scFault rfl (Or.inl rfl) (fault_gives A.gS A.gI A.isi A.L A.nf A.hx A.hk) TB hcode hmT hu hr L hdef hbind hbody
end K3

namespace K3
open PySem PySem.Spec PyProof.Rows L2
open LamX (ExtN Tabs TabS TabB CodeO lamEnv lamCx codeO_ne)
open PySem.W (CodeHd tabObj)
/-! ### a lambda with one default that is a whole number, and with captured names -/
abbrev dfFn (q : Str) (params : Arguments) (body : Expr) (scope : Scope) (cl : List (Str × Addr)) (dV pm cdv ct : Value) : FuncData := { PySem.W.kla_fn "<lambda>" q params body scope cl pm cdv ct with defaults := dV }
abbrev dfObj (q : Str) (params : Arguments) (body : Expr) (scope : Scope) (cl : List (Str × Addr)) (dV pm cdv ct : Value) : Obj := { cls := .type "function", data := .func (dfFn q params body scope cl dV pm cdv ct) }
section
variable {M : Model} {A : Around} {E : Value → Shared → Prop} {s : Shared} {q : Str} {params : Arguments} {body : Expr} {scope : Scope} {env : Env} {c P : Addr} {ps : Array Value} {pos : Pos} {ln : Nat} {mg : Str → Option Value} {dV : Value} {Q : Value → Shared → Prop} {cl : List (Str × Addr)}
theorem tail_new (hcl : closureFor scope env = pure cl) (hge : env.globals = mainGlobals) (hg : s.heap.Ns mainGlobals mg) (hcode : env.code = .ref c) (C : CodeHd s.heap c P) (hP : s.heap.get? P = some (tabObj ps)) (ht : TriplesOk ps.toList) (hnf : codeAmong pos ps.toList = none) (hgP : mainGlobals ≠ P)
    (hb : s.heap.BuiltinsAt mg P)
    (h : ∀ c' ctv h' tk, Heap.ExtBut P s.heap h' → s.heap.objs.size ≤ c' → c' < h'.objs.size → h'.CodeRec (.ref c') q → h'.get? P = some (tabObj (ps ++ #[rawInt pos.line, rawInt pos.col, .ref c'])) →
      Q (.ref h'.objs.size) { s with heap := h'.push (dfObj q params body scope cl dV ((mg "__name__").getD .none) (.ref c') ctv), toks := tk }) :
    wpAny M A (makeTail "<lambda>" q params (.expr body) scope env dV .none none pos ln) Q E s := by
  obtain ⟨bm, ob, b1, b2, _, b3, b4, b5, b6, b7⟩ := hb
  unfold makeTail
  rw [hcl, hge]
  refine wpAny_bind (wpAny_pure ?_)
  cases cl with
  | nil =>
    simp only [List.isEmpty_nil, if_true]
    refine wpAny_bind (wpAny_pure ?_)
    refine wpAny_bind (wpAny_functionCodeX hcode (C.code hP ht) (C.tab hP) hnf fun c' h' tk hx h1 h2 _ hrec htb _ => ?_)
    have hg' := hg.extBut hx hgP
    refine wpAny_bind (wpAny_builtinsFor hg' b1 b2 (hx _ _ b3 b4) b5 b6 b7 ?_)
    refine wpAny_bind (wpAny_nsGet hg' ?_)
    exact wpAny_bind (wpAny_pure (wpAny_newObj_type (h c' .none h' tk hx h1 h2 hrec htb.2) (by size_fits)))
  | cons q r =>
    simp only [List.isEmpty_cons, Bool.false_eq_true, if_false]
    refine wpAny_bind (wpAny_newTextTuple ?_)
    refine wpAny_bind (wpAny_functionCodeX hcode ((C.keeps fun b o e => Heap.get?_push_of_some _ e).code (Heap.get?_push_of_some _ hP) ht) ((C.keeps fun b o e => Heap.get?_push_of_some _ e).tab (Heap.get?_push_of_some _ hP)) hnf fun c' h' tk hx hge hlt _ hrec htb _ => ?_)
    have hg' := (hg.push _).extBut hx hgP
    have hx' : Heap.ExtBut P s.heap h' := fun b o hb' e => hx b o hb' (Heap.get?_push_of_some _ e)
    have hge' : s.heap.objs.size ≤ c' := Nat.le_trans (by rw [Heap.size_push]; omega) hge
    refine wpAny_bind (wpAny_builtinsFor hg' b1 b2 (hx' _ _ b3 b4) b5 b6 b7 ?_)
    refine wpAny_bind (wpAny_nsGet hg' ?_)
    exact wpAny_bind (wpAny_pure (wpAny_newObj_type (h c' _ h' tk hx' hge' hlt hrec htb.2) (by size_fits)))
theorem tail_hit {cv : Value} (hcl : closureFor scope env = pure cl) (hge : env.globals = mainGlobals) (hg : s.heap.Ns mainGlobals mg) (hcode : env.code = .ref c) (C : CodeHd s.heap c P) (hP : s.heap.get? P = some (tabObj ps)) (ht : TriplesOk ps.toList) (hf : codeAmong pos ps.toList = some cv)
    (hb : s.heap.BuiltinsAt mg P)
    (h : ∀ (ctv : Value) (h' : Heap) (tk : Tok), (∀ b o, s.heap.get? b = some o → h'.get? b = some o) → s.heap.objs.size ≤ h'.objs.size →
      Q (.ref h'.objs.size) { s with heap := h'.push (dfObj q params body scope cl dV ((mg "__name__").getD .none) cv ctv), toks := tk }) :
    wpAny M A (makeTail "<lambda>" q params (.expr body) scope env dV .none none pos ln) Q E s := by
  obtain ⟨bm, ob, b1, b2, _, b3, b4, b5, b6, b7⟩ := hb
  unfold makeTail
  rw [hcl, hge]
  refine wpAny_bind (wpAny_pure ?_)
  cases cl with
  | nil =>
    simp only [List.isEmpty_nil, if_true]
    refine wpAny_bind (wpAny_pure ?_)
    refine wpAny_bind (wpAny_functionCode_hit hcode (C.code hP ht) hf ?_)
    refine wpAny_bind (wpAny_builtinsFor hg b1 b2 b4 b5 b6 b7 ?_)
    refine wpAny_bind (wpAny_nsGet hg ?_)
    exact wpAny_bind (wpAny_pure (wpAny_newObj_type (h .none s.heap s.toks (fun _ _ e => e) (Nat.le_refl _)) (by size_fits)))
  | cons q r =>
    simp only [List.isEmpty_cons, Bool.false_eq_true, if_false]
    refine wpAny_bind (wpAny_newTextTuple ?_)
    refine wpAny_bind (wpAny_functionCode_hit hcode ((C.keeps fun b o e => Heap.get?_push_of_some _ e).code (Heap.get?_push_of_some _ hP) ht) hf ?_)
    refine wpAny_bind (wpAny_builtinsFor (hg.push _) b1 b2 (Heap.get?_push_of_some _ b4) b5 b6 b7 ?_)
    refine wpAny_bind (wpAny_nsGet (hg.push _) ?_)
    have hsz : ∀ oT : Obj, s.heap.objs.size ≤ (s.heap.push oT).objs.size := fun oT => by rw [Heap.size_push]; omega
    exact wpAny_bind (wpAny_pure (wpAny_newObj_type (h _ _ s.toks (fun b o e => Heap.get?_push_of_some _ e) (hsz _)) (by size_fits)))
end
section
variable {X : Cx} {pins : List (Addr × Obj)} {σ : L2.St} {H : Hp} {s : Shared}
/-- what stands behind the making -/
structure MadeD (X : Cx) (T : List (Addr × Str)) (params : Arguments) (body : Expr) (scope : Scope) (i : Int) (H H1 : Hp) (f c' T0 : Addr) (pm ctv : Value) (t0 : Tok) (s' : Shared) : Prop where
  ext : ExtN H H1
  tabs : Tabs T H1
  at_ : s'.heap.get? f = some (dfObj (X.env.qual ++ "<lambda>") params body scope (cloFrom X.env.cells scope.names []) (.ref T0) pm (.ref c') ctv)
  fn : H1 f = none
  ff : f ∉ frs X.stack
  tup : s'.heap.get? T0 = some { cls := .type "tuple", data := .seq #[Value.int i t0] }
  tn : H1 T0 = none
  tf : T0 ∉ frs X.stack
  co : H1 c' = some (CodeO c' (X.env.qual ++ "<lambda>"))
theorem nofr (I : L2.Inv X pins σ H s) {f : Addr} (hf : s.heap.objs.size ≤ f) : f ∉ frs X.stack := fun z => by
  rcases List.mem_cons.mp (I.stkSub _ z) with e | e
  · have h1 := I.lt
    rw [← e] at h1
    exact Nat.lt_irrefl _ (Nat.lt_of_lt_of_le h1 hf)
  · exact I.nofs hf e
theorem lamD_make {T : List (Addr × Str)} {c P : Addr} {params : Arguments} {body : Expr} {scope : Scope} {pos pd : Pos} {i : Int} {j : Nat} {E : Value → Shared → Prop} {Q : Value → Shared → Prop} (I : L2.Inv X pins σ H s) (TB : TabB X.base X.mg c P) (hcode : X.env.code = .ref c)
    (hm : (P, X.env.qual ++ "<lambda>") ∈ T) (hu : ∀ p ∈ T, p.1 = P → p.2 = X.env.qual ++ "<lambda>") (hT : Tabs T H) (hdef : defaultsOf params X.env = ([eval (.Constant (.int i) j pd) X.env], [])) (hko : params.kwonlyargs = []) (hfree : ∀ y ∈ scope.names, y.2 = .free → ∃ c, X.env.cells.lookup y.1 = some c)
    (hE : E = X.xe)
    (h : ∀ (f c' T0 : Addr) (pm ctv : Value) (t0 : Tok) (H1 : Hp) (s' : Shared), L2.Inv X pins σ H1 s' → MadeD X T params body scope i H H1 f c' T0 pm ctv t0 s' → Q (.ref f) s') :
    wpAny (model X.prog X.w) X.A (eval (.Lambda params body scope pos) X.env) Q E s := by
  subst hE
  have hcl := closure_ok hfree
  obtain ⟨ps, hP, ht, ha⟩ := hT _ hm
  rw [arm_eval_Lambda, hdef]
  show wpAny _ X.A (do let dv ← evalAll [eval (.Constant (.int i) j pd) X.env]; let kdv ← holding dv (evalAllOpt []); makeFunction "<lambda>" (X.env.qual ++ "<lambda>") params (.expr body) scope X.env dv kdv [] pos pos.line) Q X.xe s
  refine wpAny_bind (wpAny_evalAll_cons (thn ((pe_int (X := X) (i := i)).run pins s σ H (fun v H1 => v = .int i ∧ H1 = H) I ⟨rfl, rfl⟩) fun u s1 ⟨v, H1, I1, r1, q1⟩ => ?_))
  obtain ⟨ev, eH⟩ := q1
  subst ev
  rw [eH] at I1
  obtain ⟨t0, rfl⟩ : ∃ t, u = Value.int i t := r1
  refine wpAny_evalAll_nil (wpAny_bind (wpAny_holding (wpAny_pure ?_)))
  rw [makeFunction_eq]
  simp only [hko, List.zip_nil_left, List.filterMap_nil, List.isEmpty_nil, List.isEmpty_cons, if_true, Bool.false_eq_true, if_false, pure_bind]
  refine wpAny_bind (wpAny_newTextTuple ?_)
  have kp2 : ∀ b o, s1.heap.get? b = some o → (s1.heap.push ({ cls := .type "tuple", data := .seq #[Value.int i t0] } : Obj)).get? b = some o := fun b o e => Heap.get?_push_of_some _ e
  have I2 : L2.Inv X pins σ H { s1 with heap := s1.heap.push ({ cls := .type "tuple", data := .seq #[Value.int i t0] } : Obj) } := I1.kept (t' := s1.toks) kp2
  have tup2 : (s1.heap.push ({ cls := .type "tuple", data := .seq #[Value.int i t0] } : Obj)).get? s1.heap.objs.size = some { cls := .type "tuple", data := .seq #[Value.int i t0] } := Heap.get?_push_size _ rfl
  have tn2 : H s1.heap.objs.size = none := I1.hok.fresh (Nat.le_refl _)
  have tf2 := nofr I1 (Nat.le_refl _)
  generalize eT : s1.heap.objs.size = T0 at tup2 tn2 tf2
  generalize eh : s1.heap.push ({ cls := .type "tuple", data := .seq #[Value.int i t0] } : Obj) = h2 at I2 tup2
  have goal2 : wpAny (model X.prog X.w) X.A (makeTail "<lambda>" (X.env.qual ++ "<lambda>") params (.expr body) scope X.env (.ref T0) .none none pos pos.line) Q X.xe { s1 with heap := h2 } := by
    have bP : h2.BuiltinsAt X.mg P := TB.bm.keeps I2.bk
    have hP' : h2.get? P = some { cls := .none, data := .fields ps } := I2.hok P _ hP
    have hg := I2.mod.glob.keeps I2.bk
    cases hc : codeAmong pos ps.toList with
    | none =>
      refine tail_new (s := { s1 with heap := h2 }) (mg := X.mg) (c := c) (P := P) (ps := ps) hcl I2.ok.glob hg hcode (TB.code.keeps I2.bk) hP' ht hc TB.gP bP fun c' ctv h' tk hx hge hlt hrec htb => ?_
      obtain ⟨c2, oc, vs, t, e2, hoc, hd, hv⟩ := hrec
      cases e2
      have hsz : h2.objs.size ≤ h'.objs.size := Nat.le_trans hge (Nat.le_of_lt hlt)
      have nC : H c' = none := I2.hok.fresh hge
      have I3 := LamX.inv_table (t' := tk) (more := #[rawInt pos.line, rawInt pos.col, .ref c']) (h' := h'.push (dfObj (X.env.qual ++ "<lambda>") params body scope (cloFrom X.env.cells scope.names []) (.ref T0) ((X.mg "__name__").getD .none) (.ref c') ctv)) I2 hP
        (fun b o hb e => Heap.get?_push_of_some _ (hx b o hb e)) (Heap.get?_push_of_some _ htb) hge ⟨oc, vs, t, Heap.get?_push_of_some _ hoc, hd, hv⟩
      have hE : ExtN H (upd (upd H P (.tbl (ps ++ #[rawInt pos.line, rawInt pos.col, .ref c']))) c' (CodeO c' (X.env.qual ++ "<lambda>"))) := fun b o e n => by
        rw [upd_ne (ne_of_none e nC), upd_ne (fun z => n ps (Option.some.inj (e.symm.trans (by rw [z]; exact hP))))]
        exact e
      have eL : (ps ++ #[rawInt pos.line, rawInt pos.col, .ref c']).toList = ps.toList ++ [rawInt pos.line, rawInt pos.col, .ref c'] := by simp
      have nPc : P ≠ c' := ne_of_none hP nC
      have nTP : T0 ≠ P := fun z => by rw [z, hP] at tn2; cases tn2
      have nTc : T0 ≠ c' := Nat.ne_of_lt (Nat.lt_of_lt_of_le (Heap.lt_size tup2) hge)
      refine h h'.objs.size c' T0 ((X.mg "__name__").getD .none) ctv t0 _ _ I3 ⟨hE, fun p hp => ?_, Heap.get?_push_size _ rfl, ?_, nofr I2 hsz, Heap.get?_push_of_some _ (hx _ _ nTP tup2), ?_, tf2, upd_same⟩
      · by_cases hb : p.1 = P
        · rw [hu p hp hb, hb]
          refine ⟨_, by rw [upd_ne nPc, upd_same], by rw [eL]; exact PySem.TriplesOk_snoc _ _ _ _ ht, fun p' cv hcv => ?_⟩
          rw [eL] at hcv
          rcases LamX.among_app _ ht hcv with z | z
          · obtain ⟨c0, e1, e2⟩ := ha p' cv z
            exact ⟨c0, e1, hE _ _ e2 codeO_ne⟩
          · exact ⟨c', z, upd_same⟩
        · obtain ⟨ps', a1, a2, a3⟩ := hT p hp
          refine ⟨ps', by rw [upd_ne (ne_of_none a1 nC), upd_ne hb]; exact a1, a2, fun p' cv hcv => ?_⟩
          obtain ⟨c0, e1, e2⟩ := a3 p' cv hcv
          exact ⟨c0, e1, hE _ _ e2 codeO_ne⟩
      · have n1 : h'.objs.size ≠ c' := Nat.ne_of_gt hlt
        have n2 : h'.objs.size ≠ P := Nat.ne_of_gt (Nat.lt_of_lt_of_le (Heap.lt_size hP') hsz)
        rw [upd_ne n1, upd_ne n2]
        exact I2.hok.fresh hsz
      · rw [upd_ne nTc, upd_ne nTP]
        exact tn2
    | some cv =>
      obtain ⟨c', e, hco⟩ := ha pos cv hc
      subst e
      refine tail_hit (s := { s1 with heap := h2 }) (mg := X.mg) (c := c) (P := P) (ps := ps) hcl I2.ok.glob hg hcode (TB.code.keeps I2.bk) hP' ht hc bP fun ctv h' tk hx hsz => ?_
      have I3 : L2.Inv X pins σ H { s1 with heap := h'.push (dfObj (X.env.qual ++ "<lambda>") params body scope (cloFrom X.env.cells scope.names []) (.ref T0) ((X.mg "__name__").getD .none) (.ref c') ctv), toks := tk } := I2.kept (t' := tk) fun b o e => Heap.get?_push_of_some _ (hx b o e)
      exact h h'.objs.size c' T0 ((X.mg "__name__").getD .none) ctv t0 H _ I3 ⟨ExtN.refl H, hT, Heap.get?_push_size _ rfl, I2.hok.fresh hsz, nofr I2 hsz, Heap.get?_push_of_some _ (hx _ _ tup2), tn2, tf2, hco⟩
  exact goal2
end
/-- the lambda's names: its parameter, captured names and globals -/
structure LamD (sc : Scope) (N : List Str) (scope : Scope) (y : Str) : Prop where
  kind : scope.kind = .function
  co : scope.isCoroutine = false
  gen : scope.isGenerator = false
  names : ∀ z ∈ scope.names, (z.2 = .local ∧ z.1 ∉ N) ∨ z.2 = .globalImplicit ∨ (z.2 = .free ∧ (sc.names.lookup z.1 = some .cell ∨ sc.names.lookup z.1 = some .free))
  par : scope.names.lookup y = some .local
def lamDB (sc : Scope) (N : List Str) (scope : Scope) (y : Str) : Bool := decide (scope.kind = .function) && !scope.isCoroutine && !scope.isGenerator && (scope.names.all fun z => (decide (z.2 = .local) && !decide (z.1 ∈ N)) || (decide (z.2 = .globalImplicit) || (decide (z.2 = .free) && (decide (sc.names.lookup z.1 = some .cell) || decide (sc.names.lookup z.1 = some .free))))) && decide (scope.names.lookup y = some .local)
theorem lamD_by {sc : Scope} {N : List Str} {scope : Scope} {y : Str} (h : lamDB sc N scope y = true) : LamD sc N scope y := by
  unfold lamDB at h
  simp only [Bool.and_eq_true, Bool.not_eq_true', decide_eq_true_eq] at h
  obtain ⟨⟨⟨⟨h1, h2⟩, h3⟩, h4⟩, h5⟩ := h
  refine ⟨h1, h2, h3, fun z hz => ?_, h5⟩
  have q := List.all_eq_true.mp h4 z hz
  simp only [Bool.or_eq_true, Bool.and_eq_true, Bool.not_eq_true', decide_eq_true_eq, decide_eq_false_iff_not] at q
  exact q
theorem LamD.noCell {sc : Scope} {N : List Str} {scope : Scope} {y : Str} (L : LamD sc N scope y) {z : Str} (h : scope.names.lookup z = some .cell) : False := by
  rcases L.names _ (PySem.mem_of_lookup h) with ⟨q, _⟩ | q | ⟨q, _⟩ <;> cases q
theorem LamD.has {X : Cx} {N : List Str} {scope : Scope} {y : Str} (L : LamD X.env.scope N scope y) (ok : X.Ok) : ∀ y ∈ scope.names, y.2 = .free → ∃ c, X.env.cells.lookup y.1 = some c := fun z hz e => by
  rcases L.names z hz with ⟨q, _⟩ | q | ⟨_, q⟩
  · rw [e] at q; cases q
  · rw [e] at q; cases q
  · exact ok.has _ q
section
variable {X : Cx} {pins : List (Addr × Obj)} {σ : L2.St} {H HZ : Hp} {s s1 : Shared}
theorem lamD_start {A : Around} {outer : List Env} {E : XK} {scope : Scope} {y : Str} {bs : List (Str × Value)} {f c' : Addr} {h₁ : Heap} {tk : Nat} (I : L2.Inv X pins σ H s) (L : LamD X.env.scope X.N scope y) (e0 : Env0 X.prog X.w X.K X.mg X.base A outer s1 HZ) (hd : A.handled = none)
    (un : Un (frs X.stack) [] H HZ s.heap s1.heap) (hns : h₁.Ns s1.heap.objs.size fun z => bs.reverse.lookup z) (kp : ∀ b o, s1.heap.get? b = some o → h₁.get? b = some o) :
    L2.Inv (lamCx X A outer s1 HZ E scope f c') [] σ HZ { s1 with heap := h₁, toks := tk } := by
  have hfree := L.has I.ok
  have cm : ∀ {y c}, (cloFrom X.env.cells scope.names []).lookup y = some c → X.env.cells.lookup y = some c := fun {y c} e => by
    rcases cloFrom_mem (PySem.mem_of_lookup e) with hm | ⟨h1, h2⟩
    · cases hm
    · obtain ⟨c1, hc⟩ := hfree _ h1 rfl
      have hc : X.env.cells.lookup y = some c1 := hc
      have e2 : c = c1 := by
        rw [h2, hc] <;> rfl
      rw [e2]
      exact hc
  have look : ∀ {y}, scope.names.lookup y = some .free → ∃ c, (cloFrom X.env.cells scope.names []).lookup y = some c := fun {y} hl => by
    have hy : (y, NameKind.free) ∈ scope.names := PySem.mem_of_lookup hl
    exact mem_lookup (cloFrom_has (cells := X.env.cells) (acc := []) hy)
  have cellK : ∀ {c : Addr} {v : Option Value}, H c = none → s.heap.IsCell c v → h₁.IsCell c v := fun {c v} n ⟨o, ho, hd⟩ => by
    obtain ⟨sl, q⟩ := un.any ho n (by simp)
    exact ⟨_, kp _ _ q, hd⟩
  have noA : ∀ b : Addr, b ∉ (lamCx X A outer s1 HZ E scope f c').ex := fun b z => absurd (show b ∈ ([] : List Addr) from z) (by simp)
  refine ⟨⟨e0.mod, L.kind, rfl, rfl, Nat.le_refl _, fun y z c e1 e2 => I.ok.inj y z c (cm e1) (cm e2), fun y hy => ?_, fun y c z _ => ?_, fun _ => hd, Around.frames_deeper e0.frames, .inr ⟨rfl, rfl⟩, fun b z => absurd z (noA b), e0.bs, e0.bsz, fun b _ _ => noA b,
      fun b z => absurd z (noA b), e0.funs, e0.frf⟩,
    rfl, e0.bare, Un.kept kp, ⟨_, hns, fun i y v e1 e2 e3 => ?_⟩, fun y c e => ?_, e0.hok.fresh (Nat.le_refl _), fun y c e => ?_, fun q hq => absurd (show q ∈ ([] : List (Addr × Obj)) ++ [] from hq) (by simp), e0.hok.kept kp, I.len⟩
  · have hy : scope.names.lookup y = some .cell ∨ scope.names.lookup y = some .free := hy
    rcases hy with hy | hy
    · exact (L.noCell hy).elim
    · exact look hy
  · have z : false = true := z
    cases z
  · have e3 : Vis scope y := e3
    rcases e3 with k | k | k
    · exfalso
      rcases L.names _ (PySem.mem_of_lookup k) with ⟨_, q⟩ | q | ⟨q, _⟩
      · exact q (List.mem_of_getElem? (show X.N[i]? = some y from e1))
      · cases q
      · cases q
    · exact (L.noCell k).elim
    · obtain ⟨m, hn, hl⟩ := I.loc
      have kk : X.env.scope.names.lookup y = some .cell ∨ X.env.scope.names.lookup y = some .free := by
        rcases L.names _ (PySem.mem_of_lookup k) with ⟨q, _⟩ | q | ⟨_, q⟩
        · cases q
        · cases q
        · exact q
      have hvis : Vis X.env.scope y := kk.elim (fun k => .inr (.inl k)) (fun k => .inr (.inr k))
      obtain ⟨w', r, q⟩ := hl i y v e1 e2 hvis
      obtain ⟨c2, h2⟩ := look k
      refine ⟨w', r, .inr ⟨.inr k, c2, h2, ?_⟩⟩
      have c1 := cm h2
      rcases q with ⟨k', _⟩ | ⟨_, c3, e', z⟩
      · have k' : X.env.scope.names.lookup y = some .local := k'
        rcases kk with k2 | k2 <;> rw [k2] at k' <;> cases k'
      · rw [c1] at e'
        cases e'
        exact cellK (I.freeC y _ c1) z
  · obtain ⟨w', z⟩ := I.cell y c (cm e)
    exact ⟨w', cellK (I.freeC y c (cm e)) z⟩
  · obtain ⟨v, o, ho, hd⟩ := I.cell y c (cm e)
    exact un.free c o ho (I.freeC y c (cm e)) (by simp)
/-- x(), in the def that got the lambda -/
theorem pe_actD {CXg : CXT} {Eg : XK} {Ng : List Str} {qg : Str} {sg : Scope} {g f c' T0 : Addr} {cdg pm ctv : Value} {params : Arguments} {body : Expr} {scope : Scope} {k i : Nat} {a y : Str} {n0 : Int} {t0 : Tok} {T : List (Addr × Str)} {H0 : Hp} {pn : List (Addr × Obj)} {xe : Value → Shared → Prop} {W : WX} {E : XK} {tb : TE} {p1 p2 : Pos}
    (I : L2.Inv X pins σ H s) (L : LamD X.env.scope X.N scope y) (MD : MadeD X T params body scope n0 H0 H f c' T0 pm ctv t0 s)
    (hbind : ∀ (q : Str) (cl : List (Str × Addr)) (D : Addr) (pm cv ct : Value) (v : Value), ∃ kk, bindArgs (dfFn q params body scope cl (.ref D) pm cv ct) ⟨[], []⟩ = seqItems? (.ref D) >>= kk ∧ kk (some #[v]) = pure [(y, v)])
    (tk : Takes ((cxOf CXg X.prog X.w X.K X.mg X.base Ng qg sg g cdg X.A X.stack s H Eg).tr pn xe) W) (hW : ∀ cls d σ' H', E cls d H' → W cls d σ' H') (hr : Room (k + 1) (X.A.deeper (envOfC qg sg s.heap.objs.size g cdg)))
    (hbody : ∀ (A : Around) (outer : List Env) (s : Shared) (H : Hp), Room k (A.deeper (lamEnv X scope s.heap.objs.size f c')) → PE (lamCx X A outer s H E scope f c') body tb)
    (hN : Ng[i]? = some a) (hv : Vis sg a) (hd : (a == ("__debug__" : Str)) = false := by decide) (hcd : (a == ("__classdict__" : Str)) = false := by decide) :
    PE ((cxOf CXg X.prog X.w X.K X.mg X.base Ng qg sg g cdg X.A X.stack s H Eg).tr pn xe) (.Call (.Name a p1) [] [] p2) (fun σZ HZ Q => σZ[i]? = some (some (.ref f)) ∧ HZ c' = some (CodeO c' (X.env.qual ++ "<lambda>")) ∧ tb σ HZ Q) := by
  refine ⟨fun pinsZ sZ σZ HZ Q IZ h => ?_⟩
  obtain ⟨hs, hc, ht⟩ := h
  refine wpAny_Call_Name_kw (thn ((pe_var (pos := p1) (i := i) hN hv hd hcd).run pinsZ sZ σZ HZ (fun v H1 => v = .ref f ∧ H1 = HZ) IZ ⟨.ref f, hs, rfl, rfl⟩) fun u s1 ⟨v, H1, I1, r1, q1⟩ => ?_)
  obtain ⟨ev, eH⟩ := q1
  subst ev
  rw [eH] at I1
  obtain rfl : u = Value.ref f := r1
  have of1 := I1.base.keep f _ MD.at_ MD.fn MD.ff (fun z => nomatch (show f ∈ ([] : List Addr) from z))
  have oT1 := I1.base.keep T0 _ MD.tup MD.tn MD.tf (fun z => nomatch (show T0 ∈ ([] : List Addr) from z))
  refine PySem.W.callWith_F0 ⟨_, _, _, _, of1⟩ ?_
  have un : Un (frs X.stack) [] H HZ s.heap s1.heap := I1.base
  obtain ⟨⟨oc, vs, t, hoc, hdc, hvc⟩, _, _⟩ := I1.hok c' _ hc
  have rc : codeAny (model X.prog X.w) (X.A.deeper (envOfC qg sg s.heap.objs.size g cdg)) (.call (.ref f) ⟨[], []⟩) (CR (L2.CX X.prog X.w) (envOfC qg sg s.heap.objs.size g cdg :: X.stack) X.prog X.w HZ s1 Q E) s1 := by
    refine PySem.W.kla_callFunE hr.depth of1 rfl L.co L.gen rfl ⟨c', oc, vs, t, rfl, hoc, hdc, hvc⟩ ?_
    obtain ⟨kk, e1, e2⟩ := hbind (X.env.qual ++ "<lambda>") (cloFrom X.env.cells scope.names []) T0 pm (.ref c') ctv (.int n0 t0)
    refine BindsTo.of_defaults (T := T0) (k := kk) rfl oT1 rfl e1 e2 _ _ _ _ ?_
    refine wpAny_newFunctionEnv (fun z hz q => ?_) (fun z hz => ?_) (fun h₁ hns hsb => ⟨I1.nolimit.fresh _ hsb, ?_⟩) L.kind
    · rcases L.names z hz with ⟨q2, _⟩ | q2 | ⟨q2, _⟩ <;> rw [q2] at q <;> cases q
    · rw [List.mem_singleton.mp hz]
      exact L.par
    · show codeAny _ _ (.expr body (lamEnv X scope s1.heap.objs.size f c')) _ _
      have kp : ∀ b o, s1.heap.get? b = some o → h₁.get? b = some o := fun b o e => hsb.extBut b o (Nat.ne_of_lt (Heap.lt_size e)) (Heap.get?_push_of_some _ e)
      have J : L2.Inv (lamCx X (X.A.deeper (envOfC qg sg s.heap.objs.size g cdg)) (envOfC qg sg s.heap.objs.size g cdg :: X.stack) s1 HZ E scope f c') [] σ HZ { s1 with heap := h₁, toks := s1.toks + ([(y, Value.int n0 t0)] : List (Str × Value)).length } :=
        lamD_start I L I1.env0 hr.hd un hns kp
      refine PySem.W.kla_codeExpr (wpAny_mono ((hbody _ _ s1 HZ (hr.deeper _)).run [] _ _ HZ Q J ht) (fun v s' hq => ?_) fun e s' hq => hq)
      obtain ⟨w', H', J', rv, q⟩ := hq
      exact ⟨w', H', J'.os, J'.bare, J'.base, J'.hok, rv, q⟩
  have hx : Passes (L2.CX X.prog X.w) ((cxOf CXg X.prog X.w X.K X.mg X.base Ng qg sg g cdg X.A X.stack s H Eg).tr pn xe) E := passes_call tk hW
  refine wpAny_call (codeAny_mono rc fun r s' hq => ?_)
  cases r with
  | error e => exact hx pinsZ σZ HZ s1 e s' I1 hq
  | ok fl =>
    cases fl with
    | ret u => exact I1.after hq
    | next => exact False.elim hq
    | brk => exact False.elim hq
    | cont => exact False.elim hq
end
section
variable {X : Cx}
/-- _law_fault(lambda y=n0: body) -/
theorem pe_faultD {T : List (Addr × Str)} {CI CS fA c Pt : Addr} {fdA : FuncData} {k : Nat} {params : Arguments} {body : Expr} {scope : Scope} {t : XK → TE} {y : Str} {n0 : Int} {j : Nat} {p lpos pos pd : Pos} (AA : TxtA X.K X.mg CI CS fA fdA) (hg : Gl X "_law_fault")
    (TB : TabB X.base X.mg c Pt) (hcode : X.env.code = .ref c) (hmT : (Pt, X.env.qual ++ "<lambda>") ∈ T) (hu : ∀ p ∈ T, p.1 = Pt → p.2 = X.env.qual ++ "<lambda>") (hr : Room (k + 2) X.A) (L : LamD X.env.scope X.N scope y) (hdef : defaultsOf params X.env = ([eval (.Constant (.int n0) j pd) X.env], [])) (hko : params.kwonlyargs = [])
    (hbind : ∀ (q : Str) (cl : List (Str × Addr)) (D : Addr) (pm cv ct : Value) (v : Value), ∃ kk, bindArgs (dfFn q params body scope cl (.ref D) pm cv ct) ⟨[], []⟩ = seqItems? (.ref D) >>= kk ∧ kk (some #[v]) = pure [(y, v)])
    (hbody : ∀ (A : Around) (outer : List Env) (s : Shared) (H : Hp) (E : XK) (f c' : Addr), Room k (A.deeper (lamEnv X scope s.heap.objs.size f c')) → PE (lamCx X A outer s H E scope f c') body (t E)) :
    PE X (.Call (.Name "_law_fault" p) [.Lambda params body scope lpos] [] pos) (LamX.tLam T (TFault CI) t) := by
  obtain ⟨oc, od, kV, doc, pm, an, cdv, ct, osl, e, lk, hcg⟩ := AA.F.ex
  subst e
  refine ⟨fun pins s σ H Q I h => ?_⟩
  obtain ⟨hT, h⟩ := h
  refine wpAny_Call_Name_kw (ld_glob I hg AA.g ?_ (by decide))
  refine PySem.W.callWith_K (h₀ := X.base) I.ok.mod.kin AA.F.kp ?_ (by rfl) (by rfl)
  show wpAny _ _ (spliced ((false, eval (.Lambda params body scope lpos) X.env) :: backTo pos (starEach [] X.env))) _ _ s
  refine Calls.spliced_cons (lamD_make I TB hcode hmT hu hT hdef hko (L.has I.ok) rfl fun f c' T0 pm' ctv t0 H1 s' I1 MD => ?_)
  refine Calls.spliced_nil ⟨I1.kIn, ?_⟩
  have rc : codeAny (model X.prog X.w) X.A (.call (.ref fA) ⟨[.ref f], []⟩) (CR C8.CX0 X.stack X.prog X.w H1 s' Q C8.E0) s' := by
    refine LamX.run_ofS (N := ["_law_call", "_law_error", "e"]) (ps := ["_law_call"]) (us := [.ref f]) (vs := [.ref f]) lk hcg scFault hr I1.env0 (AA.b s' [.ref f] I1.kIn rfl) (.cons rfl .nil) rfl fun hr' => ?_
    obtain ⟨t', ht', hq'⟩ := fault_gives (q := X.env.qual ++ "<lambda>") AA.gS AA.gI AA.isi AA.L AA.nf AA.hx AA.hk f c' s' H1 Q (fun E H' Q' => t E σ H' Q')
      (fun W pn xe E p1 p2 tk hW => pe_actD (i := 0) I1 L MD hbind tk hW hr' (fun A outer s H hr2 => hbody A outer s H E f c' hr2) rfl (Or.inl rfl)) MD.co (h H1 MD.ext MD.tabs)
    exact ⟨t', ht'.nox, hq'⟩
  refine wpAny_call (codeAny_mono rc fun r s2 hq => ?_)
  cases r with
  | error e => exact (show False from hq).elim
  | ok fl =>
    cases fl with
    | ret u => exact I1.after hq
    | next => exact False.elim hq
    | brk => exact False.elim hq
    | cont => exact False.elim hq
end
end K3

namespace K3
open PySem PySem.Spec PyProof.Rows PySem.SeqAt L2 E0
/-! ### a list compared with an empty one, whatever it holds; tuples of the same objects -/
section
variable {X : Cx}
def rEqNil : R2 := fun x y H Q => ∃ a b xs, x = .ref a ∧ y = .ref b ∧ H a = some (.lst xs) ∧ H b = some (.lst []) ∧ Q (.bl xs.isEmpty) H
def rNeNil : R2 := fun x y H Q => ∃ a b xs, x = .ref a ∧ y = .ref b ∧ H a = some (.lst xs) ∧ H b = some (.lst []) ∧ Q (.bl (!xs.isEmpty)) H
theorem op_eqNil (hu : X.A.units < cLine) : OpR X (compareOp .Eq) rEqNil := by
  intro pins s σ H x y v u Q I rx ry h
  obtain ⟨a, b, xs, rfl, rfl, ha, hb, q⟩ := h
  obtain rfl : v = Value.ref a := rx
  obtain rfl : u = Value.ref b := ry
  obtain ⟨its, r, pl, _⟩ := I.list (SqL.of ha)
  obtain ⟨its2, r2, pl2, _⟩ := I.list (SqL.of hb)
  cases r2
  cases r with
  | nil => exact eq_listAt (e := fun _ => true) pl.isList pl2.isList rfl hu (fun j h1 _ => nomatch h1) ⟨.bl true, H, I, rfl, q⟩
  | cons r t =>
    refine eq_list_lengthsAt pl.isList pl2.isList (by simp) hu ⟨.bl false, H, I, rfl, q⟩
theorem op_neNil (hu : X.A.units < cLine) : OpR X (compareOp .NotEq) rNeNil := by
  intro pins s σ H x y v u Q I rx ry h
  obtain ⟨a, b, xs, rfl, rfl, ha, hb, q⟩ := h
  obtain rfl : v = Value.ref a := rx
  obtain rfl : u = Value.ref b := ry
  obtain ⟨its, r, pl, _⟩ := I.list (SqL.of ha)
  obtain ⟨its2, r2, pl2, _⟩ := I.list (SqL.of hb)
  cases r2
  show wpAny (model X.prog X.w) X.A (richCompare .NotEq (.ref a) (.ref b)) (EP X pins σ Q) X.xe s
  cases r with
  | nil => exact RcNeAt.lists (e := fun _ => true) pl.isList pl2.isList rfl hu (fun j h1 _ => nomatch h1) _ _ _ _ ⟨.bl false, H, I, rfl, q⟩
  | cons r t => exact RcNeAt.lists_lengths pl.isList pl2.isList (by simp) hu _ _ _ _ ⟨.bl true, H, I, rfl, q⟩
end
theorem TreeRes.same {C : Cl5} {CI : Addr} {n : V} {xs : List V} {pis : List PI} {E : XK} {H H2 : Hp} {Q : VK} (k : TreeRes C CI n xs pis E H Q) (s : Same H H2) : TreeRes C CI n xs pis E H2 Q := by
  unfold TreeRes at k ⊢
  cases e : treeDue n pis with
  | some u =>
    rw [e] at k
    exact fun H' dd s' nd hd => k H' dd (s.trans s') (s.free nd) hd
  | none =>
    rw [e] at k
    exact fun H' x z ez s' nx at_ hpp => k H' x z ez (s.trans s') (s.free nx) at_ hpp
section
variable {P : Program} {w : World} {K : PySem.W.Frag} {mg : Str → Option Value} {base : Heap}
def spNew (K : PySem.W.Frag) (C : Cl5) (CI : Addr) : Sp := fun vs H Q E => ∃ (n : V) (L : Addr) (xs : List V) (pis : List PI), vs = [n, .ref L] ∧ Val K H n ∧ H L = some (.lst xs) ∧ Paired (PIAt K C H) xs pis ∧ pis.length ≤ 9 ∧ joinB (partsOf pis) ≤ 16000000 ∧ TreeRes C CI n xs pis E H Q
theorem scNew : FnScope ["_law_word", "_law_r"] ["_law_word", "_law_r"] (defScope sNew) := ⟨rfl, rfl, rfl, by decide +kernel, rfl, by decide +kernel, by decide +kernel⟩
theorem ok_new {C : Cl5} {CI f fT : Addr} {fd : FuncData} (F : Fun K "_law_new" "_law_new" sNew f fd) (gT : mg "Tree" = some (.ref C.T)) (gLen : mg "len" = none) (MS : Mk K C.T fT) (GI : FnR P w K mg base (L2.CX P w) 4 fT (spTreeNew K C CI)) : FnOk P w K mg base (L2.CX P w) 6 f fd ["_law_word", "_law_r"] (spNew K C CI) := by
  refine F.okX scNew (fun vs H Q E h => ?_) (fun cdv A outer s H vs Q E hr h => ?_)
  · obtain ⟨n, L, xs, pis, rfl, _⟩ := h
    rfl
  · obtain ⟨n, L, xs, pis, rfl, hn, hL, hp, hl, hj, k⟩ := h
    have tkE : Takes (cxOf (L2.CX P w) P w K mg base ["_law_word", "_law_r"] "_law_new" (defScope sNew) f cdv A outer s H E) (fun cls dd _ H => E cls dd H) := takes_of rfl rfl rfl rfl
    have hx := passes_call tkE (E := E) (fun _ _ _ _ q => q)
    have hl' : pis.length ≤ 1000 := by omega
    have hxl : xs.length ≤ 9 := by rw [hp.length]; exact hl
    refine ⟨_, pss_cons (ps_if (pt_cmpR op_lt (pe_callB call_len_seq (by rfl) gLen PySem.boot_len (pa_cons (pv 1) pa_nil)) pe_int (nomark _)) (pss_cons (ps_if (pt_cmpR (op_eqNil hr.units0) (pv 1) (pe_lst pa_nil) (nomark _)) (pss_one (ps_ret (StX.pe_makeR MS GI hr rfl gT hx (pa_cons (pv 0) pa_nil)))) pss_nil) (pss_one (ps_ret (pe_ifExp (pt_cmpR op_eq (pe_callB call_len_seq (by rfl) gLen PySem.boot_len (pa_cons (pv 1) pa_nil)) pe_int (nomark _)) (StX.pe_makeR MS GI hr rfl gT hx (pa_cons (pv 0) (pa_cons (pe_ix ix_list (pv 1) pe_int (fun _ _ => rfl)) pa_nil))) (StX.pe_makeR MS GI hr rfl gT hx (pa_cons (pv 0) (pa_cons (pe_ix ix_list (pv 1) pe_int (fun _ _ => rfl)) (pa_cons (pe_ix ix_list (pv 1) pe_int (fun _ _ => rfl)) pa_nil)))))))) pss_nil)
      (pss_cons (ps_if (pt_cmpR op_lt (pe_callB call_len_seq (by rfl) gLen PySem.boot_len (pa_cons (pv 1) pa_nil)) pe_int (nomark _)) (pss_one (ps_ret (pe_ifExp (pt_cmpR op_eq (pe_callB call_len_seq (by rfl) gLen PySem.boot_len (pa_cons (pv 1) pa_nil)) pe_int (nomark _)) (StX.pe_makeR MS GI hr rfl gT hx (pa_cons (pv 0) (pa_cons (pe_ix ix_list (pv 1) pe_int (fun _ _ => rfl)) (pa_cons (pe_ix ix_list (pv 1) pe_int (fun _ _ => rfl)) (pa_cons (pe_ix ix_list (pv 1) pe_int (fun _ _ => rfl)) pa_nil))))) (StX.pe_makeR MS GI hr rfl gT hx (pa_cons (pv 0) (pa_cons (pe_ix ix_list (pv 1) pe_int (fun _ _ => rfl)) (pa_cons (pe_ix ix_list (pv 1) pe_int (fun _ _ => rfl)) (pa_cons (pe_ix ix_list (pv 1) pe_int (fun _ _ => rfl)) (pa_cons (pe_ix ix_list (pv 1) pe_int (fun _ _ => rfl)) pa_nil))))))))) pss_nil)
      (pss_cons (ps_if (pt_cmpR op_eq (pe_callB call_len_seq (by rfl) gLen PySem.boot_len (pa_cons (pv 1) pa_nil)) pe_int (nomark _)) (pss_one (ps_ret (StX.pe_makeR MS GI hr rfl gT hx (pa_cons (pv 0) (pa_cons (pe_ix ix_list (pv 1) pe_int (fun _ _ => rfl)) (pa_cons (pe_ix ix_list (pv 1) pe_int (fun _ _ => rfl)) (pa_cons (pe_ix ix_list (pv 1) pe_int (fun _ _ => rfl)) (pa_cons (pe_ix ix_list (pv 1) pe_int (fun _ _ => rfl)) (pa_cons (pe_ix ix_list (pv 1) pe_int (fun _ _ => rfl)) pa_nil))))))))) pss_nil) (pss_cons (ps_if (pt_cmpR op_eq (pe_callB call_len_seq (by rfl) gLen PySem.boot_len (pa_cons (pv 1) pa_nil)) pe_int (nomark _)) (pss_one (ps_ret (StX.pe_makeR MS GI hr rfl gT hx (pa_cons (pv 0) (pa_cons (pe_ix ix_list (pv 1) pe_int (fun _ _ => rfl)) (pa_cons (pe_ix ix_list (pv 1) pe_int (fun _ _ => rfl)) (pa_cons (pe_ix ix_list (pv 1) pe_int (fun _ _ => rfl)) (pa_cons (pe_ix ix_list (pv 1) pe_int (fun _ _ => rfl)) (pa_cons (pe_ix ix_list (pv 1) pe_int (fun _ _ => rfl)) (pa_cons (pe_ix ix_list (pv 1) pe_int (fun _ _ => rfl)) pa_nil)))))))))) pss_nil) (pss_cons (ps_if (pt_cmpR op_eq (pe_callB call_len_seq (by rfl) gLen PySem.boot_len (pa_cons (pv 1) pa_nil)) pe_int (nomark _)) (pss_one (ps_ret (StX.pe_makeR MS GI hr rfl gT hx (pa_cons (pv 0) (pa_cons (pe_ix ix_list (pv 1) pe_int (fun _ _ => rfl)) (pa_cons (pe_ix ix_list (pv 1) pe_int (fun _ _ => rfl)) (pa_cons (pe_ix ix_list (pv 1) pe_int (fun _ _ => rfl)) (pa_cons (pe_ix ix_list (pv 1) pe_int (fun _ _ => rfl)) (pa_cons (pe_ix ix_list (pv 1) pe_int (fun _ _ => rfl)) (pa_cons (pe_ix ix_list (pv 1) pe_int (fun _ _ => rfl)) (pa_cons (pe_ix ix_list (pv 1) pe_int (fun _ _ => rfl)) pa_nil))))))))))) pss_nil) (pss_cons (ps_if (pt_cmpR op_eq (pe_callB call_len_seq (by rfl) gLen PySem.boot_len (pa_cons (pv 1) pa_nil)) pe_int (nomark _)) (pss_one (ps_ret (StX.pe_makeR MS GI hr rfl gT hx (pa_cons (pv 0) (pa_cons (pe_ix ix_list (pv 1) pe_int (fun _ _ => rfl)) (pa_cons (pe_ix ix_list (pv 1) pe_int (fun _ _ => rfl)) (pa_cons (pe_ix ix_list (pv 1) pe_int (fun _ _ => rfl)) (pa_cons (pe_ix ix_list (pv 1) pe_int (fun _ _ => rfl)) (pa_cons (pe_ix ix_list (pv 1) pe_int (fun _ _ => rfl)) (pa_cons (pe_ix ix_list (pv 1) pe_int (fun _ _ => rfl)) (pa_cons (pe_ix ix_list (pv 1) pe_int (fun _ _ => rfl)) (pa_cons (pe_ix ix_list (pv 1) pe_int (fun _ _ => rfl)) pa_nil)))))))))))) pss_nil) (pss_one (ps_ret (StX.pe_makeR MS GI hr rfl gT hx (pa_cons (pv 0) (pa_cons (pe_ix ix_list (pv 1) pe_int (fun _ _ => rfl)) (pa_cons (pe_ix ix_list (pv 1) pe_int (fun _ _ => rfl)) (pa_cons (pe_ix ix_list (pv 1) pe_int (fun _ _ => rfl)) (pa_cons (pe_ix ix_list (pv 1) pe_int (fun _ _ => rfl)) (pa_cons (pe_ix ix_list (pv 1) pe_int (fun _ _ => rfl)) (pa_cons (pe_ix ix_list (pv 1) pe_int (fun _ _ => rfl)) (pa_cons (pe_ix ix_list (pv 1) pe_int (fun _ _ => rfl)) (pa_cons (pe_ix ix_list (pv 1) pe_int (fun _ _ => rfl)) (pa_cons (pe_ix ix_list (pv 1) pe_int (fun _ _ => rfl)) pa_nil)))))))))))))))))), ?_⟩
    match xs, hxl with
    | [], _ =>
      refine ⟨_, rfl, L, _, rfl, .inl (SqL.of hL), _, _, rfl, rfl, _, rfl, ?_⟩
      refine iteT ?_
      refine ⟨_, rfl, Nat.zero_le _, fun e he => ⟨L, e, [], rfl, rfl, ?_, upd_same, _, rfl, ?_⟩⟩
      · rw [upd_ne (ne_of_none hL he)]; exact hL
      have se : Same H (upd H e (.lst [])) := same_upd (Same.refl H) he
      have hL' := se _ _ hL
      have hp' := Paired.mapP hp fun a b q => PIAt.same se q
      have k' := TreeRes.same k se
      have hn' := hn.same se
      refine iteT ?_
      exact ⟨_, rfl, fun x dx nx ndx ne => tree_made hn' hp' hl' hj k' nx ndx ne⟩
    | [v0], _ =>
      refine ⟨_, rfl, L, _, rfl, .inl (SqL.of hL), _, _, rfl, rfl, _, rfl, ?_⟩
      refine iteT ?_
      refine ⟨_, rfl, Nat.zero_le _, fun e he => ⟨L, e, [v0], rfl, rfl, ?_, upd_same, _, rfl, ?_⟩⟩
      · rw [upd_ne (ne_of_none hL he)]; exact hL
      have se : Same H (upd H e (.lst [])) := same_upd (Same.refl H) he
      have hL' := se _ _ hL
      have hp' := Paired.mapP hp fun a b q => PIAt.same se q
      have k' := TreeRes.same k se
      have hn' := hn.same se
      refine iteF ?_
      refine ⟨_, rfl, L, _, rfl, .inl (SqL.of hL'), rfl, _, rfl, ?_⟩
      refine iteT ?_
      exact ⟨_, rfl, _, rfl, L, _, _, _, rfl, rfl, SqL.of hL', (atI_nat (j := 0) rfl : atI _ ((0 : Nat) : Int) = some v0), fun x dx nx ndx ne => tree_made hn' hp' hl' hj k' nx ndx ne⟩
    | [v0, v1], _ =>
      refine ⟨_, rfl, L, _, rfl, .inl (SqL.of hL), _, _, rfl, rfl, _, rfl, ?_⟩
      refine iteT ?_
      refine ⟨_, rfl, Nat.zero_le _, fun e he => ⟨L, e, [v0, v1], rfl, rfl, ?_, upd_same, _, rfl, ?_⟩⟩
      · rw [upd_ne (ne_of_none hL he)]; exact hL
      have se : Same H (upd H e (.lst [])) := same_upd (Same.refl H) he
      have hL' := se _ _ hL
      have hp' := Paired.mapP hp fun a b q => PIAt.same se q
      have k' := TreeRes.same k se
      have hn' := hn.same se
      refine iteF ?_
      refine ⟨_, rfl, L, _, rfl, .inl (SqL.of hL'), rfl, _, rfl, ?_⟩
      refine iteF ?_
      exact ⟨_, rfl, _, rfl, L, _, _, _, rfl, rfl, SqL.of hL', (atI_nat (j := 0) rfl : atI _ ((0 : Nat) : Int) = some v0), _, rfl, L, _, _, _, rfl, rfl, SqL.of hL', (atI_nat (j := 1) rfl : atI _ ((1 : Nat) : Int) = some v1), fun x dx nx ndx ne => tree_made hn' hp' hl' hj k' nx ndx ne⟩
    | [v0, v1, v2], _ =>
      refine ⟨_, rfl, L, _, rfl, .inl (SqL.of hL), _, _, rfl, rfl, _, rfl, ?_⟩
      refine iteF ?_
      refine ⟨_, rfl, L, _, rfl, .inl (SqL.of hL), _, _, rfl, rfl, _, rfl, ?_⟩
      refine iteT ?_
      refine ⟨_, rfl, L, _, rfl, .inl (SqL.of hL), rfl, _, rfl, ?_⟩
      refine iteT ?_
      have hL' := hL
      have hp' := hp
      have k' := k
      have hn' := hn
      exact ⟨_, rfl, _, rfl, L, _, _, _, rfl, rfl, SqL.of hL', (atI_nat (j := 0) rfl : atI _ ((0 : Nat) : Int) = some v0), _, rfl, L, _, _, _, rfl, rfl, SqL.of hL', (atI_nat (j := 1) rfl : atI _ ((1 : Nat) : Int) = some v1), _, rfl, L, _, _, _, rfl, rfl, SqL.of hL', (atI_nat (j := 2) rfl : atI _ ((2 : Nat) : Int) = some v2), fun x dx nx ndx ne => tree_made hn' hp' hl' hj k' nx ndx ne⟩
    | [v0, v1, v2, v3], _ =>
      refine ⟨_, rfl, L, _, rfl, .inl (SqL.of hL), _, _, rfl, rfl, _, rfl, ?_⟩
      refine iteF ?_
      refine ⟨_, rfl, L, _, rfl, .inl (SqL.of hL), _, _, rfl, rfl, _, rfl, ?_⟩
      refine iteT ?_
      refine ⟨_, rfl, L, _, rfl, .inl (SqL.of hL), rfl, _, rfl, ?_⟩
      refine iteF ?_
      have hL' := hL
      have hp' := hp
      have k' := k
      have hn' := hn
      exact ⟨_, rfl, _, rfl, L, _, _, _, rfl, rfl, SqL.of hL', (atI_nat (j := 0) rfl : atI _ ((0 : Nat) : Int) = some v0), _, rfl, L, _, _, _, rfl, rfl, SqL.of hL', (atI_nat (j := 1) rfl : atI _ ((1 : Nat) : Int) = some v1), _, rfl, L, _, _, _, rfl, rfl, SqL.of hL', (atI_nat (j := 2) rfl : atI _ ((2 : Nat) : Int) = some v2), _, rfl, L, _, _, _, rfl, rfl, SqL.of hL', (atI_nat (j := 3) rfl : atI _ ((3 : Nat) : Int) = some v3), fun x dx nx ndx ne => tree_made hn' hp' hl' hj k' nx ndx ne⟩
    | [v0, v1, v2, v3, v4], _ =>
      refine ⟨_, rfl, L, _, rfl, .inl (SqL.of hL), _, _, rfl, rfl, _, rfl, ?_⟩
      refine iteF ?_
      refine ⟨_, rfl, L, _, rfl, .inl (SqL.of hL), _, _, rfl, rfl, _, rfl, ?_⟩
      refine iteF ?_
      refine ⟨_, rfl, L, _, rfl, .inl (SqL.of hL), rfl, _, rfl, ?_⟩
      refine iteT ?_
      have hL' := hL
      have hp' := hp
      have k' := k
      have hn' := hn
      exact ⟨_, rfl, _, rfl, L, _, _, _, rfl, rfl, SqL.of hL', (atI_nat (j := 0) rfl : atI _ ((0 : Nat) : Int) = some v0), _, rfl, L, _, _, _, rfl, rfl, SqL.of hL', (atI_nat (j := 1) rfl : atI _ ((1 : Nat) : Int) = some v1), _, rfl, L, _, _, _, rfl, rfl, SqL.of hL', (atI_nat (j := 2) rfl : atI _ ((2 : Nat) : Int) = some v2), _, rfl, L, _, _, _, rfl, rfl, SqL.of hL', (atI_nat (j := 3) rfl : atI _ ((3 : Nat) : Int) = some v3), _, rfl, L, _, _, _, rfl, rfl, SqL.of hL', (atI_nat (j := 4) rfl : atI _ ((4 : Nat) : Int) = some v4), fun x dx nx ndx ne => tree_made hn' hp' hl' hj k' nx ndx ne⟩
    | [v0, v1, v2, v3, v4, v5], _ =>
      refine ⟨_, rfl, L, _, rfl, .inl (SqL.of hL), _, _, rfl, rfl, _, rfl, ?_⟩
      refine iteF ?_
      refine ⟨_, rfl, L, _, rfl, .inl (SqL.of hL), _, _, rfl, rfl, _, rfl, ?_⟩
      refine iteF ?_
      refine ⟨_, rfl, L, _, rfl, .inl (SqL.of hL), rfl, _, rfl, ?_⟩
      refine iteF ?_
      refine ⟨_, rfl, L, _, rfl, .inl (SqL.of hL), rfl, _, rfl, ?_⟩
      refine iteT ?_
      have hL' := hL
      have hp' := hp
      have k' := k
      have hn' := hn
      exact ⟨_, rfl, _, rfl, L, _, _, _, rfl, rfl, SqL.of hL', (atI_nat (j := 0) rfl : atI _ ((0 : Nat) : Int) = some v0), _, rfl, L, _, _, _, rfl, rfl, SqL.of hL', (atI_nat (j := 1) rfl : atI _ ((1 : Nat) : Int) = some v1), _, rfl, L, _, _, _, rfl, rfl, SqL.of hL', (atI_nat (j := 2) rfl : atI _ ((2 : Nat) : Int) = some v2), _, rfl, L, _, _, _, rfl, rfl, SqL.of hL', (atI_nat (j := 3) rfl : atI _ ((3 : Nat) : Int) = some v3), _, rfl, L, _, _, _, rfl, rfl, SqL.of hL', (atI_nat (j := 4) rfl : atI _ ((4 : Nat) : Int) = some v4), _, rfl, L, _, _, _, rfl, rfl, SqL.of hL', (atI_nat (j := 5) rfl : atI _ ((5 : Nat) : Int) = some v5), fun x dx nx ndx ne => tree_made hn' hp' hl' hj k' nx ndx ne⟩
    | [v0, v1, v2, v3, v4, v5, v6], _ =>
      refine ⟨_, rfl, L, _, rfl, .inl (SqL.of hL), _, _, rfl, rfl, _, rfl, ?_⟩
      refine iteF ?_
      refine ⟨_, rfl, L, _, rfl, .inl (SqL.of hL), _, _, rfl, rfl, _, rfl, ?_⟩
      refine iteF ?_
      refine ⟨_, rfl, L, _, rfl, .inl (SqL.of hL), rfl, _, rfl, ?_⟩
      refine iteF ?_
      refine ⟨_, rfl, L, _, rfl, .inl (SqL.of hL), rfl, _, rfl, ?_⟩
      refine iteF ?_
      refine ⟨_, rfl, L, _, rfl, .inl (SqL.of hL), rfl, _, rfl, ?_⟩
      refine iteT ?_
      have hL' := hL
      have hp' := hp
      have k' := k
      have hn' := hn
      exact ⟨_, rfl, _, rfl, L, _, _, _, rfl, rfl, SqL.of hL', (atI_nat (j := 0) rfl : atI _ ((0 : Nat) : Int) = some v0), _, rfl, L, _, _, _, rfl, rfl, SqL.of hL', (atI_nat (j := 1) rfl : atI _ ((1 : Nat) : Int) = some v1), _, rfl, L, _, _, _, rfl, rfl, SqL.of hL', (atI_nat (j := 2) rfl : atI _ ((2 : Nat) : Int) = some v2), _, rfl, L, _, _, _, rfl, rfl, SqL.of hL', (atI_nat (j := 3) rfl : atI _ ((3 : Nat) : Int) = some v3), _, rfl, L, _, _, _, rfl, rfl, SqL.of hL', (atI_nat (j := 4) rfl : atI _ ((4 : Nat) : Int) = some v4), _, rfl, L, _, _, _, rfl, rfl, SqL.of hL', (atI_nat (j := 5) rfl : atI _ ((5 : Nat) : Int) = some v5), _, rfl, L, _, _, _, rfl, rfl, SqL.of hL', (atI_nat (j := 6) rfl : atI _ ((6 : Nat) : Int) = some v6), fun x dx nx ndx ne => tree_made hn' hp' hl' hj k' nx ndx ne⟩
    | [v0, v1, v2, v3, v4, v5, v6, v7], _ =>
      refine ⟨_, rfl, L, _, rfl, .inl (SqL.of hL), _, _, rfl, rfl, _, rfl, ?_⟩
      refine iteF ?_
      refine ⟨_, rfl, L, _, rfl, .inl (SqL.of hL), _, _, rfl, rfl, _, rfl, ?_⟩
      refine iteF ?_
      refine ⟨_, rfl, L, _, rfl, .inl (SqL.of hL), rfl, _, rfl, ?_⟩
      refine iteF ?_
      refine ⟨_, rfl, L, _, rfl, .inl (SqL.of hL), rfl, _, rfl, ?_⟩
      refine iteF ?_
      refine ⟨_, rfl, L, _, rfl, .inl (SqL.of hL), rfl, _, rfl, ?_⟩
      refine iteF ?_
      refine ⟨_, rfl, L, _, rfl, .inl (SqL.of hL), rfl, _, rfl, ?_⟩
      refine iteT ?_
      have hL' := hL
      have hp' := hp
      have k' := k
      have hn' := hn
      exact ⟨_, rfl, _, rfl, L, _, _, _, rfl, rfl, SqL.of hL', (atI_nat (j := 0) rfl : atI _ ((0 : Nat) : Int) = some v0), _, rfl, L, _, _, _, rfl, rfl, SqL.of hL', (atI_nat (j := 1) rfl : atI _ ((1 : Nat) : Int) = some v1), _, rfl, L, _, _, _, rfl, rfl, SqL.of hL', (atI_nat (j := 2) rfl : atI _ ((2 : Nat) : Int) = some v2), _, rfl, L, _, _, _, rfl, rfl, SqL.of hL', (atI_nat (j := 3) rfl : atI _ ((3 : Nat) : Int) = some v3), _, rfl, L, _, _, _, rfl, rfl, SqL.of hL', (atI_nat (j := 4) rfl : atI _ ((4 : Nat) : Int) = some v4), _, rfl, L, _, _, _, rfl, rfl, SqL.of hL', (atI_nat (j := 5) rfl : atI _ ((5 : Nat) : Int) = some v5), _, rfl, L, _, _, _, rfl, rfl, SqL.of hL', (atI_nat (j := 6) rfl : atI _ ((6 : Nat) : Int) = some v6), _, rfl, L, _, _, _, rfl, rfl, SqL.of hL', (atI_nat (j := 7) rfl : atI _ ((7 : Nat) : Int) = some v7), fun x dx nx ndx ne => tree_made hn' hp' hl' hj k' nx ndx ne⟩
    | [v0, v1, v2, v3, v4, v5, v6, v7, v8], _ =>
      refine ⟨_, rfl, L, _, rfl, .inl (SqL.of hL), _, _, rfl, rfl, _, rfl, ?_⟩
      refine iteF ?_
      refine ⟨_, rfl, L, _, rfl, .inl (SqL.of hL), _, _, rfl, rfl, _, rfl, ?_⟩
      refine iteF ?_
      refine ⟨_, rfl, L, _, rfl, .inl (SqL.of hL), rfl, _, rfl, ?_⟩
      refine iteF ?_
      refine ⟨_, rfl, L, _, rfl, .inl (SqL.of hL), rfl, _, rfl, ?_⟩
      refine iteF ?_
      refine ⟨_, rfl, L, _, rfl, .inl (SqL.of hL), rfl, _, rfl, ?_⟩
      refine iteF ?_
      refine ⟨_, rfl, L, _, rfl, .inl (SqL.of hL), rfl, _, rfl, ?_⟩
      refine iteF ?_
      have hL' := hL
      have hp' := hp
      have k' := k
      have hn' := hn
      exact ⟨_, rfl, _, rfl, L, _, _, _, rfl, rfl, SqL.of hL', (atI_nat (j := 0) rfl : atI _ ((0 : Nat) : Int) = some v0), _, rfl, L, _, _, _, rfl, rfl, SqL.of hL', (atI_nat (j := 1) rfl : atI _ ((1 : Nat) : Int) = some v1), _, rfl, L, _, _, _, rfl, rfl, SqL.of hL', (atI_nat (j := 2) rfl : atI _ ((2 : Nat) : Int) = some v2), _, rfl, L, _, _, _, rfl, rfl, SqL.of hL', (atI_nat (j := 3) rfl : atI _ ((3 : Nat) : Int) = some v3), _, rfl, L, _, _, _, rfl, rfl, SqL.of hL', (atI_nat (j := 4) rfl : atI _ ((4 : Nat) : Int) = some v4), _, rfl, L, _, _, _, rfl, rfl, SqL.of hL', (atI_nat (j := 5) rfl : atI _ ((5 : Nat) : Int) = some v5), _, rfl, L, _, _, _, rfl, rfl, SqL.of hL', (atI_nat (j := 6) rfl : atI _ ((6 : Nat) : Int) = some v6), _, rfl, L, _, _, _, rfl, rfl, SqL.of hL', (atI_nat (j := 7) rfl : atI _ ((7 : Nat) : Int) = some v7), _, rfl, L, _, _, _, rfl, rfl, SqL.of hL', (atI_nat (j := 8) rfl : atI _ ((8 : Nat) : Int) = some v8), fun x dx nx ndx ne => tree_made hn' hp' hl' hj k' nx ndx ne⟩
    | _ :: _ :: _ :: _ :: _ :: _ :: _ :: _ :: _ :: _ :: _, h => exact absurd h (by simp)
end
end K3

namespace K3
open PySem L2 E0
/-! ### what the law itself knows of a tree: texts, lists for rows, tuples for nodes -/
mutual
def PlAt (N : Addr → Prop) (H : Hp) : V → Tr → Prop
  | v, .tx s => v = .str s
  | v, .row ts => ∃ l xs, v = .ref l ∧ H l = some (.lst xs) ∧ N l ∧ PlsAt N H xs ts
  | v, .nd _ f ps => ∃ a xs, v = .ref a ∧ H a = some (.tup (.str f :: xs)) ∧ N a ∧ PlsAt N H xs ps
  | _, .vr .. => False
def PlsAt (N : Addr → Prop) (H : Hp) : List V → List Tr → Prop
  | [], [] => True
  | x :: xs, t :: ts => PlAt N H x t ∧ PlsAt N H xs ts
  | _, _ => False
end
/-- what N names stands -/
def KpN (N : Addr → Prop) (H H' : Hp) : Prop := ∀ b o, N b → H b = some o → (∀ ps, o ≠ .tbl ps) → H' b = some o
theorem KpN.same {N : Addr → Prop} {H H' : Hp} (e : Same H H') : KpN N H H' := fun b o _ q _ => e b o q
mutual
theorem PlAt.kp {N : Addr → Prop} {H H' : Hp} (e : KpN N H H') : ∀ {v : V} (t : Tr), PlAt N H v t → PlAt N H' v t
  | _, .tx _, h => h
  | _, .row ts, h => by
    obtain ⟨l, xs, h1, h2, h3, h4⟩ := h
    exact ⟨l, xs, h1, e _ _ h3 h2 (fun _ => nofun), h3, PlsAt.kp e ts h4⟩
  | _, .nd _ f ps, h => by
    obtain ⟨l, xs, h1, h2, h3, h4⟩ := h
    exact ⟨l, xs, h1, e _ _ h3 h2 (fun _ => nofun), h3, PlsAt.kp e ps h4⟩
  | _, .vr _ _, h => False.elim h
theorem PlsAt.kp {N : Addr → Prop} {H H' : Hp} (e : KpN N H H') : ∀ {xs : List V} (ts : List Tr), PlsAt N H xs ts → PlsAt N H' xs ts
  | [], [], h => h
  | x :: xs, t :: ts, h => ⟨PlAt.kp e t h.1, PlsAt.kp e ts h.2⟩
  | [], _ :: _, h => False.elim h
  | _ :: _, [], h => False.elim h
end
theorem plsAt_iff {N : Addr → Prop} {H : Hp} : ∀ {xs : List V} {ts : List Tr}, PlsAt N H xs ts ↔ Paired (PlAt N H) xs ts
  | [], [] => ⟨fun _ => .nil, fun _ => True.intro⟩
  | x :: xs, t :: ts => ⟨fun h => .cons h.1 (plsAt_iff.mp h.2), fun h => by cases h with | cons a b => exact ⟨a, plsAt_iff.mpr b⟩⟩
  | [], _ :: _ => ⟨fun h => False.elim h, fun h => nomatch h⟩
  | _ :: _, [] => ⟨fun h => False.elim h, fun h => nomatch h⟩
theorem pls_app {N : Addr → Prop} {H : Hp} : ∀ {xs ys : List V} {ts us : List Tr}, PlsAt N H xs ts → PlsAt N H ys us → PlsAt N H (xs ++ ys) (ts ++ us)
  | [], _, [], _, _, h => h
  | _ :: _, _, _ :: _, _, h, h2 => ⟨h.1, pls_app h.2 h2⟩
  | [], _, _ :: _, _, h, _ => False.elim h
  | _ :: _, _, [], _, h, _ => False.elim h
theorem pls_len {N : Addr → Prop} {H : Hp} : ∀ {xs : List V} {ts : List Tr}, PlsAt N H xs ts → xs.length = ts.length
  | [], [], _ => rfl
  | x :: xs, t :: ts, h => by rw [List.length_cons, List.length_cons, pls_len h.2]
  | [], _ :: _, h => False.elim h
  | _ :: _, [], h => False.elim h
def tyP : Tr → String
  | .tx _ => "str"
  | .row _ => "list"
  | _ => "tuple"
theorem PlAt.ty {K : PySem.W.Frag} {N : Addr → Prop} {H : Hp} : ∀ {v : V} {t : Tr}, PlAt N H v t → TyX K H v (.type (tyP t))
  | _, .tx s, h => by
    rw [show _ = V.str s from h]
    exact .base (.str _)
  | _, .row ts, h => by
    obtain ⟨l, xs, h1, h2, _⟩ := h
    rw [h1]
    exact .base (.lst h2)
  | _, .nd _ f ps, h => by
    obtain ⟨l, xs, h1, h2, _⟩ := h
    rw [h1]
    exact .base (.tup h2)
  | _, .vr _ _, h => False.elim h
def isRw : Tr → Bool
  | .row _ => true
  | _ => false
theorem kit_lst {K : PySem.W.Frag} (t : Tr) : PySem.W.kitOne K (.type (tyP t)) (.type "list") = some (isRw t) := by
  match t with
  | .tx _ => exact kit_ty (a := "str") (b := "list") (r := false) (by decide +kernel)
  | .row _ => exact kit_ty (a := "list") (b := "list") (r := true) (by decide +kernel)
  | .vr _ _ => exact kit_ty (a := "tuple") (b := "list") (r := false) (by decide +kernel)
  | .nd _ _ _ => exact kit_ty (a := "tuple") (b := "list") (r := false) (by decide +kernel)
theorem kit_st {K : PySem.W.Frag} (t : Tr) : PySem.W.kitOne K (.type (tyP t)) (.type "str") = some (isTx t) := by
  match t with
  | .tx _ => exact kit_ty (a := "str") (b := "str") (r := true) (by decide +kernel)
  | .row _ => exact kit_ty (a := "list") (b := "str") (r := false) (by decide +kernel)
  | .vr _ _ => exact kit_ty (a := "tuple") (b := "str") (r := false) (by decide +kernel)
  | .nd _ _ _ => exact kit_ty (a := "tuple") (b := "str") (r := false) (by decide +kernel)
theorem cut_from {l : List V} {i : Nat} : cutV l (some (i : Int)) none = l.drop i := by
  unfold cutV
  rw [HT.sIx_none, HT.sIx_nat]
  by_cases h : i ≤ l.length
  · rw [Nat.min_eq_left h, List.take_of_length_le (by rw [List.length_drop]; omega)]
  · rw [Nat.min_eq_right (by omega), List.drop_eq_nil_of_le (Nat.le_refl _), List.drop_eq_nil_of_le (by omega), List.take_nil]
theorem below_len : ∀ (ps : List Tr) (p : Tr), (∀ q ∈ [p], okP q = true) → below [p] = (match p with | .row ts => ts | .nd lk f qs => [.nd lk f qs] | _ => [])
  | _, .tx _, _ => rfl
  | _, .row ts, h => by
    have h := h _ (List.mem_cons_self ..)
    show ts.filter isN ++ [] = ts
    rw [List.append_nil, List.filter_eq_self.mpr fun t ht => isT_isN (List.all_eq_true.mp h t ht)]
  | _, .vr 0 _, h => nomatch h _ (List.mem_cons_self ..)
  | _, .vr (_ + 1) _, h => nomatch h _ (List.mem_cons_self ..)
  | _, .nd _ _ _, _ => rfl
section
variable {P : Program} {w : World} {K : PySem.W.Frag} {mg : Str → Option Value} {base : Heap}
def spBelow : Sp := fun vs H Q _ => ∃ (N : Addr → Prop) (a : Addr) (f : Str) (xs : List V) (ps : List Tr), vs = [.ref a] ∧ H a = some (.tup (.str f :: xs)) ∧ PlsAt N H xs ps ∧ (∀ p ∈ ps, okP p = true) ∧ ps.length ≤ 1000 ∧ (∀ p ∈ ps, rowLen p ≤ 1000) ∧
  ∀ H' p ks, Same H H' → H p = none → H' p = some (.lst ks) → PlsAt N H' ks (below ps) → Q (.ref p) H'
def NBE : List Str := ["_law_plant", "_law_found", "_law_own"]
theorem scBelow : FnScope NBE ["_law_plant"] (defScope sBelow) := ⟨rfl, rfl, rfl, by decide +kernel, rfl, by decide +kernel, by decide +kernel⟩
theorem ok_below {f : Addr} {fd : FuncData} (F : Fun K "_law_below" "_law_below" sBelow f fd) (gI : mg "isinstance" = none) (gList : mg "list" = none) (gStr : mg "str" = none) : FnOk P w K mg base CX0 1 f fd ["_law_plant"] spBelow := by
  refine F.ok scBelow (fun vs H Q E h => ?_) (fun cdv A outer s H vs Q E hr h => ?_)
  · obtain ⟨N, a, g, xs, ps, rfl, _⟩ := h
    rfl
  · obtain ⟨N, a, g, xs, ps, rfl, ha, hp, hok, hl, hb, k⟩ := h
    refine ⟨_, pss_cons (ps_set (i := 1) scBelow.nd rfl (Or.inl rfl) (pe_lst pa_nil))
      (pss_cons (ps_for PassesOwn.never rfl (pi_tup (pe_slice sl_tup (pv 0) (po_some pe_int) po_none)) (pg_name (i := 2) scBelow.nd rfl (Or.inl rfl))
        (pss_one (ps_if (pt_val (pe_callB call_isi (by rfl) gI PyProof.Rows.boot_isinstance (pa_cons (pv 2) (pa_cons (pe_bltn (v := .ty "list") rfl gList (by decide +kernel) rfl) pa_nil)))) (pss_one (ps_set (i := 1) scBelow.nd rfl (Or.inl rfl) (pe_op op_cat (pv 1) (pv 2))))
          (pss_one (ps_if (pt_not (pt_val (pe_callB call_isi (by rfl) gI PyProof.Rows.boot_isinstance (pa_cons (pv 2) (pa_cons (pe_bltn (v := .ty "str") rfl gStr PyProof.Rows.boot_str rfl) pa_nil))))) (pss_one (ps_expr (pe_bm PySem.F.plainAttrs_list PySem.F.slot_list_append PySem.F.type_list_append mt_append (pv 1) (pa_cons (pv 2) pa_nil)))) pss_nil)))))
      (pss_one (ps_ret (pv 1)))), ?_⟩
    have big : sizeLine ≥ 16777216 := by decide
    have xl := pls_len hp
    refine ⟨Nat.zero_le _, fun nd hnd => ?_⟩
    have s1 : Same H (upd H nd (.lst [])) := same_upd (Same.refl H) hnd
    have n1 : (upd H nd (.lst [])) nd = some (.lst []) := upd_same
    generalize upd H nd (.lst []) = H1 at s1 n1 ⊢
    refine ⟨_, rfl, 1, rfl, a, _, rfl, SqT.of (s1 _ _ ha), ?_, fun tp htp => ?_⟩
    · rw [show (some (1 : Int)) = some ((1 : Nat) : Int) from rfl, HT.sIx_nat]
      intro q
      have q := q.1
      rw [List.length_cons] at q
      omega
    have hpp := plsAt_iff.mp hp
    rw [show (some (1 : Int)) = some ((1 : Nat) : Int) from rfl, cut_from]
    have s2 : Same H1 (upd H1 tp (.tup ((V.str g :: xs).drop 1))) := same_upd (Same.refl H1) htp
    have v2 : (upd H1 tp (.tup ((V.str g :: xs).drop 1))) tp = some (.tup xs) := upd_same
    generalize upd H1 tp (.tup ((V.str g :: xs).drop 1)) = H2 at s2 v2 ⊢
    refine ⟨tp, rfl, ⟨_, SqT.of v2⟩, for_tup (K := K) (a := tp) (xs := xs) (fun i σ H' => ∃ (w2 : Option V) (d : Addr) (acc : List V), σ = [some (.ref a), some (.ref d), w2] ∧ Same H H' ∧ H d = none ∧ H' d = some (.lst acc) ∧ PlsAt N H acc (below (ps.take i)) ∧ acc.length ≤ 1000 * i ∧ H' tp = some (.tup xs))
      ⟨_, nd, [], rfl, s1.trans s2, hnd, s2 _ _ n1, True.intro, Nat.zero_le _, v2⟩ (fun i σ H' _ ⟨_, _, _, _, _, _, _, _, _, e⟩ => SqT.of e) ?_ ?_⟩
    · rintro i x σ H3 hx ⟨w2, d, acc, rfl, s3, nd0, hd, pa, al, ht⟩
      obtain ⟨p, ep, hi⟩ := LiI.paired_get hpp hx
      have pm := List.mem_of_getElem? ep
      have hokp := hok p pm
      have hbp := hb p pm
      have hi3 := PlAt.kp (KpN.same s3) p hi
      have ty : TyX K H3 x (.type (tyP p)) := PlAt.ty hi3
      have eps : below (ps.take (i + 1)) = below (ps.take i) ++ below [p] := by rw [List.take_add_one, ep]; exact below_snoc _ _
      have il : i < ps.length := (List.getElem?_eq_some_iff.mp ep).1
      have one := below_len [] p fun q hq => by rw [List.mem_singleton.mp hq]; exact hokp
      refine ⟨_, rfl, _, _, _, _, isRw p, rfl, .ty "list", ty, kit_lst p, _, rfl, ?_⟩
      match p, hi, hi3, hokp, hbp, one, eps, ty with
      | .row ts, hi, hi3, hokp, hbp, one, eps, _ =>
        refine iteT ?_
        obtain ⟨l, ys, ev, hl0, hN, hys⟩ := hi
        subst ev
        have yl := pls_len hys
        have hbp : ts.length ≤ 1000 := hbp
        refine ⟨_, rfl, _, rfl, d, l, acc, ys, rfl, rfl, hd, s3 _ _ hl0, by omega, fun c hc => ?_⟩
        exact ⟨_, c, acc ++ ys, rfl, same_upd s3 (s3.free hc), s3.free hc, upd_same, by rw [eps, one]; exact pls_app pa hys, by rw [List.length_append]; omega, by rw [upd_ne (ne_of_none ht hc)]; exact ht⟩
      | .tx z, hi, hi3, hokp, hbp, one, eps, ty =>
        refine iteF ?_
        refine ⟨_, rfl, _, _, _, _, true, rfl, .ty "str", ty, kit_st (.tx z), _, rfl, ?_⟩
        refine iteF ?_
        exact ⟨_, d, acc, rfl, s3, nd0, hd, by rw [eps, one, List.append_nil]; exact pa, by omega, ht⟩
      | .nd lk f qs, hi, hi3, hokp, hbp, one, eps, ty =>
        refine iteF ?_
        refine ⟨_, rfl, _, _, _, _, false, rfl, .ty "str", ty, kit_st (.nd lk f qs), _, rfl, ?_⟩
        refine iteT ?_
        refine ⟨_, rfl, .inl ⟨rfl, _, SqL.of hd⟩, _, rfl, d, acc, _, rfl, rfl, hd, by omega, ?_⟩
        have nt : tp ≠ d := fun q => by rw [q, hd] at ht; cases ht
        exact ⟨_, d, acc ++ [x], rfl, same_upd s3 nd0, nd0, upd_same, by rw [eps, one]; exact pls_app pa ⟨hi, True.intro⟩, by rw [List.length_append]; show acc.length + 1 ≤ _; omega, by rw [upd_ne nt]; exact ht⟩
    · rintro σ H3 ⟨w2, d, acc, rfl, s3, nd0, hd, pa, al, ht⟩
      rw [xl, List.take_length] at pa
      exact ⟨_, rfl, k _ d acc s3 nd0 hd (PlsAt.kp (KpN.same s3) _ pa)⟩
end
end K3

namespace K3
open PySem L2 E0
/-! ### defs that call themselves: by the height of the tree -/
mutual
def ht : Tr → Nat
  | .row ts => hts ts + 1
  | .nd _ _ ps => hts ps + 1
  | _ => 0
def hts : List Tr → Nat
  | [] => 0
  | t :: ts => max (ht t) (hts ts)
end
mutual
/-- its texts are short and have no odd characters -/
def fitT : Tr → Prop
  | .tx s => s.length ≤ 1000 ∧ quoteS s = "\"" ++ s ++ "\""
  | .row ts => ts.length ≤ 1000 ∧ joinB ts ≤ 16000000 ∧ fitsT ts
  | .nd _ f ps => f.length ≤ 1000 ∧ ps.length ≤ 1000 ∧ joinB ps ≤ 16000000 ∧ fitsT ps
  | .vr .. => False
def fitsT : List Tr → Prop
  | [] => True
  | t :: ts => fitT t ∧ fitsT ts
end
theorem fits_mem : ∀ {ts : List Tr} {t : Tr}, fitsT ts → t ∈ ts → fitT t
  | a :: ts, t, h, m => by
    rcases List.mem_cons.mp m with e | m
    · rw [e]; exact h.1
    · exact fits_mem h.2 m
theorem hts_mem : ∀ {ts : List Tr} {t : Tr}, t ∈ ts → ht t ≤ hts ts
  | a :: ts, t, m => by
    show ht t ≤ max (ht a) (hts ts)
    rcases List.mem_cons.mp m with e | m
    · rw [e]; exact Nat.le_max_left _ _
    · exact Nat.le_trans (hts_mem m) (Nat.le_max_right _ _)
section
variable {P : Program} {w : World} {K : PySem.W.Frag} {mg : Str → Option Value} {base : Heap}
theorem fn_vac {CX : CXT} {k : Nat} {f : Addr} {fd : FuncData} {ps : List Str} {sp : Sp} (h : ∀ vs H Q E, ¬ sp vs H Q E) : FnOk P w K mg base CX k f fd ps sp :=
  ⟨fun vs H Q E z => absurd z (h vs H Q E), fun A outer s H args us vs Q E hr e0 hb r z => absurd z (h vs H Q E)⟩
def spSaid (d : Nat) : Sp := fun vs H Q _ => ∃ (N : Addr → Prop) (v : V) (t : Tr), vs = [v] ∧ PlAt N H v t ∧ ht t < d ∧ fitT t ∧ ∀ H', Same H H' → Q (.str (said t)) H'
def NSA : List Str := ["_law_own", "_law_item"]
theorem scSaid : FnScope NSA ["_law_own"] (defScope sSaid) := ⟨rfl, rfl, rfl, by decide +kernel, rfl, by decide +kernel, by decide +kernel⟩
theorem ok_said {f : Addr} {fd : FuncData} (F : Fun K "_law_said" "_law_said" sSaid f fd) (gS : mg "_law_said" = some (.ref f)) (kS : PySem.W.keepIn K (.ref f) = true) (bS : Binds K fd ["_law_own"] []) (gI : mg "isinstance" = none) (gList : mg "list" = none) (gStr : mg "str" = none) :
    ∀ d : Nat, FnOk P w K mg base CX0 d f fd ["_law_own"] (spSaid d)
  | 0 => fn_vac fun vs H Q E h => by
    obtain ⟨N, v, t, _, _, q, _⟩ := h
    exact absurd q (Nat.not_lt_zero _)
  | d + 1 => by
    have GR := ok_said F gS kS bS gI gList gStr d
    refine F.ok scSaid (fun vs H Q E h => ?_) (fun cdv A outer s H vs Q E hr h => ?_)
    · obtain ⟨N, v, t, rfl, _⟩ := h
      rfl
    · obtain ⟨N, v, t, rfl, hv, hd, hf, k⟩ := h
      refine ⟨_, pss_cons (ps_if (pt_val (pe_callB call_isi (by rfl) gI PyProof.Rows.boot_isinstance (pa_cons (pv 0) (pa_cons (pe_bltn (v := .ty "str") rfl gStr PyProof.Rows.boot_str rfl) pa_nil)))) (pss_one (ps_ret (pe_op op_add_str (pe_op op_add_str pe_str (pv 0)) pe_str))) pss_nil)
        (pss_cons (ps_if (pt_val (pe_callB call_isi (by rfl) gI PyProof.Rows.boot_isinstance (pa_cons (pv 0) (pa_cons (pe_bltn (v := .ty "list") rfl gList (by decide +kernel) rfl) pa_nil))))
          (pss_one (ps_ret (pe_op op_add_str (pe_op op_add_str pe_str (pe_bm PySem.F.plainAttrs_str PySem.F.slot_str_join PySem.F.type_str_join mt_join pe_str (pa_cons (pe_lc (own := [("_law_item", 1)]) (g := gName 1) (tt := tYes) (te := tCall (spSaid d) [] E0 (tCons (tVar 1) tNil)) rfl scSaid.nd (pi_list (pv 0))
            (blkOk_by (N := NSA) (sc := defScope sSaid) (by decide +kernel)) (fun _ _ _ _ _ => pg_name (i := 1) scSaid.nd rfl (Or.inl rfl)) (fun _ _ _ _ _ => pts_nil) (fun _ _ _ _ _ => pe_call GR hr rfl gS kS bS .nil pass0 (pa_cons (pv 1) pa_nil))) pa_nil))) pe_str))) pss_nil)
        (pss_one (ps_ret (pe_op op_add_str (pe_op op_add_str (pe_op op_add_str (pe_ix ix_tup (pv 0) pe_int (fun _ _ => rfl)) pe_str) (pe_bm PySem.F.plainAttrs_str PySem.F.slot_str_join PySem.F.type_str_join mt_join pe_str (pa_cons (pe_lc (own := [("_law_item", 1)]) (g := gName 1) (tt := tYes) (te := tCall (spSaid d) [] E0 (tCons (tVar 1) tNil)) rfl scSaid.nd (pi_tup (pe_slice sl_tup (pv 0) (po_some pe_int) po_none))
            (blkOk_by (N := NSA) (sc := defScope sSaid) (by decide +kernel)) (fun _ _ _ _ _ => pg_name (i := 1) scSaid.nd rfl (Or.inl rfl)) (fun _ _ _ _ _ => pts_nil) (fun _ _ _ _ _ => pe_call GR hr rfl gS kS bS .nil pass0 (pa_cons (pv 1) pa_nil))) pa_nil))) pe_str)))), ?_⟩
      have big : sizeLine ≥ 16777216 := by decide
      have ty : TyX K H v (.type (tyP t)) := PlAt.ty hv
      refine ⟨_, rfl, _, _, _, _, isTx t, rfl, .ty "str", ty, kit_st t, _, rfl, ?_⟩
      match t, hv, hd, hf, k, ty with
      | .tx z, hv, hd, hf, k, ty =>
        refine iteT ?_
        have ev : v = .str z := hv
        subst ev
        obtain ⟨f1, f2⟩ : z.length ≤ 1000 ∧ quoteS z = "\"" ++ z ++ "\"" := hf
        have e4 : ("\"" : Str).length = 1 := by decide +kernel
        refine ⟨_, rfl, _, _, rfl, rfl, by rw [e4]; omega, _, _, rfl, rfl, by rw [str_len, e4]; omega, ?_⟩
        rw [← f2, ← said_tx]
        exact k _ (Same.refl H)
      | .row ts, hv, hd, hf, k, ty =>
        refine iteF ?_
        refine ⟨_, rfl, _, _, _, _, true, rfl, .ty "list", ty, kit_lst (.row ts), _, rfl, ?_⟩
        refine iteT ?_
        obtain ⟨a, xs, ev, ha, hN, hp⟩ := hv
        subst ev
        obtain ⟨f1, f2, f3⟩ : ts.length ≤ 1000 ∧ joinB ts ≤ 16000000 ∧ fitsT ts := hf
        have xl := pls_len hp
        have pp := plsAt_iff.mp hp
        have hd : hts ts + 1 < d + 1 := hd
        refine ⟨rfl, _, rfl, a, rfl, ⟨_, SqL.of ha⟩, fun D hD => lc_list (K := K) (a := a) (xs := xs) (fun i H' => Same H H' ∧ H' D = some (.lst (((saids ts).take i).map V.str))) ⟨same_upd (Same.refl H) hD, upd_same⟩ (fun i H' _ ⟨s', _⟩ => SqL.of (s' _ _ ha)) ?_ ?_⟩
        · rintro i x H1 hx ⟨s1, e1⟩
          obtain ⟨ti, et, hi⟩ := LiI.paired_get pp hx
          have il : i < xs.length := (List.getElem?_eq_some_iff.mp hx).1
          have tm := List.mem_of_getElem? et
          have hm := hts_mem tm
          refine ⟨rfl, ?_⟩
          dsimp only [tYes]
          rw [if_pos rfl]
          refine ⟨_, rfl, N, x, ti, rfl, PlAt.kp (KpN.same s1) ti hi, by omega, fits_mem f3 tm, fun H2 s2 => ⟨_, s2 _ _ e1, ?_, same_upd (s1.trans s2) hD, ?_⟩⟩
          · rw [List.length_map]
            exact Nat.lt_of_le_of_lt (List.length_take_le _ _) (by omega)
          · have es : (saids ts)[i]? = some (said ti) := by rw [saids_map, List.getElem?_map, et]; rfl
            rw [upd_same, List.take_add_one, es]
            simp
        · rintro H1 ⟨s1, e1⟩
          rw [xl, ← saids_len ts, List.take_length] at e1
          have jl := join_len ts
          refine ⟨", ", D, saids ts, rfl, rfl, .inl (SqL.of e1), ?_, ?_⟩
          · rw [sep_len, saids_len]
            unfold joinB at f2
            omega
          have b1 : ("[" : Str).length = 1 := by decide +kernel
          have b2 : ("]" : Str).length = 1 := by decide +kernel
          refine ⟨_, _, rfl, rfl, by rw [b1]; omega, _, _, rfl, rfl, by rw [str_len, b1, b2]; omega, ?_⟩
          rw [← said_row]
          exact k _ s1
      | .nd lk g ps, hv, hd, hf, k, ty =>
        refine iteF ?_
        refine ⟨_, rfl, _, _, _, _, false, rfl, .ty "list", ty, kit_lst (.nd lk g ps), _, rfl, ?_⟩
        refine iteF ?_
        obtain ⟨a, xs, ev, ha, hN, hp⟩ := hv
        subst ev
        obtain ⟨f0, f1, f2, f3⟩ : g.length ≤ 1000 ∧ ps.length ≤ 1000 ∧ joinB ps ≤ 16000000 ∧ fitsT ps := hf
        have xl := pls_len hp
        have pp := plsAt_iff.mp hp
        have hd : hts ps + 1 < d + 1 := hd
        refine ⟨_, rfl, a, _, _, _, rfl, rfl, SqT.of ha, (atI_nat (j := 0) rfl : atI _ ((0 : Nat) : Int) = some (V.str g)), ?_⟩
        have c1 : ("(" : Str).length = 1 := by decide +kernel
        have c2 : (")" : Str).length = 1 := by decide +kernel
        refine ⟨_, _, rfl, rfl, by rw [c1]; omega, ?_⟩
        refine ⟨rfl, _, rfl, 1, rfl, a, _, rfl, SqT.of ha, ?_, fun tp htp => ?_⟩
        · rw [show (some (1 : Int)) = some ((1 : Nat) : Int) from rfl, HT.sIx_nat]
          intro q
          have q := q.1
          rw [List.length_cons] at q
          omega
        rw [show (some (1 : Int)) = some ((1 : Nat) : Int) from rfl, cut_from]
        have s0 : Same H (upd H tp (.tup ((V.str g :: xs).drop 1))) := same_upd (Same.refl H) htp
        have v0 : (upd H tp (.tup ((V.str g :: xs).drop 1))) tp = some (.tup xs) := upd_same
        generalize upd H tp (.tup ((V.str g :: xs).drop 1)) = H0 at s0 v0 ⊢
        refine ⟨tp, rfl, ⟨_, SqT.of v0⟩, fun D hD => lc_tup (K := K) (a := tp) (xs := xs) (fun i H' => Same H0 H' ∧ H' D = some (.lst (((saids ps).take i).map V.str))) ⟨same_upd (Same.refl H0) hD, upd_same⟩ (fun i H' _ ⟨s', _⟩ => SqT.of (s' _ _ v0)) ?_ ?_⟩
        · rintro i x H1 hx ⟨s1, e1⟩
          obtain ⟨ti, et, hi⟩ := LiI.paired_get pp hx
          have il : i < xs.length := (List.getElem?_eq_some_iff.mp hx).1
          have tm := List.mem_of_getElem? et
          have hm := hts_mem tm
          refine ⟨rfl, ?_⟩
          dsimp only [tYes]
          rw [if_pos rfl]
          refine ⟨_, rfl, N, x, ti, rfl, PlAt.kp (KpN.same (s0.trans s1)) ti hi, by omega, fits_mem f3 tm, fun H2 s2 => ⟨_, s2 _ _ e1, ?_, same_upd (s1.trans s2) hD, ?_⟩⟩
          · rw [List.length_map]
            exact Nat.lt_of_le_of_lt (List.length_take_le _ _) (by omega)
          · have es : (saids ps)[i]? = some (said ti) := by rw [saids_map, List.getElem?_map, et]; rfl
            rw [upd_same, List.take_add_one, es]
            simp
        · rintro H1 ⟨s1, e1⟩
          rw [xl, ← saids_len ps, List.take_length] at e1
          have jl := join_len ps
          refine ⟨", ", D, saids ps, rfl, rfl, .inl (SqL.of e1), ?_, ?_⟩
          · rw [sep_len, saids_len]
            unfold joinB at f2
            omega
          refine ⟨_, _, rfl, rfl, by rw [str_len, c1]; omega, _, _, rfl, rfl, by rw [str_len, str_len, c1, c2]; omega, ?_⟩
          rw [← said_nd lk]
          exact k _ (s0.trans s1)
end
end K3

namespace K3
open PySem L2 E0
/-! ### the trees that the law draws -/
def x60 : Str := timesS "x" 60
def x20 : Str := timesS "x" 20
def menuT : List Str := ["", "a", "f", x60, "two words"]
def menuN : List Str := ["Num", "Call", "raw_e", "A", x20]
theorem menuT_ok : ∀ s ∈ menuT, s.length ≤ 60 ∧ quoteS s = "\"" ++ s ++ "\"" ∧ PyData.strOk s = true := by
  have h : (menuT.all fun s => decide (s.length ≤ 60) && decide (quoteS s = "\"" ++ s ++ "\"") && PyData.strOk s) = true := by decide +kernel
  intro s hs
  have q := List.all_eq_true.mp h s hs
  simp only [Bool.and_eq_true, decide_eq_true_eq] at q
  exact ⟨q.1.1, q.1.2, q.2⟩
theorem menuN_ok : ∀ s ∈ menuN, nameS s = true := by
  have h : (menuN.all nameS) = true := by decide +kernel
  exact fun s hs => List.all_eq_true.mp h s hs
theorem nameS_len {s : Str} (h : nameS s = true) : s.length ≤ 20 := by
  unfold nameS at h
  simp only [Bool.and_eq_true, decide_eq_true_eq] at h
  exact h.1.1.2
mutual
def genT : Tr → Prop
  | .tx s => s ∈ menuT
  | .row ts => ts.length ≤ 3 ∧ gensT ts ∧ ∀ t ∈ ts, isT t = true
  | .nd lk f ps => lk = false ∧ nameS f = true ∧ ps.length ≤ 9 ∧ gensT ps
  | .vr .. => False
def gensT : List Tr → Prop
  | [] => True
  | t :: ts => genT t ∧ gensT ts
end
theorem gens_mem : ∀ {ts : List Tr} {t : Tr}, gensT ts → t ∈ ts → genT t
  | a :: ts, t, h, m => by
    rcases List.mem_cons.mp m with e | m
    · rw [e]; exact h.1
    · exact gens_mem h.2 m
theorem gens_of : ∀ {ts : List Tr}, (∀ t ∈ ts, genT t) → gensT ts
  | [], _ => True.intro
  | a :: ts, h => ⟨h a (List.mem_cons_self ..), gens_of fun t m => h t (List.mem_cons_of_mem _ m)⟩
/-! how long its text can be -/
mutual
def wt : Tr → Nat
  | .tx _ => 62
  | .row ts => wts ts + 2
  | .nd _ _ ps => wts ps + 22
  | .vr .. => 0
def wts : List Tr → Nat
  | [] => 0
  | t :: ts => wt t + 2 + wts ts
end
theorem wts_mem : ∀ {ts : List Tr} {t : Tr}, t ∈ ts → wt t ≤ wts ts
  | a :: ts, t, m => by
    show wt t ≤ wt a + 2 + wts ts
    rcases List.mem_cons.mp m with e | m
    · rw [e]; omega
    · have := wts_mem m
      omega
theorem join_nil : (Txt.join ", " []).length = 0 := rfl
mutual
theorem said_wt : ∀ {t : Tr}, genT t → (said t).length ≤ wt t
  | .tx s, h => by
    obtain ⟨h1, h2, _⟩ := menuT_ok s h
    have e4 : ("\"" : Str).length = 1 := by decide +kernel
    rw [said_tx, h2, str_len, str_len, e4]
    show 1 + s.length + 1 ≤ 62
    omega
  | .row ts, h => by
    obtain ⟨_, h2, _⟩ := h
    have b1 : ("[" : Str).length = 1 := by decide +kernel
    have b2 : ("]" : Str).length = 1 := by decide +kernel
    have := joinB_wt h2
    have := join_len ts
    rw [said_row, str_len, str_len, b1, b2]
    show _ ≤ wts ts + 2
    omega
  | .nd lk f ps, h => by
    obtain ⟨_, h1, _, h2⟩ := h
    have b1 : ("(" : Str).length = 1 := by decide +kernel
    have b2 : (")" : Str).length = 1 := by decide +kernel
    have := joinB_wt h2
    have := join_len ps
    have := nameS_len h1
    rw [said_nd, str_len, str_len, str_len, b1, b2]
    show _ ≤ wts ps + 22
    omega
  | .vr .., h => False.elim h
theorem joinB_wt : ∀ {ts : List Tr}, gensT ts → joinB ts ≤ wts ts
  | [], _ => Nat.le_refl _
  | t :: ts, h => by
    have h1 := said_wt h.1
    have h2 := joinB_wt h.2
    unfold joinB at h2 ⊢
    show ((said t).length :: (saids ts).map (·.length)).sum + (ts.length + 1) * 2 ≤ wt t + 2 + wts ts
    rw [List.sum_cons]
    omega
end
theorem gen_okP : ∀ {t : Tr}, genT t → okP t = true
  | .tx s, h => decide_eq_true (menuT_ok s h).1
  | .row ts, h => List.all_eq_true.mpr h.2.2
  | .nd true f ps, h => Bool.noConfusion h.1
  | .nd false f ps, _ => rfl
  | .vr .., h => False.elim h
theorem gen_row : ∀ {t : Tr}, genT t → rowLen t ≤ 1000 ∧ rowB t ≤ 1000
  | .tx s, h => ⟨Nat.zero_le _, Nat.le_trans (menuT_ok s h).1 (by decide)⟩
  | .row ts, h => ⟨Nat.le_trans h.1 (by decide), Nat.le_trans h.1 (by decide)⟩
  | .nd .., _ => ⟨Nat.zero_le _, Nat.zero_le _⟩
  | .vr .., h => False.elim h
theorem gen_okTx : ∀ {t : Tr}, genT t → wt t ≤ 16000000 → okTx t
  | .tx s, h, _ => Nat.le_trans (menuT_ok s h).1 (by decide)
  | .row ts, h, b => by
    obtain ⟨h1, h2, h3⟩ := h
    have := joinB_wt h2
    have b : wts ts + 2 ≤ 16000000 := b
    exact ⟨fun t m => isT_text (h3 t m), by omega, by omega⟩
  | .nd .., _, _ => True.intro
  | .vr .., h, _ => False.elim h
mutual
theorem gen_fit : ∀ {t : Tr}, genT t → wt t ≤ 16000000 → fitT t
  | .tx s, h, _ => ⟨Nat.le_trans (menuT_ok s h).1 (by decide), (menuT_ok s h).2.1⟩
  | .row ts, h, b => by
    obtain ⟨h1, h2, h3⟩ := h
    have := joinB_wt h2
    have b : wts ts + 2 ≤ 16000000 := b
    exact ⟨by omega, by omega, gens_fit h2 (by omega)⟩
  | .nd lk f ps, h, b => by
    obtain ⟨h0, h1, h2, h3⟩ := h
    have := joinB_wt h3
    have := nameS_len h1
    have b : wts ps + 22 ≤ 16000000 := b
    exact ⟨by omega, by omega, by omega, gens_fit h3 (by omega)⟩
  | .vr .., h, _ => False.elim h
theorem gens_fit : ∀ {ts : List Tr}, gensT ts → wts ts ≤ 16000000 → fitsT ts
  | [], _, _ => True.intro
  | t :: ts, h, b => by
    have b : wt t + 2 + wts ts ≤ 16000000 := b
    exact ⟨gen_fit h.1 (by omega), gens_fit h.2 (by omega)⟩
end
theorem gens_app : ∀ {a b : List Tr}, gensT a → gensT b → gensT (a ++ b)
  | [], _, _, h => h
  | _ :: _, _, h, h2 => ⟨h.1, gens_app h.2 h2⟩
theorem gens_below : ∀ {ps : List Tr}, gensT ps → gensT (below ps) ∧ ∀ t ∈ below ps, isT t = true
  | [], _ => ⟨True.intro, fun t h => nomatch h⟩
  | .tx s :: ps, h => gens_below (ps := ps) h.2
  | .row ts :: ps, h => by
    obtain ⟨⟨h1, h2, h3⟩, h4⟩ := h
    obtain ⟨i1, i2⟩ := gens_below h4
    show gensT (ts.filter isN ++ below ps) ∧ ∀ t ∈ ts.filter isN ++ below ps, isT t = true
    rw [List.filter_eq_self.mpr fun t m => isT_isN (h3 t m)]
    exact ⟨gens_app h2 i1, fun t m => (List.mem_append.mp m).elim (h3 t) (i2 t)⟩
  | .nd lk f qs :: ps, h => by
    obtain ⟨h1, h4⟩ := h
    obtain ⟨i1, i2⟩ := gens_below h4
    obtain ⟨rfl, _⟩ := id h1
    show gensT ([.nd false f qs] ++ below ps) ∧ ∀ t ∈ [Tr.nd false f qs] ++ below ps, isT t = true
    exact ⟨⟨h1, i1⟩, fun t m => (List.mem_cons.mp m).elim (fun e => by rw [e]; rfl) (i2 t)⟩
  | .vr .. :: ps, h => False.elim h.1
/-! heights of the nodes among parts -/
theorem hts_below : ∀ {ps : List Tr} {t : Tr}, t ∈ below ps → ht t ≤ hts ps
  | .row ts :: ps, t, m => by
    show ht t ≤ max (hts ts + 1) (hts ps)
    rcases List.mem_append.mp (show t ∈ ts.filter isN ++ below ps from m) with q | q
    · have := hts_mem (List.mem_filter.mp q).1
      omega
    · have := hts_below q
      omega
  | .tx s :: ps, t, m => by
    show ht t ≤ max (ht (.tx s)) (hts ps)
    have := hts_below (ps := ps) (show t ∈ below ps from m)
    omega
  | .vr k n :: ps, t, m => by
    show ht t ≤ max (ht (.vr k n)) (hts ps)
    rcases List.mem_append.mp (show t ∈ (if isN (.vr k n) = true then [Tr.vr k n] else []) ++ below ps from m) with q | q
    · have e : t = .vr k n := by
        split at q
        · exact List.mem_singleton.mp q
        · cases q
      rw [e]
      omega
    · have := hts_below q
      omega
  | .nd lk f qs :: ps, t, m => by
    show ht t ≤ max (ht (.nd lk f qs)) (hts ps)
    rcases List.mem_cons.mp (show t ∈ [Tr.nd lk f qs] ++ below ps from m) with q | q
    · rw [q]
      omega
    · have := hts_below q
      omega
end K3

namespace K3
open PySem L2 E0
section
variable {P : Program} {w : World} {K : PySem.W.Frag} {mg : Str → Option Value} {base : Heap}
def spSize (d : Nat) : Sp := fun vs H Q _ => ∃ (N : Addr → Prop) (a : Addr) (f : Str) (xs : List V) (ps : List Tr), vs = [.ref a] ∧ H a = some (.tup (.str f :: xs)) ∧ PlsAt N H xs ps ∧ gensT ps ∧ ps.length ≤ 9 ∧ hts ps < d ∧
  ∀ H' p, Same H H' → H p = none → H' p = some (.tup [.int ((1 + sizes ps : Nat) : Int), .int ((levelss ps + 1 : Nat) : Int)]) → Q (.ref p) H'
def NSZ : List Str := ["_law_plant", "_law_count", "_law_deep", "_law_own", "_law_more", "_law_levels_so"]
theorem scSize : FnScope NSZ ["_law_plant"] (defScope sSize) := ⟨rfl, rfl, rfl, by decide +kernel, rfl, by decide +kernel, by decide +kernel⟩
theorem ok_size {f fB : Addr} {fd fdB : FuncData} (F : Fun K "_law_size" "_law_size" sSize f fd) (gS : mg "_law_size" = some (.ref f)) (kS : PySem.W.keepIn K (.ref f) = true) (bS : Binds K fd ["_law_plant"] [])
    (GB : FnOk P w K mg base CX0 1 fB fdB ["_law_plant"] spBelow) (gB : mg "_law_below" = some (.ref fB)) (kB : PySem.W.keepIn K (.ref fB) = true) (bB : Binds K fdB ["_law_plant"] []) :
    ∀ d : Nat, FnOk P w K mg base CX0 (d + 1) f fd ["_law_plant"] (spSize d)
  | 0 => fn_vac fun vs H Q E h => by
    obtain ⟨N, a, f, xs, ps, _, _, _, _, _, q, _⟩ := h
    exact absurd q (Nat.not_lt_zero _)
  | d + 1 => by
    have GR := ok_size F gS kS bS GB gB kB bB d
    refine F.ok scSize (fun vs H Q E h => ?_) (fun cdv A outer s H vs Q E hr h => ?_)
    · obtain ⟨N, a, f, xs, ps, rfl, _⟩ := h
      rfl
    · obtain ⟨N, a, g, xs, ps, rfl, ha, hp, hg, hl, hd, k⟩ := h
      have hr1 : Room 1 _ := hr.mono (Nat.succ_le_succ (Nat.zero_le _))
      refine ⟨_, pss_cons (ps_asg (pe_tup (pa_cons pe_int (pa_cons pe_int pa_nil))) (pg_tup (by rfl) (pgs_cons (pg_name (i := 1) scSize.nd rfl (.inl rfl)) (pgs_cons (pg_name (i := 2) scSize.nd rfl (.inl rfl)) pgs_nil))))
        (pss_cons (ps_for PassesOwn.never rfl (pi_list (pe_call GB hr1 rfl gB kB bB .nil pass0 (pa_cons (pv 0) pa_nil))) (pg_name (i := 3) scSize.nd rfl (Or.inl rfl))
          (pss_cons (ps_asg (pe_call GR hr rfl gS kS bS .nil pass0 (pa_cons (pv 3) pa_nil)) (pg_tup (by rfl) (pgs_cons (pg_name (i := 4) scSize.nd rfl (.inl rfl)) (pgs_cons (pg_name (i := 5) scSize.nd rfl (.inl rfl)) pgs_nil))))
          (pss_one (ps_par (i := 1) (j := 2) (by rfl) scSize.nd rfl rfl (by decide) rfl rfl (pa_cons (pe_op op_add (pv 1) (pv 4)) (pa_cons (pe_ifExp (pt_cmpR op_gt (pv 5) (pv 2) (nomark _)) (pv 5) (pv 2)) pa_nil)) (by rfl)))))
        (pss_one (ps_ret (pe_tup (pa_cons (pv 1) (pa_cons (pe_op op_add (pv 2) pe_int) pa_nil)))))), ?_⟩
      have okp : ∀ p ∈ ps, okP p = true := fun p m => gen_okP (gens_mem hg m)
      obtain ⟨b1, b2, b3⟩ := below_ok okp
      obtain ⟨g1, g2⟩ := gens_below hg
      refine ⟨by show 2 ≤ sizeLine; decide, fun t0 nt0 => ⟨t0, _, rfl, .inl (.inl upd_same), rfl, _, _, rfl, ?_⟩⟩
      have s0 : Same H (upd H t0 (.tup [.int 1, .int 0])) := same_upd (Same.refl H) nt0
      generalize upd H t0 (.tup [.int 1, .int 0]) = H0 at s0 ⊢
      have hp := PlsAt.kp (KpN.same s0) _ hp
      refine ⟨_, _, rfl, rfl, _, rfl, N, a, g, xs, ps, rfl, s0 _ _ ha, hp, okp, by omega, fun p m => (gen_row (gens_mem hg m)).1, fun H1 l ks s1 nl hl1 pk => ?_⟩
      have kl := pls_len pk
      have pp := plsAt_iff.mp pk
      refine ⟨l, rfl, ⟨_, SqL.of hl1⟩, for_list (K := K) (a := l) (xs := ks) (fun i σ H' => ∃ v3 v4 v5 : Option V, σ = [some (.ref a), some (.int ((1 + sizes ((below ps).take i) : Nat) : Int)), some (.int ((levelss ((below ps).take i) : Nat) : Int)), v3, v4, v5] ∧ Same H1 H') ⟨_, _, _, rfl, Same.refl _⟩ (fun i σ H' _ ⟨_, _, _, _, s'⟩ => SqL.of (s' _ _ hl1)) ?_ ?_⟩
      · rintro i x σ H' hx ⟨v3, v4, v5, rfl, s'⟩
        obtain ⟨ti, et, hi⟩ := LiI.paired_get pp hx
        have tm := List.mem_of_getElem? et
        have ig := gens_mem g1 tm
        have it := g2 ti tm
        have ih := hts_below tm
        obtain ⟨h, qs, rfl⟩ : ∃ h qs, ti = .nd false h qs := by
          match ti, it with
          | .nd false h qs, _ => exact ⟨h, qs, rfl⟩
        obtain ⟨y, ys, rfl, hy, hN, hys⟩ := hi
        obtain ⟨_, _, i1, i2⟩ := ig
        have ih : hts qs + 1 ≤ hts ps := ih
        have sz : sizes ((below ps).take (i + 1)) = sizes ((below ps).take i) + (1 + sizes qs) := by
          rw [List.take_add_one, et]
          exact sizes_snoc _ _
        have lv : levelss ((below ps).take (i + 1)) = max (levelss ((below ps).take i)) (levelss qs + 1) := by
          rw [List.take_add_one, et]
          exact levelss_snoc _ _
        refine ⟨_, rfl, N, y, h, ys, qs, rfl, s' _ _ hy, PlsAt.kp (KpN.same s') _ hys, i2, i1, by omega, fun H2 t s2 nt ht => ?_⟩
        refine ⟨t, _, rfl, .inl (.inl ht), rfl, _, _, rfl, ?_⟩
        have esz : (((1 + sizes ((below ps).take i) : Nat) : Int) + ((1 + sizes qs : Nat) : Int)) = ((1 + sizes ((below ps).take (i + 1)) : Nat) : Int) := by rw [sz]; omega
        refine ⟨_, _, rfl, rfl, ?_⟩
        refine ⟨_, rfl, _, rfl, _, _, rfl, rfl, _, rfl, _, rfl, _, _, rfl, rfl, _, rfl, ?_⟩
        refine ite2 (fun c => ?_) (fun c => ?_)
        · have c := of_decide_eq_true c
          refine ⟨_, rfl, _, _, rfl, some (.ref y), some (.int ((1 + sizes qs : Nat) : Int)), some (.int ((levelss qs + 1 : Nat) : Int)), ?_, s'.trans s2⟩
          rw [← esz, ← show levelss qs + 1 = levelss ((below ps).take (i + 1)) by rw [lv]; omega]
          rfl
        · have c : ¬ ((levelss ((below ps).take i) : Nat) : Int) < ((levelss qs + 1 : Nat) : Int) := fun q => c (decide_eq_true q)
          refine ⟨_, rfl, _, _, rfl, some (.ref y), some (.int ((1 + sizes qs : Nat) : Int)), some (.int ((levelss qs + 1 : Nat) : Int)), ?_, s'.trans s2⟩
          rw [← esz, ← show levelss ((below ps).take i) = levelss ((below ps).take (i + 1)) by rw [lv]; omega]
          rfl
      · rintro σ H' ⟨v3, v4, v5, rfl, s'⟩
        rw [kl, List.take_length, b1, b2]
        refine ⟨_, rfl, _, rfl, _, _, rfl, rfl, by show 2 ≤ sizeLine; decide, fun p hp2 => ?_⟩
        exact k _ p (same_upd (s0.trans (s1.trans s')) ((s0.trans (s1.trans s')).free hp2)) ((s0.trans (s1.trans s')).free hp2) upd_same
end
end K3

namespace K3
open PySem L2 E0
/-! ### what is drawn at a depth -/
def GNof (P : Tr → Prop) (t : Tr) : Prop := ∃ f ps, t = .nd false f ps ∧ f ∈ menuN ∧ ps.length ≤ 3 ∧ ∀ p ∈ ps, P p
def GP : Nat → Tr → Prop
  | 0, t => ∃ s, t = .tx s ∧ s ∈ menuT
  | d + 1, t => (∃ s, t = .tx s ∧ s ∈ menuT) ∨ (∃ ts, t = .row ts ∧ ts.length ≤ 3 ∧ ∀ u ∈ ts, GNof (GP d) u) ∨ GNof (GP d) t
def wB : Nat → Nat
  | 0 => 62
  | d + 1 => 9 * wB d + 92
def sB : Nat → Nat
  | 0 => 0
  | d + 1 => 9 * sB d + 3
/-- how many numbers are drawn at the most -/
def cP : Nat → Nat
  | 0 => 2
  | d + 1 => 2 + 3 * (2 + 3 * cP d)
theorem wts_le {w : Nat} : ∀ {ts : List Tr}, (∀ t ∈ ts, wt t ≤ w) → wts ts ≤ ts.length * (w + 2)
  | [], _ => Nat.zero_le _
  | t :: ts, h => by
    have h1 := h t (List.mem_cons_self ..)
    have h2 := wts_le (ts := ts) fun u m => h u (List.mem_cons_of_mem _ m)
    show wt t + 2 + wts ts ≤ (ts.length + 1) * (w + 2)
    rw [Nat.add_mul]
    omega
theorem sizes_le {w : Nat} : ∀ {ts : List Tr}, (∀ t ∈ ts, size t ≤ w) → sizes ts ≤ ts.length * w
  | [], _ => Nat.zero_le _
  | t :: ts, h => by
    have h1 := h t (List.mem_cons_self ..)
    have h2 := sizes_le (ts := ts) fun u m => h u (List.mem_cons_of_mem _ m)
    show size t + sizes ts ≤ (ts.length + 1) * w
    rw [Nat.add_mul]
    omega
theorem hts_le {w : Nat} : ∀ {ts : List Tr}, (∀ t ∈ ts, ht t ≤ w) → hts ts ≤ w
  | [], _ => Nat.zero_le _
  | t :: ts, h => Nat.max_le.mpr ⟨h t (List.mem_cons_self ..), hts_le fun u m => h u (List.mem_cons_of_mem _ m)⟩
theorem levelss_le {w : Nat} : ∀ {ts : List Tr}, (∀ t ∈ ts, levels t ≤ w) → levelss ts ≤ w
  | [], _ => Nat.zero_le _
  | t :: ts, h => Nat.max_le.mpr ⟨h t (List.mem_cons_self ..), levelss_le fun u m => h u (List.mem_cons_of_mem _ m)⟩
/-- a tree with what is known of its sizes -/
structure Fits (t : Tr) (w s h l : Nat) : Prop where
  g : genT t
  w : wt t ≤ w
  s : size t ≤ s
  h : ht t ≤ h
  l : levels t ≤ l
theorem Fits.mono {t : Tr} {w s h l w' s' h' l' : Nat} (F : Fits t w s h l) (a : w ≤ w') (b : s ≤ s') (c : h ≤ h') (d : l ≤ l') : Fits t w' s' h' l' := ⟨F.g, Nat.le_trans F.w a, Nat.le_trans F.s b, Nat.le_trans F.h c, Nat.le_trans F.l d⟩
theorem fits_nd {f : Str} {ps : List Tr} {w s h l k : Nat} (hf : nameS f = true) (hk : ps.length ≤ k) (k9 : k ≤ 9) (hp : ∀ p ∈ ps, Fits p w s h l) : Fits (.nd false f ps) (k * (w + 2) + 22) (1 + k * s) (h + 1) (l + 1) := by
  refine ⟨⟨rfl, hf, Nat.le_trans hk k9, gens_of fun p m => (hp p m).g⟩, ?_, ?_, ?_, ?_⟩
  · have := wts_le (w := w) fun p m => (hp p m).w
    have := Nat.mul_le_mul_right (w + 2) hk
    show wts ps + 22 ≤ _
    omega
  · have := sizes_le (w := s) fun p m => (hp p m).s
    have := Nat.mul_le_mul_right s hk
    show size (.nd false f ps) ≤ _
    simp only [size]
    omega
  · have := hts_le (w := h) fun p m => (hp p m).h
    show hts ps + 1 ≤ _
    omega
  · have := levelss_le (w := l) fun p m => (hp p m).l
    show levels (.nd false f ps) ≤ _
    simp only [levels]
    omega
theorem fits_row {ts : List Tr} {w s h l : Nat} (hk : ts.length ≤ 3) (hT : ∀ t ∈ ts, isT t = true) (hp : ∀ p ∈ ts, Fits p w s h l) : Fits (.row ts) (3 * (w + 2) + 2) (3 * s) (h + 1) l := by
  refine ⟨⟨hk, gens_of fun p m => (hp p m).g, hT⟩, ?_, ?_, ?_, ?_⟩
  · have := wts_le (w := w) fun p m => (hp p m).w
    have := Nat.mul_le_mul_right (w + 2) hk
    show wts ts + 2 ≤ _
    omega
  · have := sizes_le (w := s) fun p m => (hp p m).s
    have := Nat.mul_le_mul_right s hk
    show size (.row ts) ≤ _
    simp only [size]
    omega
  · have := hts_le (w := h) fun p m => (hp p m).h
    show hts ts + 1 ≤ _
    omega
  · have := levelss_le (w := l) fun p m => (hp p m).l
    show levels (.row ts) ≤ _
    simp only [levels]
    omega
theorem fits_tx {s : Str} (h : s ∈ menuT) {w : Nat} (hw : 62 ≤ w) {a b c : Nat} : Fits (.tx s) w a b c := ⟨h, hw, by simp only [size]; exact Nat.zero_le _, Nat.zero_le _, by simp only [levels]; exact Nat.zero_le _⟩
theorem wB_le : ∀ d, 62 ≤ wB d
  | 0 => Nat.le_refl _
  | d + 1 => by
    have := wB_le d
    show 62 ≤ 9 * wB d + 92
    omega
theorem GN_isT {P : Tr → Prop} {t : Tr} (h : GNof P t) : isT t = true := by
  obtain ⟨f, ps, rfl, _⟩ := h
  rfl
theorem GP_fits : ∀ {d : Nat} {t : Tr}, GP d t → Fits t (wB d) (sB d) (2 * d) d
  | 0, t, h => by
    obtain ⟨s, rfl, hs⟩ := h
    exact fits_tx hs (Nat.le_refl _)
  | d + 1, t, h => by
    have node : ∀ {u : Tr}, GNof (GP d) u → Fits u (3 * (wB d + 2) + 22) (1 + 3 * sB d) (2 * d + 1) (d + 1) := fun {u} hu => by
      obtain ⟨f, ps, rfl, h1, h2, h3⟩ := hu
      exact fits_nd (menuN_ok f h1) h2 (by decide) fun p m => GP_fits (h3 p m)
    rcases h with ⟨s, rfl, hs⟩ | ⟨ts, rfl, h1, h2⟩ | h
    · exact fits_tx hs (wB_le _)
    · refine (fits_row h1 (fun t m => GN_isT (h2 t m)) fun p m => node (h2 p m)).mono ?_ ?_ ?_ ?_
      · show _ ≤ 9 * wB d + 92
        omega
      · show _ ≤ 9 * sB d + 3
        omega
      · omega
      · omega
    · refine (node h).mono ?_ ?_ ?_ ?_
      · show _ ≤ 9 * wB d + 92
        omega
      · show _ ≤ 9 * sB d + 3
        omega
      · omega
      · omega
theorem GN_fits {d : Nat} {t : Tr} (h : GNof (GP d) t) : Fits t (3 * (wB d + 2) + 22) (1 + 3 * sB d) (2 * d + 1) (d + 1) := by
  obtain ⟨f, ps, rfl, h1, h2, h3⟩ := h
  exact fits_nd (menuN_ok f h1) h2 (by decide) fun p m => GP_fits (h3 p m)
/-! ### what stands while numbers are drawn -/
def DD (m lg : Addr) (H H' : Hp) : Prop := ∀ b o, b ≠ m → b ≠ lg → H b = some o → H' b = some o
theorem DD.refl {m lg : Addr} (H : Hp) : DD m lg H H := fun _ _ _ _ e => e
theorem DD.trans {m lg : Addr} {H H1 H2 : Hp} (a : DD m lg H H1) (b : DD m lg H1 H2) : DD m lg H H2 := fun c o h1 h2 e => b c o h1 h2 (a c o h1 h2 e)
theorem DD.same {m lg : Addr} {H H' : Hp} (e : Same H H') : DD m lg H H' := fun b o _ _ q => e b o q
theorem MA.noti {m lc lg : Addr} {n : Int} {H : Hp} (M : MA m lc lg n H) {b : Addr} {o : HO} (h : tiO o = true) (e : H b = some o) : b ≠ m ∧ b ≠ lg := by
  obtain ⟨hm, _, _, ⟨gs, hg, _⟩, _⟩ := M
  exact ⟨fun q => (by rw [q, hm] at e; cases e; cases h), fun q => (by rw [q, hg] at e; cases e; cases h)⟩
theorem DD.kpo {m lc lg : Addr} {n : Int} {H H' : Hp} (e : DD m lg H H') (M : MA m lc lg n H) : KpO H H' := fun b o h q => let z := M.noti h q; e b o z.1 z.2 q
theorem DD.free {m lc lg : Addr} {n : Int} {H H' : Hp} (e : DD m lg H H') (M : MA m lc lg n H') {p : Addr} (h : H' p = none) : H p = none := by
  obtain ⟨hm, _, _, ⟨gs, hg, _⟩, _⟩ := M
  cases q : H p with
  | none => rfl
  | some o =>
    have := e p o (fun z => by rw [z, hm] at h; cases h) (fun z => by rw [z, hg] at h; cases h) q
    rw [h] at this
    cases this
theorem MA.nm {m lc lg : Addr} {n : Int} {H : Hp} (M : MA m lc lg n H) {p : Addr} (h : H p = none) : p ≠ m ∧ p ≠ lg := by
  obtain ⟨hm, _, _, ⟨gs, hg, _⟩, _⟩ := M
  exact ⟨fun z => (by rw [z, hm] at h; cases h), fun z => (by rw [z, hg] at h; cases h)⟩
mutual
theorem PlAt.mono {N N' : Addr → Prop} {H : Hp} (e : ∀ b, N b → N' b) : ∀ {v : V} (t : Tr), PlAt N H v t → PlAt N' H v t
  | _, .tx _, h => h
  | _, .row ts, h => by
    obtain ⟨l, xs, h1, h2, h3, h4⟩ := h
    exact ⟨l, xs, h1, h2, e _ h3, PlsAt.mono e ts h4⟩
  | _, .nd _ f ps, h => by
    obtain ⟨l, xs, h1, h2, h3, h4⟩ := h
    exact ⟨l, xs, h1, h2, e _ h3, PlsAt.mono e ps h4⟩
  | _, .vr _ _, h => False.elim h
theorem PlsAt.mono {N N' : Addr → Prop} {H : Hp} (e : ∀ b, N b → N' b) : ∀ {xs : List V} (ts : List Tr), PlsAt N H xs ts → PlsAt N' H xs ts
  | [], [], h => h
  | x :: xs, t :: ts, h => ⟨PlAt.mono e t h.1, PlsAt.mono e ts h.2⟩
  | [], _ :: _, h => False.elim h
  | _ :: _, [], h => False.elim h
end
/-- a pair: what the law knows of a part, and the part -/
def PrAt (N : Addr → Prop) (C : Cl5) (H : Hp) (v : V) (t : Tr) : Prop := ∃ a pv tv, v = .ref a ∧ H a = some (.tup [pv, tv]) ∧ PlAt N H pv t ∧ PtAt C H tv t
theorem PrAt.kp {N : Addr → Prop} {C : Cl5} {H H' : Hp} {v : V} {t : Tr} (a : KpN N H H') (b : KpO H H') (h : PrAt N C H v t) : PrAt N C H' v t := by
  obtain ⟨x, pv, tv, h1, h2, h3, h4⟩ := h
  exact ⟨x, pv, tv, h1, b _ _ rfl h2, PlAt.kp a t h3, PtAt.kpo b t h4⟩
theorem PrAt.mono {N N' : Addr → Prop} {C : Cl5} {H : Hp} {v : V} {t : Tr} (e : ∀ b, N b → N' b) (h : PrAt N C H v t) : PrAt N' C H v t := by
  obtain ⟨x, pv, tv, h1, h2, h3, h4⟩ := h
  exact ⟨x, pv, tv, h1, h2, PlAt.mono e t h3, h4⟩
/-- what is not there in a heap -/
def New (H : Hp) : Addr → Prop := fun b => H b = none
theorem DD.kpN {m lc lg : Addr} {n : Int} {H0 H H' : Hp} (M : MA m lc lg n H0) (e : DD m lg H H') : KpN (New H0) H H' := fun b o nb q _ => let z := M.nm nb; e b o z.1 z.2 q
theorem kpN_upd {N : Addr → Prop} {H : Hp} {D : Addr} {o : HO} (h : ¬ N D) : KpN N H (upd H D o) := fun b u nb q _ => by
  rw [upd_ne (fun z => h (by rw [← z]; exact nb))]
  exact q
theorem kpO_upd {H : Hp} {D : Addr} {o : HO} {xs : List V} (h : H D = some (.lst xs)) : KpO H (upd H D o) := fun b u hb q => by
  rw [upd_ne (fun z => (by rw [z, h] at q; cases q; cases hb))]
  exact q
def spPiece (C : Cl5) (d : Nat) : Sp := fun vs H Q _ => ∃ (m lc lg : Addr) (n : Int), vs = [.ref m, .int (d : Int)] ∧ MA m lc lg n H ∧ n + (cP d : Nat) ≤ 1000000 ∧
  ∀ H' p n' t, DD m lg H H' → H p = none → MA m lc lg n' H' → n ≤ n' → n' ≤ n + (cP d : Nat) → PrAt (New H) C H' (.ref p) t → GP d t → Q (.ref p) H'
def spNode (C : Cl5) (d : Nat) : Sp := fun vs H Q _ => ∃ (m lc lg : Addr) (n : Int), vs = [.ref m, .int (d : Int)] ∧ MA m lc lg n H ∧ n + ((2 + 3 * cP d : Nat) : Int) ≤ 1000000 ∧
  ∀ H' p n' t, DD m lg H H' → H p = none → MA m lc lg n' H' → n ≤ n' → n' ≤ n + ((2 + 3 * cP d : Nat) : Int) → PrAt (New H) C H' (.ref p) t → GNof (GP d) t → Q (.ref p) H'
def spNodeP (C : Cl5) : Nat → Sp
  | 0 => fun _ _ _ _ => False
  | d + 1 => spNode C d
theorem cP_ge : ∀ d, 2 ≤ cP d
  | 0 => Nat.le_refl _
  | d + 1 => by
    show 2 ≤ 2 + 3 * (2 + 3 * cP d)
    omega
theorem GP_tx {s : Str} (h : s ∈ menuT) : ∀ d, GP d (.tx s)
  | 0 => ⟨s, rfl, h⟩
  | _ + 1 => .inl ⟨s, rfl, h⟩
/-- a text drawn from a written list -/
theorem pick {l : List Str} {j : Nat} (h : j < l.length) : ∃ s, s ∈ l ∧ (l.map V.str)[j]? = some (.str s) := ⟨l[j], List.getElem_mem h, by rw [List.getElem?_map, List.getElem?_eq_getElem h]; rfl⟩
/-! a list gets the items of another one, taken at a place -/
theorem prs_pl {N : Addr → Prop} {C : Cl5} {H : Hp} : ∀ {xs : List V} {ts : List Tr}, Paired (PrAt N C H) xs ts → ∃ (as : List Addr) (ps vs : List V), xs = as.map V.ref ∧ as.length = ts.length ∧ PlsAt N H ps ts ∧ PtsAt C H vs ts ∧ ps.length = ts.length ∧ vs.length = ts.length ∧ ∀ (i : Nat) (a : Addr), as[i]? = some a → ∃ p v, ps[i]? = some p ∧ vs[i]? = some v ∧ H a = some (.tup [p, v])
  | [], [], _ => ⟨[], [], [], rfl, rfl, True.intro, True.intro, rfl, rfl, fun i a h => nomatch h⟩
  | x :: xs, t :: ts, h => by
    cases h with
    | cons a b =>
      obtain ⟨as, ps, vs, e1, e2, e3, e4, e5, e6, e7⟩ := prs_pl b
      obtain ⟨y, pv, tv, rfl, h2, h3, h4⟩ := a
      refine ⟨y :: as, pv :: ps, tv :: vs, by rw [e1]; rfl, by rw [List.length_cons, List.length_cons, e2], ⟨h3, e3⟩, ⟨h4, e4⟩, by rw [List.length_cons, List.length_cons, e5], by rw [List.length_cons, List.length_cons, e6], fun i a hi => ?_⟩
      cases i with
      | zero =>
        cases hi
        exact ⟨pv, tv, rfl, rfl, h2⟩
      | succ i => exact e7 i a hi
/-- [x[j] for x in l], for tuples x -/
theorem lc_at {K : PySem.W.Frag} {i s j : Nat} {σ : L2.St} {H : Hp} {Q : VK} {L : Addr} {xs out : List V} (hv : σ[i]? = some (some (.ref L))) (hL : H L = some (.lst xs)) (ls : s < σ.length)
    (hg : ∀ (k : Nat) (x : V), xs[k]? = some x → ∃ (a : Addr) (ws : List V) (v : V), x = .ref a ∧ H a = some (.tup ws) ∧ ws[j]? = some v ∧ out[k]? = some v) (hl : out.length = xs.length) (hs : xs.length < sizeLine) (k : ∀ H' D, Same H H' → H D = none → H' D = some (.lst out) → Q (.ref D) H') :
    tLc (iList K (tVar i)) (gName s) tYes (tOp (rIxT K) (tVar s) (tC (.int (j : Int)))) [s] σ H Q := by
  refine ⟨_, hv, L, rfl, ⟨_, SqL.of hL⟩, fun D hD => lc_list (K := K) (a := L) (xs := xs) (fun n H' => Same H H' ∧ H' D = some (.lst (out.take n))) ⟨same_upd (Same.refl H) hD, upd_same⟩ (fun n H' _ ⟨s', _⟩ => SqL.of (s' _ _ hL)) ?_ ?_⟩
  · rintro n x H1 hx ⟨s1, e1⟩
    obtain ⟨a, ws, v, rfl, h1, h2, h3⟩ := hg n x hx
    refine ⟨?_, ?_⟩
    · show ((σ.set s none).set s (some (.ref a))).set s none = σ.set s none
      rw [List.set_set, List.set_set]
    · dsimp only [tYes]
      rw [if_pos rfl]
      refine ⟨.ref a, ?_, a, ws, (j : Int), v, rfl, rfl, SqT.of (s1 _ _ h1), atI_nat h2, _, e1, ?_, same_upd s1 hD, ?_⟩
      · show ((σ.set s none).set s (some (.ref a)))[s]? = _
        rw [List.set_set, List.getElem?_set_self ls]
      · have : (out.take n).length ≤ out.length := by rw [List.length_take]; exact Nat.min_le_right _ _
        omega
      · rw [upd_same, List.take_add_one, h3]
        rfl
  · rintro H1 ⟨s1, e1⟩
    rw [← hl, List.take_length] at e1
    exact k H1 D s1 hD e1
end K3

namespace K3
open PySem L2 E0
section
variable {P : Program} {w : World} {K : PySem.W.Frag} {mg : Str → Option Value} {base : Heap}
/-- a def, where it stands and how it is called -/
structure DefA (K : PySem.W.Frag) (mg : Str → Option Value) (x : Str) (ps : List Str) (f : Addr) (fd : FuncData) : Prop where
  g : mg x = some (.ref f)
  k : PySem.W.keepIn K (.ref f) = true
  b : Binds K fd ps []
def NPI : List Str := ["_law_m", "_law_deep", "_law_way", "_law_word", "_law_some", "_law_n", "_law_pair"]
theorem scPiece : FnScope NPI ["_law_m", "_law_deep"] (defScope sPiece) := ⟨rfl, rfl, rfl, by decide +kernel, rfl, by decide +kernel, by decide +kernel⟩
theorem ok_piece {C : Cl5} {f fD fN : Addr} {fd fdD fdN : FuncData} {d : Nat} (F : Fun K "_law_piece" "_law_piece" sPiece f fd) (GD : FnOk P w K mg base CX0 2 fD fdD ["_law_m", "_law_top"] spDraw) (AD : DefA K mg "_law_draw" ["_law_m", "_law_top"] fD fdD)
    (GN : FnOk P w K mg base CX0 (6 + 2 * d) fN fdN ["_law_m", "_law_deep"] (spNodeP C d)) (AN : DefA K mg "_law_node_pair" ["_law_m", "_law_deep"] fN fdN) (gR : mg "range" = none) (gTup : mg "tuple" = none) :
    FnOk P w K mg base CX0 (7 + 2 * d) f fd ["_law_m", "_law_deep"] (spPiece C d) := by
  refine (show 6 + 2 * d + 1 = 7 + 2 * d by omega) ▸ F.ok (k := 6 + 2 * d) scPiece (fun vs H Q E h => ?_) (fun cdv A outer s H vs Q E hr h => ?_)
  · obtain ⟨m, lc, lg, n, rfl, _⟩ := h
    rfl
  · obtain ⟨m, lc, lg, n, rfl, M, hn, k⟩ := h
    have hr2 : Room 2 _ := hr.mono (by omega)
    have hu := hu_of hr
    refine ⟨_, pss_cons (ps_set (i := 2) scPiece.nd rfl (Or.inl rfl) (pe_call GD hr2 rfl AD.g AD.k AD.b .nil pass0 (pa_cons (pv 0) (pa_cons pe_int pa_nil))))
      (pss_cons (ps_if (PW.pt (pw_or (pt_cmpR op_lt (pv 2) pe_int (nomark _)) (pw_or1 (pt_cmpR op_eq (pv 1) pe_int (nomark _)))))
        (pss_cons (ps_set (i := 3) scPiece.nd rfl (Or.inl rfl) (pe_ix ix_list (pe_lst (pa_cons pe_str (pa_cons pe_str (pa_cons pe_str (pa_cons (pe_op op_mul_str pe_str pe_int) (pa_cons pe_str pa_nil)))))) (pe_call GD hr2 rfl AD.g AD.k AD.b .nil pass0 (pa_cons (pv 0) (pa_cons pe_int pa_nil))) (fun _ _ => rfl)))
          (pss_one (ps_ret (pe_tup (pa_cons (pv 3) (pa_cons (pv 3) pa_nil)))))) pss_nil)
      (pss_cons (ps_if (pt_cmpR op_eq (pv 2) pe_int (nomark _))
        (pss_cons (ps_setLc (i := 4) (own := [("_law_n", 5)]) (g := gName 5) (tt := tYes) (te := tCall (spNodeP C d) [] E0 (tCons (tVar 0) (tCons (tOp (rI0 fun i j => .int (i - j)) (tVar 1) (tC (.int 1))) tNil))) rfl scPiece.nd rfl rfl (sw_true rfl rfl rfl (by decide +kernel)) (pi_range1 rfl gR (pa_cons (pe_call GD hr2 rfl AD.g AD.k AD.b .nil pass0 (pa_cons (pv 0) (pa_cons pe_int pa_nil))) pa_nil))
            (blkOk_by (N := NPI) (sc := defScope sPiece) (by decide +kernel)) (fun _ _ _ _ _ => pg_name (i := 5) scPiece.nd rfl (Or.inl rfl)) (fun _ _ _ _ _ => pts_nil)
            (fun _ _ _ _ _ => pe_call GN hr rfl AN.g AN.k AN.b .nil pass0 (pa_cons (pv 0) (pa_cons (pe_op op_sub (pv 1) pe_int) pa_nil))))
          (pss_one (ps_ret (pe_tup (pa_cons
            (pe_lc (own := [("_law_pair", 6)]) (g := gName 6) (tt := tYes) (te := tOp (rIxT K) (tVar 6) (tC (.int 0))) rfl scPiece.nd (pi_list (pv 4)) (blkOk_by (N := NPI) (sc := defScope sPiece) (by decide +kernel)) (fun _ _ _ _ _ => pg_name (i := 6) scPiece.nd rfl (Or.inl rfl)) (fun _ _ _ _ _ => pts_nil) (fun _ _ _ _ _ => pe_ix ix_tup (pv 6) pe_int (fun _ _ => rfl)))
            (pa_cons (pe_callTy call_tuple_of (by rfl) gTup PyProof.Rows.boot_tuple (pa_cons
              (pe_lc (own := [("_law_pair", 6)]) (g := gName 6) (tt := tYes) (te := tOp (rIxT K) (tVar 6) (tC (.int 1))) rfl scPiece.nd (pi_list (pv 4)) (blkOk_by (N := NPI) (sc := defScope sPiece) (by decide +kernel)) (fun _ _ _ _ _ => pg_name (i := 6) scPiece.nd rfl (Or.inl rfl)) (fun _ _ _ _ _ => pts_nil) (fun _ _ _ _ _ => pe_ix ix_tup (pv 6) pe_int (fun _ _ => rfl))) pa_nil)) pa_nil)))))) pss_nil)
      (pss_one (ps_ret (pe_call GN hr rfl AN.g AN.k AN.b .nil pass0 (pa_cons (pv 0) (pa_cons (pe_op op_sub (pv 1) pe_int) pa_nil))))))), ?_⟩
    have c2 := cP_ge d
    refine ⟨_, rfl, m, lc, lg, n, 5, rfl, M, by omega, by decide, by decide, fun H1 w0 d0 dl M1 e1 => ?_⟩
    have D1 : DD m lg H H1 := e1
    obtain ⟨j, rfl⟩ : ∃ j : Nat, w0 = (j : Int) := ⟨w0.toNat, by omega⟩
    refine ⟨_, rfl, _, _, rfl, rfl, _, rfl, ?_⟩
    refine ite2 (fun h1 => ?g1) (fun h1 => ?g2)
    case' g1 => refine iteT ?_
    case' g2 =>
      refine ⟨_, rfl, rfl, _, rfl, ?_⟩
      refine ite2 (fun h2 => ?g3) (fun h2 => ?g4)
    case g4 =>
      have hd0 : ¬ (d : Int) = 0 := fun q => h2 (decide_eq_true (by rw [q]))
      obtain ⟨e, rfl⟩ : ∃ e, d = e + 1 := ⟨d - 1, by omega⟩
      have ce : cP (e + 1) = 2 + 3 * (2 + 3 * cP e) := rfl
      have ee : (((e + 1 : Nat) : Int) - 1) = ((e : Nat) : Int) := by omega
      refine ⟨_, rfl, rfl, _, rfl, ?_⟩
      refine ite2 (fun h3 => ?_) (fun h3 => ?_)
      · refine ⟨_, rfl, m, lc, lg, n + 1, 4, rfl, M1, by omega, by decide, by decide, fun H2 w1 p0 p1 M2 e2 => ?_⟩
        obtain ⟨r, rfl⟩ : ∃ r : Nat, w1 = (r : Int) := ⟨w1.toNat, by omega⟩
        have D2 : DD m lg H H2 := D1.trans e2
        refine ⟨_, rfl, by omega, by omega, fun D hD => lc_range (lo := 0) (n := r) (fun i H' => ∃ (acc : List V) (ts : List Tr) (n' : Int), H' D = some (.lst acc) ∧ Paired (PrAt (fun b => H2 b = none ∧ b ≠ D) C H') acc ts ∧ acc.length = i ∧ (∀ t ∈ ts, GNof (GP e) t) ∧ DD m lg H2 H' ∧ MA m lc lg n' H' ∧ n + 1 + 1 ≤ n' ∧ n' ≤ n + 1 + 1 + ((i * (2 + 3 * cP e) : Nat) : Int))
          ⟨[], [], n + 1 + 1, upd_same, .nil, rfl, (fun t h => nomatch h), DD.same (same_upd (Same.refl H2) hD), M2.same (same_upd (Same.refl H2) hD), by omega, by omega⟩ ?_ ?_⟩
        · rintro i H3 hi ⟨acc, ts, n', q1, q2, q3, q4, q5, q6, q7, q8⟩
          have ib : i * (2 + 3 * cP e) ≤ 2 * (2 + 3 * cP e) := Nat.mul_le_mul_right _ (by omega)
          have is : (i + 1) * (2 + 3 * cP e) = i * (2 + 3 * cP e) + (2 + 3 * cP e) := Nat.succ_mul _ _
          obtain ⟨nDm, nDg⟩ := M2.nm hD
          have big : (1000 : Nat) < sizeLine := by decide
          have nND : ¬ (H2 D = none ∧ D ≠ D) := fun q => q.2 rfl
          refine ⟨rfl, ?_⟩
          dsimp only [tYes]
          rw [if_pos rfl]
          refine ⟨_, rfl, _, rfl, _, _, rfl, rfl, m, lc, lg, n', congrArg (fun z => [V.ref m, V.int z]) ee, q6, by omega, fun H4 p nn t dd np M4 l1 l2 pr gt => ?_⟩
          have q14 := dd D _ nDm nDg q1
          have kN : KpN (fun b => H2 b = none ∧ b ≠ D) H3 H4 := fun b o nb q _ => let z := M2.nm nb.1; dd b o z.1 z.2 q
          refine ⟨acc, q14, by omega, acc ++ [.ref p], ts ++ [t], nn, upd_same, ?_, by rw [List.length_append, q3]; rfl, fun u hu => (List.mem_append.mp hu).elim (q4 u) (fun z => by rw [List.mem_singleton.mp z]; exact gt), ?_, ?_, by omega, by rw [is]; omega⟩
          · refine Paired.snoc (Paired.mapP q2 fun a b q => (q.kp kN (dd.kpo q6)).kp (kpN_upd nND) (kpO_upd q14)) ((pr.mono fun b hb => ⟨q5.free q6 hb, fun z => ?_⟩).kp (kpN_upd nND) (kpO_upd q14))
            have hb : H3 b = none := hb
            rw [z, q1] at hb
            cases hb
          · intro b o b1 b2 q
            rw [upd_ne (ne_of_none q hD)]
            exact dd b o b1 b2 (q5 b o b1 b2 q)
          · have nm4 : m ≠ D := Ne.symm nDm
            obtain ⟨hm, ne, ⟨cs, hc, cc1, cc2⟩, ⟨gs, hg, g1⟩, n0⟩ := M4
            have hc2 : lc ≠ D := fun z => by
              obtain ⟨_, _, ⟨cs', hc', _⟩, _⟩ := M2
              rw [z, hD] at hc'
              cases hc'
            exact ⟨by rw [upd_ne nm4]; exact hm, ne, ⟨cs, by rw [upd_ne hc2]; exact hc, cc1, cc2⟩, ⟨gs, by rw [upd_ne (Ne.symm nDg)]; exact hg, g1⟩, n0⟩
        · rintro H3 ⟨acc, ts, n', q1, q2, q3, q4, q5, q6, q7, q8⟩
          have ib : r * (2 + 3 * cP e) ≤ 3 * (2 + 3 * cP e) := Nat.mul_le_mul_right _ (by omega)
          obtain ⟨as, ps, vs, rfl, f2, f3, f4, f5, f6, f7⟩ := prs_pl q2
          have al : as.length = r := by rw [← q3, List.length_map]
          have big : (1000 : Nat) < sizeLine := by decide
          have get : ∀ (k : Nat) (x : V), (as.map V.ref)[k]? = some x → ∃ (a : Addr) (p v : V), x = .ref a ∧ H3 a = some (.tup [p, v]) ∧ ps[k]? = some p ∧ vs[k]? = some v := fun k x hx => by
            rw [List.getElem?_map] at hx
            cases ha : as[k]? with
            | none => rw [ha] at hx; cases hx
            | some a =>
              rw [ha] at hx
              obtain ⟨p, v, g1, g2, g3⟩ := f7 k a ha
              exact ⟨a, p, v, (Option.some.inj hx).symm, g3, g1, g2⟩
          dsimp only [gName, tRet, tTup, tCons]
          refine lc_at (K := K) (i := 4) (s := 6) (j := 0) (xs := as.map V.ref) (out := ps) ?h1 q1 ?h2 (fun k x hx => let ⟨a, p, v, g1, g2, g3, g4⟩ := get k x hx; ⟨a, [p, v], p, g1, g2, rfl, g3⟩) (by rw [List.length_map, f5, f2]) (by rw [List.length_map]; omega) ?h3
          case h1 => rfl
          case h2 => show 6 < 7; decide
          intro H4 L1 s4 n4 h4
          dsimp only [tCB, tCons, tNil]
          refine lc_at (K := K) (i := 4) (s := 6) (j := 1) (xs := as.map V.ref) (out := vs) ?i1 (s4 _ _ q1) ?i2 (fun k x hx => let ⟨a, p, v, g1, g2, g3, g4⟩ := get k x hx; ⟨a, [p, v], v, g1, s4 _ _ g2, rfl, g4⟩) (by rw [List.length_map, f6, f2]) (by rw [List.length_map]; omega) ?i3
          case i1 => rfl
          case i2 => show 6 < 7; decide
          intro H5 L2 s5 n5 h5
          refine ⟨L2, vs, rfl, .inl ⟨SqL.of h5, fun tp ntp => ?_⟩⟩
          refine ⟨by show 2 ≤ sizeLine; decide, fun p np => ?_⟩
          have s6 : Same H5 (upd H5 tp (.tup vs)) := same_upd (Same.refl H5) ntp
          have htp : (upd H5 tp (.tup vs)) tp = some (.tup vs) := upd_same
          generalize upd H5 tp (.tup vs) = H6 at s6 htp np ⊢
          have s7 : Same H6 (upd H6 p (.tup [.ref L1, .ref tp])) := same_upd (Same.refl H6) np
          have hp7 : (upd H6 p (.tup [.ref L1, .ref tp])) p = some (.tup [.ref L1, .ref tp]) := upd_same
          generalize upd H6 p (.tup [.ref L1, .ref tp]) = H7 at s7 hp7 ⊢
          have s37 : Same H3 H7 := ((s4.trans s5).trans s6).trans s7
          have s67 := s5.trans (s6.trans s7)
          refine k H7 p n' (.row ts) (D2.trans (q5.trans (DD.same s37))) (D2.free M2 (q5.free q6 ((s4.trans (s5.trans s6)).free np))) (q6.same s37) (by omega) (by omega)
            ⟨p, _, _, rfl, hp7, ⟨L1, ps, rfl, s67 _ _ h4, D2.free M2 (q5.free q6 n4), PlsAt.mono (fun b hb => D2.free M2 hb.1) _ (PlsAt.kp (KpN.same s37) _ f3)⟩, ⟨tp, vs, rfl, s7 _ _ htp, PtsAt.kpo (KpO.same s37) _ f4⟩⟩ (.inr (.inl ⟨ts, rfl, by omega, q4⟩))
      · refine ⟨_, rfl, _, rfl, _, _, rfl, rfl, m, lc, lg, n + 1, congrArg (fun z => [V.ref m, V.int z]) ee, M1, by omega, fun H2 p nn t dd np M2 l1 l2 pr gt => ?_⟩
        exact k H2 p nn t (D1.trans dd) (D1.free M1 np) M2 (by omega) (by omega) (pr.mono fun b hb => D1.free M1 hb) (.inr (.inr gt))
    all_goals
      refine ⟨"x", 60, rfl, rfl, by decide, by decide, by decide +kernel, by decide +kernel, by decide +kernel, ?_⟩
      refine ⟨by show 5 ≤ sizeLine; decide, fun l hl => ?_⟩
      have sl : Same H1 (upd H1 l (.lst (menuT.map V.str))) := same_upd (Same.refl H1) hl
      have vl : (upd H1 l (.lst (menuT.map V.str))) l = some (.lst (menuT.map V.str)) := upd_same
      refine ⟨_, rfl, m, lc, lg, n + 1, 5, rfl, M1.same sl, by omega, by decide, by decide, fun H2 w1 p0 p1 M2 e2 => ?_⟩
      obtain ⟨j1, rfl⟩ : ∃ r : Nat, w1 = (r : Int) := ⟨w1.toNat, by omega⟩
      obtain ⟨z, hz, ez⟩ := pick (l := menuT) (j := j1) (by show j1 < 5; omega)
      have nl := M1.nm hl
      have D2 : DD m lg H H2 := (D1.trans (DD.same sl)).trans e2
      refine ⟨l, _, _, _, rfl, rfl, SqL.of (e2 l _ nl.1 nl.2 vl), atI_nat (j := j1) ez, ?_⟩
      refine ⟨_, rfl, _, rfl, by show 2 ≤ sizeLine; decide, fun p np => ?_⟩
      have s3 : Same H2 (upd H2 p (.tup [.str z, .str z])) := same_upd (Same.refl H2) np
      exact k _ p (n + 1 + 1) (.tx z) (D2.trans (DD.same s3)) (D2.free M2 np) (M2.same s3) (by omega) (by omega) ⟨p, _, _, rfl, upd_same, rfl, rfl⟩ (GP_tx hz d)
end
end K3

namespace K3
open PySem L2 E0
theorem small_d : ∀ d, d ≤ 2 → sB d ≤ 30 ∧ wB d ≤ 5942 ∧ cP d ≤ 242
  | 0, _ => by decide
  | 1, _ => by decide
  | 2, _ => by decide
  | _ + 3, h => by omega
theorem parts_good : ∀ ts : List Tr, partsOf (ts.map PI.good) = ts
  | [] => rfl
  | t :: ts => by
    show t :: partsOf (ts.map PI.good) = _
    rw [parts_good ts]
theorem first_good : ∀ (ts : List Tr) (n : Nat), firstBad n (ts.map PI.good) = none
  | [], _ => rfl
  | _ :: ts, n => first_good ts (n + 1)
theorem tree_none {z : Str} {ts : List Tr} (hz : nameS z = true) (h1 : 1 + sizes ts ≤ 400) (h2 : levelss ts + 1 ≤ 100) : treeDue (.str z) (ts.map PI.good) = none := by
  unfold treeDue
  rw [if_neg (by show ¬ nameS z = false; rw [hz]; exact Bool.noConfusion), first_good, parts_good]
  show (if _ then _ else _) = _
  rw [if_neg (by omega)]
theorem gen_pi {K : PySem.W.Frag} {C : Cl5} {H : Hp} : ∀ {xs : List V} {ts : List Tr}, PtsAt C H xs ts → (∀ t ∈ ts, genT t ∧ wt t ≤ 16000000) → Paired (PIAt K C H) xs (ts.map PI.good)
  | [], [], _, _ => .nil
  | x :: xs, t :: ts, h, g => by
    obtain ⟨g1, g2⟩ := g t (List.mem_cons_self ..)
    exact .cons ⟨h.1, gen_okP g1, (gen_row g1).2, gen_okTx g1 g2⟩ (gen_pi h.2 fun u m => g u (List.mem_cons_of_mem _ m))
  | [], _ :: _, h, _ => False.elim h
  | _ :: _, [], h, _ => False.elim h
theorem val_nm {K : PySem.W.Frag} {H : Hp} {z : Str} (h : nameS z = true) (ho : PyData.strOk z = true) : Val K H (.str z) := .inl ⟨z, rfl, Nat.le_trans (nameS_len h) (by decide), ho⟩
theorem menuN_str : ∀ s ∈ menuN, PyData.strOk s = true := by
  have h : (menuN.all PyData.strOk) = true := by decide +kernel
  exact fun s hs => List.all_eq_true.mp h s hs
section
variable {P : Program} {w : World} {K : PySem.W.Frag} {mg : Str → Option Value} {base : Heap}
def NNP : List Str := ["_law_m", "_law_deep", "_law_some", "_law_word", "_law_n", "_law_pair"]
theorem scNodePair : FnScope NNP ["_law_m", "_law_deep"] (defScope sNodePair) := ⟨rfl, rfl, rfl, by decide +kernel, rfl, by decide +kernel, by decide +kernel⟩
theorem ok_node {C : Cl5} {CI f fD fP fW : Addr} {fd fdD fdP fdW : FuncData} {d : Nat} (hd2 : d ≤ 2) (F : Fun K "_law_node_pair" "_law_node_pair" sNodePair f fd) (GD : FnOk P w K mg base CX0 2 fD fdD ["_law_m", "_law_top"] spDraw) (AD : DefA K mg "_law_draw" ["_law_m", "_law_top"] fD fdD)
    (GPc : FnOk P w K mg base CX0 (7 + 2 * d) fP fdP ["_law_m", "_law_deep"] (spPiece C d)) (AP : DefA K mg "_law_piece" ["_law_m", "_law_deep"] fP fdP)
    (GW : FnOk P w K mg base (L2.CX P w) 6 fW fdW ["_law_word", "_law_r"] (spNew K C CI)) (AW : DefA K mg "_law_new" ["_law_word", "_law_r"] fW fdW) (gR : mg "range" = none) (gTup : mg "tuple" = none) :
    FnOk P w K mg base CX0 (8 + 2 * d) f fd ["_law_m", "_law_deep"] (spNode C d) := by
  refine (show 7 + 2 * d + 1 = 8 + 2 * d by omega) ▸ F.ok (k := 7 + 2 * d) scNodePair (fun vs H Q E h => ?_) (fun cdv A outer s H vs Q E hr h => ?_)
  · obtain ⟨m, lc, lg, n, rfl, _⟩ := h
    rfl
  · obtain ⟨m, lc, lg, n, rfl, M, hn, k⟩ := h
    have hr2 : Room 2 _ := hr.mono (by omega)
    have hr6 : Room 6 _ := hr.mono (by omega)
    have hu := hu_of hr
    refine ⟨_, pss_cons (ps_setLc (i := 2) (own := [("_law_n", 4)]) (g := gName 4) (tt := tYes) (te := tCall (spPiece C d) [] E0 (tCons (tVar 0) (tCons (tVar 1) tNil))) rfl scNodePair.nd rfl rfl (sw_true rfl rfl rfl (by decide +kernel)) (pi_range1 rfl gR (pa_cons (pe_ix ix_list (pe_lst (pa_cons pe_int (pa_cons pe_int (pa_cons pe_int (pa_cons pe_int (pa_cons pe_int pa_nil)))))) (pe_call GD hr2 rfl AD.g AD.k AD.b .nil pass0 (pa_cons (pv 0) (pa_cons pe_int pa_nil))) (fun _ _ => rfl)) pa_nil))
            (blkOk_by (N := NNP) (sc := defScope sNodePair) (by decide +kernel)) (fun _ _ _ _ _ => pg_name (i := 4) scNodePair.nd rfl (Or.inl rfl)) (fun _ _ _ _ _ => pts_nil)
            (fun _ _ _ _ _ => pe_call GPc hr rfl AP.g AP.k AP.b .nil pass0 (pa_cons (pv 0) (pa_cons (pv 1) pa_nil))))
      (pss_cons (ps_set (i := 3) scNodePair.nd rfl (Or.inl rfl) (pe_ix ix_list (pe_lst (pa_cons pe_str (pa_cons pe_str (pa_cons pe_str (pa_cons pe_str (pa_cons (pe_op op_mul_str pe_str pe_int) pa_nil)))))) (pe_call GD hr2 rfl AD.g AD.k AD.b .nil pass0 (pa_cons (pv 0) (pa_cons pe_int pa_nil))) (fun _ _ => rfl)))
      (pss_one (ps_ret (pe_tup (pa_cons (pe_callTy call_tuple_of (by rfl) gTup PyProof.Rows.boot_tuple (pa_cons (pe_op op_cat (pe_lst (pa_cons (pv 3) pa_nil))
            (pe_lc (own := [("_law_pair", 5)]) (g := gName 5) (tt := tYes) (te := tOp (rIxT K) (tVar 5) (tC (.int 0))) rfl scNodePair.nd (pi_list (pv 2)) (blkOk_by (N := NNP) (sc := defScope sNodePair) (by decide +kernel)) (fun _ _ _ _ _ => pg_name (i := 5) scNodePair.nd rfl (Or.inl rfl)) (fun _ _ _ _ _ => pts_nil) (fun _ _ _ _ _ => pe_ix ix_tup (pv 5) pe_int (fun _ _ => rfl)))) pa_nil))
          (pa_cons (pe_call (E := E0) GW hr6 rfl AW.g AW.k AW.b .nil passL (pa_cons (pv 3) (pa_cons
            (pe_lc (own := [("_law_pair", 5)]) (g := gName 5) (tt := tYes) (te := tOp (rIxT K) (tVar 5) (tC (.int 1))) rfl scNodePair.nd (pi_list (pv 2)) (blkOk_by (N := NNP) (sc := defScope sNodePair) (by decide +kernel)) (fun _ _ _ _ _ => pg_name (i := 5) scNodePair.nd rfl (Or.inl rfl)) (fun _ _ _ _ _ => pts_nil) (fun _ _ _ _ _ => pe_ix ix_tup (pv 5) pe_int (fun _ _ => rfl))) pa_nil))) pa_nil)))))), ?_⟩
    have c2 := cP_ge d
    obtain ⟨sd1, sd2, sd3⟩ := small_d d hd2
    have big : (1000 : Nat) < sizeLine := by decide
    refine ⟨by show 5 ≤ sizeLine; omega, fun l0 hl0 => ?_⟩
    have sl0 : Same H (upd H l0 (.lst ([0, 1, 1, 2, 3].map V.int))) := same_upd (Same.refl H) hl0
    have vl0 : (upd H l0 (.lst ([0, 1, 1, 2, 3].map V.int))) l0 = some (.lst ([0, 1, 1, 2, 3].map V.int)) := upd_same
    refine ⟨_, rfl, m, lc, lg, n, 5, rfl, M.same sl0, by omega, by decide, by decide, fun H1 w0 d0 dl M1 e1 => ?_⟩
    have nl0 := M.nm hl0
    have D1 : DD m lg H H1 := (DD.same sl0).trans e1
    obtain ⟨j, rfl⟩ : ∃ j : Nat, w0 = (j : Int) := ⟨w0.toNat, by omega⟩
    obtain ⟨r, hr3, er⟩ : ∃ r : Nat, r ≤ 3 ∧ (([0, 1, 1, 2, 3] : List Int).map V.int)[j]? = some (.int (r : Int)) := by
      match j, dl with
      | 0, _ => exact ⟨0, by omega, rfl⟩
      | 1, _ => exact ⟨1, by omega, rfl⟩
      | 2, _ => exact ⟨1, by omega, rfl⟩
      | 3, _ => exact ⟨2, by omega, rfl⟩
      | 4, _ => exact ⟨3, by omega, rfl⟩
      | k + 5, h => omega
    refine ⟨l0, _, _, _, rfl, rfl, SqL.of (e1 l0 _ nl0.1 nl0.2 vl0), atI_nat (j := j) er, ?_⟩
    refine ⟨_, rfl, by omega, by omega, fun D hD => lc_range (lo := 0) (n := r) (fun i H' => ∃ (acc : List V) (ts : List Tr) (n' : Int), H' D = some (.lst acc) ∧ Paired (PrAt (fun b => H1 b = none ∧ b ≠ D) C H') acc ts ∧ acc.length = i ∧ (∀ t ∈ ts, GP d t) ∧ DD m lg H1 H' ∧ MA m lc lg n' H' ∧ n + 1 ≤ n' ∧ n' ≤ n + 1 + ((i * cP d : Nat) : Int))
      ⟨[], [], n + 1, upd_same, .nil, rfl, (fun t h => nomatch h), DD.same (same_upd (Same.refl H1) hD), M1.same (same_upd (Same.refl H1) hD), by omega, by omega⟩ ?_ ?_⟩
    · rintro i H3 hi ⟨acc, ts, n', q1, q2, q3, q4, q5, q6, q7, q8⟩
      have ib : i * cP d ≤ 2 * cP d := Nat.mul_le_mul_right _ (by omega)
      have is : (i + 1) * cP d = i * cP d + cP d := Nat.succ_mul _ _
      obtain ⟨nDm, nDg⟩ := M1.nm hD
      have nND : ¬ (H1 D = none ∧ D ≠ D) := fun q => q.2 rfl
      refine ⟨rfl, ?_⟩
      dsimp only [tYes]
      rw [if_pos rfl]
      refine ⟨_, rfl, _, rfl, m, lc, lg, n', rfl, q6, by omega, fun H4 p nn t dd np M4 l1 l2 pr gt => ?_⟩
      have q14 := dd D _ nDm nDg q1
      have kN : KpN (fun b => H1 b = none ∧ b ≠ D) H3 H4 := fun b o nb q _ => let z := M1.nm nb.1; dd b o z.1 z.2 q
      refine ⟨acc, q14, by omega, acc ++ [.ref p], ts ++ [t], nn, upd_same, ?_, by rw [List.length_append, q3]; rfl, fun u hu => (List.mem_append.mp hu).elim (q4 u) (fun z => by rw [List.mem_singleton.mp z]; exact gt), ?_, ?_, by omega, by rw [is]; omega⟩
      · refine Paired.snoc (Paired.mapP q2 fun a b q => (q.kp kN (dd.kpo q6)).kp (kpN_upd nND) (kpO_upd q14)) ((pr.mono fun b hb => ⟨q5.free q6 hb, fun z => ?_⟩).kp (kpN_upd nND) (kpO_upd q14))
        have hb : H3 b = none := hb
        rw [z, q1] at hb
        cases hb
      · intro b o b1 b2 q
        rw [upd_ne (ne_of_none q hD)]
        exact dd b o b1 b2 (q5 b o b1 b2 q)
      · have nm4 : m ≠ D := Ne.symm nDm
        obtain ⟨hm, ne, ⟨cs, hc, cc1, cc2⟩, ⟨gs, hg, g1⟩, n0⟩ := M4
        have hc2 : lc ≠ D := fun z => by
          obtain ⟨_, _, ⟨cs', hc', _⟩, _⟩ := M1
          rw [z, hD] at hc'
          cases hc'
        exact ⟨by rw [upd_ne nm4]; exact hm, ne, ⟨cs, by rw [upd_ne hc2]; exact hc, cc1, cc2⟩, ⟨gs, by rw [upd_ne (Ne.symm nDg)]; exact hg, g1⟩, n0⟩
    · rintro H3 ⟨acc, ts, n', q1, q2, q3, q4, q5, q6, q7, q8⟩
      have ib : r * cP d ≤ 3 * cP d := Nat.mul_le_mul_right _ (by omega)
      have D3 : DD m lg H H3 := D1.trans q5
      -- the word
      refine ⟨"x", 20, rfl, rfl, by decide, by decide, by decide +kernel, by decide +kernel, by decide +kernel, ?_⟩
      refine ⟨by show 5 ≤ sizeLine; omega, fun l hl => ?_⟩
      have sl : Same H3 (upd H3 l (.lst (menuN.map V.str))) := same_upd (Same.refl H3) hl
      have vl : (upd H3 l (.lst (menuN.map V.str))) l = some (.lst (menuN.map V.str)) := upd_same
      refine ⟨_, rfl, m, lc, lg, n', 5, rfl, q6.same sl, by omega, by decide, by decide, fun H4 w1 p0 p1 M4 e4 => ?_⟩
      obtain ⟨j1, rfl⟩ : ∃ r : Nat, w1 = (r : Int) := ⟨w1.toNat, by omega⟩
      obtain ⟨z, hz, ez⟩ := pick (l := menuN) (j := j1) (by show j1 < 5; omega)
      have nl := q6.nm hl
      refine ⟨l, _, _, _, rfl, rfl, SqL.of (e4 l _ nl.1 nl.2 vl), atI_nat (j := j1) ez, ?_⟩
      have dd4 : DD m lg H3 H4 := (DD.same sl).trans e4
      obtain ⟨nDm, nDg⟩ := M1.nm hD
      have q14 := dd4 D _ nDm nDg q1
      have kN : KpN (fun b => H1 b = none ∧ b ≠ D) H3 H4 := fun b o nb q _ => let z := M1.nm nb.1; dd4 b o z.1 z.2 q
      have q24 := Paired.mapP q2 fun a b q => q.kp kN (dd4.kpo q6)
      have D4 : DD m lg H H4 := D3.trans dd4
      obtain ⟨as, ps, vs, rfl, f2, f3, f4, f5, f6, f7⟩ := prs_pl q24
      have al : as.length = r := by rw [← q3, List.length_map]
      have get : ∀ (k : Nat) (x : V), (as.map V.ref)[k]? = some x → ∃ (a : Addr) (p v : V), x = .ref a ∧ H4 a = some (.tup [p, v]) ∧ ps[k]? = some p ∧ vs[k]? = some v := fun k x hx => by
        rw [List.getElem?_map] at hx
        cases ha : as[k]? with
        | none => rw [ha] at hx; cases hx
        | some a =>
          rw [ha] at hx
          obtain ⟨p, v, g1, g2, g3⟩ := f7 k a ha
          exact ⟨a, p, v, (Option.some.inj hx).symm, g3, g1, g2⟩
      refine ⟨_, rfl, by show 1 ≤ sizeLine; omega, fun b0 hb0 => ?_⟩
      have s5 : Same H4 (upd H4 b0 (.lst [.str z])) := same_upd (Same.refl H4) hb0
      have v5 : (upd H4 b0 (.lst [.str z])) b0 = some (.lst [.str z]) := upd_same
      generalize upd H4 b0 (.lst [.str z]) = H5 at s5 v5 ⊢
      refine lc_at (K := K) (i := 2) (s := 5) (j := 0) (xs := as.map V.ref) (out := ps) ?h1 (s5 _ _ q14) ?h2 (fun k x hx => let ⟨a, p, v, g1, g2, g3, g4⟩ := get k x hx; ⟨a, [p, v], p, g1, s5 _ _ g2, rfl, g3⟩) (by rw [List.length_map, f5, f2]) (by rw [List.length_map]; omega) ?h3
      case h1 => rfl
      case h2 => show 5 < 6; decide
      intro H6 L1 s6 n6 h6
      refine ⟨b0, L1, [.str z], ps, rfl, rfl, s6 _ _ v5, h6, by show 1 + ps.length ≤ sizeLine; omega, fun c hc => ?_⟩
      have s7 : Same H6 (upd H6 c (.lst ([.str z] ++ ps))) := same_upd (Same.refl H6) hc
      have v7 : (upd H6 c (.lst ([.str z] ++ ps))) c = some (.lst (.str z :: ps)) := upd_same
      generalize upd H6 c (.lst ([.str z] ++ ps)) = H7 at s7 v7 ⊢
      refine ⟨c, _, rfl, .inl ⟨SqL.of v7, fun tp ntp => ?_⟩⟩
      have s8 : Same H7 (upd H7 tp (.tup (.str z :: ps))) := same_upd (Same.refl H7) ntp
      have v8 : (upd H7 tp (.tup (.str z :: ps))) tp = some (.tup (.str z :: ps)) := upd_same
      generalize upd H7 tp (.tup (.str z :: ps)) = H8 at s8 v8 ⊢
      have s48 : Same H4 H8 := s5.trans (s6.trans (s7.trans s8))
      have ntp4 : H4 tp = none := (s5.trans (s6.trans s7)).free ntp
      refine ⟨_, rfl, ?_⟩
      refine lc_at (K := K) (i := 2) (s := 5) (j := 1) (xs := as.map V.ref) (out := vs) ?i1 (s48 _ _ q14) ?i2 (fun k x hx => let ⟨a, p, v, g1, g2, g3, g4⟩ := get k x hx; ⟨a, [p, v], v, g1, s48 _ _ g2, rfl, g4⟩) (by rw [List.length_map, f6, f2]) (by rw [List.length_map]; omega) ?i3
      case i1 => rfl
      case i2 => show 5 < 6; decide
      intro H9 L2 s9 n9 h9
      have s49 := s48.trans s9
      have GT : GNof (GP d) (.nd false z ts) := ⟨z, ts, rfl, hz, by omega, q4⟩
      have FT := GN_fits GT
      obtain ⟨gw, gs, gl⟩ : wts ts + 22 ≤ 3 * (wB d + 2) + 22 ∧ size (.nd false z ts) ≤ 1 + 3 * sB d ∧ levels (.nd false z ts) ≤ d + 1 := ⟨FT.w, FT.s, FT.l⟩
      simp only [size] at gs
      simp only [levels] at gl
      have gen : gensT ts := FT.g.2.2.2
      have hzn := menuN_ok z hz
      refine ⟨.str z, L2, vs, ts.map PI.good, rfl, val_nm hzn (menuN_str z hz), h9, gen_pi (PtsAt.kpo (KpO.same s49) _ f4) (fun t m => ⟨gens_mem gen m, by have := wts_mem m; omega⟩), by rw [List.length_map, ← f2]; omega, ?_, ?_⟩
      · rw [parts_good]
        have := joinB_wt gen
        omega
      · unfold TreeRes
        rw [tree_none hzn (by omega) (by omega)]
        intro H10 x z' ez' s10 nx pt _
        cases ez'
        rw [parts_good] at pt
        refine ⟨by show 2 ≤ sizeLine; omega, fun p np => ?_⟩
        have s11 : Same H10 (upd H10 p (.tup [.ref tp, .ref x])) := same_upd (Same.refl H10) np
        have sF := s10.trans s11
        refine k _ p (n' + 1) (.nd false z ts) (D4.trans (DD.same (s49.trans sF))) (D4.free M4 ((s49.trans s10).free np)) (M4.same (s49.trans sF)) (by omega) (by omega)
          ⟨p, _, _, rfl, upd_same, ⟨tp, ps, rfl, sF _ _ (s9 _ _ v8), D4.free M4 ntp4, PlsAt.mono (fun b hb => D1.free M1 hb.1) _ (PlsAt.kp (KpN.same (s49.trans sF)) _ f3)⟩, PtAt.kpo (KpO.same s11) _ pt⟩ GT
end
end K3

namespace K3
open PySem L2 E0
/-! ### what is never reached needs no rule -/
theorem ps_dead {X : Cx} {st : Stmt} : PS X st (fun _ _ _ => False) := ⟨fun _ _ _ _ _ _ h => h.elim⟩
theorem pe_dead {X : Cx} {e : Expr} : PE X e (fun _ _ _ => False) := ⟨fun _ _ _ _ _ _ h => h.elim⟩
section
variable {P : Program} {w : World} {K : PySem.W.Frag} {mg : Str → Option Value} {base : Heap}
/-- pieces and nodes of all depths that the law asks for -/
theorem ok_both {C : Cl5} {CI fD fP fN fW : Addr} {fdD fdP fdN fdW : FuncData} (FP : Fun K "_law_piece" "_law_piece" sPiece fP fdP) (FN : Fun K "_law_node_pair" "_law_node_pair" sNodePair fN fdN)
    (GD : FnOk P w K mg base CX0 2 fD fdD ["_law_m", "_law_top"] spDraw) (AD : DefA K mg "_law_draw" ["_law_m", "_law_top"] fD fdD) (AP : DefA K mg "_law_piece" ["_law_m", "_law_deep"] fP fdP) (AN : DefA K mg "_law_node_pair" ["_law_m", "_law_deep"] fN fdN)
    (GW : FnOk P w K mg base (L2.CX P w) 6 fW fdW ["_law_word", "_law_r"] (spNew K C CI)) (AW : DefA K mg "_law_new" ["_law_word", "_law_r"] fW fdW) (gR : mg "range" = none) (gTup : mg "tuple" = none) :
    ∀ d, d ≤ 2 → FnOk P w K mg base CX0 (7 + 2 * d) fP fdP ["_law_m", "_law_deep"] (spPiece C d) ∧ FnOk P w K mg base CX0 (8 + 2 * d) fN fdN ["_law_m", "_law_deep"] (spNode C d)
  | 0, h => by
    have a : FnOk P w K mg base CX0 (7 + 2 * 0) fP fdP ["_law_m", "_law_deep"] (spPiece C 0) := ok_piece (d := 0) FP GD AD (fn_vac fun _ _ _ _ q => q) AN gR gTup
    exact ⟨a, ok_node h FN GD AD a AP GW AW gR gTup⟩
  | d + 1, h => by
    obtain ⟨_, b⟩ := ok_both FP FN GD AD AP AN GW AW gR gTup d (by omega)
    have b : FnOk P w K mg base CX0 (6 + 2 * (d + 1)) fN fdN ["_law_m", "_law_deep"] (spNodeP C (d + 1)) := (show 8 + 2 * d = 6 + 2 * (d + 1) by omega) ▸ b
    have a : FnOk P w K mg base CX0 (7 + 2 * (d + 1)) fP fdP ["_law_m", "_law_deep"] (spPiece C (d + 1)) := ok_piece (d := d + 1) FP GD AD b AN gR gTup
    exact ⟨a, ok_node h FN GD AD a AP GW AW gR gTup⟩
theorem ok_piece3 {C : Cl5} {CI fD fP fN fW : Addr} {fdD fdP fdN fdW : FuncData} (FP : Fun K "_law_piece" "_law_piece" sPiece fP fdP) (FN : Fun K "_law_node_pair" "_law_node_pair" sNodePair fN fdN)
    (GD : FnOk P w K mg base CX0 2 fD fdD ["_law_m", "_law_top"] spDraw) (AD : DefA K mg "_law_draw" ["_law_m", "_law_top"] fD fdD) (AP : DefA K mg "_law_piece" ["_law_m", "_law_deep"] fP fdP) (AN : DefA K mg "_law_node_pair" ["_law_m", "_law_deep"] fN fdN)
    (GW : FnOk P w K mg base (L2.CX P w) 6 fW fdW ["_law_word", "_law_r"] (spNew K C CI)) (AW : DefA K mg "_law_new" ["_law_word", "_law_r"] fW fdW) (gR : mg "range" = none) (gTup : mg "tuple" = none) :
    FnOk P w K mg base CX0 13 fP fdP ["_law_m", "_law_deep"] (spPiece C 3) :=
  ok_piece (d := 3) FP GD AD (ok_both FP FN GD AD AP AN GW AW gR gTup 2 (Nat.le_refl _)).2 AN gR gTup
/-! ### variables are made -/
def spVarInit (C : Cl5) (k : Nat) : Sp := fun vs H Q _ => ∃ (x dx : Addr) (n : Str), vs = [.ref x, .str n] ∧ H x = some (.ins (C.v k) dx []) ∧ nameS n = true ∧ PyData.strOk n = true ∧ ∀ H', SameX x H H' → PtAt C H' (.ref x) (.vr k n) → Q .non H'
theorem var_made {C : Cl5} {k : Nat} {n : Str} {H : Hp} {Q : VK} {E : XK} (hn : nameS n = true) (ho : PyData.strOk n = true) (q : ∀ H' x, Same H H' → H x = none → PtAt C H' (.ref x) (.vr k n) → Q (.ref x) H') {x dx : Addr} (nx : H x = none) (ndx : H dx = none) :
    spVarInit C k (.ref x :: [.str n]) (upd (upd H dx (.own x)) x (.ins (C.v k) dx [])) (fun v H2 => v = .non ∧ Q (.ref x) H2) E :=
  ⟨x, dx, n, rfl, upd_same, hn, ho, fun H' sX at_ => ⟨rfl, q H' x (fun b o e => sX b o (ne_of_none e nx) (by rw [upd_ne (ne_of_none e nx), upd_ne (ne_of_none e ndx)]; exact e)) nx at_⟩⟩
def NVI : List Str := ["self", "name"]
theorem scVarInit : FnScope NVI ["self", "name"] (defScope sVarInit) := ⟨rfl, rfl, rfl, by decide +kernel, rfl, by decide +kernel, by decide +kernel⟩
theorem scWordInit : FnScope NVI ["self", "name"] (defScope sWordInit) := ⟨rfl, rfl, rfl, by decide +kernel, rfl, by decide +kernel, by decide +kernel⟩
theorem scRestInit : FnScope NVI ["self", "name"] (defScope sRestInit) := ⟨rfl, rfl, rfl, by decide +kernel, rfl, by decide +kernel, by decide +kernel⟩
theorem at5 : ¬ ("name" : Str) = "text" ∧ ¬ ("name" : Str) = "size" ∧ ¬ ("name" : Str) = "levels" ∧ ¬ ("text" : Str) = "size" ∧ ¬ ("text" : Str) = "levels" := by decide +kernel
theorem ok_varInit {C : Cl5} {f fN : Addr} {fd fdN : FuncData} (F : Fun K "__init__" "Var.__init__" sVarInit f fd) (GN : FnOk P w K mg base CX0 1 fN fdN ["value"] (spName K)) (AN : DefA K mg "is_name" ["value"] fN fdN) (T5 : Ty5 K C) (N5 : Na5 K C) : FnOk P w K mg base CX0 2 f fd ["self", "name"] (spVarInit C 0) := by
  refine F.ok scVarInit (fun vs H Q E h => ?_) (fun cdv A outer s H vs Q E hr h => ?_)
  · obtain ⟨x, dx, n, rfl, _⟩ := h
    rfl
  · obtain ⟨x, dx, n, rfl, hx, hn, ho, k⟩ := h
    refine ⟨_, pss_cons (ps_if (pt_not (pt_val (pe_call GN hr rfl AN.g AN.k AN.b .nil pass0 (pa_cons (pv 1) pa_nil)))) (pss_one ps_dead) pss_nil)
      (pss_cons (ps_fld (pv 0) (pv 1) rfl) (pss_cons (ps_fld (pv 0) (pv 1) rfl) (pss_cons (ps_fld (pv 0) pe_int rfl) (pss_one (ps_fld (pv 0) pe_int rfl))))), ?_⟩
    have mV := C.v_mem 0
    have cl := (T5.own _ mV).cl
    have nl := nameS_len hn
    refine ⟨_, rfl, .str n, rfl, val_nm hn ho, fun H1 s1 => ⟨_, rfl, ?_⟩⟩
    rw [show nameV (.str n) = true from hn]
    refine iteF ?_
    refine ⟨_, rfl, _, rfl, x, C.V, dx, _, rfl, s1 _ _ hx, cl, N5.na _ mV _ (by decide +kernel), (by show 0 < 1000; decide), ?_⟩
    refine ⟨_, rfl, _, rfl, x, C.V, dx, _, rfl, upd_same, cl, N5.na _ mV _ (by decide +kernel), (by show 1 < 1000; decide), ?_⟩
    rw [upd_upd]
    refine ⟨_, rfl, x, C.V, dx, _, rfl, upd_same, cl, N5.na _ mV _ (by decide +kernel), (by show 2 < 1000; decide), ?_⟩
    rw [upd_upd]
    refine ⟨_, rfl, x, C.V, dx, _, rfl, upd_same, cl, N5.na _ mV _ (by decide +kernel), (by show 3 < 1000; decide), ?_⟩
    rw [upd_upd]
    refine k _ (SameX.trans (Same.x s1) SameX.upd) ⟨x, dx, _, rfl, upd_same, ?_, ?_, fun _ => ⟨?_, ?_⟩⟩
    · rw [lk_put3 at5.2.2.1, lk_put3 at5.2.1, lk_put3 at5.1, lk_put1]
    · rw [lk_put3 at5.2.2.2.2, lk_put3 at5.2.2.2.1, lk_put1]
      rfl
    · rw [lk_put3 at4.1, lk_put1]
    · rw [lk_put1]
theorem ok_wordInit {C : Cl5} {f fN : Addr} {fd fdN : FuncData} (F : Fun K "__init__" "Word.__init__" sWordInit f fd) (GN : FnOk P w K mg base CX0 1 fN fdN ["value"] (spName K)) (AN : DefA K mg "is_name" ["value"] fN fdN) (T5 : Ty5 K C) (N5 : Na5 K C) : FnOk P w K mg base CX0 2 f fd ["self", "name"] (spVarInit C 1) := by
  refine F.ok scWordInit (fun vs H Q E h => ?_) (fun cdv A outer s H vs Q E hr h => ?_)
  · obtain ⟨x, dx, n, rfl, _⟩ := h
    rfl
  · obtain ⟨x, dx, n, rfl, hx, hn, ho, k⟩ := h
    refine ⟨_, pss_cons (ps_if (pt_not (pt_val (pe_call GN hr rfl AN.g AN.k AN.b .nil pass0 (pa_cons (pv 1) pa_nil)))) (pss_one ps_dead) pss_nil)
      (pss_cons (ps_fld (pv 0) (pv 1) rfl) (pss_one (ps_fld (pv 0) (pe_op op_add_str pe_str (pv 1)) rfl))), ?_⟩
    have mV := C.v_mem 1
    have cl := (T5.own _ mV).cl
    have nl := nameS_len hn
    have big : (1000 : Nat) < sizeLine := by decide
    have e1 : ("$" : Str).length = 1 := by decide +kernel
    refine ⟨_, rfl, .str n, rfl, val_nm hn ho, fun H1 s1 => ⟨_, rfl, ?_⟩⟩
    rw [show nameV (.str n) = true from hn]
    refine iteF ?_
    refine ⟨_, rfl, _, rfl, x, C.W, dx, _, rfl, s1 _ _ hx, cl, N5.na _ mV _ (by decide +kernel), (by show 0 < 1000; decide), ?_⟩
    refine ⟨_, rfl, _, _, rfl, rfl, by rw [e1]; omega, _, rfl, x, C.W, dx, _, rfl, upd_same, cl, N5.na _ mV _ (by decide +kernel), (by show 1 < 1000; decide), ?_⟩
    rw [upd_upd]
    refine k _ (SameX.trans (Same.x s1) SameX.upd) ⟨x, dx, _, rfl, upd_same, ?_, ?_, fun z => nomatch z⟩
    · rw [lk_put3 at5.1, lk_put1]
    · rw [lk_put1]
      rfl
theorem ok_restInit {C : Cl5} {f fN : Addr} {fd fdN : FuncData} (F : Fun K "__init__" "Rest.__init__" sRestInit f fd) (GN : FnOk P w K mg base CX0 1 fN fdN ["value"] (spName K)) (AN : DefA K mg "is_name" ["value"] fN fdN) (T5 : Ty5 K C) (N5 : Na5 K C) : FnOk P w K mg base CX0 2 f fd ["self", "name"] (spVarInit C 2) := by
  refine F.ok scRestInit (fun vs H Q E h => ?_) (fun cdv A outer s H vs Q E hr h => ?_)
  · obtain ⟨x, dx, n, rfl, _⟩ := h
    rfl
  · obtain ⟨x, dx, n, rfl, hx, hn, ho, k⟩ := h
    refine ⟨_, pss_cons (ps_if (pt_not (pt_val (pe_call GN hr rfl AN.g AN.k AN.b .nil pass0 (pa_cons (pv 1) pa_nil)))) (pss_one ps_dead) pss_nil)
      (pss_cons (ps_fld (pv 0) (pv 1) rfl) (pss_one (ps_fld (pv 0) (pe_op op_add_str pe_str (pv 1)) rfl))), ?_⟩
    have mV := C.v_mem 2
    have cl := (T5.own _ mV).cl
    have nl := nameS_len hn
    have big : (1000 : Nat) < sizeLine := by decide
    have e1 : ("*" : Str).length = 1 := by decide +kernel
    refine ⟨_, rfl, .str n, rfl, val_nm hn ho, fun H1 s1 => ⟨_, rfl, ?_⟩⟩
    rw [show nameV (.str n) = true from hn]
    refine iteF ?_
    refine ⟨_, rfl, _, rfl, x, C.R, dx, _, rfl, s1 _ _ hx, cl, N5.na _ mV _ (by decide +kernel), (by show 0 < 1000; decide), ?_⟩
    refine ⟨_, rfl, _, _, rfl, rfl, by rw [e1]; omega, _, rfl, x, C.R, dx, _, rfl, upd_same, cl, N5.na _ mV _ (by decide +kernel), (by show 1 < 1000; decide), ?_⟩
    rw [upd_upd]
    refine k _ (SameX.trans (Same.x s1) SameX.upd) ⟨x, dx, _, rfl, upd_same, ?_, ?_, fun z => nomatch z⟩
    · rw [lk_put3 at5.1, lk_put1]
    · rw [lk_put1]
      rfl
end
end K3

namespace K3
open PySem L2 E0
/-! ### a node of a pattern over texts and Words -/
def okL : Tr → Prop
  | .tx s => s.length ≤ 60
  | .vr 1 _ => True
  | _ => False
theorem kit_W {K : PySem.W.Frag} {C : Cl5} (T : Ty5 K C) {n : Str} : PySem.W.kitOne K (tyT C (.vr 1 n)) (.ref C.W) = some true :=
  (T.kit _ (C.v_mem 1) _ (C.v_mem 1)).trans (by rw [decide_eq_true rfl])
theorem okL_below : ∀ {ps : List Tr}, (∀ p ∈ ps, okL p) → below ps = [] ∧ sizes ps = 0 ∧ levelss ps = 0
  | [], _ => ⟨rfl, rfl, rfl⟩
  | p :: ps, h => by
    obtain ⟨a, b, c⟩ := okL_below (ps := ps) fun q hq => h q (List.mem_cons_of_mem _ hq)
    have hp := h p (List.mem_cons_self ..)
    match p, hp with
    | .tx s, _ => exact ⟨a, by simp only [sizes, size, b], by simp only [levelss, levels, c]; rfl⟩
    | .vr 1 n, _ => exact ⟨a, by simp only [sizes, size, b], by simp only [levelss, levels, c]; rfl⟩
theorem okL_row : ∀ {p : Tr}, okL p → rowLen p ≤ 1000 ∧ okTx p
  | .tx s, h => ⟨Nat.zero_le _, Nat.le_trans h (by decide)⟩
  | .vr 1 n, _ => ⟨Nat.zero_le _, True.intro⟩
section
variable {P : Program} {w : World} {K : PySem.W.Frag} {mg : Str → Option Value} {base : Heap}
def spLikePart (C : Cl5) : Sp := fun vs H Q _ => ∃ v t, vs = [v] ∧ PtAt C H v t ∧ okL t ∧ Q (.bl true) H
theorem scLikePart : FnScope ["part"] ["part"] (defScope sLikePart) := ⟨rfl, rfl, rfl, by decide +kernel, rfl, by decide +kernel, by decide +kernel⟩
theorem ok_likePart {C : Cl5} {f : Addr} {fd : FuncData} (F : Fun K "_is_like_part" "_is_like_part" sLikePart f fd) (T : TxtT mg C) (T5 : Ty5 K C) : FnOk P w K mg base CX0 1 f fd ["part"] (spLikePart C) := by
  refine F.ok scLikePart (fun vs H Q E h => ?_) (fun cdv A outer s H vs Q E hr h => ?_)
  · obtain ⟨v, t, rfl, _⟩ := h
    rfl
  · obtain ⟨v, t, rfl, hv, ho, k⟩ := h
    obtain ⟨tm, mx⟩ := T.mx
    refine ⟨_, pss_cons (ps_if (pt_val (pe_callB call_isi (by rfl) T.isi PyProof.Rows.boot_isinstance (pa_cons (pv 0) (pa_cons (pe_bltn (v := .ty "str") rfl T.str PyProof.Rows.boot_str rfl) pa_nil)))) (pss_one (ps_ret (pe_cmpR op_le (pe_callB call_len (by rfl) T.len PySem.boot_len (pa_cons (pv 0) pa_nil)) (pe_glob (v := .int 60) rfl mx ⟨_, rfl⟩) (nomark _)))) pss_nil)
      (pss_cons (ps_if (pt_val (pe_callB call_isi (by rfl) T.isi PyProof.Rows.boot_isinstance (pa_cons (pv 0) (pa_cons (pe_bltn (v := .ty "tuple") rfl T.tup PyProof.Rows.boot_tuple rfl) pa_nil)))) (pss_one ps_dead) pss_nil)
      (pss_one (ps_ret (pe_or (pe_callB call_isi (by rfl) T.isi PyProof.Rows.boot_isinstance (pa_cons (pv 0) (pa_cons (pe_glob (v := .ref C.W) rfl T.gW rfl) pa_nil))) (pe_one pe_dead))))), ?_⟩
    have ty := PtAt.ty T5 hv
    refine ⟨_, rfl, _, _, _, _, isTx t, rfl, .ty "str", ty, kit_str T5 t, _, rfl, ?_⟩
    match t, hv, ho, ty with
    | .tx z, hv, ho, ty =>
      refine iteT ?_
      have ev : v = .str z := hv
      subst ev
      have ho : z.length ≤ 60 := ho
      have hz : z.length ≤ sizeLine := Nat.le_trans ho (by decide)
      refine ⟨_, rfl, _, z.length, rfl, ⟨hz, rfl⟩, _, _, rfl, rfl, ?_⟩
      have e : decide (((z.length : Nat) : Int) ≤ 60) = true := decide_eq_true (by omega)
      rw [← e] at k
      exact k
    | .vr 1 n, hv, ho, ty =>
      refine iteF ?_
      refine ⟨_, rfl, _, _, _, _, false, rfl, .ty "tuple", ty, kit_tup T5 (.vr 1 n), _, rfl, ?_⟩
      refine iteF ?_
      refine ⟨_, rfl, _, _, _, _, true, rfl, .own _, ty, kit_W T5, _, rfl, ?_⟩
      exact iteT k
def NLI : List Str := ["self", "form", "parts", "spot", "part", "size", "levels"]
theorem scLikeInit : FnScope NLI ["self", "form", "parts"] (defScope sLikeInit) := ⟨rfl, rfl, rfl, by decide +kernel, rfl, by decide +kernel, by decide +kernel⟩
def spLikeInit (C : Cl5) : Sp := fun vs H Q _ => ∃ (x dx p : Addr) (z : Str) (xs : List V) (ps : List Tr), vs = [.ref x, .str z, .ref p] ∧ H x = some (.ins C.L dx []) ∧ H p = some (.tup xs) ∧ nameS z = true ∧ PyData.strOk z = true ∧ PtsAt C H xs ps ∧ (∀ t ∈ ps, okL t) ∧ ps.length ≤ 9 ∧ joinB ps ≤ 16000000 ∧
  ∀ H', SameX x H H' → PtAt C H' (.ref x) (.nd true z ps) → Q .non H'
structure TxtL (P : Program) (w : World) (K : PySem.W.Frag) (mg : Str → Option Value) (base : Heap) (C : Cl5) (fN fP fA fM fX : Addr) (fdN fdP fdA fdM fdX : FuncData) : Prop where
  enu : mg "enumerate" = none
  gL : mg "Like" = some (.ref C.L)
  mx : ∃ mc t1 t2, ClX.CRead K C.L mc ∧ ClX.CVal K C.L mc "MAX_SIZE" (.int 60) (.int 60 t1) ∧ ClX.CVal K C.L mc "MAX_LEVELS" (.int 8) (.int 8 t2)
  GN : FnOk P w K mg base CX0 1 fN fdN ["value"] (spName K)
  AN : DefA K mg "is_name" ["value"] fN fdN
  GP : FnOk P w K mg base CX0 1 fP fdP ["part"] (spLikePart C)
  AP : DefA K mg "_is_like_part" ["part"] fP fdP
  GA : FnOk P w K mg base CX0 2 fA fdA ["parts"] (spNodes C)
  AA : DefA K mg "nodes_among" ["parts"] fA fdA
  GM : FnOk P w K mg base CX0 1 fM fdM ["nodes"] (spMeasures C)
  AM : DefA K mg "_measures_above" ["nodes"] fM fdM
  GX : FnOk P w K mg base CX0 3 fX fdX ["form", "parts"] (spNodeText C)
  AX : DefA K mg "_node_text" ["form", "parts"] fX fdX
theorem body_likeInit {C : Cl5} {fN fP fA fM fX : Addr} {fdN fdP fdA fdM fdX : FuncData} (T : TxtL P w K mg base C fN fP fA fM fX fdN fdP fdA fdM fdX) (T5 : Ty5 K C) (N5 : Na5 K C)
    {f : Addr} {cdv : Value} {A : Around} {outer : List Env} {s : Shared} {H : Hp} {vs : List V} {Q : VK} {E : XK} (hr : Room 3 (A.deeper (PyProof.Rows.envOfC "Like.__init__" (defScope sLikeInit) s.heap.objs.size f cdv))) (h : spLikeInit C vs H Q E) :
    ∃ t, PSs (cxOf (L2.CX P w) P w K mg base NLI "Like.__init__" (defScope sLikeInit) f cdv A outer s H E) (defBody sLikeInit) t ∧ t { nx := fun _ H' => Q .non H', rt := Q } (L2.start NLI vs) H := by
  obtain ⟨x, dx, p, z, xs, ps, rfl, hx, hp0, hn, hzo, hp, hok, hl, hj, k⟩ := h
  have hr2 : Room 2 _ := hr.mono (by decide)
  have hr1 : Room 1 _ := hr.mono (by decide)
  obtain ⟨mc, t1, t2, cr, cv1, cv2⟩ := T.mx
  refine ⟨_, pss_cons (ps_if (pt_not (pt_val (pe_call T.GN hr1 (by rfl) T.AN.g T.AN.k T.AN.b .nil pass0 (pa_cons (pv 1) pa_nil)))) (pss_one ps_dead) pss_nil)
    (pss_cons (ps_for (passes_of rfl) rfl (pi_enumT rfl T.enu (pa_cons (pv 2) pa_nil)) (pg_tup (by rfl) (pgs_cons (pg_name (i := 3) scLikeInit.nd rfl (.inl rfl)) (pgs_cons (pg_name (i := 4) scLikeInit.nd rfl (.inl rfl)) pgs_nil)))
      (pss_one (ps_if (pt_not (pt_val (pe_call T.GP hr1 (by rfl) T.AP.g T.AP.k T.AP.b .nil pass0 (pa_cons (pv 4) pa_nil)))) (pss_one ps_dead) pss_nil)))
    (pss_cons (ps_asg (pe_call T.GM hr1 (by rfl) T.AM.g T.AM.k T.AM.b .nil pass0 (pa_cons (pe_call T.GA hr2 (by rfl) T.AA.g T.AA.k T.AA.b .nil pass0 (pa_cons (pv 2) pa_nil)) pa_nil)) (pg_tup (by rfl) (pgs_cons (pg_name (i := 5) scLikeInit.nd rfl (.inl rfl)) (pgs_cons (pg_name (i := 6) scLikeInit.nd rfl (.inl rfl)) pgs_nil))))
    (pss_cons (ps_if (PW.pt (pw_or (pt_cmpR op_gt (pv 5) (ClX.pe_cval (pe_glob (v := .ref C.L) rfl T.gL rfl)) (nomark _)) (pw_or1 (pt_cmpR op_gt (pv 6) (ClX.pe_cval (pe_glob (v := .ref C.L) rfl T.gL rfl)) (nomark _))))) (pss_one ps_dead) pss_nil)
    (pss_cons (ps_fld (pv 0) (pv 1) rfl) (pss_cons (ps_fld (pv 0) (pv 2) rfl) (pss_cons (ps_fld (pv 0) (pv 5) rfl) (pss_cons (ps_fld (pv 0) (pv 6) rfl)
    (pss_one (ps_fld (pv 0) (pe_call T.GX hr (by rfl) T.AX.g T.AX.k T.AX.b .nil pass0 (pa_cons (pv 1) (pa_cons (pv 2) pa_nil))) rfl))))))))), ?_⟩
  have pp := ptsAt_iff.mp hp
  have xl := pts_len hp
  refine ⟨_, rfl, .str z, rfl, val_nm hn hzo, fun H1 s1 => ⟨_, rfl, ?_⟩⟩
  rw [show nameV (.str z) = true from hn]
  refine iteF ?_
  refine ⟨_, rfl, p, xs, rfl, SqT.of (s1 _ _ hp0), for_it walk_enumT (fun i σ H' => ∃ v3 v4 : Option V, σ = [some (.ref x), some (.str z), some (.ref p), v3, v4, none, none] ∧ Same H H')
    ⟨_, _, rfl, s1⟩ (fun i σ H' _ ⟨_, _, _, s'⟩ => SqT.of (s' _ _ hp0)) ?_ ?_⟩
  · rintro i vv σ H2 H3 hi ⟨v3, v4, rfl, s2⟩ ⟨Tp, y, u, rfl, hT, rfl, ey, ez⟩
    have ey : some (V.int (i : Nat)) = some y := ey
    cases ey
    have ez : xs[i]? = some u := ez
    obtain ⟨it, eit, hit⟩ := LiI.paired_get pp ez
    have s3 : Same H (upd H2 Tp (.tup [.int (i : Nat), u])) := same_upd s2 (s2.free hT)
    refine ⟨Tp, _, rfl, .inl (.inl upd_same), rfl, _, _, rfl, ?_⟩
    refine ⟨_, _, rfl, rfl, ?_⟩
    refine ⟨_, rfl, u, it, rfl, PtAt.kpo (KpO.same s3) it hit, hok it (List.mem_of_getElem? eit), ⟨_, rfl, ?_⟩⟩
    refine iteF ?_
    exact ⟨_, _, rfl, s3⟩
  · rintro σ H2 ⟨v3, v4, rfl, s2⟩
    have pts2 := PtsAt.kpo (KpO.same s2) ps hp
    obtain ⟨b1, b2, b3⟩ := okL_below hok
    refine ⟨_, rfl, p, xs, ps, rfl, s2 _ _ hp0, pts2, by omega, fun t ht => (okL_row (hok t ht)).1, fun H3 ca cs s3 nca hca kids bl => ?_⟩
    refine ⟨ca, cs, below ps, rfl, hca, bl, (by rw [b1]; exact fun t h => nomatch h), fun H4 tp s4 ntp htp => ?_⟩
    refine ⟨tp, _, rfl, .inl (.inl htp), rfl, _, _, rfl, ?_⟩
    refine ⟨_, _, rfl, rfl, ?_⟩
    rw [b1]
    have s34 := s2.trans s3
    have s04 := s34.trans s4
    refine ⟨_, rfl, C.L, mc, _, _, rfl, cr, cv1, _, _, rfl, rfl, _, rfl, ?_⟩
    refine iteF ?_
    refine ⟨_, rfl, C.L, mc, _, _, rfl, cr, cv2, _, _, rfl, rfl, _, rfl, ?_⟩
    refine iteF ?_
    have mL : C.L ∈ C.all := C.n_mem true
    have cl := (T5.own _ mL).cl
    have hx4 := s04 _ _ hx
    have zl := nameS_len hn
    refine ⟨_, rfl, _, rfl, x, C.L, dx, _, rfl, hx4, cl, N5.na _ mL _ (by decide +kernel), (by show 0 < 1000; decide), ?_⟩
    refine ⟨_, rfl, _, rfl, x, C.L, dx, _, rfl, upd_same, cl, N5.na _ mL _ (by decide +kernel), (by show 1 < 1000; decide), ?_⟩
    rw [upd_upd]
    refine ⟨_, rfl, _, rfl, x, C.L, dx, _, rfl, upd_same, cl, N5.na _ mL _ (by decide +kernel), (by show 2 < 1000; decide), ?_⟩
    rw [upd_upd]
    refine ⟨_, rfl, _, rfl, x, C.L, dx, _, rfl, upd_same, cl, N5.na _ mL _ (by decide +kernel), (by show 3 < 1000; decide), ?_⟩
    rw [upd_upd]
    generalize eF : putF "levels" (V.int ((levelss [] + 1 : Nat) : Int)) _ = F5
    generalize e5 : upd H4 x (.ins C.L dx F5) = H5
    have X5 : SameX x H4 H5 := by rw [← e5]; exact SameX.upd
    have hx5 : H5 x = some (.ins C.L dx F5) := by rw [← e5, upd_same]
    have pts4 := PtsAt.kpo (KpO.same (s3.trans s4)) ps pts2
    have pts5 := PtsAt.kx hx4 X5 ps pts4
    have np : p ≠ x := fun q => by rw [q, hx] at hp0; cases hp0
    have hp5 := X5 _ _ np (s04 _ _ hp0)
    clear e5
    refine ⟨_, rfl, _, rfl, z, p, xs, ps, rfl, hp5, pts5, fun t ht => (okL_row (hok t ht)).2, by omega, hj, by omega, fun H6 s6 => ?_⟩
    refine ⟨_, rfl, x, C.L, dx, _, rfl, s6 _ _ hx5, cl, N5.na _ mL _ (by decide +kernel), ?_, ?_⟩
    · rw [← eF]
      show 4 < 1000
      decide
    have X6 : SameX x H5 (upd H6 x (.ins C.L dx (putF "text" (.str (z ++ "(" ++ Txt.join ", " (saids ps) ++ ")")) F5))) := SameX.trans (Same.x s6) SameX.upd
    have XX : SameX x H (upd H6 x (.ins C.L dx (putF "text" (.str (z ++ "(" ++ Txt.join ", " (saids ps) ++ ")")) F5))) := SameX.trans (Same.x s04) (SameX.trans X5 X6)
    refine k _ XX ⟨x, dx, _, p, xs, rfl, upd_same, ?_, ?_, XX _ _ np hp0, PtsAt.kx hx XX ps hp, ?_, ?_, lk_put1, fun z => nomatch z⟩
    · rw [lk_put3 at1.2.2.2.2, ← eF, lk_put3 at1.2.2.2.1, lk_put3 at1.2.2.1, lk_put3 at1.1, lk_put1]
    · rw [lk_put3 at2.2.2.2, ← eF, lk_put3 at2.2.2.1, lk_put3 at2.2.1, lk_put1]
    · rw [lk_put3 at4.2.1, ← eF, lk_put3 at4.1, lk_put1, b2]
      rfl
    · rw [lk_put3 at4.2.2, ← eF, lk_put1, b3]
      rfl
def spLikeNew (C : Cl5) : Sp := fun vs H Q E => ∃ ws rest, vs = ws ++ rest ∧ ws.length = ([("self" : Str), ("form" : Str)] : List Str).length ∧ rest.length ≤ sizeLine ∧ ∀ p, H p = none → spLikeInit C (ws ++ [V.ref p]) (upd H p (.tup rest)) Q E
theorem likeInit_fnR {C : Cl5} {fN fP fA fM fX f : Addr} {fd fdN fdP fdA fdM fdX : FuncData} (F : Fun K "__init__" "Like.__init__" sLikeInit f fd) (T : TxtL P w K mg base C fN fP fA fM fX fdN fdP fdA fdM fdX) (T5 : Ty5 K C) (N5 : Na5 K C) : FnR P w K mg base (L2.CX P w) 4 f (spLikeNew C) := by
  obtain ⟨oc, od, kV, doc, pm, an, cdv, ct, osl, rfl, lk, hcd⟩ := F.ex
  refine StX.fn_star (N := NLI) (ps := ["self", "form"]) (pv := "parts") lk hcd scLikeInit StX.cxUp ?_ fun A outer s H vs Q E hr h => body_likeInit T T5 N5 hr h
  intro us rest hl
  match us, hl with
  | [a, b], _ => cases rest <;> rfl
theorem like_made {C : Cl5} {z : Str} {xs : List V} {ps : List Tr} {H : Hp} {Q : VK} {E : XK} (hn : nameS z = true) (ho : PyData.strOk z = true) (hp : PtsAt C H xs ps) (hok : ∀ t ∈ ps, okL t) (hl : ps.length ≤ 9) (hj : joinB ps ≤ 16000000)
    (k : ∀ H' x, Same H H' → H x = none → PtAt C H' (.ref x) (.nd true z ps) → Q (.ref x) H') {x dx : Addr} (nx : H x = none) (ndx : H dx = none) :
    spLikeNew C (.ref x :: .str z :: xs) (upd (upd H dx (.own x)) x (.ins C.L dx [])) (fun v H2 => v = .non ∧ Q (.ref x) H2) E := by
  refine ⟨[.ref x, .str z], xs, rfl, rfl, by rw [pts_len hp]; exact Nat.le_trans hl (by decide), fun p np => ?_⟩
  have s1 : Same H (upd (upd H dx (.own x)) x (.ins C.L dx [])) := fun b o e => by
    rw [upd_ne (ne_of_none e nx), upd_ne (ne_of_none e ndx)]
    exact e
  have hx1 : (upd (upd H dx (.own x)) x (.ins C.L dx [])) x = some (.ins C.L dx []) := upd_same
  have s2 : Same H (upd (upd (upd H dx (.own x)) x (.ins C.L dx [])) p (.tup xs)) := same_upd s1 (s1.free np)
  have hx2 : (upd (upd (upd H dx (.own x)) x (.ins C.L dx [])) p (.tup xs)) x = some (.ins C.L dx []) := by rw [upd_ne (ne_of_none hx1 np)]; exact hx1
  exact ⟨x, dx, p, z, xs, ps, rfl, hx2, upd_same, hn, ho, PtsAt.kpo (KpO.same s2) _ hp, hok, hl, hj, fun H' sX at_ => ⟨rfl, k H' x (fun b o q => sX b o (ne_of_none q nx) (s2 b o q)) nx at_⟩⟩
end
end K3

namespace K3
open PySem PySem.Spec PyProof.Rows PySem.SeqAt L2 E0
section
variable {prog : Program} {w : World} {A : Around} {E : Value → Shared → Prop} {s : Shared} {K : PySem.W.Frag} {x y C : Addr} {ox oy : Obj} {od oe : Option Obj} {u : Value}
theorem ifB_ne {M : Model} {args : List Value} {Q : Option Value → Shared → Prop} (X : K.In s.heap) (I : PySem.W.InstAt s.heap x ox C od) (hs : PySem.W.findIn K (.ref C) "__ne__" = some (some (.builtin "object.__ne__")))
    (h : wpAny M A (call (.builtin "object.__ne__") (.ref x :: args)) (fun v => Q (some v)) E s) : wpAny M A (callSpecialIfBound? (.ref x) "__ne__" args) Q E s := by
  simp only [callSpecialIfBound?, bindSpecialIfBound?]
  refine wpAny_holding (wpAny_bind (wpAny_bind (wpAny_bind (I.type.here ((PySem.W.looks_findIn X hs).here ?_)))))
  refine wpAny_bind (wpAny_askSetting (wpAny_ite ?_))
  have fin : wpAny M A (call (.builtin "object.__ne__") ([.ref x] ++ args) >>= fun v => pure (some v)) Q E s := wpAny_bind (wpAny_mono h (fun v s' h' => wpAny_pure h') fun _ _ h' => h')
  split
  · exact wpAny_bind (wpAny_of_eq (F.cmp_object.ne.bind _) (wpAny_pure (by exact fin)))
  · exact wpAny_tryCatch (wpAny_bind (wpAny_of_eq (F.cmp_object.ne.bind _) (wpAny_pure (by exact fin))))
end
/-! ### own ==, != (by the own ==), in, [ ] of an instance -/
structure OwnC (K : PySem.W.Frag) (C : Addr) (m : Str) (f : Addr) : Prop where
  fi : PySem.W.findIn K (.ref C) m = some (some (.ref f))
  fn : PySem.W.isFn K (.ref f) = true
  ff : PySem.W.fnIn K f = true
def rEqO (K : PySem.W.Frag) (C : Addr) (sp : Sp) (E : XK) : R2 := fun x y H Q => ∃ a dx fs t, x = .ref a ∧ H a = some (.ins C dx fs) ∧ TyX K H y t ∧ PySem.W.notFirst K C t = true ∧ sp [x, y] H (fun v H' => ∃ b, v = .bl b ∧ Q (.bl b) H') E
def rNeO (K : PySem.W.Frag) (C : Addr) (sp : Sp) (E : XK) : R2 := fun x y H Q => ∃ a dx fs t, x = .ref a ∧ H a = some (.ins C dx fs) ∧ TyX K H y t ∧ PySem.W.notFirst K C t = true ∧ sp [x, y] H (fun v H' => ∃ b, v = .bl b ∧ Q (.bl (!b)) H') E
def rInO (C : Addr) (sp : Sp) (E : XK) : R2 := fun x y H Q => ∃ a dx fs, y = .ref a ∧ H a = some (.ins C dx fs) ∧ sp [y, x] H (fun v H' => ∃ b, v = .bl b ∧ Q (.bl b) H') E
def rNinO (C : Addr) (sp : Sp) (E : XK) : R2 := fun x y H Q => ∃ a dx fs, y = .ref a ∧ H a = some (.ins C dx fs) ∧ sp [y, x] H (fun v H' => ∃ b, v = .bl b ∧ Q (.bl (!b)) H') E
def rIxO (C : Addr) (sp : Sp) (E : XK) : R2 := fun x y H Q => ∃ a dx fs, x = .ref a ∧ H a = some (.ins C dx fs) ∧ sp [x, y] H Q E
section
variable {X : Cx} {CX : CXT} {k : Nat} {f C : Addr} {sp : Sp} {E : XK}
theorem own_call {A : Around} {pins : List (Addr × Obj)} {s : Shared} {σ : L2.St} {H : Hp} {vs : List V} {us : List Value} {Q : VK} (F : FnR X.prog X.w X.K X.mg X.base CX k f sp) (hr : Room k A) (hfr : A.frames = X.A.frames) (hx : Passes CX X E) (I : L2.Inv X pins σ H s) (r : Vals vs us) (h : sp vs H Q E) :
    wpAny (model X.prog X.w) A (call (.ref f) us) (EP X pins σ Q) X.xe s := by
  have e0 : Env0 X.prog X.w X.K X.mg X.base A X.stack s H := by
    have e := I.env0
    exact ⟨by rw [hfr]; exact e.frames, e.mod, e.bs, e.bsz, e.funs, e.frf, e.hok, e.bare⟩
  refine wpAny_call (codeAny_mono (F A X.stack s H us vs Q E hr e0 r h) fun r s' hq => ?_)
  cases r with
  | error e => exact hx pins σ H s e s' I hq
  | ok fl =>
    cases fl with
    | ret u => exact I.after hq
    | next => exact False.elim hq
    | brk => exact False.elim hq
    | cont => exact False.elim hq
theorem op_eqO (O : OwnC X.K C "__eq__" f) (F : FnR X.prog X.w X.K X.mg X.base CX k f sp) (hr : Room k X.A) (hx : Passes CX X E) : OpR X (compareOp .Eq) (rEqO X.K C sp E) := by
  intro pins s σ H x y v u Q I rx ry h
  obtain ⟨a, dx, fs, t, rfl, ha, ht, hn, q⟩ := h
  obtain rfl : v = Value.ref a := rx
  obtain ⟨mA, J, _⟩ := ins_get I.hok ha
  obtain ⟨od, J, _⟩ := J.look
  obtain ⟨m, hF⟩ := I.fr
  obtain ⟨Pk, Z, hP, _⟩ := kit_of I ry ht
  show wpAny (model X.prog X.w) X.A (richCompare .Eq (.ref a) u) (EP X pins σ Q) X.xe s
  refine PySem.W.cmp_K (op := .Eq) (tb := t) hr.units0 hF I.ok.mod.kin J (Z.ty _ _ I.kIn hP) hn O.fi O.fn ?_
  refine wpAny_mono (own_call (vs := [V.ref a, y]) F hr rfl hx I (.cons rfl (.cons ry .nil)) q) (fun r s' hq => ?_) fun _ _ x => x
  obtain ⟨z, H', I', rz, b, ez, qq⟩ := hq
  subst ez
  obtain rfl : r = Value.bool b := rz
  exact ⟨.bl b, H', I', rfl, qq⟩
theorem entry_neO {A : Around} {M : Model} {E : Value → Shared → Prop} {s : Shared} {K : PySem.W.Frag} {x : Addr} {ox : Obj} {od : Option Obj} {u : Value} {Q : Fin → Shared → Prop} (X : K.In s.heap) (I : PySem.W.InstAt s.heap x ox C od) (O : OwnC K C "__eq__" f) (hu : A.units < cLine)
    (h : wpAny M A (call (.ref f) [.ref x, u]) (fun v s' => ∃ b, v = .bool b ∧ Q (.done (.ret (.bool (!b)))) s') E s) : wpAny M A (Builtin.«object.__ne__» ⟨[.ref x, u], []⟩) Q E s := by
  have h' : wpAny M A (callSpecialIfBound? (.ref x) "__eq__" [u]) (fun r s' => ∃ b, r = some (.bool b) ∧ Q (.done (.ret (.bool (!b)))) s') E s := PySem.W.ifBound_K X I O.fi O.fn (wpAny_mono h (fun v s' hv => by
    obtain ⟨b, rfl, q⟩ := hv
    exact ⟨b, rfl, q⟩) fun _ _ x => x)
  unfold Builtin.«object.__ne__»
  repeat (first | with_reducible refine wpAny_cRoomFor hu ?_ | (with_reducible refine wpAny_mono h' (fun r s' hv => ?fin) fun _ _ x => x) | wp_step)
  case fin =>
    obtain ⟨b, rfl, q⟩ := hv
    repeat (first | exact q | with_reducible refine wpAny_truthy_bool ?_ | wp_step)
structure NeObj (K : PySem.W.Frag) (C : Addr) : Prop where
  mo : PySem.W.mroIn K C (.type "object") = some true
  ne : PySem.W.findIn K (.ref C) "__ne__" = some (some (.builtin "object.__ne__"))
theorem op_neO (O : OwnC X.K C "__eq__" f) (N : NeObj X.K C) (FF : FnR X.prog X.w X.K X.mg X.base CX k f sp) (hr : Room (k + 2) X.A) (hx : Passes CX X E) : OpR X (compareOp .NotEq) (rNeO X.K C sp E) := by
  intro pins s σ H x y v u Q I rx ry h
  obtain ⟨a, dx, fs, t, rfl, ha, ht, hn, q⟩ := h
  obtain rfl : v = Value.ref a := rx
  obtain ⟨mA, J, _⟩ := ins_get I.hok ha
  obtain ⟨od, J, _⟩ := J.look
  obtain ⟨m, hF⟩ := I.fr
  obtain ⟨Pk, Z, hP, _⟩ := kit_of I ry ht
  have hb := Z.ty (model X.prog X.w) _ I.kIn hP
  have one : wpAny (model X.prog X.w) X.A (tryCompare (.ref a) "__ne__" u) (fun r s' => ∃ v, r = some v ∧ EP X pins σ Q v s') X.xe s := by
    unfold tryCompare
    refine wpAny_bind (ifB_ne I.kIn J N.ne (wpAny_call (codeAny_call_builtin F.cmp_object.ne.plain F.cmpEntry_ne (PySem.W.check_slot F.cmpKind_ne F.cmpSplit_ne (J.type.andThen (PySem.W.looks_mroIn I.kIn N.mo)) (F.cmpArgs_ne _ _) (entry_neO (A := X.A.in1) I.kIn J O (Nat.lt_of_le_of_lt (show X.A.units + 1 ≤ X.A.units + 64 by omega) hr.units) ?_)))))
    refine wpAny_mono (own_call (vs := [V.ref a, y]) FF (A := X.A.in1) ((hr.mono (by omega) : Room (k + 1) X.A).in1) rfl hx I (.cons rfl (.cons ry .nil)) q) (fun r s' hq => ?_) fun _ _ x => x
    obtain ⟨z, H', I', rz, b, ez, qq⟩ := hq
    subst ez
    obtain rfl : r = Value.bool b := rz
    exact ⟨b, rfl, wpAny_pure ⟨_, rfl, .bl (!b), H', I', rfl, qq⟩⟩
  show wpAny (model X.prog X.w) X.A (richCompare .NotEq (.ref a) u) (EP X pins σ Q) X.xe s
  unfold richCompare
  simp only [oneThing_ref]
  refine wpAny_holding (wpAny_bind (wpAny_cRoomFor hr.units0 ?_))
  refine wpAny_bind (J.type.here (wpAny_bind (hb.here ?_)))
  split
  · rename_i q
    have e : PySem.W.subIn X.K t (.ref C) = some false := by
      rcases Bool.or_eq_true_iff.mp hn with e | e
      · rw [beq_iff_eq.mp e] at q; simp at q
      · exact beq_iff_eq.mp e
    refine wpAny_bind ((PySem.W.looks_subIn I.kIn e).here ?_)
    simp only [Bool.false_eq_true, if_false]
    refine wpAny_bind (wpAny_mono one (fun r s' z => ?_) fun _ _ e => e)
    obtain ⟨v, rfl, hq⟩ := z
    exact wpAny_pure hq
  · refine wpAny_bind (wpAny_pure ?_)
    simp only [Bool.false_eq_true, if_false]
    refine wpAny_bind (wpAny_mono one (fun r s' z => ?_) fun _ _ e => e)
    obtain ⟨v, rfl, hq⟩ := z
    exact wpAny_pure hq
theorem op_inO (O : OwnC X.K C "__contains__" f) (F : FnR X.prog X.w X.K X.mg X.base CX k f sp) (hr : Room k X.A) (hx : Passes CX X E) : OpR X (compareOp .In) (rInO C sp E) := by
  intro pins s σ H x y v u Q I rx ry h
  obtain ⟨a, dx, fs, rfl, ha, q⟩ := h
  obtain rfl : u = Value.ref a := ry
  obtain ⟨mA, J, _⟩ := ins_get I.hok ha
  obtain ⟨od, J, _⟩ := J.look
  obtain ⟨m, hF⟩ := I.fr
  refine PySem.W.in_K hF I.ok.mod.kin J O.fi O.fn ?_
  refine wpAny_mono (own_call (vs := [V.ref a, x]) F hr rfl hx I (.cons rfl (.cons rx .nil)) q) (fun r s' hq => ?_) fun _ _ x => x
  obtain ⟨z, H', I', rz, b, ez, qq⟩ := hq
  subst ez
  obtain rfl : r = Value.bool b := rz
  exact wpAny_truthy_bool ⟨.bl b, H', I', rfl, qq⟩
theorem op_notInO (O : OwnC X.K C "__contains__" f) (F : FnR X.prog X.w X.K X.mg X.base CX k f sp) (hr : Room k X.A) (hx : Passes CX X E) : OpR X (compareOp .NotIn) (rNinO C sp E) := by
  intro pins s σ H x y v u Q I rx ry h
  obtain ⟨a, dx, fs, rfl, ha, q⟩ := h
  obtain rfl : u = Value.ref a := ry
  obtain ⟨mA, J, _⟩ := ins_get I.hok ha
  obtain ⟨od, J, _⟩ := J.look
  obtain ⟨m, hF⟩ := I.fr
  refine PySem.W.notIn_K hF I.ok.mod.kin J O.fi O.fn ?_
  refine wpAny_mono (own_call (vs := [V.ref a, x]) F hr rfl hx I (.cons rfl (.cons rx .nil)) q) (fun r s' hq => ?_) fun _ _ x => x
  obtain ⟨z, H', I', rz, b, ez, qq⟩ := hq
  subst ez
  obtain rfl : r = Value.bool b := rz
  exact wpAny_truthy_bool ⟨.bl (!b), H', I', rfl, qq⟩
theorem pe_ixO {a b : Expr} {ta tb : TE} {pos : Pos} (O : OwnC X.K C "__getitem__" f) (F : FnR X.prog X.w X.K X.mg X.base CX k f sp) (hr : Room (k + 1) X.A) (hx : Passes CX X E) (ha : PE X a ta) (hb : PE X b tb)
    (hsl : ∀ x i, subscripted b true (.ref x) i = runValue (.builtin "lifetime.subscript" ⟨[.ref x, i], []⟩) := by intro _ _; with_unfolding_all rfl) : PE X (.Subscript a b pos) (tOp (rIxO C sp E) ta tb) := by
  refine ⟨fun pins s σ H Q I h => ?_⟩
  refine Subscript_ (binT ha hb I h fun v u s2 x y H2 I2 rx ry q => ?_)
  obtain ⟨a', dx, fs, rfl, ha', q⟩ := q
  obtain rfl : v = Value.ref a' := rx
  obtain ⟨mA, J, _⟩ := ins_get I2.hok ha'
  obtain ⟨od, J, _⟩ := J.look
  obtain ⟨m, hF⟩ := I2.fr
  refine PySem.W.sub_K hF I2.ok.mod.kin J O.fi O.ff O.fn ?_ (hsl _ _)
  exact own_call (vs := [V.ref a', y]) F (A := X.A.in1) hr.in1 rfl hx I2 (.cons rfl (.cons ry .nil)) q
/-- len(o) of an own __len__ -/
theorem call_lenO (O : OwnC X.K C "__len__" f) (F : FnR X.prog X.w X.K X.mg X.base CX k f sp) (hr : Room (k + 1) X.A) (hx : Passes CX X E) :
    CallR X (.builtin "len") (fun xs H Q => ∃ a dx fs, xs = [V.ref a] ∧ H a = some (.ins C dx fs) ∧ sp [.ref a] H (fun v H' => ∃ n : Int, v = .int n ∧ 0 ≤ n ∧ n < 2 ^ 63 ∧ Q (.int n) H') E) := by
  intro pins s σ H xs us Q I r h
  obtain ⟨a, dx, fs, rfl, ha, q⟩ := h
  obtain ⟨u, rfl, rx⟩ := vals1 r
  obtain rfl : u = Value.ref a := rx
  obtain ⟨mA, J, _⟩ := ins_get I.hok ha
  obtain ⟨od, J, _⟩ := J.look
  obtain ⟨m, hF⟩ := I.fr
  refine PySem.W.len_K hF I.ok.mod.kin J O.fi O.fn ?_
  refine wpAny_mono (own_call (vs := [V.ref a]) (A := X.A.in1) F hr.in1 rfl hx I (.cons rfl .nil) q) (fun r s' hq => ?_) fun _ _ x => x
  obtain ⟨z, H', I', rz, n, ez, n0, n1, qq⟩ := hq
  subst ez
  obtain ⟨t, rfl⟩ := rz
  exact ⟨⟨n0, n1⟩, .int n, H', I'.tok _, ⟨_, rfl⟩, qq⟩
end
/-! ### range(n) as a value, and its length -/
section
variable {X : Cx}
theorem cr_range1 : CallR X (.type "range") (fun vs H Q => ∃ j, vs = [V.int j] ∧ ∀ p, H p = none → Q (.ref p) (upd H p (.rng 0 j))) := by
  intro pins s σ H vs us Q I r h
  obtain ⟨j, rfl, q⟩ := h
  obtain ⟨u1, rfl, ri⟩ := vals1 r
  obtain ⟨t, rfl⟩ := ri
  refine call_range_1 ⟨.ref s.heap.objs.size, upd H s.heap.objs.size (.rng 0 j), I.laid (t' := s.toks + 1 + 1) (fun b o e => Heap.get?_push_of_some _ e) (Nat.le_refl _) ?_, rfl, q _ (I.hok.fresh (Nat.le_refl _))⟩
  exact ⟨s.toks, t, s.toks + 1, Heap.get?_push_size _ rfl⟩
theorem call_lenRng : CallR X (.builtin "len") (fun xs H Q => ∃ (p : Addr) (n : Nat), xs = [.ref p] ∧ H p = some (.rng 0 (n : Int)) ∧ n < 2 ^ 40 ∧ Q (.int n) H) := by
  intro pins s σ H xs us Q I r h
  obtain ⟨p, n, rfl, hp, hn, q⟩ := h
  obtain ⟨u, rfl, rx⟩ := vals1 r
  obtain rfl : u = Value.ref p := rx
  obtain ⟨t1, t2, t3, ho⟩ := I.hok p _ hp
  refine call_len_range (n := n) ho ?_ (by omega) ⟨.int n, H, I.tok _, ⟨_, rfl⟩, q⟩
  unfold Builtin.Range.rangeSize
  rw [if_pos (by decide)]
  by_cases h : (0 : Int) < n
  · rw [if_pos h]
    simp
  · rw [if_neg h]
    omega
end
section
variable {P : Program} {w : World} {K : PySem.W.Frag} {mg : Str → Option Value} {base : Heap}
def spTreeLen (C : Cl5) : Sp := fun vs H Q _ => ∃ (v : V) (t : Tr), vs = [v] ∧ PtAt C H v t ∧ isT t = true ∧ size t < 2 ^ 40 ∧ ∀ H', Same H H' → Q (.int ((size t : Nat) : Int)) H'
theorem scTreeLen : FnScope ["self"] ["self"] (defScope sTreeLen) := ⟨rfl, rfl, rfl, by decide +kernel, rfl, by decide +kernel, by decide +kernel⟩
theorem ok_treeLen {C : Cl5} {f : Addr} {fd : FuncData} (F : Fun K "__len__" "Tree.__len__" sTreeLen f fd) (gR : mg "range" = none) (gL : mg "len" = none) (T5 : Ty5 K C) (N5 : Na5 K C) : FnOk P w K mg base CX0 1 f fd ["self"] (spTreeLen C) := by
  refine F.ok scTreeLen (fun vs H Q E h => ?_) (fun cdv A outer s H vs Q E hr h => ?_)
  · obtain ⟨v, t, rfl, _⟩ := h
    rfl
  · obtain ⟨v, t, rfl, hv, ht, hs, k⟩ := h
    refine ⟨_, pss_one (ps_ret (pe_callB call_lenRng (by rfl) gL PySem.boot_len (pa_cons (pe_callTy cr_range1 (by rfl) gR boot_range (pa_cons (pe_fld (pv 0) rfl) pa_nil)) pa_nil))), ?_⟩
    obtain ⟨x, A1, dx, fs, rfl, e2, e3, e4, _⟩ := meas_of hv (isT_isN ht)
    refine ⟨_, rfl, x, A1, dx, fs, _, rfl, e2, (T5.own _ e3).cl, N5.na _ e3 _ (by decide +kernel), e4, _, rfl, fun p np => ?_⟩
    exact ⟨p, size t, rfl, upd_same, hs, k _ (same_upd (Same.refl H) np)⟩
end
end K3

namespace K3
open PySem L2 E0
/-! ### each_path: as many paths as there are nodes -/
theorem kids_pts {C : Cl5} {H : Hp} : ∀ {xs : List V} {ps : List Tr} {cs : List V}, KidsAt H xs ps cs → PtsAt C H xs ps → PtsAt C H cs (below ps)
  | [], [], cs, h, _ => by
    rw [show cs = [] from h]
    exact True.intro
  | x :: xs, .row ts :: ps, cs, h, hp => by
    obtain ⟨a, ys, r, h1, h2, h3, h4, h5⟩ := h
    obtain ⟨⟨a', xs', e1, e2, e3⟩, hp⟩ := hp
    rw [e1] at h1
    cases h1
    rw [h2] at e2
    cases e2
    rw [h4]
    exact pts_app (pts_picked e3) (kids_pts h5 hp)
  | x :: xs, .tx s :: ps, cs, h, hp => by
    obtain ⟨r, h1, h2⟩ := h
    rw [show cs = r from h1]
    exact kids_pts (ps := ps) h2 hp.2
  | x :: xs, .vr k n :: ps, cs, h, hp => by
    obtain ⟨r, h1, h2⟩ := h
    rw [h1]
    refine pts_app ?_ (kids_pts h2 hp.2)
    split
    · rename_i q
      exact ⟨hp.1, True.intro⟩
    · exact True.intro
  | x :: xs, .nd lk f qs :: ps, cs, h, hp => by
    obtain ⟨r, h1, h2⟩ := h
    rw [h1]
    exact pts_app (xs := [x]) (ts := [Tr.nd lk f qs]) ⟨hp.1, True.intro⟩ (kids_pts h2 hp.2)
  | [], _ :: _, _, h, _ => False.elim (by cases ‹Tr› <;> exact h)
  | _ :: _, [], _, h, _ => False.elim h
def EntAt (C : Cl5) (H : Hp) (v : V) (z : Tr × Nat) : Prop := ∃ b pa node pis, v = .ref b ∧ H b = some (.tup [.ref pa, node]) ∧ H pa = some (.tup pis) ∧ pis.length = z.2 ∧ PtAt C H node z.1 ∧ genT z.1 ∧ isT z.1 = true ∧ z.2 + levels z.1 ≤ 200
theorem EntAt.kpo {C : Cl5} {H H' : Hp} (e : KpO H H') {v : V} {z : Tr × Nat} (h : EntAt C H v z) : EntAt C H' v z := by
  obtain ⟨b, pa, node, pis, h1, h2, h3, h4, h5, h6⟩ := h
  exact ⟨b, pa, node, pis, h1, e _ _ rfl h2, e _ _ rfl h3, h4, PtAt.kpo e _ h5, h6⟩
def tot (zs : List (Tr × Nat)) : Nat := sizes (zs.map Prod.fst)
theorem tot_app (a b : List (Tr × Nat)) : tot (a ++ b) = tot a + tot b := by
  unfold tot
  rw [List.map_append, sizes_app]
theorem tot_rev : ∀ a : List (Tr × Nat), tot a.reverse = tot a
  | [] => rfl
  | x :: a => by
    rw [List.reverse_cons, tot_app, tot_rev a]
    show tot a + (size x.1 + 0) = size x.1 + tot a
    omega
theorem tot_lev (d : Nat) (ts : List Tr) : tot (ts.map fun t => (t, d)) = sizes ts := by
  unfold tot
  rw [List.map_map]
  congr 1
  exact (List.map_congr_left fun _ _ => rfl).trans (List.map_id _)
theorem Paired.rev {A B : Type} {R : A → B → Prop} : ∀ {xs : List A} {ys : List B}, Paired R xs ys → Paired R xs.reverse ys.reverse
  | _, _, .nil => .nil
  | _, _, .cons a t => by
    rw [List.reverse_cons, List.reverse_cons]
    exact Paired.snoc (Paired.rev t) a
theorem Paired.app {A B : Type} {R : A → B → Prop} : ∀ {xs xs' : List A} {ys ys' : List B}, Paired R xs ys → Paired R xs' ys' → Paired R (xs ++ xs') (ys ++ ys')
  | _, _, _, _, .nil, h => h
  | _, _, _, _, .cons a t, h => .cons a (Paired.app t h)
theorem Paired.last {A B : Type} {R : A → B → Prop} : ∀ {xs : List A} {x : A} {ys : List B}, Paired R (xs ++ [x]) ys → ∃ yi y, ys = yi ++ [y] ∧ Paired R xs yi ∧ R x y
  | [], _, _, .cons a t => by
    cases t
    exact ⟨[], _, rfl, .nil, a⟩
  | _ :: _, _, _, .cons a t => by
    obtain ⟨yi, y, e, p, r⟩ := Paired.last t
    exact ⟨_ :: yi, y, by rw [e]; rfl, .cons a p, r⟩
theorem levels_below {ps : List Tr} {t : Tr} (hg : gensT ps) (m : t ∈ below ps) : levels t ≤ levelss ps := by
  have okp : ∀ p ∈ ps, okP p = true := fun p m => gen_okP (gens_mem hg m)
  obtain ⟨b1, b2, b3⟩ := below_ok okp
  rw [← b2]
  have go : ∀ {ts : List Tr} {t : Tr}, t ∈ ts → levels t ≤ levelss ts := fun {ts} => by
    induction ts with
    | nil => intro t h; cases h
    | cons a ts ih =>
      intro t h
      show levels t ≤ max (levels a) (levelss ts)
      rcases List.mem_cons.mp h with e | h
      · rw [e]; exact Nat.le_max_left _ _
      · exact Nat.le_trans (ih h) (Nat.le_max_right _ _)
  exact go m
section
variable {P : Program} {w : World} {K : PySem.W.Frag} {mg : Str → Option Value} {base : Heap}
def spEach (C : Cl5) : SpG := fun vs H Q _ => ∃ v t, vs = [v] ∧ PtAt C H v t ∧ genT t ∧ isT t = true ∧ size t ≤ 100000 ∧ levels t ≤ 200 ∧ (∀ p ∈ [t], rowLen p ≤ 1000) ∧ ∀ H' ys, Same H H' → ys.length = size t → Q ys H'
def NEP : List Str := ["self", "waiting", "path", "node", "below", "number", "child"]
theorem scEach : GScope NEP ["self"] (defScope sEachPath) := ⟨rfl, rfl, rfl, by decide +kernel, rfl, by decide +kernel, by decide +kernel⟩
theorem gfn_each {C : Cl5} {f : Addr} {fd : FuncData} (F : Fun K "each_path" "Tree.each_path" sEachPath f fd) (gE : mg "enumerate" = none) (T5 : Ty5 K C) (N5 : Na5 K C) : GFn P w K mg base 2 f fd ["self"] (spEach C) := by
  obtain ⟨oc, od, kV, doc, pm, an, cdv, ct, osl, rfl, lk, hcd⟩ := F.ex
  refine gfn_of (N := NEP) lk hcd scEach (fun vs H Q E h => ?_) fun A outer s H vs Q E pn hr h => ?_
  · obtain ⟨v, t, rfl, _⟩ := h
    rfl
  · obtain ⟨v, t, rfl, hv, hg, ht, hs, hl, _, k⟩ := h
    refine ⟨_, gss_cons (gs_ps (ps_set (i := 1) scEach.nd rfl (Or.inl rfl) (pe_lst (pa_cons (pe_tup (pa_cons (pe_tup pa_nil) (pa_cons (pv 0) pa_nil))) pa_nil))))
      (gss_cons (gs_while owns_gcx (pt_truth (pv 1) (by intro _; rfl))
        (gss_cons (gs_ps (ps_asg (pe_bm0 PySem.F.plainAttrs_list PySem.F.slot_list_pop PySem.F.type_list_pop mt_pop (pv 1)) (pg_tup (by rfl) (pgs_cons (pg_name (i := 2) scEach.nd rfl (.inr rfl)) (pgs_cons (pg_name (i := 3) scEach.nd rfl (.inl rfl)) pgs_nil)))))
        (gss_cons (gs_yield (pv 2))
        (gss_cons (gs_ps (ps_setLc (i := 4) (own := [("number", 5), ("child", 6)]) (g := gTup K 2 (gCons (gName 5) (gCons (gName 6) gNil))) (tt := tYes) (te := tTup (tCons (tOp (rCatA K) (tVar 2) (tTup (tCons (tVar 5) tNil))) (tCons (tVar 6) tNil))) rfl scEach.nd rfl rfl (sw_true rfl rfl rfl (by decide +kernel)) (pi_enumT rfl gE (pa_cons (pe_fld (pv 3) rfl) pa_nil))
            (blkOk_by (N := NEP) (sc := defScope sEachPath) (by decide +kernel)) (fun _ _ _ _ _ => pg_tup (by rfl) (pgs_cons (pg_name (i := 5) scEach.nd rfl (.inl rfl)) (pgs_cons (pg_name (i := 6) scEach.nd rfl (.inl rfl)) pgs_nil))) (fun _ _ _ _ _ => pts_nil)
            (fun _ _ _ _ _ => pe_tup (pa_cons (pe_op op_catA (pv 2) (pe_tup (pa_cons (pv 5) pa_nil))) (pa_cons (pv 6) pa_nil)))))
          (gss_pss (pss_one (ps_expr (pe_bm PySem.F.plainAttrs_list PySem.F.slot_list_extend PySem.F.type_list_extend mt_extend (pv 1) (pa_cons (pe_revL (pv 4)) pa_nil)))))))))
      gss_nil), ?_⟩
    obtain ⟨x, A0, dx, fs0, rfl, hx, _⟩ := text_of (K := K) hv (isT_text ht)
    have big : (1000000 : Nat) < sizeLine := by decide
    refine ⟨by decide, fun e0 he0 => ?_⟩
    have s0 : Same H (upd H e0 (.tup [])) := same_upd (Same.refl H) he0
    have v0 : (upd H e0 (.tup [])) e0 = some (.tup []) := upd_same
    generalize upd H e0 (.tup []) = H0 at s0 v0 ⊢
    refine ⟨_, rfl, by show 2 ≤ sizeLine; omega, fun b0 hb0 => ?_⟩
    have s1 : Same H0 (upd H0 b0 (.tup [.ref e0, .ref x])) := same_upd (Same.refl H0) hb0
    have v1 : (upd H0 b0 (.tup [.ref e0, .ref x])) b0 = some (.tup [.ref e0, .ref x]) := upd_same
    generalize upd H0 b0 (.tup [.ref e0, .ref x]) = H1 at s1 v1 ⊢
    refine ⟨by show 1 ≤ sizeLine; omega, fun wl hwl => ?_⟩
    have s2 : Same H1 (upd H1 wl (.lst [.ref b0])) := same_upd (Same.refl H1) hwl
    have v2 : (upd H1 wl (.lst [.ref b0])) wl = some (.lst [.ref b0]) := upd_same
    generalize upd H1 wl (.lst [.ref b0]) = H2 at s2 v2 ⊢
    have s02 := s0.trans (s1.trans s2)
    have nwl : H wl = none := (s0.trans s1).free hwl
    refine ⟨fun m ys σ H' => ∃ (es : List V) (zs : List (Tr × Nat)) (v2 v3 v4 : Option V), σ = [some (.ref x), some (.ref wl), v2, v3, v4, none, none] ∧ Same H H' ∧ H' wl = some (.lst es) ∧ Paired (EntAt C H') es zs ∧ m = tot zs ∧ ys.length + tot zs = size t ∧ es.length ≤ size t + 1,
      ⟨_, [.ref b0], [(t, 0)], none, none, none, rfl, s02, v2, .cons ⟨b0, e0, .ref x, [], rfl, s2 _ _ v1, (s1.trans s2) _ _ v0, rfl, PtAt.kpo (KpO.same s02) _ hv, hg, ht, by show 0 + levels t ≤ 200; omega⟩ .nil, rfl, by show 0 + (size t + 0) = size t; omega, by show 1 ≤ _; omega⟩, ?_⟩
    rintro m ys σ H3 ⟨es, zs, w2, w3, w4, rfl, s3, hw, pz, rfl, hc, hel⟩
    refine ⟨_, rfl, !es.isEmpty, .inl ⟨es, SqL.of hw, ?_⟩, ?_⟩
    · cases es <;> rfl
    rcases List.eq_nil_or_concat es with rfl | ⟨ei, ey, rfl⟩
    · refine iteF ?_
      cases pz
      refine k H3 ys s3 ?_
      have hc : ys.length + 0 = size t := hc
      omega
    · rw [show (!(ei.concat ey).isEmpty) = true by simp]
      refine iteT ?_
      refine ⟨fun ys' σ' H' => ∃ m', m' < tot zs ∧ ∃ (es : List V) (zs : List (Tr × Nat)) (v2 v3 v4 : Option V), σ' = [some (.ref x), some (.ref wl), v2, v3, v4, none, none] ∧ Same H H' ∧ H' wl = some (.lst es) ∧ Paired (EntAt C H') es zs ∧ m' = tot zs ∧ ys'.length + tot zs = size t ∧ es.length ≤ size t + 1, fun _ _ _ q => q, ?_⟩
      rw [List.concat_eq_append] at hw pz hel
      obtain ⟨zi, ⟨t1, d⟩, rfl, pi, hz⟩ := Paired.last pz
      obtain ⟨b, pa, node, pis, rfl, hb, hpa, hpl, hnode, hgn, htn, hdl⟩ := hz
      have hpl : pis.length = d := hpl
      have hdl : d + levels t1 ≤ 200 := hdl
      obtain ⟨f1, ps, rfl⟩ : ∃ f1 ps, t1 = .nd false f1 ps := by
        match t1, htn with
        | .nd false f1 ps, _ => exact ⟨f1, ps, rfl⟩
      have ets : tot (zi ++ [(Tr.nd false f1 ps, d)]) = tot zi + (1 + sizes ps) := by
        rw [tot_app]
        show tot zi + (size (.nd false f1 ps) + 0) = _
        simp only [size]
        omega
      rw [ets] at hc ⊢
      refine ⟨_, rfl, .inl ⟨rfl, _, SqL.of hw⟩, wl, _, .ref b, rfl, rfl, hw, by simp, ?_⟩
      rw [List.dropLast_concat]
      have hnode : PtAt C H3 node (.nd false f1 ps) := hnode
      have k4 : KpO H3 (upd H3 wl (.lst ei)) := kpO_upd hw
      have w4 : (upd H3 wl (.lst ei)) wl = some (.lst ei) := upd_same
      have s4 : Same H (upd H3 wl (.lst ei)) := fun b o e => by
        rw [upd_ne (ne_of_none e nwl)]
        exact s3 b o e
      generalize upd H3 wl (.lst ei) = H4 at k4 w4 s4 ⊢
      refine ⟨b, _, rfl, .inl (.inl (k4 _ _ rfl hb)), rfl, _, _, rfl, ?_⟩
      refine ⟨_, _, rfl, rfl, ?_⟩
      refine ⟨by omega, _, rfl, ?_⟩
      obtain ⟨nx, dn, fn, pn2, xs, rfl, n2, n3, n4, n5, n6, n7, n8, n9, n10⟩ := PtAt.kpo k4 _ hnode
      obtain ⟨ca, cs, c1, c2, c3⟩ := n10 rfl
      have gps : gensT ps := hgn.2.2.2
      have gpl : ps.length ≤ 9 := hgn.2.2.1
      obtain ⟨g1, g2⟩ := gens_below gps
      have okp : ∀ p ∈ ps, okP p = true := fun p m => gen_okP (gens_mem gps m)
      obtain ⟨b1, b2, b3⟩ := below_ok okp
      have ck := kids_pts c3 n6
      have cl := pts_len ck
      have mT : C.T ∈ C.all := C.n_mem false
      have sz1 : ∀ ts : List Tr, (∀ t ∈ ts, isN t = true) → ts.length ≤ sizes ts := fun ts => by
        induction ts with
        | nil => intro _; exact Nat.le_refl _
        | cons a ts ih =>
          intro h
          have h1 := ih fun u m => h u (List.mem_cons_of_mem _ m)
          have h2 : 1 ≤ size a := by
            have := h a (List.mem_cons_self ..)
            match a, this with
            | .nd _ _ _, _ => simp only [size]; omega
            | .vr 0 _, _ => simp only [size]; omega
          show ts.length + 1 ≤ size a + sizes ts
          omega
      have bl := sz1 _ b3
      have lvt : levels (.nd false f1 ps) = levelss ps + 1 := by simp only [levels]
      refine ⟨_, rfl, nx, C.T, dn, fn, _, rfl, n2, (T5.own _ mT).cl, N5.na _ mT _ (by decide +kernel), c1, ca, cs, rfl, SqT.of c2, fun D hD => lc_it walk_enumT (fun i H' => Same H4 H' ∧ ∃ acc, H' D = some (.lst acc) ∧ acc.length = i ∧ Paired (EntAt C H') acc (((below ps).take i).map fun u => (u, d + 1)))
        ⟨same_upd (Same.refl H4) hD, [], upd_same, rfl, .nil⟩ (fun i H' _ ⟨s', _⟩ => SqT.of (s' _ _ c2)) ?_ ?_⟩
      · rintro i vv H5 H6 hi ⟨s5, acc, e5, al, pa5⟩ ⟨Tp, y, u, rfl, hT, rfl, ey, ez⟩
        have ey : some (V.int (i : Nat)) = some y := ey
        cases ey
        have ez : cs[i]? = some u := ez
        obtain ⟨ti, et, hti⟩ := LiI.paired_get (ptsAt_iff.mp ck) ez
        have tm := List.mem_of_getElem? et
        have s7 : Same H5 (upd H5 Tp (.tup [.int (i : Nat), u])) := same_upd (Same.refl H5) hT
        have v7 : (upd H5 Tp (.tup [.int (i : Nat), u])) Tp = some (.tup [.int (i : Nat), u]) := upd_same
        generalize upd H5 Tp (.tup [.int (i : Nat), u]) = H7 at s7 v7 ⊢
        refine ⟨Tp, _, rfl, .inl (.inl v7), rfl, _, _, rfl, ?_⟩
        refine ⟨_, _, rfl, rfl, rfl, ?_⟩
        dsimp only [tYes]
        rw [if_pos rfl]
        refine ⟨_, rfl, _, rfl, by show 1 ≤ sizeLine; omega, fun q hq => ?_⟩
        have s8 : Same H7 (upd H7 q (.tup [.int (i : Nat)])) := same_upd (Same.refl H7) hq
        have v8 : (upd H7 q (.tup [.int (i : Nat)])) q = some (.tup [.int (i : Nat)]) := upd_same
        generalize upd H7 q (.tup [.int (i : Nat)]) = H8 at s8 v8 ⊢
        have s48 := s5.trans (s7.trans s8)
        have lvi := levels_below gps tm
        refine ⟨pa, q, pis, [.int (i : Nat)], rfl, rfl, SqT.of (s48 _ _ (k4 _ _ rfl hpa)), SqT.of v8, by show pis.length + 1 ≤ sizeLine; omega, fun ep => ?ca, fun _ h => absurd h (by simp), fun _ _ r hr0 => ?cb⟩
        case' ca =>
          obtain ⟨H9, rfl⟩ : ∃ z, z = H8 := ⟨_, rfl⟩
          have s9 : Same H9 H9 := Same.refl H9
          obtain ⟨r, er⟩ : ∃ r, r = q := ⟨_, rfl⟩
          rw [← er] at v8 ⊢
          have v9 : H9 r = some (.tup (pis ++ [.int (i : Nat)])) := by rw [ep]; exact v8
        case' cb =>
          have s9 : Same H8 (upd H8 r (.tup (pis ++ [.int (i : Nat)]))) := same_upd (Same.refl H8) hr0
          have v9 : (upd H8 r (.tup (pis ++ [.int (i : Nat)]))) r = some (.tup (pis ++ [.int (i : Nat)])) := upd_same
          generalize upd H8 r (.tup (pis ++ [.int (i : Nat)])) = H9 at s9 v9 ⊢
        all_goals
          refine ⟨_, rfl, by show 2 ≤ sizeLine; omega, fun bb hbb => ?_⟩
          have s10 : Same H9 (upd H9 bb (.tup [.ref r, u])) := same_upd (Same.refl H9) hbb
          have v10 : (upd H9 bb (.tup [.ref r, u])) bb = some (.tup [.ref r, u]) := upd_same
          generalize upd H9 bb (.tup [.ref r, u]) = H10 at s10 v10 ⊢
          have s510 := s7.trans (s8.trans (s9.trans s10))
          have e10 := s510 _ _ e5
          have kk := kpO_upd (o := .lst (acc ++ [.ref bb])) e10
          have s410 := s5.trans s510
          refine ⟨acc, e10, by omega, ?_, acc ++ [.ref bb], upd_same, by rw [List.length_append, al]; rfl, ?_⟩
          · intro c o hc0
            rw [upd_ne (ne_of_none hc0 hD)]
            exact s410 c o hc0
          · rw [List.take_add_one, et]
            rw [show (some ti).toList = [ti] from rfl, List.map_append]
            exact Paired.snoc (Paired.mapP pa5 fun a b z => (z.kpo (KpO.same s510)).kpo kk) ⟨bb, r, u, _, rfl, kk _ _ rfl v10, kk _ _ rfl (s10 _ _ v9), by rw [List.length_append, hpl]; rfl, PtAt.kpo kk _ (PtAt.kpo (KpO.same s410) _ hti), gens_mem g1 tm, g2 ti tm, by show d + 1 + levels ti ≤ 200; omega⟩
      · rintro H5 ⟨s5, acc, e5, al, pa5⟩
        rw [cl, List.take_length] at pa5
        rw [cl] at al
        refine ⟨_, rfl, .inl ⟨rfl, _, SqL.of (s5 _ _ w4)⟩, _, rfl, D, acc, rfl, SqL.of e5, fun rv hrv => ?_⟩
        have s6 : Same H5 (upd H5 rv (.lst acc.reverse)) := same_upd (Same.refl H5) hrv
        have v6 : (upd H5 rv (.lst acc.reverse)) rv = some (.lst acc.reverse) := upd_same
        generalize upd H5 rv (.lst acc.reverse) = H6 at s6 v6 ⊢
        have w6 := s6 _ _ (s5 _ _ w4)
        have hei : ei.length + 1 ≤ size t + 1 := by rw [List.length_append] at hel; exact hel
        have eil : ei.length ≤ tot zi := by
          rw [pi.length]
          have go : ∀ (zs : List (Tr × Nat)) (es : List V), Paired (EntAt C H3) es zs → zs.length ≤ tot zs := fun zs => by
            induction zs with
            | nil => intro _ _; exact Nat.le_refl _
            | cons a zs ih =>
              intro es h
              cases h with
              | cons h1 h2 =>
                have := ih _ h2
                obtain ⟨_, _, _, _, _, _, _, _, _, _, h3, _⟩ := h1
                have h4 : 1 ≤ size a.1 := by
                  obtain ⟨a1, a2⟩ := a
                  match a1, h3 with
                  | .nd false _ _, _ => show 1 ≤ size (.nd false _ _); simp only [size]; omega
                show zs.length + 1 ≤ size a.1 + tot zs
                omega
          exact go _ _ pi
        refine ⟨wl, rv, ei, acc.reverse, rfl, rfl, w6, v6, by rw [List.length_reverse]; omega, ?_⟩
        have k6 : KpO H4 H6 := KpO.same (s5.trans s6)
        have k7 := kpO_upd (o := .lst (ei ++ acc.reverse)) w6
        have tb : tot (zi ++ ((below ps).map fun u => (u, d + 1)).reverse) = tot zi + sizes ps := by rw [tot_app, tot_rev, tot_lev, b1]
        refine ⟨tot zi + sizes ps, by omega, ei ++ acc.reverse, zi ++ ((below ps).map fun u => (u, d + 1)).reverse, _, _, _, rfl, ?_, upd_same, ?_, tb.symm, ?_, ?_⟩
        · intro c o hc0
          rw [upd_ne (ne_of_none hc0 nwl)]
          exact s6 c o (s5 c o (s4 c o hc0))
        · exact Paired.app (Paired.mapP pi fun a b z => ((z.kpo k4).kpo k6).kpo k7) (Paired.rev (Paired.mapP pa5 fun a b z => (z.kpo (KpO.same s6)).kpo k7))
        · rw [tb, List.length_append]
          show ys.length + 1 + (tot zi + sizes ps) = size t
          omega
        · rw [List.length_append, List.length_reverse, al]
          omega
end
end K3

namespace K3
open PySem L2 E0
/-! ### texts as lists of signs; different trees have different texts -/
def chs (s : Str) : List Nat := s.cps.toList
theorem chs_app (a b : Str) : chs (a ++ b) = chs a ++ chs b := by
  show (a.cps ++ b.cps).toList = _
  rw [Array.toList_append]
  rfl
theorem chs_inj {a b : Str} (h : chs a = chs b) : a = b := str_ext h
/-- a join, sign by sign -/
def jn : List (List Nat) → List Nat
  | [] => []
  | [x] => x
  | x :: y :: r => x ++ (44 :: 32 :: jn (y :: r))
theorem chs_join : ∀ l : List Str, chs (Txt.join ", " l) = jn (l.map chs) := fun l => by
  have e : Txt.join ", " l = Str.join ", " l := StrLaws.glued_eq_join _ l
  rw [e]
  have es : chs ", " = [44, 32] := by decide +kernel
  induction l with
  | nil => rfl
  | cons x l ih =>
    cases l with
    | nil => rfl
    | cons y r =>
      have e2 : Str.join ", " (x :: y :: r) = x ++ ", " ++ Str.join ", " (y :: r) := rfl
      rw [e2, chs_app, chs_app, ih (StrLaws.glued_eq_join _ _), es]
      show chs x ++ [44, 32] ++ _ = chs x ++ (44 :: 32 :: _)
      rw [List.append_assoc]
      rfl
theorem split_at {c : Nat} : ∀ {xs ys a b : List Nat}, c ∉ xs → c ∉ ys → xs ++ c :: a = ys ++ c :: b → xs = ys ∧ a = b
  | [], [], _, _, _, _, h => ⟨rfl, (List.cons.inj h).2⟩
  | [], y :: ys, _, _, _, h2, h => absurd (List.cons.inj h).1 (fun e => h2 (e ▸ List.mem_cons_self ..))
  | x :: xs, [], _, _, h1, _, h => absurd (List.cons.inj h).1 (fun e => h1 (e ▸ List.mem_cons_self ..))
  | x :: xs, y :: ys, _, _, h1, h2, h => by
    obtain ⟨e1, e2⟩ := List.cons.inj h
    obtain ⟨e3, e4⟩ := split_at (fun m => h1 (List.mem_cons_of_mem _ m)) (fun m => h2 (List.mem_cons_of_mem _ m)) e2
    exact ⟨by rw [e1, e3], e4⟩
theorem menuT_q : ∀ s ∈ menuT, 34 ∉ chs s := by
  have h : (menuT.all fun s => !decide (34 ∈ chs s)) = true := by decide +kernel
  intro s hs
  have q := List.all_eq_true.mp h s hs
  simpa using q
theorem chs_tx {s : Str} (h : s ∈ menuT) : chs (said (.tx s)) = 34 :: (chs s ++ [34]) := by
  rw [said_tx, (menuT_ok s h).2.1, chs_app, chs_app, show chs "\"" = [34] by decide +kernel]
  rfl
theorem chs_row (ts : List Tr) : chs (said (.row ts)) = 91 :: (jn ((saids ts).map chs) ++ [93]) := by
  rw [said_row, chs_app, chs_app, chs_join, show chs "[" = [91] by decide +kernel, show chs "]" = [93] by decide +kernel]
  rfl
theorem chs_nd (lk : Bool) (f : Str) (ps : List Tr) : chs (said (.nd lk f ps)) = chs f ++ 40 :: (jn ((saids ps).map chs) ++ [41]) := by
  rw [said_nd, chs_app, chs_app, chs_app, chs_join, show chs "(" = [40] by decide +kernel, show chs ")" = [41] by decide +kernel]
  simp
theorem nameS_chs {f : Str} (h : nameS f = true) : ∃ k r, chs f = k :: r ∧ inS LET k = true ∧ ∀ c ∈ chs f, inS SIG c = true := by
  unfold nameS at h
  simp only [Bool.and_eq_true, decide_eq_true_eq] at h
  obtain ⟨⟨⟨h1, h2⟩, h3⟩, h4⟩ := h
  unfold chs
  cases e : f.cps.toList with
  | nil => rw [e] at h3; cases h3
  | cons k r =>
    rw [e] at h3
    exact ⟨k, r, rfl, h3, by rw [← e]; exact fun c hc => List.all_eq_true.mp h4 c hc⟩
theorem name_no40 {f : Str} (h : nameS f = true) : 40 ∉ chs f := fun m => by
  obtain ⟨_, _, _, _, q⟩ := nameS_chs h
  have := q 40 m
  revert this
  decide +kernel
theorem let_no : inS LET 34 = false ∧ inS LET 91 = false ∧ inS LET 41 = false ∧ inS LET 93 = false := by decide +kernel
/-- the first sign -/
theorem first_sign : ∀ {t : Tr}, genT t → ∃ k r, chs (said t) = k :: r ∧ k ≠ 41 ∧ k ≠ 93 ∧ (match t with | .tx _ => k = 34 | .row _ => k = 91 | _ => inS LET k = true)
  | .tx s, h => ⟨34, _, chs_tx h, by decide, by decide, rfl⟩
  | .row ts, _ => ⟨91, _, chs_row ts, by decide, by decide, rfl⟩
  | .nd lk f ps, h => by
    obtain ⟨k, r, e, h1, _⟩ := nameS_chs h.2.1
    refine ⟨k, r ++ 40 :: (jn ((saids ps).map chs) ++ [41]), by rw [chs_nd, e]; rfl, fun q => ?_, fun q => ?_, h1⟩
    · rw [q, let_no.2.2.1] at h1; cases h1
    · rw [q, let_no.2.2.2] at h1; cases h1
  | .vr .., h => False.elim h
theorem jn_cons (x : List Nat) (l : List (List Nat)) : jn (x :: l) = x ++ (match l with | [] => [] | y :: r => 44 :: 32 :: jn (y :: r)) := by
  cases l with
  | nil => exact (List.append_nil x).symm
  | cons y r => rfl
mutual
theorem dec : ∀ (t u : Tr) (a b : List Nat), genT t → genT u → chs (said t) ++ a = chs (said u) ++ b → t = u ∧ a = b
  | .tx s, u, a, b, ht, hu, h => by
    obtain ⟨k, r, e, _, _, q⟩ := first_sign hu
    rw [chs_tx ht, e] at h
    have hk : 34 = k := (List.cons.inj h).1
    match u, hu, q with
    | .tx s', hu, _ =>
      rw [chs_tx hu] at e
      rw [← e, List.cons_append, List.cons_append, List.append_assoc, List.append_assoc] at h
      obtain ⟨e1, e2⟩ := split_at (menuT_q s ht) (menuT_q s' hu) (List.cons.inj h).2
      exact ⟨by rw [chs_inj e1], e2⟩
    | .row ts, hu, q => rw [show k = 91 from q] at hk; cases hk
    | .nd lk f ps, hu, q =>
      have q : inS LET k = true := q
      rw [← hk, let_no.1] at q
      cases q
  | .row ts, u, a, b, ht, hu, h => by
    obtain ⟨k, r, e, _, _, q⟩ := first_sign hu
    rw [chs_row ts, e] at h
    have hk : 91 = k := (List.cons.inj h).1
    match u, hu, q with
    | .tx s', hu, q => rw [show k = 34 from q] at hk; cases hk
    | .row us, hu, q =>
      rw [chs_row us] at e
      rw [← e, List.cons_append, List.cons_append, List.append_assoc, List.append_assoc] at h
      obtain ⟨e1, e2⟩ := decs 93 (by decide) (.inr rfl) ts us a b ht.2.1 hu.2.1 (List.cons.inj h).2
      exact ⟨by rw [e1], e2⟩
    | .nd lk f ps, hu, q =>
      have q : inS LET k = true := q
      rw [← hk, let_no.2.1] at q
      cases q
  | .nd lk f ps, u, a, b, ht, hu, h => by
    obtain ⟨k, r, e, _, _, q⟩ := first_sign hu
    obtain ⟨k2, r2, e2, _, _, q2⟩ := first_sign ht
    have hk : k2 = k := by
      rw [e2, e] at h
      exact (List.cons.inj h).1
    have q2 : inS LET k2 = true := q2
    match u, hu, q with
    | .tx s', hu, q =>
      rw [hk, show k = 34 from q, let_no.1] at q2
      cases q2
    | .row us, hu, q =>
      rw [hk, show k = 91 from q, let_no.2.1] at q2
      cases q2
    | .nd lk2 g qs, hu, q =>
      rw [chs_nd, chs_nd, List.append_assoc, List.append_assoc, List.cons_append, List.cons_append, List.append_assoc, List.append_assoc] at h
      obtain ⟨e3, e4⟩ := split_at (name_no40 ht.2.1) (name_no40 hu.2.1) h
      obtain ⟨e5, e6⟩ := decs 41 (by decide) (.inl rfl) ps qs a b ht.2.2.2 hu.2.2.2 e4
      obtain ⟨rfl, _⟩ := ht
      obtain ⟨rfl, _⟩ := hu
      exact ⟨by rw [chs_inj e3, e5], e6⟩
  | .vr .., _, _, _, ht, _, _ => False.elim ht
theorem decs (c : Nat) (hc : c ≠ 44) (hc2 : c = 41 ∨ c = 93) : ∀ (ts us : List Tr) (a b : List Nat), gensT ts → gensT us → jn ((saids ts).map chs) ++ c :: a = jn ((saids us).map chs) ++ c :: b → ts = us ∧ a = b
  | [], [], a, b, _, _, h => ⟨rfl, (List.cons.inj h).2⟩
  | [], u :: us, a, b, _, hu, h => by
    obtain ⟨k, r, e, k1, k2, _⟩ := first_sign hu.1
    have h : c :: a = jn (chs (said u) :: (saids us).map chs) ++ c :: b := h
    rw [jn_cons, e] at h
    have := (List.cons.inj h).1
    rcases hc2 with q | q <;> rw [q] at this
    · exact absurd this.symm k1
    · exact absurd this.symm k2
  | t :: ts, [], a, b, ht, _, h => by
    obtain ⟨k, r, e, k1, k2, _⟩ := first_sign ht.1
    have h : jn (chs (said t) :: (saids ts).map chs) ++ c :: a = c :: b := h
    rw [jn_cons, e] at h
    have := (List.cons.inj h).1
    rcases hc2 with q | q <;> rw [q] at this
    · exact absurd this k1
    · exact absurd this k2
  | t :: ts, u :: us, a, b, ht, hu, h => by
    have h : jn (chs (said t) :: (saids ts).map chs) ++ c :: a = jn (chs (said u) :: (saids us).map chs) ++ c :: b := h
    rw [jn_cons, jn_cons, List.append_assoc, List.append_assoc] at h
    obtain ⟨e1, e2⟩ := dec t u _ _ ht.1 hu.1 h
    match ts, us, ht, hu, e2 with
    | [], [], _, _, e2 => exact ⟨by rw [e1], (List.cons.inj e2).2⟩
    | [], y :: r, _, _, e2 => exact absurd (List.cons.inj e2).1 hc
    | y :: r, [], _, _, e2 => exact absurd (List.cons.inj e2).1 (Ne.symm hc)
    | y :: r, z :: r2, ht, hu, e2 =>
      have e2 : jn ((saids (y :: r)).map chs) ++ c :: a = jn ((saids (z :: r2)).map chs) ++ c :: b := (List.cons.inj (List.cons.inj e2).2).2
      obtain ⟨e3, e4⟩ := decs c hc hc2 (y :: r) (z :: r2) a b ht.2 hu.2 e2
      exact ⟨by rw [e1, e3], e4⟩
end
theorem said_inj {t u : Tr} (ht : genT t) (hu : genT u) : said t = said u ↔ t = u :=
  ⟨fun h => (dec t u [] [] ht hu (by rw [h])).1, fun h => by rw [h]⟩
/-! ### signs are in their range -/
theorem jn_mem {c : Nat} : ∀ {l : List (List Nat)}, c ∈ jn l → c = 44 ∨ c = 32 ∨ ∃ x ∈ l, c ∈ x
  | [], h => nomatch h
  | [x], h => .inr (.inr ⟨x, List.mem_cons_self .., h⟩)
  | x :: y :: r, h => by
    rcases List.mem_append.mp (show c ∈ x ++ (44 :: 32 :: jn (y :: r)) from h) with q | q
    · exact .inr (.inr ⟨x, List.mem_cons_self .., q⟩)
    · rcases List.mem_cons.mp q with q | q
      · exact .inl q
      · rcases List.mem_cons.mp q with q | q
        · exact .inr (.inl q)
        · rcases jn_mem q with q | q | ⟨z, hz, q⟩
          · exact .inl q
          · exact .inr (.inl q)
          · exact .inr (.inr ⟨z, List.mem_cons_of_mem _ hz, q⟩)
theorem sig_small : ∀ c, inS SIG c = true → c < 0x110000 := fun c h => by
  have h2 : (SIG.cps.toList.all fun c => decide (c < 0x110000)) = true := by decide +kernel
  exact of_decide_eq_true (List.all_eq_true.mp h2 c (of_decide_eq_true h))
mutual
theorem said_small : ∀ {t : Tr}, genT t → ∀ c ∈ chs (said t), c < 0x110000
  | .tx s, h, c, hc => by
    rw [chs_tx h] at hc
    rcases List.mem_cons.mp hc with q | q
    · omega
    · rcases List.mem_append.mp q with q | q
      · exact ok_iff.mp (menuT_ok s h).2.2 c q
      · have := List.mem_singleton.mp q
        omega
  | .row ts, h, c, hc => by
    rw [chs_row] at hc
    rcases List.mem_cons.mp hc with q | q
    · omega
    · rcases List.mem_append.mp q with q | q
      · exact saids_small h.2.1 c q
      · have := List.mem_singleton.mp q
        omega
  | .nd lk f ps, h, c, hc => by
    rw [chs_nd] at hc
    rcases List.mem_append.mp hc with q | q
    · obtain ⟨_, _, _, _, z⟩ := nameS_chs h.2.1
      exact sig_small c (z c q)
    · rcases List.mem_cons.mp q with q | q
      · omega
      · rcases List.mem_append.mp q with q | q
        · exact saids_small h.2.2.2 c q
        · have := List.mem_singleton.mp q
          omega
  | .vr .., h, _, _ => False.elim h
theorem saids_small : ∀ {ts : List Tr}, gensT ts → ∀ c ∈ jn ((saids ts).map chs), c < 0x110000
  | [], _, c, hc => nomatch hc
  | t :: ts, h, c, hc => by
    have hc : c ∈ jn (chs (said t) :: (saids ts).map chs) := hc
    rw [jn_cons] at hc
    rcases List.mem_append.mp hc with q | q
    · exact said_small h.1 c q
    · match ts, h, q with
      | y :: r, h, q =>
        rcases List.mem_cons.mp q with q | q
        · omega
        · rcases List.mem_cons.mp q with q | q
          · omega
          · exact saids_small h.2 c q
end
theorem said_ok {t : Tr} (h : genT t) : PyData.strOk (said t) = true := ok_iff.mpr (said_small h)
end K3

namespace K3
open PySem PySem.Spec PyProof.Rows PySem.SeqAt L2 E0
/-! ### lists whose items are the same things, or tuples of the same things -/
def plainV : V → Bool
  | .flt _ => false
  | .byt _ => false
  | _ => true
theorem eqat_self {A : Around} {s : Shared} {x : V} {v u : Value} (h : plainV x = true) (r : RelV x v) (r2 : RelV x u) : EqAt A s v u true := by
  cases x with
  | non => cases r; cases r2; exact EqAt.same _
  | bl b => cases r; cases r2; exact EqAt.same _
  | int i =>
    obtain ⟨t, rfl⟩ := r
    obtain ⟨t2, rfl⟩ := r2
    have e := (MeetsSeq.EqGives.int i i t t2).at A s
    rw [beq_self_eq_true] at e
    exact e
  | str z =>
    obtain ⟨t, rfl⟩ := r
    obtain ⟨t2, rfl⟩ := r2
    have e := (SeqRoads2.EqGives.str z z t t2).at A s
    rw [beq_self_eq_true] at e
    exact e
  | ref a => cases r; cases r2; exact EqAt.same _
  | ty n => cases r; cases r2; exact EqAt.same _
  | flt _ => cases h
  | byt _ => cases h
def SmV (K : PySem.W.Frag) (H : Hp) (x y : V) : Prop := (x = y ∧ plainV x = true) ∨ ∃ a b vs, x = .ref a ∧ y = .ref b ∧ SqT K H a vs ∧ SqT K H b vs ∧ ∀ z ∈ vs, plainV z = true
theorem vals_at {xs : List V} {us : List Value} (r : Vals xs us) {j : Nat} (h : j < us.length) : ∃ x, xs[j]? = some x ∧ RelV x us[j] := by
  have hx : j < xs.length := by rw [r.length]; exact h
  refine ⟨xs[j], List.getElem?_eq_getElem hx, ?_⟩
  obtain ⟨u, e, q⟩ := r.get (List.getElem?_eq_getElem hx)
  rw [List.getElem?_eq_getElem h] at e
  cases e
  exact q
section
variable {X : Cx}
def rNeSm (K : PySem.W.Frag) : R2 := fun x y H Q => ∃ a b xs ys, x = .ref a ∧ y = .ref b ∧ SqL K H a xs ∧ SqL K H b ys ∧ Paired (SmV K H) xs ys ∧ Q (.bl false) H
theorem op_neSm (hu : X.A.units + 8 < cLine) : OpR X (compareOp .NotEq) (rNeSm X.K) := by
  intro pins s σ H x y v u Q I rx ry h
  obtain ⟨a, b, xs, ys, rfl, rfl, ha, hb, hp, q⟩ := h
  obtain rfl : v = Value.ref a := rx
  obtain rfl : u = Value.ref b := ry
  obtain ⟨its, r, pl, _⟩ := I.list ha
  obtain ⟨its2, r2, pl2, _⟩ := I.list hb
  have hu0 : X.A.units < cLine := by omega
  show wpAny (model X.prog X.w) X.A (richCompare .NotEq (.ref a) (.ref b)) (EP X pins σ Q) X.xe s
  have hsz : its.length = its2.length := by rw [← r.length, ← r2.length, hp.length]
  refine RcNeAt.lists (e := fun _ => true) pl.isList pl2.isList (by simpa using hsz) hu0 (fun j h1 h2 => ?_) _ _ _ _ ⟨.bl false, H, I, ?_, q⟩
  · have h1' : j < its.length := by simpa using h1
    have h2' : j < its2.length := by simpa using h2
    obtain ⟨x, ex, rx⟩ := vals_at r h1'
    obtain ⟨y, ey, ry⟩ := vals_at r2 h2'
    obtain ⟨y', ey', sm⟩ := LiI.paired_get hp ex
    rw [ey] at ey'
    cases ey'
    have g1 : its.toArray[j] = its[j] := by simp
    have g2 : its2.toArray[j] = its2[j] := by simp
    rw [g1, g2]
    rcases sm with ⟨rfl, pv⟩ | ⟨c, d, vs, rfl, rfl, hc, hd, hv⟩
    · exact eqat_self pv rx ry
    · have e1 : its[j] = Value.ref c := rx
      have e2 : its2[j] = Value.ref d := ry
      rw [e1, e2]
      by_cases hcd : c = d
      · rw [hcd]
        exact EqAt.same _
      · refine EqAt.of_refs hcd ?_
        obtain ⟨jt, r3, pl3, _⟩ := I.tuple hc
        obtain ⟨jt2, r4, pl4, _⟩ := I.tuple hd
        have hl : jt.length = jt2.length := by rw [← r3.length, ← r4.length]
        have rc := RcAt.tuples (A := X.A.in1) (e := fun _ => true) pl3 pl4 (by show X.A.units + 1 < cLine; omega) fun i i1 i2 => by
          have i1' : i < jt.length := by simpa using i1
          have i2' : i < jt2.length := by simpa using i2
          obtain ⟨z, ez, rz⟩ := vals_at r3 i1'
          obtain ⟨z2, ez2, rz2⟩ := vals_at r4 i2'
          rw [ez] at ez2
          cases ez2
          have g1 : jt.toArray[i] = jt[i] := by simp
          have g2 : jt2.toArray[i] = jt2[i] := by simp
          rw [g1, g2]
          exact eqat_self (hv z (List.mem_of_getElem? ez)) rz rz2
        have eb : ((List.range (min jt.toArray.size jt2.toArray.size)).all (fun _ => true) && jt.toArray.size == jt2.toArray.size) = true := by
          simp [hl]
        rw [eb] at rc
        exact rc
  · show Value.bool _ = Value.bool false
    simp
/-! ### repr of data, where no repr is under way -/
theorem call_reprD (hg : X.A.guards = some []) (hu : X.A.units + 80 < cLine) : CallR X (.builtin "repr") (fun xs H Q => ∃ (a : Addr) (d : PyData), xs = [.ref a] ∧ Dp X.K H (.ref a) d ∧ d.showable = true ∧ d.hasDict = false ∧ d.depth ≤ 64 ∧ d.shown.length ≤ sizeLine ∧ Q (.str d.shown) H) := by
  intro pins s σ H xs us Q I r h
  obtain ⟨a, d, rfl, hd, h1, h2, h3, h4, q⟩ := h
  obtain ⟨u, rfl, rx⟩ := vals1 r
  obtain rfl : u = Value.ref a := rx
  obtain ⟨as, rd⟩ := Dp.reads I d (.ref a) (.ref a) hd rfl
  refine repr_of_reads' rd h1 (fun z => by rw [h2] at z; cases z) hg (by omega) (fun _ _ e => e) (fun h' u tk hk => ?_) h4
  exact ⟨.str d.shown, H, I.kept (t' := tk) hk, ⟨u, rfl⟩, q⟩
end
end K3

namespace K3
open PySem L2 E0
section
variable {P : Program} {w : World} {K : PySem.W.Frag} {mg : Str → Option Value} {base : Heap}
structure TxtRd (P : Program) (w : World) (K : PySem.W.Frag) (mg : Str → Option Value) (base : Heap) (C : Cl5) (fS fB fZ fL fE : Addr) (fdS fdB fdZ fdE : FuncData) : Prop where
  T : TxtT mg C
  T5 : Ty5 K C
  N5 : Na5 K C
  GS : FnOk P w K mg base CX0 10 fS fdS ["_law_own"] (spSaid 10)
  AS : DefA K mg "_law_said" ["_law_own"] fS fdS
  GB : FnOk P w K mg base CX0 1 fB fdB ["_law_plant"] spBelow
  AB : DefA K mg "_law_below" ["_law_plant"] fB fdB
  GZ : FnOk P w K mg base CX0 11 fZ fdZ ["_law_plant"] (spSize 10)
  AZ : DefA K mg "_law_size" ["_law_plant"] fZ fdZ
  OL : OwnC K C.T "__len__" fL
  GL : FnR P w K mg base CX0 1 fL (spTreeLen C)
  ME : Meth K C.T "each_path" fE
  GE : GFn P w K mg base 2 fE fdE ["self"] (spEach C)
  BE : Binds K fdE ["self"] []
  gLi : mg "list" = none
def NRR : List Str := ["_law_plant", "_law_one", "_law_some", "_law_below_here", "_law_child", "_law_own"]
theorem scReadRight : FnScope NRR ["_law_plant", "_law_one", "_law_some"] (defScope sReadRight) := ⟨rfl, rfl, rfl, by decide +kernel, rfl, by decide +kernel, by decide +kernel⟩
def spReadRight (C : Cl5) : Sp := fun vs H Q _ => ∃ (N : Addr → Prop) (pl x L : Addr) (f : Str) (pvs xs : List V) (ts : List Tr), vs = [.ref pl, .ref x, .ref L] ∧ H pl = some (.tup (.str f :: pvs)) ∧ N pl ∧ PlsAt N H pvs ts ∧ PtAt C H (.ref x) (.nd false f ts) ∧ HasP H x xs ∧ H L = some (.lst xs) ∧
  nameS f = true ∧ PyData.strOk f = true ∧ gensT ts ∧ ts.length ≤ 9 ∧ sizes ts ≤ 399 ∧ levelss ts ≤ 99 ∧ wts ts ≤ 1000000 ∧ hts ts ≤ 8 ∧ ∀ H', Same H H' → Q (.bl true) H'
theorem ok_readRight {C : Cl5} {f fS fB fZ fL fE : Addr} {fd fdS fdB fdZ fdE : FuncData} (F : Fun K "_law_read_right" "_law_read_right" sReadRight f fd) (T : TxtRd P w K mg base C fS fB fZ fL fE fdS fdB fdZ fdE) :
    FnOk P w K mg base CX0 12 f fd ["_law_plant", "_law_one", "_law_some"] (spReadRight C) := by
  refine F.ok scReadRight (fun vs H Q E h => ?_) (fun cdv A outer s H vs Q E hr h => ?_)
  · obtain ⟨N, pl, x, L, f, pvs, xs, ts, rfl, _⟩ := h
    rfl
  · obtain ⟨N, pl, x, L, g, pvs, xs, ts, rfl, hpl, hNp, hp, hx, hP, hL, hn, ho, hg, hl, hs, hlv, hw, hh, k⟩ := h
    have hu : A.units + 3 + 64 < cLine := hr.units
    have hr10 : Room 10 _ := hr.mono (by decide)
    have hr5 : Room 5 _ := hr.mono (by decide)
    have hr2 : Room 2 _ := hr.mono (by decide)
    have hr1 : Room 1 _ := hr.mono (by decide)
    have mT : C.T ∈ C.all := C.n_mem false
    refine ⟨_, pss_cons (ps_if (pt_cmpR (op_neSm (by show A.units + 3 + 8 < cLine; omega)) (pe_lst (pa_cons (pe_fld (pv 1) rfl) (pa_cons (pe_fld (pv 1) rfl) (pa_cons (pe_callB call_isi (by rfl) T.T.isi PyProof.Rows.boot_isinstance (pa_cons (pe_fld (pv 1) rfl) (pa_cons (pe_bltn (v := .ty "tuple") rfl T.T.tup PyProof.Rows.boot_tuple rfl) pa_nil))) (pa_cons (pe_fld (pv 1) rfl) pa_nil)))))
          (pe_lst (pa_cons (pe_ix ix_tup (pv 0) pe_int (fun _ _ => rfl)) (pa_cons (pe_callTy call_tuple_of (by rfl) T.T.tup PyProof.Rows.boot_tuple (pa_cons (pv 2) pa_nil)) (pa_cons pe_bl (pa_cons (pe_call T.GS hr10 rfl T.AS.g T.AS.k T.AS.b .nil pass0 (pa_cons (pv 0) pa_nil)) pa_nil))))) (nomark _)) (pss_one (ps_ret pe_bl)) pss_nil)
      (pss_cons (ps_set (i := 3) scReadRight.nd rfl (Or.inl rfl) (pe_call T.GB hr1 rfl T.AB.g T.AB.k T.AB.b .nil pass0 (pa_cons (pv 0) pa_nil)))
      (pss_cons (ps_if (pt_not (pt_val (pe_callB call_isi (by rfl) T.T.isi PyProof.Rows.boot_isinstance (pa_cons (pe_fld (pv 1) rfl) (pa_cons (pe_bltn (v := .ty "tuple") rfl T.T.tup PyProof.Rows.boot_tuple rfl) pa_nil))))) (pss_one (ps_ret pe_bl)) pss_nil)
      (pss_cons (ps_if (pt_cmpR (op_neD hr.units)
          (pe_lc (own := [("_law_child", 4)]) (g := gName 4) (tt := tYes) (te := tFld K (tVar 4) "text") rfl scReadRight.nd (pi_tup (pe_fld (pv 1) rfl)) (blkOk_by (N := NRR) (sc := defScope sReadRight) (by decide +kernel)) (fun _ _ _ _ _ => pg_name (i := 4) scReadRight.nd rfl (Or.inl rfl)) (fun _ _ _ _ _ => pts_nil) (fun _ _ _ _ _ => pe_fld (pv 4) rfl))
          (pe_lc (own := [("_law_own", 5)]) (g := gName 5) (tt := tYes) (te := tCall (spSaid 10) [] E0 (tCons (tVar 5) tNil)) rfl scReadRight.nd (pi_list (pv 3)) (blkOk_by (N := NRR) (sc := defScope sReadRight) (by decide +kernel)) (fun _ _ _ _ _ => pg_name (i := 5) scReadRight.nd rfl (Or.inl rfl)) (fun _ _ _ _ _ => pts_nil) (fun _ _ _ _ _ => pe_call T.GS hr10 rfl T.AS.g T.AS.k T.AS.b .nil pass0 (pa_cons (pv 5) pa_nil))) (nomark _)) (pss_one (ps_ret pe_bl)) pss_nil)
      (pss_one (ps_ret (pe_and (pe_cmpR (op_eqD hr.units) (pe_tup (pa_cons (pe_callB (call_lenO (E := E0) T.OL T.GL hr2 pass0) (by rfl) T.T.len PySem.boot_len (pa_cons (pv 1) pa_nil)) (pa_cons (pe_fld (pv 1) rfl) pa_nil))) (pe_call T.GZ hr rfl T.AZ.g T.AZ.k T.AZ.b .nil pass0 (pa_cons (pv 0) pa_nil)) (nomark _))
          (pe_one (pe_cmpR op_eq (pe_callB call_len_seq (by rfl) T.T.len PySem.boot_len (pa_cons (pe_listG (E := E0) (pgen_meth0 (E := E0) (pv 1) (T.T5.own _ mT).cl T.ME T.GE hr2 T.BE .nil) passL (fun _ _ _ z => z.elim) hr5 rfl T.gLi (by decide +kernel)) pa_nil))
            (pe_callB (call_lenO (E := E0) T.OL T.GL hr2 pass0) (by rfl) T.T.len PySem.boot_len (pa_cons (pv 1) pa_nil)) (nomark _))))))))), ?_⟩
    obtain ⟨dx, fs, pa, e1, e2, e3, e4⟩ : ∃ dx fs pa, H x = some (.ins C.T dx fs) ∧ fs.lookup ("parts" : Str) = some (.ref pa) ∧ H pa = some (.tup xs) ∧ fs.lookup ("each_path" : Str) = none := by
      obtain ⟨A1, dx, fs, pa, h1, h2, h3, h4, _⟩ := hP
      obtain ⟨x2, dx2, fs2, pa2, xs2, i1, i2, _⟩ := hx
      cases i1
      rw [h1] at i2
      cases i2
      exact ⟨dx, fs, pa, h1, h2, h3, h4⟩
    obtain ⟨x2, dx2, fs2, pa2, xs2, i1, i2, i3, i4, i5, i6, i7, i8, i9, i10⟩ := id hx
    cases i1
    rw [e1] at i2
    cases i2
    rw [e2] at i4
    cases i4
    rw [e3] at i5
    cases i5
    obtain ⟨ca, cs, c1, c2, c3⟩ := i10 rfl
    have cl := (T.T5.own _ mT).cl
    have na : ∀ f ∈ ([("form" : Str), "parts", "children", "size", "levels", "text", "name"] : List Str), NoAttr K C.T f := T.N5.na _ mT
    have big : (1000000 : Nat) < sizeLine := by decide
    have GT : genT (.nd false g ts) := ⟨rfl, hn, hl, hg⟩
    have wT : wt (.nd false g ts) ≤ 16000000 := by show wts ts + 22 ≤ _; omega
    have fT := gen_fit GT wT
    have hP2 : PlAt N H (.ref pl) (.nd false g ts) := ⟨pl, pvs, rfl, hpl, hNp, hp⟩
    have sz : size (.nd false g ts) = 1 + sizes ts := by simp only [size]
    -- form, parts, isinstance, text
    refine ⟨_, rfl, x, C.T, dx, fs, _, rfl, e1, cl, na _ (by decide +kernel), i3, ?_⟩
    refine ⟨_, rfl, x, C.T, dx, fs, _, rfl, e1, cl, na _ (by decide +kernel), e2, ?_⟩
    refine ⟨_, rfl, x, C.T, dx, fs, _, rfl, e1, cl, na _ (by decide +kernel), e2, _, _, _, _, true, rfl, .ty "tuple", .base (.tup e3), kit_ty (r := true) (by decide +kernel), ?_⟩
    refine ⟨_, rfl, x, C.T, dx, fs, _, rfl, e1, cl, na _ (by decide +kernel), i9, ?_⟩
    refine ⟨by show 4 ≤ sizeLine; omega, fun l1 hl1 => ?_⟩
    have s1 : Same H (upd H l1 (.lst [.str g, .ref pa, .bl true, .str (g ++ "(" ++ Txt.join ", " (saids ts) ++ ")")])) := same_upd (Same.refl H) hl1
    have v1 : (upd H l1 (.lst [.str g, .ref pa, .bl true, .str (g ++ "(" ++ Txt.join ", " (saids ts) ++ ")")])) l1 = some (.lst [.str g, .ref pa, .bl true, .str (g ++ "(" ++ Txt.join ", " (saids ts) ++ ")")]) := upd_same
    generalize upd H l1 (.lst [.str g, .ref pa, .bl true, .str (g ++ "(" ++ Txt.join ", " (saids ts) ++ ")")]) = H1 at s1 v1 ⊢
    refine ⟨_, rfl, pl, _, _, _, rfl, rfl, SqT.of (s1 _ _ hpl), (atI_nat (j := 0) rfl : atI _ ((0 : Nat) : Int) = some (V.str g)), ?_⟩
    refine ⟨_, rfl, L, xs, rfl, .inl ⟨SqL.of (s1 _ _ hL), fun tp htp => ?_⟩⟩
    have s2 : Same H1 (upd H1 tp (.tup xs)) := same_upd (Same.refl H1) htp
    have v2 : (upd H1 tp (.tup xs)) tp = some (.tup xs) := upd_same
    generalize upd H1 tp (.tup xs) = H2 at s2 v2 ⊢
    have s02 := s1.trans s2
    refine ⟨_, rfl, N, .ref pl, .nd false g ts, rfl, PlAt.kp (KpN.same s02) _ hP2, by show hts ts + 1 < 10; omega, fT, fun H3 s3 => ?_⟩
    refine ⟨by show 4 ≤ sizeLine; omega, fun l2 hl2 => ?_⟩
    have s4 : Same H3 (upd H3 l2 (.lst [.str g, .ref tp, .bl true, .str (said (.nd false g ts))])) := same_upd (Same.refl H3) hl2
    have v4 : (upd H3 l2 (.lst [.str g, .ref tp, .bl true, .str (said (.nd false g ts))])) l2 = some (.lst [.str g, .ref tp, .bl true, .str (said (.nd false g ts))]) := upd_same
    generalize upd H3 l2 (.lst [.str g, .ref tp, .bl true, .str (said (.nd false g ts))]) = H4 at s4 v4 ⊢
    have s24 := s3.trans s4
    have s04 := s02.trans s24
    have pvx : ∀ {xs : List V} {ts : List Tr}, PtsAt C H xs ts → ∀ z ∈ xs, plainV z = true := fun {xs} => by
      induction xs with
      | nil => intro ts _ z hz; cases hz
      | cons a xs ih =>
        intro ts h z hz
        match ts, h with
        | t :: ts, h =>
          rcases List.mem_cons.mp hz with q | q
          · rw [q]
            match t, h.1 with
            | .tx s, h1 => rw [show a = V.str s from h1]; rfl
            | .row us, h1 => obtain ⟨b, _, h2, _⟩ := h1; rw [h2]; rfl
            | .vr k n, h1 => obtain ⟨b, _, _, h2, _⟩ := h1; rw [h2]; rfl
            | .nd lk f ps, h1 => obtain ⟨b, _, _, _, _, h2, _⟩ := h1; rw [h2]; rfl
          · exact ih h.2 z q
    refine ⟨l1, l2, _, _, rfl, rfl, SqL.of ((s2.trans s24) _ _ v1), SqL.of v4, ?_, _, rfl, ?_⟩
    · refine .cons (.inl ⟨rfl, rfl⟩) (.cons (.inr ⟨pa, tp, xs, rfl, rfl, SqT.of (s04 _ _ e3), SqT.of (s24 _ _ v2), pvx i6⟩) (.cons (.inl ⟨rfl, rfl⟩) (.cons (.inl ⟨?_, rfl⟩) .nil)))
      rw [said_nd]
    refine iteF ?_
    -- below
    have okp : ∀ p ∈ ts, okP p = true := fun p m => gen_okP (gens_mem hg m)
    obtain ⟨b1, b2, b3⟩ := below_ok okp
    obtain ⟨g1, g2⟩ := gens_below hg
    refine ⟨_, rfl, N, pl, g, pvs, ts, rfl, s04 _ _ hpl, PlsAt.kp (KpN.same s04) _ hp, okp, by omega, fun p m => (gen_row (gens_mem hg m)).1, fun H5 kl ks s5 nk hk pk => ?_⟩
    have s05 := s04.trans s5
    refine ⟨_, rfl, x, C.T, dx, fs, _, rfl, s05 _ _ e1, cl, na _ (by decide +kernel), c1, _, _, _, _, true, rfl, .ty "tuple", .base (.tup (s05 _ _ c2)), kit_ty (r := true) (by decide +kernel), _, rfl, ?_⟩
    refine iteF ?_
    -- the texts of the children
    have ck := kids_pts c3 i6
    have ckl := pts_len ck
    have pck := ptsAt_iff.mp ck
    have hB : (below ts).length ≤ 1000 := by
      have sz1 : ∀ ts : List Tr, (∀ t ∈ ts, isN t = true) → ts.length ≤ sizes ts := fun ts => by
        induction ts with
        | nil => intro _; exact Nat.le_refl _
        | cons a ts ih =>
          intro h
          have h1 := ih fun u m => h u (List.mem_cons_of_mem _ m)
          have h2 : 1 ≤ size a := by
            have := h a (List.mem_cons_self ..)
            match a, this with
            | .nd _ _ _, _ => simp only [size]; omega
            | .vr 0 _, _ => simp only [size]; omega
          show ts.length + 1 ≤ size a + sizes ts
          omega
      have := sz1 _ b3
      omega
    refine ⟨_, rfl, x, C.T, dx, fs, _, rfl, s05 _ _ e1, cl, na _ (by decide +kernel), c1, ca, rfl, ⟨_, SqT.of (s05 _ _ c2)⟩, fun D hD => lc_tup (K := K) (a := ca) (xs := cs) (fun i H' => Same H5 H' ∧ H' D = some (.lst (((saids (below ts)).take i).map V.str))) ⟨same_upd (Same.refl H5) hD, upd_same⟩ (fun i H' _ ⟨s', _⟩ => SqT.of (s' _ _ (s05 _ _ c2))) ?_ ?_⟩
    · rintro i y H6 hy ⟨s6, v6⟩
      obtain ⟨ti, et, hi⟩ := LiI.paired_get pck hy
      have il : i < cs.length := (List.getElem?_eq_some_iff.mp hy).1
      have tm := List.mem_of_getElem? et
      obtain ⟨z, Az, dz, gs, q1, q2, q3, q4⟩ := text_of (K := K) (PtAt.kpo (KpO.same (s05.trans s6)) ti hi) (isT_text (g2 ti tm))
      refine ⟨rfl, ?_⟩
      dsimp only [tYes]
      rw [if_pos rfl]
      refine ⟨_, rfl, z, Az, dz, gs, _, q1, q2, (T.T5.own _ q3).cl, T.N5.na _ q3 _ (by decide +kernel), q4, _, v6, ?_, same_upd s6 hD, ?_⟩
      · rw [List.length_map]
        exact Nat.lt_of_le_of_lt (List.length_take_le _ _) (by omega)
      · have es : (saids (below ts))[i]? = some (said ti) := by rw [saids_map, List.getElem?_map, et]; rfl
        rw [upd_same, List.take_add_one, es]
        simp
    rintro H6 ⟨s6, v6⟩
    rw [ckl, ← saids_len (below ts), List.take_length] at v6
    have s06 := s05.trans s6
    have kll := pls_len pk
    have pkk := plsAt_iff.mp pk
    refine ⟨_, rfl, kl, rfl, ⟨_, SqL.of (s6 _ _ hk)⟩, fun D2 hD2 => lc_list (K := K) (a := kl) (xs := ks) (fun i H' => Same H6 H' ∧ H' D2 = some (.lst (((saids (below ts)).take i).map V.str))) ⟨same_upd (Same.refl H6) hD2, upd_same⟩ (fun i H' _ ⟨s', _⟩ => SqL.of (s' _ _ (s6 _ _ hk))) ?_ ?_⟩
    · rintro i y H7 hy ⟨s7, v7⟩
      obtain ⟨ti, et, hi⟩ := LiI.paired_get pkk hy
      have il : i < ks.length := (List.getElem?_eq_some_iff.mp hy).1
      have tm := List.mem_of_getElem? et
      have hht := hts_below tm
      have hwb : wt ti ≤ 16000000 := by
        have go : ∀ {ps : List Tr} {t : Tr}, gensT ps → t ∈ below ps → wt t ≤ wts ps := fun {ps} => by
          induction ps with
          | nil => intro t _ m; cases m
          | cons p ps ih =>
            intro t hgp m
            show wt t ≤ wt p + 2 + wts ps
            match p, hgp, m with
            | .tx s, hgp, m =>
              have := ih hgp.2 (show t ∈ below ps from m)
              omega
            | .row us, hgp, m =>
              rcases List.mem_append.mp (show t ∈ us.filter isN ++ below ps from m) with q | q
              · have := wts_mem (List.mem_filter.mp q).1
                show wt t ≤ wts us + 2 + 2 + wts ps
                omega
              · have := ih hgp.2 q
                omega
            | .nd lk f qs, hgp, m =>
              rcases List.mem_cons.mp (show t ∈ [Tr.nd lk f qs] ++ below ps from m) with q | q
              · rw [q]; omega
              · have := ih hgp.2 q
                omega
            | .vr .., hgp, _ => exact False.elim hgp.1
        have := go hg tm
        omega
      refine ⟨rfl, ?_⟩
      dsimp only [tYes]
      rw [if_pos rfl]
      refine ⟨_, rfl, N, y, ti, rfl, PlAt.kp (KpN.same (s6.trans s7)) ti hi, by omega, gen_fit (gens_mem g1 tm) hwb, fun H8 s8 => ⟨_, s8 _ _ v7, ?_, same_upd (s7.trans s8) hD2, ?_⟩⟩
      · rw [List.length_map]
        exact Nat.lt_of_le_of_lt (List.length_take_le _ _) (by omega)
      · have es : (saids (below ts))[i]? = some (said ti) := by rw [saids_map, List.getElem?_map, et]; rfl
        rw [upd_same, List.take_add_one, es]
        simp
    rintro H7 ⟨s7, v7⟩
    rw [kll, ← saids_len (below ts), List.take_length] at v7
    have s07 := s06.trans s7
    have shO : SeqAt.shaped (.list ((saids (below ts)).map PyData.str)) = true := shStrs _ fun z hz => by
      rw [saids_map] at hz
      obtain ⟨u, hu, rfl⟩ := List.mem_map.mp hz
      exact said_ok (gens_mem g1 hu)
    refine ⟨_, _, .lst (SqL.of (s7 _ _ v6)) (dpStrs _), .lst (SqL.of v7) (dpStrs _), shO, shO, _, rfl, ?_⟩
    rw [SeqAt.eqv_refl _ (lay_of shO)]
    refine iteF ?_
    have hx7 := s07 _ _ e1
    have at7 := PtAt.kpo (KpO.same s07) _ hx
    have szb : size (.nd false g ts) < 2 ^ 40 := by rw [sz]; omega
    refine ⟨_, rfl, x, dx, fs, rfl, hx7, .ref x, _, rfl, at7, rfl, szb, fun H8 s8 => ⟨_, rfl, by omega, by omega, ?_⟩⟩
    have s08 := s07.trans s8
    refine ⟨_, rfl, x, C.T, dx, fs, _, rfl, s08 _ _ e1, cl, na _ (by decide +kernel), i8, ?_⟩
    refine ⟨by show 2 ≤ sizeLine; omega, fun t1 nt1 => ?_⟩
    have s9 : Same H8 (upd H8 t1 (.tup [.int ((size (.nd false g ts) : Nat) : Int), .int ((levelss ts + 1 : Nat) : Int)])) := same_upd (Same.refl H8) nt1
    have v9 : (upd H8 t1 (.tup [.int ((size (.nd false g ts) : Nat) : Int), .int ((levelss ts + 1 : Nat) : Int)])) t1 = some (.tup [.int ((size (.nd false g ts) : Nat) : Int), .int ((levelss ts + 1 : Nat) : Int)]) := upd_same
    generalize upd H8 t1 (.tup [.int ((size (.nd false g ts) : Nat) : Int), .int ((levelss ts + 1 : Nat) : Int)]) = H9 at s9 v9 ⊢
    have s09 := s08.trans s9
    refine ⟨_, rfl, N, pl, g, pvs, ts, rfl, s09 _ _ hpl, PlsAt.kp (KpN.same s09) _ hp, hg, hl, by omega, fun H10 t2 s10 nt2 v10 => ?_⟩
    have s010 := s09.trans s10
    have eD : (1 + sizes ts) = size (.nd false g ts) := sz.symm
    rw [eD] at v10
    have shD : SeqAt.shaped (.tuple [.int ((size (.nd false g ts) : Nat) : Int), .int ((levelss ts + 1 : Nat) : Int)]) = true := rfl
    refine ⟨_, _, .tup (SqT.of (s10 _ _ v9)) (.cons (.int _) (.cons (.int _) .nil)), .tup (SqT.of v10) (.cons (.int _) (.cons (.int _) .nil)), shD, shD, _, rfl, ?_⟩
    rw [SeqAt.eqv_refl _ (lay_of shD)]
    refine iteT ?_
    refine ⟨_, rfl, x, dx, fs, rfl, s010 _ _ e1, e4, .ref x, _, rfl, PtAt.kpo (KpO.same s010) _ hx, GT, rfl, by rw [sz]; omega, (by simp only [levels]; omega), (fun p hp => by rw [List.mem_singleton.mp hp]; exact Nat.zero_le _), fun H11 ys s11 hys q nq => ?_⟩
    have s12 : Same H11 (upd H11 q (.lst ys)) := same_upd (Same.refl H11) nq
    have v12 : (upd H11 q (.lst ys)) q = some (.lst ys) := upd_same
    generalize upd H11 q (.lst ys) = H12 at s12 v12 ⊢
    have s012 := s010.trans (s11.trans s12)
    refine ⟨q, ys, rfl, .inl (SqL.of v12), ?_⟩
    refine ⟨_, rfl, x, dx, fs, rfl, s012 _ _ e1, .ref x, _, rfl, PtAt.kpo (KpO.same s012) _ hx, rfl, szb, fun H13 s13 => ⟨_, rfl, by omega, by omega, rfl, ?_⟩⟩
    rw [hys]
    have q2 := k H13 (s012.trans s13)
    have e : decide (V.int ((size (.nd false g ts) : Nat) : Int) = V.int ((size (.nd false g ts) : Nat) : Int)) = true := decide_eq_true rfl
    rw [← e] at q2
    exact q2
end
end K3

namespace K3
open PySem L2 E0
open LamX (ExtN Tabs TabS TabB LamS lamS_by lamSB)
/-! ### odd values stand -/
/-- its own object stands under KpN, KpO -/
def Stands (N : Addr → Prop) (H : Hp) (v : V) : Prop := ∀ a, v = .ref a → ∃ o, H a = some o ∧ (tiO o = true ∨ (N a ∧ ∀ ps, o ≠ .tbl ps))
theorem Stands.get {N : Addr → Prop} {H H' : Hp} {v : V} (kN : KpN N H H') (kO : KpO H H') (h : Stands N H v) {a : Addr} {o : HO} (e : v = .ref a) (q : H a = some o) : H' a = some o := by
  obtain ⟨o', q', h⟩ := h a e
  rw [q] at q'
  cases q'
  rcases h with h | ⟨h1, h2⟩
  · exact kO a o h q
  · exact kN a o h1 q h2
theorem Stands.kp {N : Addr → Prop} {H H' : Hp} {v : V} (kN : KpN N H H') (kO : KpO H H') (h : Stands N H v) : Stands N H' v := fun a e => by
  obtain ⟨o, q, z⟩ := h a e
  exact ⟨o, h.get kN kO e q, z⟩
structure BadN (K : PySem.W.Frag) (N : Addr → Prop) (C : Cl5) (H : Hp) (v : V) : Prop where
  bad : BadT K C H v
  st : Stands N H v
  its : ∀ a xs, v = .ref a → H a = some (.tup xs) → ∀ x ∈ xs, Stands N H x
theorem BadN.kp {K : PySem.W.Frag} {N : Addr → Prop} {C : Cl5} {H H' : Hp} {v : V} (kN : KpN N H H') (kO : KpO H H') (h : BadN K N C H v) : BadN K N C H' v := by
  refine ⟨?_, h.st.kp kN kO, fun a xs e q x hx => ?_⟩
  · rcases h.bad with z | ⟨a, xs, bs, e, ha, hl, hp, hb⟩ | ⟨t, ht, q⟩
    · exact .inl z
    · have its := h.its a xs e ha
      refine .inr (.inl ⟨a, xs, bs, e, kO _ _ rfl ha, hl, ?_, hb⟩)
      have go : ∀ {xs : List V} {bs : List Bool}, (∀ x ∈ xs, Stands N H x) → Paired (fun x b => ∃ t, TyX K H x t ∧ PySem.W.kitOne K t (.ref C.T) = some b ∧ ∀ a, x = .ref a → ∃ o, H a = some o) xs bs → Paired (fun x b => ∃ t, TyX K H' x t ∧ PySem.W.kitOne K t (.ref C.T) = some b ∧ ∀ a, x = .ref a → ∃ o, H' a = some o) xs bs := fun {xs} => by
        induction xs with
        | nil => intro bs _ p; cases p; exact .nil
        | cons x xs ih =>
          intro bs hs p
          cases p with
          | cons p1 p2 =>
            obtain ⟨t, h1, h2, h3⟩ := p1
            have sx := hs x (List.mem_cons_self ..)
            exact .cons ⟨t, TyX.keep h1 fun a o e q => sx.get kN kO e q, h2, fun a e => let ⟨o, q⟩ := h3 a e; ⟨o, sx.get kN kO e q⟩⟩ (ih (fun y hy => hs y (List.mem_cons_of_mem _ hy)) p2)
      exact go its hp
    · exact .inr (.inr ⟨t, TyX.keep ht fun a o e q => h.st.get kN kO e q, q⟩)
  · obtain ⟨o, q1, _⟩ := h.st a e
    have q2 := h.st.get kN kO e q1
    rw [q] at q2
    cases q2
    exact (h.its a xs e q1 x hx).kp kN kO
theorem stands_val {N : Addr → Prop} {H : Hp} {v : V} (h : ∀ a, v ≠ .ref a) : Stands N H v := fun a e => absurd e (h a)
theorem stands_ti {N : Addr → Prop} {H : Hp} {a : Addr} {o : HO} (h : tiO o = true) (e : H a = some o) : Stands N H (.ref a) := fun b q => by
  cases q
  exact ⟨o, e, .inl h⟩
theorem stands_N {N : Addr → Prop} {H : Hp} {a : Addr} {o : HO} (h : N a) (n : ∀ ps, o ≠ .tbl ps) (e : H a = some o) : Stands N H (.ref a) := fun b q => by
  cases q
  exact ⟨o, e, .inr ⟨h, n⟩⟩
theorem stands_pt {N : Addr → Prop} {C : Cl5} {H : Hp} : ∀ {v : V} {t : Tr}, PtAt C H v t → Stands N H v
  | _, .tx s, h => by
    rw [show _ = V.str s from h]
    exact stands_val fun _ => nofun
  | _, .row ts, h => by
    obtain ⟨a, xs, h1, h2, _⟩ := h
    rw [h1]
    exact stands_ti rfl h2
  | _, .vr k n, h => by
    obtain ⟨x, dx, fs, h1, h2, _⟩ := h
    rw [h1]
    exact stands_ti rfl h2
  | _, .nd lk f ps, h => by
    obtain ⟨x, dx, fs, pa, xs, h1, h2, _⟩ := h
    rw [h1]
    exact stands_ti rfl h2
/-! the kinds of odd values -/
section
variable {K : PySem.W.Frag} {N : Addr → Prop} {C : Cl5} {H : Hp}
/-- what the types of other things say against Tree -/
structure NoT (K : PySem.W.Frag) (C : Cl5) : Prop where
  non : PySem.W.kitOne K (.type "NoneType") (.ref C.T) = some false
  bl : PySem.W.kitOne K (.type "bool") (.ref C.T) = some false
  int : PySem.W.kitOne K (.type "int") (.ref C.T) = some false
  lst : PySem.W.kitOne K (.type "list") (.ref C.T) = some false
  dK : PySem.W.kitOne K (.type "dict") (.ref C.T) = some false
  tup : PySem.W.kitOne K (.type "tuple") (.ref C.T) = some false
theorem bad_non (n : NoT K C) : BadN K N C H .non := ⟨.inr (.inr ⟨_, .base .non, kit_ty (by decide +kernel), kit_ty (by decide +kernel), n.non⟩), stands_val fun _ => nofun, fun _ _ e => nomatch e⟩
theorem bad_bl (n : NoT K C) {b : Bool} : BadN K N C H (.bl b) := ⟨.inr (.inr ⟨_, .base (.bl b), kit_ty (by decide +kernel), kit_ty (by decide +kernel), n.bl⟩), stands_val fun _ => nofun, fun _ _ e => nomatch e⟩
theorem bad_int (n : NoT K C) {i : Int} : BadN K N C H (.int i) := ⟨.inr (.inr ⟨_, .base (.int i), kit_ty (by decide +kernel), kit_ty (by decide +kernel), n.int⟩), stands_val fun _ => nofun, fun _ _ e => nomatch e⟩
theorem bad_str {s : Str} (h : 60 < s.length) (h2 : s.length ≤ 1000) : BadN K N C H (.str s) := ⟨.inl ⟨s, rfl, h, h2⟩, stands_val fun _ => nofun, fun _ _ e => nomatch e⟩
theorem bad_lst (n : NoT K C) {a : Addr} {xs : List V} (ha : H a = some (.lst xs)) (hN : N a) : BadN K N C H (.ref a) :=
  ⟨.inr (.inr ⟨_, .base (.lst ha), kit_ty (by decide +kernel), kit_ty (by decide +kernel), n.lst⟩), stands_N (o := .lst xs) hN (fun _ => nofun) ha, fun b ys e q => by cases e; rw [ha] at q; cases q⟩
theorem bad_dK (n : NoT K C) {a : Addr} {kvs : List (Key × V)} (ha : H a = some (.dK kvs)) (hN : N a) : BadN K N C H (.ref a) :=
  ⟨.inr (.inr ⟨_, .base (.dK ha), kit_ty (by decide +kernel), kit_ty (by decide +kernel), n.dK⟩), stands_N (o := .dK kvs) hN (fun _ => nofun) ha, fun b ys e q => by cases e; rw [ha] at q; cases q⟩
/-- a part, and whether it is a tree -/
theorem ty_pt (T5 : Ty5 K C) {v : V} {t : Tr} (h : PtAt C H v t) : ∃ ty, TyX K H v ty ∧ PySem.W.kitOne K ty (.ref C.T) = some (isT t) ∧ ∀ a, v = .ref a → ∃ o, H a = some o :=
  ⟨_, PtAt.ty T5 h, kit_T T5 t, fun a e => let ⟨o, q, _⟩ := stands_pt (N := fun _ => False) h a e; ⟨o, q⟩⟩
theorem bad_tup (T5 : Ty5 K C) {a : Addr} {xs : List V} {ts : List Tr} (ha : H a = some (.tup xs)) (hp : PtsAt C H xs ts) (hl : ts.length ≤ 1000) (hb : (ts.map isT).all id = false) : BadN K N C H (.ref a) := by
  have xl := pts_len hp
  refine ⟨.inr (.inl ⟨a, xs, ts.map isT, rfl, ha, by omega, ?_, hb⟩), stands_ti rfl ha, fun b ys e q x hx => ?_⟩
  · have go : ∀ {xs : List V} {ts : List Tr}, PtsAt C H xs ts → Paired (fun x b => ∃ t, TyX K H x t ∧ PySem.W.kitOne K t (.ref C.T) = some b ∧ ∀ a, x = .ref a → ∃ o, H a = some o) xs (ts.map isT) := fun {xs} => by
      induction xs with
      | nil =>
        intro ts h
        match ts, h with
        | [], _ => exact .nil
      | cons x xs ih =>
        intro ts h
        match ts, h with
        | t :: ts, h => exact .cons (ty_pt T5 h.1) (ih h.2)
    exact go hp
  · cases e
    rw [ha] at q
    cases q
    have go : ∀ {xs : List V} {ts : List Tr}, PtsAt C H xs ts → ∀ x ∈ xs, Stands N H x := fun {xs} => by
      induction xs with
      | nil => intro ts _ x hx; cases hx
      | cons y xs ih =>
        intro ts h x hx
        match ts, h with
        | t :: ts, h =>
          rcases List.mem_cons.mp hx with q | q
          · rw [q]; exact stands_pt h.1
          · exact ih h.2 x q
    exact go hp x hx
theorem bad_pt (T5 : Ty5 K C) {v : V} {t : Tr} (h : PtAt C H v t) (h1 : isTx t = false) (h2 : isRow t = false) (h3 : isT t = false) : BadN K N C H v := by
  refine ⟨.inr (.inr ⟨_, PtAt.ty T5 h, by rw [kit_str T5 t, h1], by rw [kit_tup T5 t, h2], by rw [kit_T T5 t, h3]⟩), stands_pt h, fun a xs e q x hx => ?_⟩
  exfalso
  match t, h, h1, h2 with
  | .vr k n, h, _, _ =>
    obtain ⟨y, dx, fs, e1, e2, _⟩ := h
    rw [e] at e1
    cases e1
    rw [q] at e2
    cases e2
  | .nd lk f ps, h, _, _ =>
    obtain ⟨y, dx, fs, pa, ys, e1, e2, _⟩ := h
    rw [e] at e1
    cases e1
    rw [q] at e2
    cases e2
end
/-! ### drawing a piece of one of three depths -/
theorem fn_ex {I : Type} [Inhabited I] {P : Program} {w : World} {K : PySem.W.Frag} {mg : Str → Option Value} {base : Heap} {CX : CXT} {k : Nat} {f : Addr} {fd : FuncData} {ps : List Str} {sp : I → Sp} (F : ∀ i, FnOk P w K mg base CX k f fd ps (sp i)) :
    FnOk P w K mg base CX k f fd ps (fun vs H Q E => ∃ i, sp i vs H Q E) :=
  ⟨fun vs H Q E ⟨i, h⟩ => (F i).len vs H Q E h, fun A outer s H args us vs Q E hr e0 hb r ⟨i, h⟩ => (F i).run A outer s H args us vs Q E hr e0 hb r h⟩
def spPieceR (C : Cl5) : Sp := fun vs H Q E => ∃ j : Fin 3, spPiece C (1 + j.val) vs H Q E
/-! ### what is told of a tree that is asked for -/
def ToldT (n : V) (pis : List PI) (H : Hp) (p : Addr) : Prop := match treeDue n pis with
  | some u => H p = some (.tup [.str "wrong", u])
  | none => H p = some (.tup [])
theorem fault_tree {K : PySem.W.Frag} {C : Cl5} {CI : Addr} {n : V} {xs : List V} {pis : List PI} {H : Hp} {Q : VK} {tl : XK → Hp → VK → Prop} (ht : ∀ H1 E' Q', Same H H1 → TreeRes C CI n xs pis E' H1 Q' → tl E' H1 Q')
    (k : ∀ H' p, Same H H' → H p = none → ToldT n pis H' p → Q (.ref p) H') : TFault CI tl H Q := by
  intro E' Q' hE hQ
  refine ht H E' Q' (Same.refl H) ?_
  unfold TreeRes
  unfold ToldT at k
  cases e : treeDue n pis with
  | some u =>
    rw [e] at k
    exact fun H' dd s nd hd => hE dd u H' hd fun H'' p s' np hp => k H'' p (s.trans s') (s.free np) hp
  | none =>
    rw [e] at k
    exact fun H' x z ez s nx at_ hp => hQ (.ref x) H' fun H'' p s' np hp => k H'' p (s.trans s') (s.free np) hp
theorem due_form {n : V} {pis : List PI} (h : nameV n = false) : treeDue n pis = some (.str "form") := by
  unfold treeDue
  rw [if_pos h]
theorem due_bad {n : V} {pis : List PI} {i : Nat} (h : nameV n = true) (hb : firstBad 0 pis = some i) : treeDue n pis = some (.int ((i : Nat) : Int)) := by
  unfold treeDue
  rw [if_neg (by rw [h]; exact Bool.noConfusion), hb]
theorem due_size {n : V} {pis : List PI} (h : nameV n = true) (hb : firstBad 0 pis = none) (h2 : levelss (partsOf pis) + 1 ≤ 100) : treeDue n pis = if 400 < 1 + sizes (partsOf pis) then some (.str "size") else none := by
  unfold treeDue
  rw [if_neg (by rw [h]; exact Bool.noConfusion), hb]
  show (if _ then _ else _) = _
  by_cases q : 400 < 1 + sizes (partsOf pis)
  · rw [if_pos (.inl q), if_pos q]
  · rw [if_neg (by omega), if_neg q]
end K3

namespace K3
open PySem L2 E0
open LamX (ExtN Tabs TabS TabB LamS lamS_by lamSB)
/-! ### what stands while two lists of the def's own change -/
def RR (m lg S W : Addr) (H H' : Hp) : Prop := ∀ b o, b ≠ m → b ≠ lg → b ≠ S → b ≠ W → H b = some o → H' b = some o
theorem RR.trans {m lg S W : Addr} {H H1 H2 : Hp} (a : RR m lg S W H H1) (b : RR m lg S W H1 H2) : RR m lg S W H H2 := fun c o h1 h2 h3 h4 e => b c o h1 h2 h3 h4 (a c o h1 h2 h3 h4 e)
theorem RR.same {m lg S W : Addr} {H H' : Hp} (e : Same H H') : RR m lg S W H H' := fun b o _ _ _ _ q => e b o q
theorem RR.dd {m lg S W : Addr} {H H' : Hp} (e : DD m lg H H') : RR m lg S W H H' := fun b o h1 h2 _ _ q => e b o h1 h2 q
theorem RR.s {m lg S W : Addr} {H : Hp} {u : HO} : RR m lg S W H (upd H S u) := fun b o _ _ h _ q => by rw [upd_ne h]; exact q
theorem RR.w {m lg S W : Addr} {H : Hp} {u : HO} : RR m lg S W H (upd H W u) := fun b o _ _ _ h q => by rw [upd_ne h]; exact q
theorem FD.rr {m lg S W : Addr} {H H1 H2 : Hp} (a : FD m lg H H1) (b : RR m lg S W H1 H2) (nS : H S = none) (nW : H W = none) : FD m lg H H2 := fun c o h1 h2 e n =>
  b c o h1 h2 (fun z => by rw [z, nS] at e; cases e) (fun z => by rw [z, nW] at e; cases e) (a c o h1 h2 e n)
theorem RR.kpN {m lg S W : Addr} {N : Addr → Prop} {H H' : Hp} (z : ∀ b, N b → b ≠ m ∧ b ≠ lg ∧ b ≠ S ∧ b ≠ W) (e : RR m lg S W H H') : KpN N H H' := fun b o n q _ => let y := z b n; e b o y.1 y.2.1 y.2.2.1 y.2.2.2 q
theorem RR.kpo {m lc lg S W : Addr} {n : Int} {H H' : Hp} {xs ys : List V} (e : RR m lg S W H H') (M : MA m lc lg n H) (hS : H S = some (.lst xs)) (hW : H W = some (.lst ys)) : KpO H H' := fun b o h q => by
  have z := M.noti h q
  refine e b o z.1 z.2 (fun y => ?_) (fun y => ?_) q
  · rw [y, hS] at q; cases q; cases h
  · rw [y, hW] at q; cases q; cases h
theorem RR.tabs {T : List (Addr × Str)} {m lc lg S W : Addr} {n : Int} {H H' : Hp} {xs ys : List V} (t : Tabs T H) (e : RR m lg S W H H') (M : MA m lc lg n H) (hS : H S = some (.lst xs)) (hW : H W = some (.lst ys)) : Tabs T H' := fun p hp => by
  have go : ∀ b o, H b = some o → (∀ xs, o ≠ .lst xs) → (∀ kvs, o ≠ .dK kvs) → H' b = some o := fun b o q n1 n2 => by
    obtain ⟨hm, _, _, ⟨gs, hg, _⟩, _⟩ := M
    exact e b o (fun z => (by rw [z, hm] at q; exact n2 _ (Option.some.inj q).symm)) (fun z => (by rw [z, hg] at q; exact n1 _ (Option.some.inj q).symm)) (fun z => (by rw [z, hS] at q; exact n1 _ (Option.some.inj q).symm)) (fun z => (by rw [z, hW] at q; exact n1 _ (Option.some.inj q).symm)) q
  obtain ⟨ps, a, b, c⟩ := t p hp
  refine ⟨ps, go _ _ a (fun _ => nofun) (fun _ => nofun), b, fun pos cv hcv => ?_⟩
  obtain ⟨c0, e1, e2⟩ := c pos cv hcv
  refine ⟨c0, e1, go _ _ e2 (fun xs q => ?_) (fun kvs q => ?_)⟩
  · unfold LamX.CodeO at q
    cases q
  · unfold LamX.CodeO at q
    cases q
theorem MA.offL {m lc lg D : Addr} {n : Int} {H : Hp} {o : HO} (M : MA m lc lg n H) (a : D ≠ m) (b : D ≠ lg) (c : D ≠ lc) : MA m lc lg n (upd H D o) := by
  obtain ⟨hm, ne, ⟨cs, hc, c1, c2⟩, ⟨gs, hg, g1⟩, n0⟩ := M
  exact ⟨by rw [upd_ne a.symm]; exact hm, ne, ⟨cs, by rw [upd_ne c.symm]; exact hc, c1, c2⟩, ⟨gs, by rw [upd_ne b.symm]; exact hg, g1⟩, n0⟩
theorem MA.nl {m lc lg : Addr} {n : Int} {H : Hp} (M : MA m lc lg n H) {p : Addr} (h : H p = none) : p ≠ m ∧ p ≠ lg ∧ p ≠ lc := by
  have z := M.nm h
  obtain ⟨_, _, ⟨cs, hc, _⟩, _⟩ := M
  exact ⟨z.1, z.2, fun y => by rw [y, hc] at h; cases h⟩
mutual
theorem PlAt.mono2 {N N' : Addr → Prop} {H : Hp} (e : ∀ b o, N b → H b = some o → N' b) : ∀ {v : V} (t : Tr), PlAt N H v t → PlAt N' H v t
  | _, .tx _, h => h
  | _, .row ts, h => by
    obtain ⟨l, xs, h1, h2, h3, h4⟩ := h
    exact ⟨l, xs, h1, h2, e _ _ h3 h2, PlsAt.mono2 e ts h4⟩
  | _, .nd _ f ps, h => by
    obtain ⟨l, xs, h1, h2, h3, h4⟩ := h
    exact ⟨l, xs, h1, h2, e _ _ h3 h2, PlsAt.mono2 e ps h4⟩
  | _, .vr _ _, h => False.elim h
theorem PlsAt.mono2 {N N' : Addr → Prop} {H : Hp} (e : ∀ b o, N b → H b = some o → N' b) : ∀ {xs : List V} (ts : List Tr), PlsAt N H xs ts → PlsAt N' H xs ts
  | [], [], h => h
  | x :: xs, t :: ts, h => ⟨PlAt.mono2 e t h.1, PlsAt.mono2 e ts h.2⟩
  | [], _ :: _, h => False.elim h
  | _ :: _, [], h => False.elim h
end
theorem Stands.mono2 {N N' : Addr → Prop} {H : Hp} {v : V} (e : ∀ b o, N b → H b = some o → N' b) (h : Stands N H v) : Stands N' H v := fun a q => by
  obtain ⟨o, h1, h2⟩ := h a q
  exact ⟨o, h1, h2.elim .inl fun ⟨y, z⟩ => .inr ⟨e a o y h1, z⟩⟩
theorem BadN.mono2 {K : PySem.W.Frag} {N N' : Addr → Prop} {C : Cl5} {H : Hp} {v : V} (e : ∀ b o, N b → H b = some o → N' b) (h : BadN K N C H v) : BadN K N' C H v := ⟨h.bad, h.st.mono2 e, fun a xs q z x hx => (h.its a xs q z x hx).mono2 e⟩
theorem BadN.same {K : PySem.W.Frag} {N : Addr → Prop} {C : Cl5} {H H' : Hp} {v : V} (s : Same H H') (h : BadN K N C H v) : BadN K N C H' v := h.kp (KpN.same s) (KpO.same s)
/-- a value among what is asked for, in a form that stands -/
def PIN (K : PySem.W.Frag) (N : Addr → Prop) (C : Cl5) (H : Hp) (v : V) : PI → Prop
  | .good t => PtAt C H v t ∧ okP t = true ∧ rowB t ≤ 1000 ∧ okTx t
  | .bad => BadN K N C H v
theorem PIN.kp {K : PySem.W.Frag} {N : Addr → Prop} {C : Cl5} {H H' : Hp} {v : V} (kN : KpN N H H') (kO : KpO H H') : ∀ {i : PI}, PIN K N C H v i → PIN K N C H' v i
  | .good t, h => ⟨PtAt.kpo kO t h.1, h.2⟩
  | .bad, h => BadN.kp kN kO h
theorem PIN.at {K : PySem.W.Frag} {N : Addr → Prop} {C : Cl5} {H : Hp} {v : V} : ∀ {i : PI}, PIN K N C H v i → PIAt K C H v i
  | .good _, h => h
  | .bad, h => h.bad
/-- the pairs that were drawn, the odd values, and what is known of them -/
structure StT (K : PySem.W.Frag) (N : Addr → Prop) (C : Cl5) (P O : Addr) (as : List Addr) (ps vs : List V) (ts : List Tr) (ovs : List V) (H : Hp) : Prop where
  hP : H P = some (.lst (as.map V.ref))
  prs : ∀ (i : Nat) (a : Addr), as[i]? = some a → ∃ p v, ps[i]? = some p ∧ vs[i]? = some v ∧ H a = some (.tup [p, v])
  pl : PlsAt N H ps ts
  pt : PtsAt C H vs ts
  hO : H O = some (.lst ovs)
  bad : ∀ v ∈ ovs, BadN K N C H v
theorem StT.rr {K : PySem.W.Frag} {N : Addr → Prop} {C : Cl5} {P O m lg S W : Addr} {as : List Addr} {ps vs ovs : List V} {ts : List Tr} {H H' : Hp} (s : StT K N C P O as ps vs ts ovs H) (r : RR m lg S W H H') (kN : KpN N H H') (kO : KpO H H')
    (nP : P ≠ m ∧ P ≠ lg ∧ P ≠ S ∧ P ≠ W) (nO : O ≠ m ∧ O ≠ lg ∧ O ≠ S ∧ O ≠ W) : StT K N C P O as ps vs ts ovs H' :=
  ⟨r _ _ nP.1 nP.2.1 nP.2.2.1 nP.2.2.2 s.hP, fun i a e => let ⟨p, v, h1, h2, h3⟩ := s.prs i a e; ⟨p, v, h1, h2, kO _ _ rfl h3⟩, PlsAt.kp kN _ s.pl, PtsAt.kpo kO _ s.pt, r _ _ nO.1 nO.2.1 nO.2.2.1 nO.2.2.2 s.hO, fun v hv => (s.bad v hv).kp kN kO⟩
/-! ### what is due -/
inductive DK where
  | ok | form | size | at (i : Nat)
def DK.opt : DK → Option V
  | .ok => none
  | .form => some (.str "form")
  | .size => some (.str "size")
  | .at i => some (.int ((i : Nat) : Int))
def DK.val : DK → List V
  | .ok => []
  | .form => [.str "wrong", .str "form"]
  | .size => [.str "wrong", .str "size"]
  | .at i => [.str "wrong", .int ((i : Nat) : Int)]
def DK.dat : DK → List PyData
  | .ok => []
  | .form => [.str "wrong", .str "form"]
  | .size => [.str "wrong", .str "size"]
  | .at i => [.str "wrong", .int ((i : Nat) : Int)]
def DK.isOk : DK → Bool
  | .ok => true
  | _ => false
theorem DK.dp {K : PySem.W.Frag} {H : Hp} {p : Addr} {k : DK} (h : H p = some (.tup k.val)) : Dp K H (.ref p) (.tuple k.dat) := by
  cases k with
  | ok => exact .tup (SqT.of h) .nil
  | form => exact .tup (SqT.of h) (.cons (.str _) (.cons (.str _) .nil))
  | size => exact .tup (SqT.of h) (.cons (.str _) (.cons (.str _) .nil))
  | «at» i => exact .tup (SqT.of h) (.cons (.str _) (.cons (.int _) .nil))
theorem DK.sh (k : DK) : SeqAt.shaped (.tuple k.dat) = true := by
  cases k with
  | ok => decide +kernel
  | form => decide +kernel
  | size => decide +kernel
  | «at» i =>
    have h : PyData.strOk "wrong" = true := by decide +kernel
    simp [DK.dat, SeqAt.shaped, PyData.canLay0, PyData.canLayAll0, PyData.depth, PyData.depthAll, h]
theorem DK.eqv (k : DK) : PyData.eqv (.tuple k.dat) (.tuple []) = k.isOk := by
  cases k <;> rfl
theorem DK.val_ok {k : DK} (h : k.isOk = true) : k = .ok := by
  cases k <;> first | rfl | cases h
theorem toldT_val {n : V} {pis : List PI} {H : Hp} {p : Addr} {k : DK} (e : treeDue n pis = k.opt) (h : ToldT n pis H p) : H p = some (.tup k.val) := by
  unfold ToldT at h
  rw [e] at h
  cases k <;> exact h
theorem firstBad_snoc : ∀ (l : List PI) (n : Nat) (p : PI), firstBad n (l ++ [p]) = match firstBad n l with
    | some k => some k
    | none => (match p with | .bad => some (n + l.length) | .good _ => none)
  | [], n, .bad => rfl
  | [], n, .good _ => rfl
  | .bad :: l, n, p => rfl
  | .good t :: l, n, p => by
    have h := firstBad_snoc l (n + 1) p
    show firstBad (n + 1) (l ++ [p]) = _
    rw [h]
    show _ = match firstBad (n + 1) l with | some k => some k | none => _
    cases firstBad (n + 1) l with
    | some k => rfl
    | none =>
      cases p with
      | good _ => rfl
      | bad => show some (n + 1 + l.length) = some (n + (l.length + 1)); congr 1; omega
theorem firstBad_no : ∀ {l : List PI} {n : Nat}, firstBad n l = none → ∀ i : Nat, l[i]? ≠ some .bad
  | [], _, _, i, h => by simp at h
  | .bad :: l, _, h, _, _ => nomatch h
  | .good t :: l, n, h, 0, h2 => by simp at h2
  | .good t :: l, n, h, i + 1, h2 => firstBad_no (l := l) (n := n + 1) h i h2
def lawK (nm : Bool) (pis : List PI) : DK := if nm = false then .form else match firstBad 0 pis with
  | some j => .at j
  | none => .ok
def PI.isB : PI → Bool
  | .bad => true
  | .good _ => false
theorem PI.isB_iff {p : PI} : p.isB = true ↔ p = .bad := by cases p <;> simp [PI.isB]
theorem lawK_step {nm : Bool} {pis : List PI} {p : PI} {i : Nat} (hi : pis.length = i) : lawK nm (pis ++ [p]) = if ((lawK nm pis).isOk && p.isB) = true then .at i else lawK nm pis := by
  unfold lawK
  cases nm with
  | false => rfl
  | true =>
    rw [firstBad_snoc]
    cases firstBad 0 pis with
    | some k => rfl
    | none =>
      cases p with
      | good t => rfl
      | bad => simp [DK.isOk, PI.isB, hi]
/-- which spots were made wrong -/
structure WR (vs : List V) (ts : List Tr) (xs : List V) (pis : List PI) (ws : List Nat) : Prop where
  lv : vs.length = ts.length
  lx : xs.length = ts.length
  lp : pis.length = ts.length
  bad : ∀ i ∈ ws, pis[i]? = some .bad ∧ i < ts.length
  good : ∀ i, i ∉ ws → pis[i]? = (ts[i]?).map PI.good ∧ xs[i]? = vs[i]?
theorem WR.start {vs : List V} {ts : List Tr} (h : vs.length = ts.length) : WR vs ts vs (ts.map PI.good) [] := ⟨h, h, by rw [List.length_map], fun i hi => (nomatch hi), fun i _ => ⟨by rw [List.getElem?_map], rfl⟩⟩
theorem WR.step {vs : List V} {ts : List Tr} {xs : List V} {pis : List PI} {ws : List Nat} (w : WR vs ts xs pis ws) {j : Nat} (hj : j < ts.length) (v : V) : WR vs ts (xs.set j v) (pis.set j .bad) (ws ++ [j]) := by
  refine ⟨w.lv, by rw [List.length_set]; exact w.lx, by rw [List.length_set]; exact w.lp, fun i hi => ?_, fun i hi => ?_⟩
  · by_cases e : i = j
    · subst e
      exact ⟨List.getElem?_set_self (by rw [w.lp]; exact hj), hj⟩
    · rcases List.mem_append.mp hi with q | q
      · rw [List.getElem?_set_ne (Ne.symm e)]
        exact w.bad i q
      · exact absurd (List.mem_singleton.mp q) e
  · have h1 : i ∉ ws := fun q => hi (List.mem_append_left _ q)
    have h2 : i ≠ j := fun q => hi (List.mem_append_right _ (by rw [q]; exact List.mem_singleton.mpr rfl))
    rw [List.getElem?_set_ne (Ne.symm h2), List.getElem?_set_ne (Ne.symm h2)]
    exact w.good i h1
theorem WR.clean {vs : List V} {ts : List Tr} {xs : List V} {pis : List PI} {ws : List Nat} (w : WR vs ts xs pis ws) (h : firstBad 0 pis = none) : pis = ts.map PI.good ∧ xs = vs := by
  have nb := firstBad_no h
  have nw : ∀ i, i ∉ ws := fun i hi => nb i (w.bad i hi).1
  refine ⟨List.ext_getElem? fun i => ?_, List.ext_getElem? fun i => (w.good i (nw i)).2⟩
  rw [(w.good i (nw i)).1, List.getElem?_map]
theorem WR.isBad {vs : List V} {ts : List Tr} {xs : List V} {pis : List PI} {ws : List Nat} (w : WR vs ts xs pis ws) {i : Nat} {p : PI} (h : pis[i]? = some p) : (p = .bad) ↔ i ∈ ws := by
  constructor
  · intro e
    by_cases q : i ∈ ws
    · exact q
    · have := (w.good i q).1
      rw [h, e] at this
      cases z : ts[i]? with
      | none => rw [z] at this; cases this
      | some t => rw [z] at this; cases this
  · intro q
    have := (w.bad i q).1
    rw [h] at this
    exact Option.some.inj this
theorem inV_mem (i : Nat) (ws : List Nat) : inV (.int (i : Int)) (ws.map fun k => V.int ((k : Nat) : Int)) = decide (i ∈ ws) := by
  unfold inV
  rw [Bool.eq_iff_iff, List.any_eq_true, decide_eq_true_eq]
  constructor
  · rintro ⟨x, hx, e⟩
    obtain ⟨k, hk, rfl⟩ := List.mem_map.mp hx
    have e : (((k : Nat) : Int) == (i : Int)) = true := e
    have : k = i := by have := beq_iff_eq.mp e; omega
    rw [← this]; exact hk
  · intro h
    exact ⟨_, List.mem_map.mpr ⟨i, h, rfl⟩, by show (((i : Nat) : Int) == (i : Int)) = true; simp⟩
/-! ### a tree whose parts are right is made -/
section
variable {K : PySem.W.Frag}
/-! the same as rules of their own: what is wanted behind the call stands there as it is -/
def MkT (K : PySem.W.Frag) (C : Cl5) (CI : Addr) (vs : List V) (H : Hp) (Q : VK) (E : XK) : Prop := ∃ (n : V) (xs : List V) (pis : List PI), vs = n :: xs ∧ Val K H n ∧ Paired (PIAt K C H) xs pis ∧ pis.length ≤ 1000 ∧ joinB (partsOf pis) ≤ 16000000 ∧ TreeRes C CI n xs pis E H Q
def tMkT (K : PySem.W.Frag) (C : Cl5) (CI : Addr) (E : XK) (t : TA) : TE := fun σ H Q => t σ H fun vs H1 => MkT K C CI vs H1 Q E
def MkL (C : Cl5) (vs : List V) (H : Hp) (Q : VK) : Prop := ∃ (z : Str) (xs : List V) (ps : List Tr), vs = .str z :: xs ∧ nameS z = true ∧ PyData.strOk z = true ∧ PtsAt C H xs ps ∧ (∀ t ∈ ps, okL t) ∧ ps.length ≤ 9 ∧ joinB ps ≤ 16000000 ∧ ∀ H' x, Same H H' → H x = none → PtAt C H' (.ref x) (.nd true z ps) → Q (.ref x) H'
def tMkL (C : Cl5) (t : TA) : TE := fun σ H Q => t σ H fun vs H1 => MkL C vs H1 Q
def MkV (C : Cl5) (k : Nat) (vs : List V) (H : Hp) (Q : VK) : Prop := ∃ n : Str, vs = [.str n] ∧ nameS n = true ∧ PyData.strOk n = true ∧ ∀ H' x, Same H H' → H x = none → PtAt C H' (.ref x) (.vr k n) → Q (.ref x) H'
def tMkV (C : Cl5) (k : Nat) (t : TA) : TE := fun σ H Q => t σ H fun vs H1 => MkV C k vs H1 Q
section
variable {X : Cx} {CX : CXT} {k : Nat} {f : Addr} {E : XK} {x : Str} {p pos : Pos} {e : Expr} {es : List Expr} {t : TA} {C : Cl5} {CI : Addr}
theorem pe_mkT (M : Mk X.K C.T f) (F : FnR X.prog X.w X.K X.mg X.base CX k f (spTreeNew X.K C CI)) (hr : Room (k + 1) X.A) (hg : Gl X x) (hm : X.mg x = some (.ref C.T)) (hx : Passes CX X E) (ha : PA X (e :: es) t) (hdb : (x == ("__debug__" : Str)) = false := by decide)
    (he : starEach (e :: es) X.env = (false, eval e X.env) :: starEach es X.env := by rfl) (hpl : (backTo pos (starEach es X.env)).any (·.1) = false := by rfl) : PE X (.Call (.Name x p) (e :: es) [] pos) (tMkT X.K C CI E t) := by
  refine ⟨fun pins s σ H Q I h => ?_⟩
  refine wpAny_Call_Name_kw (ld_glob I hg hm ?_ hdb)
  refine PySem.W.callWith_K (h₀ := X.base) I.ok.mod.kin M.kp (thn (ha.run pos pins s σ H _ I h) fun us s1 ⟨vs, H1, I1, r, q⟩ => ⟨I1.kIn, ?_⟩) he hpl
  obtain ⟨n, xs, pis, rfl, q1, q2, q3, q4, q5⟩ := q
  exact StX.run_makeR M F hr hx I1 r fun y dx ny ndy ne => tree_made q1 q2 q3 q4 q5 ny ndy ne
theorem pe_mkL (M : Mk X.K C.L f) (F : FnR X.prog X.w X.K X.mg X.base CX k f (spLikeNew C)) (hr : Room (k + 1) X.A) (hg : Gl X x) (hm : X.mg x = some (.ref C.L)) (hx : Passes CX X E) (ha : PA X (e :: es) t) (hdb : (x == ("__debug__" : Str)) = false := by decide)
    (he : starEach (e :: es) X.env = (false, eval e X.env) :: starEach es X.env := by rfl) (hpl : (backTo pos (starEach es X.env)).any (·.1) = false := by rfl) : PE X (.Call (.Name x p) (e :: es) [] pos) (tMkL C t) := by
  refine ⟨fun pins s σ H Q I h => ?_⟩
  refine wpAny_Call_Name_kw (ld_glob I hg hm ?_ hdb)
  refine PySem.W.callWith_K (h₀ := X.base) I.ok.mod.kin M.kp (thn (ha.run pos pins s σ H _ I h) fun us s1 ⟨vs, H1, I1, r, q⟩ => ⟨I1.kIn, ?_⟩) he hpl
  obtain ⟨z, xs, ps, rfl, q1, q2, q3, q4, q5, q6, q7⟩ := q
  exact StX.run_makeR (E := E) M F hr hx I1 r fun y dx ny ndy ne => like_made q1 q2 q3 q4 q5 q6 q7 ny ndy
theorem pe_mkV {fd : FuncData} {j : Nat} (M : Mk X.K (C.v j) f) (F : FnOk X.prog X.w X.K X.mg X.base CX k f fd ["self", "name"] (spVarInit C j)) (hr : Room (k + 1) X.A) (hg : Gl X x) (hm : X.mg x = some (.ref (C.v j))) (hb : Binds X.K fd ["self", "name"] []) (hx : Passes CX X E) (ha : PA X (e :: es) t) (hdb : (x == ("__debug__" : Str)) = false := by decide)
    (he : starEach (e :: es) X.env = (false, eval e X.env) :: starEach es X.env := by rfl) (hpl : (backTo pos (starEach es X.env)).any (·.1) = false := by rfl) : PE X (.Call (.Name x p) (e :: es) [] pos) (tMkV C j t) := by
  refine ⟨fun pins s σ H Q I h => ?_⟩
  refine wpAny_Call_Name_kw (ld_glob I hg hm ?_ hdb)
  refine PySem.W.callWith_K (h₀ := X.base) I.ok.mod.kin M.kp (thn (ha.run pos pins s σ H _ I h) fun us s1 ⟨vs, H1, I1, r, q⟩ => ⟨I1.kIn, ?_⟩) he hpl
  obtain ⟨n, rfl, q1, q2, q3⟩ := q
  exact run_make (E := E) M F hr hb .nil hx I1 r fun y dx ny ndy ne => var_made q1 q2 q3 ny ndy
end
theorem mkT_good {C : Cl5} {CI : Addr} {z : Str} {xs : List V} {ts : List Tr} {H : Hp} {Q : VK} {E : XK} (hz : nameS z = true) (ho : PyData.strOk z = true) (hp : PtsAt C H xs ts) (hg : ∀ t ∈ ts, okP t = true ∧ rowB t ≤ 1000 ∧ okTx t) (hl : ts.length ≤ 1000) (hj : joinB ts ≤ 16000000) (h1 : 1 + sizes ts ≤ 400) (h2 : levelss ts + 1 ≤ 100)
    (k : ∀ H' x, Same H H' → H x = none → PtAt C H' (.ref x) (.nd false z ts) → HasP H' x xs → Q (.ref x) H') : MkT K C CI (.str z :: xs) H Q E := by
  have go : ∀ {xs : List V} {ts : List Tr}, PtsAt C H xs ts → (∀ t ∈ ts, okP t = true ∧ rowB t ≤ 1000 ∧ okTx t) → Paired (PIAt K C H) xs (ts.map PI.good) := fun {xs} => by
    induction xs with
    | nil =>
      intro ts h _
      match ts, h with
      | [], _ => exact .nil
    | cons x xs ih =>
      intro ts h g
      match ts, h with
      | t :: ts, h => exact .cons ⟨h.1, g t (List.mem_cons_self ..)⟩ (ih h.2 fun u m => g u (List.mem_cons_of_mem _ m))
  refine ⟨.str z, xs, ts.map PI.good, rfl, val_nm hz ho, go hp hg, by rw [List.length_map]; exact hl, by rw [parts_good]; exact hj, ?_⟩
  unfold TreeRes
  rw [tree_none hz h1 h2, parts_good]
  intro H' x z' e s n p hpp
  cases e
  exact k H' x s n p hpp
def leafT : Tr := .nd false "Num" [.tx "1"]
theorem leaf_ok : nameS "Num" = true ∧ PyData.strOk "Num" = true ∧ okP (.tx "1") = true ∧ rowB (.tx "1") ≤ 1000 ∧ okTx (.tx "1") ∧ joinB [.tx "1"] ≤ 1000 ∧ sizes [.tx "1"] = 0 ∧ levelss [.tx "1"] = 0 := by
  refine ⟨by decide +kernel, by decide +kernel, by decide +kernel, by decide +kernel, ?_, by decide +kernel, by decide +kernel, by decide +kernel⟩
  show ("1" : Str).length ≤ 1000
  decide +kernel
theorem mkT_leaf {C : Cl5} {CI : Addr} {H : Hp} {Q : VK} {E : XK} (k : ∀ H' x, Same H H' → H x = none → PtAt C H' (.ref x) leafT → Q (.ref x) H') : MkT K C CI [.str "Num", .str "1"] H Q E := by
  obtain ⟨a1, a2, a3, a4, a5, a6, a7, a8⟩ := leaf_ok
  exact mkT_good (ts := [.tx "1"]) a1 a2 (show PtsAt C H [V.str "1"] [.tx "1"] from ⟨rfl, True.intro⟩) (fun t m => by rw [List.mem_singleton.mp m]; exact ⟨a3, a4, a5⟩) (by decide) (Nat.le_trans a6 (by decide)) (by rw [a7]; decide) (by rw [a8]; decide) fun H' x s n p _ => k H' x s n p
end
end K3

namespace K3
open PySem L2 E0
open LamX (ExtN Tabs TabS TabB LamS lamS_by lamSB)
section
variable {P : Program} {w : World} {K : PySem.W.Frag} {mg : Str → Option Value} {base : Heap}
/-- where the defs stand that tree_right calls -/
structure AdT where
  (fD fP fT fL fV fW fR fN fZ fDb fNm fRd : Addr)
  (fdD fdP fdV fdW fdR fdN fdZ fdDb fdNm fdRd : FuncData)
structure TxtTR (P : Program) (w : World) (K : PySem.W.Frag) (mg : Str → Option Value) (base : Heap) (C : Cl5) (CI : Addr) (a : AdT) : Prop where
  T : TxtT mg C
  T5 : Ty5 K C
  N5 : Na5 K C
  NT : NoT K C
  GD : FnOk P w K mg base CX0 2 a.fD a.fdD ["_law_m", "_law_top"] spDraw
  AD : DefA K mg "_law_draw" ["_law_m", "_law_top"] a.fD a.fdD
  GP : FnOk P w K mg base CX0 13 a.fP a.fdP ["_law_m", "_law_deep"] (spPieceR C)
  AP : DefA K mg "_law_piece" ["_law_m", "_law_deep"] a.fP a.fdP
  MT : Mk K C.T a.fT
  GT : FnR P w K mg base (L2.CX P w) 4 a.fT (spTreeNew K C CI)
  gT : mg "Tree" = some (.ref C.T)
  ML : Mk K C.L a.fL
  GL : FnR P w K mg base (L2.CX P w) 4 a.fL (spLikeNew C)
  gL : mg "Like" = some (.ref C.L)
  MV : Mk K C.V a.fV
  GV : FnOk P w K mg base CX0 2 a.fV a.fdV ["self", "name"] (spVarInit C 0)
  BV : Binds K a.fdV ["self", "name"] []
  gV : mg "Var" = some (.ref C.V)
  MW : Mk K C.W a.fW
  GWo : FnOk P w K mg base CX0 2 a.fW a.fdW ["self", "name"] (spVarInit C 1)
  BW : Binds K a.fdW ["self", "name"] []
  gW : mg "Word" = some (.ref C.W)
  MR : Mk K C.R a.fR
  GR : FnOk P w K mg base CX0 2 a.fR a.fdR ["self", "name"] (spVarInit C 2)
  BR : Binds K a.fdR ["self", "name"] []
  gRe : mg "Rest" = some (.ref C.R)
  GN : FnOk P w K mg base (L2.CX P w) 6 a.fN a.fdN ["_law_word", "_law_r"] (spNew K C CI)
  AN : DefA K mg "_law_new" ["_law_word", "_law_r"] a.fN a.fdN
  GZ : FnOk P w K mg base CX0 11 a.fZ a.fdZ ["_law_plant"] (spSize 10)
  AZ : DefA K mg "_law_size" ["_law_plant"] a.fZ a.fdZ
  GDb : FnOk P w K mg base CX0 1 a.fDb a.fdDb ["_law_kind_of"] spDoubled
  ADb : DefA K mg "_law_doubled" ["_law_kind_of"] a.fDb a.fdDb
  GNm : FnOk P w K mg base CX0 1 a.fNm a.fdNm ["_law_thing"] (spName K)
  ANm : DefA K mg "_law_is_name" ["_law_thing"] a.fNm a.fdNm
  GRd : FnOk P w K mg base CX0 12 a.fRd a.fdRd ["_law_plant", "_law_one", "_law_some"] (spReadRight C)
  ARd : DefA K mg "_law_read_right" ["_law_plant", "_law_one", "_law_some"] a.fRd a.fdRd
def NTR : List Str := ["_law_m", "_law_word", "_law_pairs", "_law_some", "_law_leaf", "_law_odds", "_law_wrong", "_law_again", "_law_spot", "_law_due", "_law_plant", "_law_n", "_law_pair"]
theorem scTR : FnScope NTR ["_law_m", "_law_word"] (defScope sTreeRight) := ⟨rfl, rfl, rfl, by decide +kernel, rfl, by decide +kernel, by decide +kernel⟩
abbrev qTR : Str := "_law_tree_right.<locals>.<lambda>"
def stTR (i : Nat) : Stmt := (defBody sTreeRight).getD i (.Pass ⟨0, 0, 0, 0⟩)
end
section
variable {P : Program} {w : World} {K : PySem.W.Frag} {mg : Str → Option Value} {base : Heap} {C : Cl5} {CI f c : Addr} {a : AdT} {A : Around} {outer : List Env} {s : Shared} {H0 : Hp} {E : XK}
theorem tr1 (TR : TxtTR P w K mg base C CI a) (hr : Room 13 (A.deeper (PyProof.Rows.envOfC "_law_tree_right" (defScope sTreeRight) s.heap.objs.size f (.ref c)))) (gR : mg "range" = none) (gTup : mg "tuple" = none) (gLen : mg "len" = none)  :
    ∃ t : TS, PS (cxOf CX0 P w K mg base NTR "_law_tree_right" (defScope sTreeRight) f (.ref c) A outer s H0 E).nox (stTR 0) t ∧ ∀ (Z : Ends) (H : Hp) (m lc lg : Addr) (n : Int) (wv : V), MA m lc lg n H → n + 20000 ≤ 1000000 →
      (∀ (H3 : Hp) (D : Addr) (as : List Addr) (ps vs : List V) (ts : List Tr) (n' : Int), DD m lg H H3 → H D = none → MA m lc lg n' H3 → n + 1 ≤ n' → n' ≤ n + 19700 → H3 D = some (.lst (as.map V.ref)) → as.length = ts.length → ps.length = ts.length → vs.length = ts.length →
        (∀ (i : Nat) (a : Addr), as[i]? = some a → ∃ p v, ps[i]? = some p ∧ vs[i]? = some v ∧ H3 a = some (.tup [p, v])) → PlsAt (fun b => H b = none ∧ b ≠ D) H3 ps ts → PtsAt C H3 vs ts → (∀ t ∈ ts, Fits t 53570 273 6 3) → ts.length ≤ 9 →
        Z.nx [some (.ref m), some wv, some (.ref D), none, none, none, none, none, none, none, none, none, none] H3) →
      t Z [some (.ref m), some wv, none, none, none, none, none, none, none, none, none, none, none] H := by
  have hr13 : Room 13 _ := hr
  have hr12 : Room 12 _ := hr.mono (by decide)
  have hr11 : Room 11 _ := hr.mono (by decide)
  have hr8 : Room 8 _ := hr.mono (by decide)
  have hr6 : Room 6 _ := hr.mono (by decide)
  have hr5 : Room 5 _ := hr.mono (by decide)
  have hr3 : Room 3 _ := hr.mono (by decide)
  have hr2 : Room 2 _ := hr.mono (by decide)
  have hr1 : Room 1 _ := hr.mono (by decide)
  have big : (1000000 : Nat) < sizeLine := by decide
  refine ⟨_, (ps_setLc (i := 2) (own := [("_law_n", 11)]) (g := gName 11) (tt := tYes) (te := tCall (spPieceR C) [] E0 (tCons (tVar 0) (tCons (tOp (rI0 fun i j => .int (i + j)) (tC (.int 1)) (tCall spDraw [] E0 (tCons (tVar 0) (tCons (tC (.int 3)) tNil)))) tNil))) rfl scTR.nd rfl rfl (sw_true rfl rfl rfl (by decide +kernel)) (pi_range1 rfl gR (pa_cons (pe_call TR.GD hr2 rfl TR.AD.g TR.AD.k TR.AD.b .nil pass0 (pa_cons (pv 0) (pa_cons pe_int pa_nil))) pa_nil)) (blkOk_by (N := NTR) (sc := defScope sTreeRight) (by decide +kernel)) (fun _ _ _ _ _ => pg_name (i := 11) scTR.nd rfl (Or.inl rfl)) (fun _ _ _ _ _ => pts_nil) (fun _ _ _ _ _ => (pe_call TR.GP hr13 rfl TR.AP.g TR.AP.k TR.AP.b .nil pass0 (pa_cons (pv 0) (pa_cons (pe_op op_add pe_int (pe_call TR.GD hr2 rfl TR.AD.g TR.AD.k TR.AD.b .nil pass0 (pa_cons (pv 0) (pa_cons pe_int pa_nil)))) pa_nil))))), ?_⟩
  rintro Z H m lc lg n wv M hn k
  have f3 : ∀ j : Fin 3, cP (1 + j.val) ≤ 2186 ∧ wB (1 + j.val) ≤ 53570 ∧ sB (1 + j.val) ≤ 273 ∧ 2 * (1 + j.val) ≤ 6 ∧ 1 + j.val ≤ 3 := by decide
  refine ⟨_, rfl, m, lc, lg, n, 10, rfl, M, by omega, by decide, by decide, fun H1 w0 d0 dl M1 e1 => ?_⟩
  have D1 : DD m lg H H1 := e1
  obtain ⟨r, rfl⟩ : ∃ r : Nat, w0 = (r : Int) := ⟨w0.toNat, by omega⟩
  refine ⟨_, rfl, by omega, by omega, fun D hD => lc_range (lo := 0) (n := r) (fun i H' => ∃ (acc : List V) (ts : List Tr) (n' : Int), H' D = some (.lst acc) ∧ Paired (PrAt (fun b => H1 b = none ∧ b ≠ D) C H') acc ts ∧ acc.length = i ∧ (∀ t ∈ ts, Fits t 53570 273 6 3) ∧ DD m lg H1 H' ∧ MA m lc lg n' H' ∧ n + 1 ≤ n' ∧ n' ≤ n + 1 + ((i * 2187 : Nat) : Int))
    ⟨[], [], n + 1, upd_same, .nil, rfl, (fun t h => nomatch h), DD.same (same_upd (Same.refl H1) hD), M1.same (same_upd (Same.refl H1) hD), by omega, by omega⟩ ?_ ?_⟩
  · rintro i H3 hi ⟨acc, ts, n', q1, q2, q3, q4, q5, q6, q7, q8⟩
    obtain ⟨nDm, nDg, nDc⟩ := M1.nl hD
    have nND : ¬ (H1 D = none ∧ D ≠ D) := fun q => q.2 rfl
    refine ⟨rfl, ?_⟩
    dsimp only [tYes]
    rw [if_pos rfl]
    refine ⟨_, rfl, _, rfl, m, lc, lg, n', 3, rfl, q6, by omega, by decide, by decide, fun H3' w1 p0 p1 M3 e3 => ?_⟩
    obtain ⟨j, hj, rfl⟩ : ∃ j : Nat, j < 3 ∧ w1 = (j : Int) := ⟨w1.toNat, by omega, by omega⟩
    obtain ⟨fc, fw, fs, fh, fl⟩ := f3 ⟨j, hj⟩
    have D3 : DD m lg H3 H3' := e3
    refine ⟨_, _, rfl, rfl, ⟨j, hj⟩, m, lc, lg, n' + 1, congrArg (fun z => [V.ref m, V.int z]) (show (1 : Int) + (j : Int) = ((1 + j : Nat) : Int) by omega), M3, by omega, fun H4 p nn t dd np M4 l1 l2 pr gt => ?_⟩
    have q15 := D3 D _ nDm nDg q1
    have q14 := dd D _ nDm nDg q15
    have kN3 : KpN (fun b => H1 b = none ∧ b ≠ D) H3 H3' := fun b o nb q _ => let z := M1.nm nb.1; D3 b o z.1 z.2 q
    have kN : KpN (fun b => H1 b = none ∧ b ≠ D) H3' H4 := fun b o nb q _ => let z := M1.nm nb.1; dd b o z.1 z.2 q
    have ft : Fits t 53570 273 6 3 := (GP_fits gt).mono fw fs fh fl
    have q53 := q5.trans D3
    refine ⟨acc, q14, by omega, acc ++ [.ref p], ts ++ [t], nn, upd_same, ?_, by rw [List.length_append, q3]; rfl, fun u hu => (List.mem_append.mp hu).elim (q4 u) (fun z => by rw [List.mem_singleton.mp z]; exact ft), ?_, M4.offL nDm nDg nDc, by omega, by omega⟩
    · refine Paired.snoc (Paired.mapP q2 fun a b q => ((q.kp kN3 (D3.kpo q6)).kp kN (dd.kpo M3)).kp (kpN_upd nND) (kpO_upd q14)) ((pr.mono fun b hb => ⟨q53.free M3 hb, fun z => ?_⟩).kp (kpN_upd nND) (kpO_upd q14))
      have hb : H3' b = none := hb
      rw [z, q15] at hb
      cases hb
    · intro b o b1 b2 q
      rw [upd_ne (ne_of_none q hD)]
      exact dd b o b1 b2 (q53 b o b1 b2 q)
  rintro H3 ⟨acc, ts, n', q1, q2, q3, q4, q5, q6, q7, q8⟩
  have D3 : DD m lg H H3 := D1.trans q5
  obtain ⟨nDm, nDg, nDc⟩ := M1.nl hD
  obtain ⟨as, ps, vs, rfl, f2, f3', f4, f5, f6, f7⟩ := prs_pl q2
  have al : as.length = r := by rw [← q3, List.length_map]
  exact k H3 D as ps vs ts n' D3 (D1.free M1 hD) q6 q7 (by omega) q1 f2 f5 f6 f7 (PlsAt.mono (fun b hb => ⟨D1.free M1 hb.1, hb.2⟩) _ f3') f4 q4 (by omega)

theorem tr2 (TR : TxtTR P w K mg base C CI a) (hr : Room 13 (A.deeper (PyProof.Rows.envOfC "_law_tree_right" (defScope sTreeRight) s.heap.objs.size f (.ref c)))) (gR : mg "range" = none) (gTup : mg "tuple" = none) (gLen : mg "len" = none)  :
    ∃ t : TS, PS (cxOf CX0 P w K mg base NTR "_law_tree_right" (defScope sTreeRight) f (.ref c) A outer s H0 E).nox (stTR 1) t ∧ ∀ (Z : Ends) (H : Hp) (m D : Addr) (wv : V) (as : List Addr) (ps vs : List V), H D = some (.lst (as.map V.ref)) → vs.length = as.length → as.length ≤ 1000 → (∀ (i : Nat) (a : Addr), as[i]? = some a → ∃ p v, ps[i]? = some p ∧ vs[i]? = some v ∧ H a = some (.tup [p, v])) →
      (∀ (H4 : Hp) (S : Addr), Same H H4 → H S = none → H4 S = some (.lst vs) → Z.nx [some (.ref m), some wv, some (.ref D), some (.ref S), none, none, none, none, none, none, none, none, none] H4) →
      t Z [some (.ref m), some wv, some (.ref D), none, none, none, none, none, none, none, none, none, none] H := by
  have hr13 : Room 13 _ := hr
  have hr12 : Room 12 _ := hr.mono (by decide)
  have hr11 : Room 11 _ := hr.mono (by decide)
  have hr8 : Room 8 _ := hr.mono (by decide)
  have hr6 : Room 6 _ := hr.mono (by decide)
  have hr5 : Room 5 _ := hr.mono (by decide)
  have hr3 : Room 3 _ := hr.mono (by decide)
  have hr2 : Room 2 _ := hr.mono (by decide)
  have hr1 : Room 1 _ := hr.mono (by decide)
  have big : (1000000 : Nat) < sizeLine := by decide
  refine ⟨_, (ps_set (i := 3) scTR.nd rfl (Or.inr rfl) (pe_lc (own := [("_law_pair", 12)]) (g := gName 12) (tt := tYes) (te := tOp (rIxT K) (tVar 12) (tC (.int 1))) rfl scTR.nd (pi_list (pv 2)) (blkOk_by (N := NTR) (sc := defScope sTreeRight) (by decide +kernel)) (fun _ _ _ _ _ => pg_name (i := 12) scTR.nd rfl (Or.inl rfl)) (fun _ _ _ _ _ => pts_nil) (fun _ _ _ _ _ => (pe_ix ix_tup (pv 12) pe_int (fun _ _ => rfl))))), ?_⟩
  rintro Z H m D wv as ps vs hD hl hl2 hp k
  refine lc_at (K := K) (i := 2) (s := 12) (j := 1) (xs := as.map V.ref) (out := vs) rfl hD (by show 12 < 13; decide) (fun i x hx => ?_) (by rw [List.length_map]; exact hl) (by rw [List.length_map]; omega) fun H4 S s4 n4 h4 => k H4 S s4 n4 h4
  rw [List.getElem?_map] at hx
  cases ha : as[i]? with
  | none => rw [ha] at hx; cases hx
  | some a =>
    rw [ha] at hx
    obtain ⟨p, v, g1, g2, g3⟩ := hp i a ha
    exact ⟨a, [p, v], v, (Option.some.inj hx).symm, g3, rfl, g2⟩
theorem tr3 (TR : TxtTR P w K mg base C CI a) (hr : Room 13 (A.deeper (PyProof.Rows.envOfC "_law_tree_right" (defScope sTreeRight) s.heap.objs.size f (.ref c)))) (gR : mg "range" = none) (gTup : mg "tuple" = none) (gLen : mg "len" = none)  :
    ∃ t : TS, PS (cxOf CX0 P w K mg base NTR "_law_tree_right" (defScope sTreeRight) f (.ref c) A outer s H0 E).nox (stTR 2) t ∧ ∀ (Z : Ends) (H : Hp) (σ : L2.St), (∀ (H5 : Hp) (lf : Addr), Same H H5 → PtAt C H5 (.ref lf) leafT → Z.nx (σ.set 4 (some (.ref lf))) H5) → t Z σ H := by
  have hr13 : Room 13 _ := hr
  have hr12 : Room 12 _ := hr.mono (by decide)
  have hr11 : Room 11 _ := hr.mono (by decide)
  have hr8 : Room 8 _ := hr.mono (by decide)
  have hr6 : Room 6 _ := hr.mono (by decide)
  have hr5 : Room 5 _ := hr.mono (by decide)
  have hr3 : Room 3 _ := hr.mono (by decide)
  have hr2 : Room 2 _ := hr.mono (by decide)
  have hr1 : Room 1 _ := hr.mono (by decide)
  have big : (1000000 : Nat) < sizeLine := by decide
  refine ⟨_, (ps_set (i := 4) scTR.nd rfl (Or.inl rfl) (pe_mkT (E := E0) TR.MT TR.GT hr5 rfl TR.gT passL (pa_cons pe_str (pa_cons pe_str pa_nil)))), ?_⟩
  rintro Z H σ k
  exact mkT_leaf fun H5 lf s5 _ plf => k H5 lf s5 plf
theorem tr4 (TR : TxtTR P w K mg base C CI a) (hr : Room 13 (A.deeper (PyProof.Rows.envOfC "_law_tree_right" (defScope sTreeRight) s.heap.objs.size f (.ref c)))) (gR : mg "range" = none) (gTup : mg "tuple" = none) (gLen : mg "len" = none)  :
    ∃ t : TS, PS (cxOf CX0 P w K mg base NTR "_law_tree_right" (defScope sTreeRight) f (.ref c) A outer s H0 E).nox (stTR 3) t ∧ ∀ (Z : Ends) (H5 : Hp) (σ : L2.St) (lf : Addr), σ[4]? = some (some (.ref lf)) → PtAt C H5 (.ref lf) leafT → (∀ (H' : Hp) (o : Addr) (ovs : List V), Same H5 H' → H5 o = none → H' o = some (.lst ovs) → ovs.length = 11 → (∀ v ∈ ovs, BadN K (New H5) C H' v) → Z.nx (σ.set 5 (some (.ref o))) H') → t Z σ H5 := by
  have hr13 : Room 13 _ := hr
  have hr12 : Room 12 _ := hr.mono (by decide)
  have hr11 : Room 11 _ := hr.mono (by decide)
  have hr8 : Room 8 _ := hr.mono (by decide)
  have hr6 : Room 6 _ := hr.mono (by decide)
  have hr5 : Room 5 _ := hr.mono (by decide)
  have hr3 : Room 3 _ := hr.mono (by decide)
  have hr2 : Room 2 _ := hr.mono (by decide)
  have hr1 : Room 1 _ := hr.mono (by decide)
  have big : (1000000 : Nat) < sizeLine := by decide
  refine ⟨_, (ps_set (i := 5) scTR.nd rfl (Or.inl rfl) (pe_lst (pa_cons pe_non (pa_cons pe_bl (pa_cons pe_int (pa_cons (pe_op op_mul_str pe_str pe_int) (pa_cons (pe_lst (pa_cons (pv 4) pa_nil)) (pa_cons pe_dnewK (pa_cons (pe_tup (pa_cons (pv 4) (pa_cons pe_str pa_nil))) (pa_cons (pe_tup (pa_cons (pe_tup (pa_cons (pv 4) pa_nil)) pa_nil)) (pa_cons (pe_mkV (E := E0) (j := 0) TR.MV TR.GV hr3 rfl TR.gV TR.BV pass0 (pa_cons pe_str pa_nil)) (pa_cons (pe_mkV (E := E0) (j := 1) TR.MW TR.GWo hr3 rfl TR.gW TR.BW pass0 (pa_cons pe_str pa_nil)) (pa_cons (pe_tup (pa_cons (pe_mkV (E := E0) (j := 2) TR.MR TR.GR hr3 rfl TR.gRe TR.BR pass0 (pa_cons pe_str pa_nil)) pa_nil)) pa_nil))))))))))))), ?_⟩
  rintro Z H5 σ lf h4 plf k
  refine ⟨"x", 61, rfl, rfl, by decide, by decide, by decide +kernel, by decide +kernel, by decide +kernel, ?_⟩
  refine ⟨_, h4, by show 1 ≤ sizeLine; omega, fun b4 n4 => ?_⟩
  have s6 : Same H5 (upd H5 b4 (.lst [.ref lf])) := same_upd (Same.refl H5) n4
  have v4 : (upd H5 b4 (.lst [.ref lf])) b4 = some (.lst [.ref lf]) := upd_same
  generalize upd H5 b4 (.lst [.ref lf]) = H6 at s6 v4 ⊢
  refine fun b5 n5 => ?_
  have s7 : Same H6 (upd H6 b5 (.dK [])) := same_upd (Same.refl H6) n5
  have v5 : (upd H6 b5 (.dK [])) b5 = some (.dK []) := upd_same
  generalize upd H6 b5 (.dK []) = H7 at s7 v5 ⊢
  refine ⟨_, h4, by show 2 ≤ sizeLine; omega, fun b6 n6 => ?_⟩
  have s8 : Same H7 (upd H7 b6 (.tup [.ref lf, .str "a"])) := same_upd (Same.refl H7) n6
  have v6 : (upd H7 b6 (.tup [.ref lf, .str "a"])) b6 = some (.tup [.ref lf, .str "a"]) := upd_same
  generalize upd H7 b6 (.tup [.ref lf, .str "a"]) = H8 at s8 v6 ⊢
  refine ⟨_, h4, by show 1 ≤ sizeLine; omega, fun b7a n7a => ?_⟩
  have s9 : Same H8 (upd H8 b7a (.tup [.ref lf])) := same_upd (Same.refl H8) n7a
  have v7a : (upd H8 b7a (.tup [.ref lf])) b7a = some (.tup [.ref lf]) := upd_same
  generalize upd H8 b7a (.tup [.ref lf]) = H9 at s9 v7a ⊢
  refine ⟨by show 1 ≤ sizeLine; omega, fun b7 n7 => ?_⟩
  have s10 : Same H9 (upd H9 b7 (.tup [.ref b7a])) := same_upd (Same.refl H9) n7
  have v7 : (upd H9 b7 (.tup [.ref b7a])) b7 = some (.tup [.ref b7a]) := upd_same
  generalize upd H9 b7 (.tup [.ref b7a]) = H10 at s10 v7 ⊢
  refine ⟨"v", rfl, by decide +kernel, by decide +kernel, fun H11 b8 s11 n8 p8 => ?_⟩
  refine ⟨"w", rfl, by decide +kernel, by decide +kernel, fun H12 b9 s12 n9 p9 => ?_⟩
  refine ⟨"r", rfl, by decide +kernel, by decide +kernel, fun H13 b10r s13 n10r p10r => ?_⟩
  refine ⟨by show 1 ≤ sizeLine; omega, fun b10 n10 => ?_⟩
  have s14 : Same H13 (upd H13 b10 (.tup [.ref b10r])) := same_upd (Same.refl H13) n10
  have v10 : (upd H13 b10 (.tup [.ref b10r])) b10 = some (.tup [.ref b10r]) := upd_same
  generalize upd H13 b10 (.tup [.ref b10r]) = H14 at s14 v10 ⊢
  refine ⟨by show 11 ≤ sizeLine; omega, fun o1 no1 => ?_⟩
  have s15 : Same H14 (upd H14 o1 (.lst [.non, .bl true, .int 0, .str (timesS "x" 61), .ref b4, .ref b5, .ref b6, .ref b7, .ref b8, .ref b9, .ref b10])) := same_upd (Same.refl H14) no1
  have vo1 : (upd H14 o1 (.lst [.non, .bl true, .int 0, .str (timesS "x" 61), .ref b4, .ref b5, .ref b6, .ref b7, .ref b8, .ref b9, .ref b10])) o1 = some (.lst [.non, .bl true, .int 0, .str (timesS "x" 61), .ref b4, .ref b5, .ref b6, .ref b7, .ref b8, .ref b9, .ref b10]) := upd_same
  generalize upd H14 o1 (.lst [.non, .bl true, .int 0, .str (timesS "x" 61), .ref b4, .ref b5, .ref b6, .ref b7, .ref b8, .ref b9, .ref b10]) = H15 at s15 vo1 ⊢
  have t14 := s15
  have t13 := s14.trans t14
  have t12 := s13.trans t13
  have t11 := s12.trans t12
  have t10 := s11.trans t11
  have t9 := s10.trans t10
  have t8 := s9.trans t9
  have t7 := s8.trans t8
  have t6 := s7.trans t7
  have t5 := s6.trans t6
  have f6 : ∀ b, H6 b = none → New H5 b := fun b h => s6.free h
  refine k H15 o1 _ t5 ((s6.trans (s7.trans (s8.trans (s9.trans (s10.trans (s11.trans (s12.trans (s13.trans s14)))))))).free no1) vo1 rfl fun v hv => ?_
  have plf15 := PtAt.kpo (KpO.same t5) _ plf
  simp only [List.mem_cons, List.not_mem_nil, or_false] at hv
  rcases hv with rfl | rfl | rfl | rfl | rfl | rfl | rfl | rfl | rfl | rfl | rfl
  · exact bad_non TR.NT
  · exact bad_bl TR.NT
  · exact bad_int TR.NT
  · exact bad_str (by decide +kernel) (by decide +kernel)
  · exact bad_lst TR.NT (t6 _ _ v4) n4
  · exact bad_dK TR.NT (t7 _ _ v5) (f6 _ n5)
  · exact bad_tup TR.T5 (ts := [leafT, .tx "a"]) (t8 _ _ v6) ⟨plf15, rfl, True.intro⟩ (by decide) rfl
  · exact bad_tup TR.T5 (ts := [.row [leafT]]) (t10 _ _ v7) ⟨⟨b7a, _, rfl, t9 _ _ v7a, plf15, True.intro⟩, True.intro⟩ (by decide) rfl
  · exact bad_pt TR.T5 (PtAt.kpo (KpO.same t11) _ p8) rfl rfl rfl
  · exact bad_pt TR.T5 (PtAt.kpo (KpO.same t12) _ p9) rfl rfl rfl
  · exact bad_tup TR.T5 (ts := [.vr 2 "r"]) (t14 _ _ v10) ⟨PtAt.kpo (KpO.same t13) _ p10r, True.intro⟩ (by decide) rfl
theorem tr5 (TR : TxtTR P w K mg base C CI a) (hr : Room 13 (A.deeper (PyProof.Rows.envOfC "_law_tree_right" (defScope sTreeRight) s.heap.objs.size f (.ref c)))) (gR : mg "range" = none) (gTup : mg "tuple" = none) (gLen : mg "len" = none)  :
    ∃ t : TS, PS (cxOf CX0 P w K mg base NTR "_law_tree_right" (defScope sTreeRight) f (.ref c) A outer s H0 E).nox (stTR 4) t ∧ ∀ (Z : Ends) (H15 : Hp) (σ : L2.St) (lf o1 : Addr) (ovs : List V) (N : Addr → Prop), σ[4]? = some (some (.ref lf)) → σ[5]? = some (some (.ref o1)) → PtAt C H15 (.ref lf) leafT → H15 o1 = some (.lst ovs) → ovs.length = 11 → (∀ b, H15 b = none → N b) → (∀ v ∈ ovs, BadN K N C H15 v) →
      (∀ (H' : Hp) (o : Addr) (ovs' : List V), Same H15 H' → H15 o = none → H' o = some (.lst ovs') → ovs'.length = 15 → (∀ v ∈ ovs', BadN K N C H' v) → Z.nx (σ.set 5 (some (.ref o))) H') → t Z σ H15 := by
  have hr13 : Room 13 _ := hr
  have hr12 : Room 12 _ := hr.mono (by decide)
  have hr11 : Room 11 _ := hr.mono (by decide)
  have hr8 : Room 8 _ := hr.mono (by decide)
  have hr6 : Room 6 _ := hr.mono (by decide)
  have hr5 : Room 5 _ := hr.mono (by decide)
  have hr3 : Room 3 _ := hr.mono (by decide)
  have hr2 : Room 2 _ := hr.mono (by decide)
  have hr1 : Room 1 _ := hr.mono (by decide)
  have big : (1000000 : Nat) < sizeLine := by decide
  refine ⟨_, (ps_set (i := 5) scTR.nd rfl (Or.inl rfl) (pe_op op_cat (pv 5) (pe_lst (pa_cons (pe_mkL (E := E0) TR.ML TR.GL hr5 rfl TR.gL passL (pa_cons pe_str (pa_cons pe_str pa_nil))) (pa_cons (pe_tup (pa_cons (pv 4) (pa_cons (pe_mkL (E := E0) TR.ML TR.GL hr5 rfl TR.gL passL (pa_cons pe_str (pa_cons (pe_mkV (E := E0) (j := 1) TR.MW TR.GWo hr3 rfl TR.gW TR.BW pass0 (pa_cons pe_str pa_nil)) pa_nil))) pa_nil))) (pa_cons (pe_call TR.GDb hr1 rfl TR.ADb.g TR.ADb.k TR.ADb.b .nil pass0 (pa_cons pe_int pa_nil)) (pa_cons (pe_call TR.GDb hr1 rfl TR.ADb.g TR.ADb.k TR.ADb.b .nil pass0 (pa_cons pe_int pa_nil)) pa_nil))))))), ?_⟩
  rintro Z H15 σ lf o1 ovs N h4 h5 plf vo1 hol hN hbad k
  refine ⟨_, h5, ?_⟩
  obtain ⟨k1, k2, k3, k4, k5, k6, k7, k8⟩ := leaf_ok
  refine ⟨"Num", [.str "1"], [.tx "1"], rfl, k1, k2, ⟨rfl, True.intro⟩, (fun t ht => by rw [List.mem_singleton.mp ht]; show ("1" : Str).length ≤ 60; decide +kernel), (by decide), (Nat.le_trans k6 (by decide)), fun H16 b11 s16 n11 p11 => ?_⟩
  refine ⟨_, h4, ?_⟩
  refine ⟨"w", rfl, by decide +kernel, by decide +kernel, fun H17 b12w s17 n12w p12w => ?_⟩
  refine ⟨"Num", [.ref b12w], [.vr 1 "w"], rfl, k1, k2, ⟨p12w, True.intro⟩, (fun t ht => by rw [List.mem_singleton.mp ht]; exact True.intro), (by decide), (by decide +kernel), fun H18 b12l s18 n12l p12l => ?_⟩
  refine ⟨by show 2 ≤ sizeLine; omega, fun b12 n12 => ?_⟩
  have s19 : Same H18 (upd H18 b12 (.tup [.ref lf, .ref b12l])) := same_upd (Same.refl H18) n12
  have v12 : (upd H18 b12 (.tup [.ref lf, .ref b12l])) b12 = some (.tup [.ref lf, .ref b12l]) := upd_same
  generalize upd H18 b12 (.tup [.ref lf, .ref b12l]) = H19 at s19 v12 ⊢
  refine ⟨0, by decide, rfl, fun H20 b13 x13 s20 n13 v13 d13 => ?_⟩
  refine ⟨1, by decide, rfl, fun H21 b14 x14 s21 n14 v14 _ => ?_⟩
  rw [if_pos rfl] at v13
  rw [if_neg (by decide)] at v14
  refine ⟨by show 4 ≤ sizeLine; omega, fun o2 no2 => ?_⟩
  have s22 : Same H21 (upd H21 o2 (.lst [.ref b11, .ref b12, .ref b13, .ref b14])) := same_upd (Same.refl H21) no2
  have vo2 : (upd H21 o2 (.lst [.ref b11, .ref b12, .ref b13, .ref b14])) o2 = some (.lst [.ref b11, .ref b12, .ref b13, .ref b14]) := upd_same
  generalize upd H21 o2 (.lst [.ref b11, .ref b12, .ref b13, .ref b14]) = H22 at s22 vo2 ⊢
  have t22 := s22
  have t20 := s21.trans t22
  have t19 := s20.trans t20
  have t18 := s19.trans t19
  have t17 := s18.trans t18
  have t16 := s17.trans t17
  have t15 := s16.trans t16
  refine ⟨o1, o2, _, _, rfl, rfl, t15 _ _ vo1, vo2, by show ovs.length + 4 ≤ sizeLine; omega, fun O nO => ?_⟩
  have sO : Same H22 (upd H22 O (.lst (ovs ++ [.ref b11, .ref b12, .ref b13, .ref b14]))) := same_upd (Same.refl H22) nO
  have sX := t15.trans sO
  refine k _ O _ sX (t15.free nO) upd_same (by rw [List.length_append, hol]; rfl) fun v hv => ?_
  rcases List.mem_append.mp hv with q | q
  · exact (hbad v q).same sX
  · have plf22 := PtAt.kpo (KpO.same t15) _ plf
    refine BadN.same sO ?_
    simp only [List.mem_cons, List.not_mem_nil, or_false] at q
    rcases q with rfl | rfl | rfl | rfl
    · exact bad_pt TR.T5 (PtAt.kpo (KpO.same t16) _ p11) rfl rfl rfl
    · exact bad_tup TR.T5 (ts := [leafT, .nd true "Num" [.vr 1 "w"]]) (t19 _ _ v12) ⟨plf22, PtAt.kpo (KpO.same t18) _ p12l, True.intro⟩ (by decide) rfl
    · obtain ⟨q, ys, rfl, hq⟩ := d13 rfl
      refine ⟨.inr (.inl ⟨b13, _, [false, false], rfl, t20 _ _ v13, by show 2 ≤ 1000; decide, .cons ?_ (.cons ?_ .nil), rfl⟩), stands_ti rfl (t20 _ _ v13), fun a xs e z x hx => ?_⟩
      · exact ⟨_, .base (.tup (t20 _ _ hq)), TR.NT.tup, fun a e => by cases e; exact ⟨_, t20 _ _ hq⟩⟩
      · exact ⟨_, .base (.tup (t20 _ _ hq)), TR.NT.tup, fun a e => by cases e; exact ⟨_, t20 _ _ hq⟩⟩
      · cases e
        rw [t20 _ _ v13] at z
        cases z
        have : x = .ref q := by
          simp only [List.mem_cons, List.not_mem_nil, or_false] at hx
          rcases hx with h | h <;> exact h
        rw [this]
        exact stands_ti rfl (t20 _ _ hq)
    · exact bad_lst TR.NT (t22 _ _ v14) (hN _ ((s16.trans (s17.trans (s18.trans (s19.trans s20)))).free n14))
end
end K3

namespace K3
open PySem L2 E0
open LamX (ExtN Tabs TabS TabB LamS lamS_by lamSB)
section
variable {P : Program} {w : World} {K : PySem.W.Frag} {mg : Str → Option Value} {base : Heap} {C : Cl5} {CI f c : Addr} {a : AdT} {A : Around} {outer : List Env} {s : Shared} {H0 : Hp} {E : XK}
theorem tr6 (TR : TxtTR P w K mg base C CI a) (hr : Room 13 (A.deeper (PyProof.Rows.envOfC "_law_tree_right" (defScope sTreeRight) s.heap.objs.size f (.ref c)))) (gR : mg "range" = none) (gTup : mg "tuple" = none) (gLen : mg "len" = none)  :
    ∃ t : TS, PS (cxOf CX0 P w K mg base NTR "_law_tree_right" (defScope sTreeRight) f (.ref c) A outer s H0 E).nox (stTR 5) t ∧ ∀ (Z : Ends) (H : Hp) (σ : L2.St), (∀ (H' : Hp) (W : Addr), Same H H' → H W = none → H' W = some (.lst []) → Z.nx (σ.set 6 (some (.ref W))) H') → t Z σ H := by
  have hr13 : Room 13 _ := hr
  have hr12 : Room 12 _ := hr.mono (by decide)
  have hr11 : Room 11 _ := hr.mono (by decide)
  have hr8 : Room 8 _ := hr.mono (by decide)
  have hr6 : Room 6 _ := hr.mono (by decide)
  have hr5 : Room 5 _ := hr.mono (by decide)
  have hr3 : Room 3 _ := hr.mono (by decide)
  have hr2 : Room 2 _ := hr.mono (by decide)
  have hr1 : Room 1 _ := hr.mono (by decide)
  have big : (1000000 : Nat) < sizeLine := by decide
  refine ⟨_, (ps_set (i := 6) scTR.nd rfl (Or.inl rfl) (pe_lst pa_nil)), ?_⟩
  rintro Z H σ k
  exact ⟨by decide, fun W nW => k _ W (same_upd (Same.refl H) nW) nW upd_same⟩
theorem tr7 (TR : TxtTR P w K mg base C CI a) (hr : Room 13 (A.deeper (PyProof.Rows.envOfC "_law_tree_right" (defScope sTreeRight) s.heap.objs.size f (.ref c)))) (gR : mg "range" = none) (gTup : mg "tuple" = none) (gLen : mg "len" = none)  :
    ∃ t : TS, PS (cxOf CX0 P w K mg base NTR "_law_tree_right" (defScope sTreeRight) f (.ref c) A outer s H0 E).nox (stTR 6) t ∧ ∀ (Z : Ends) (H : Hp) (m lc lg PP S W O lf : Addr) (n : Int) (wv : V) (N : Addr → Prop) (as : List Addr) (ps vs ovs : List V) (ts : List Tr), MA m lc lg n H → n + 10 ≤ 1000000 → H S = some (.lst vs) → H W = some (.lst []) → StT K N C PP O as ps vs ts ovs H → ovs.length = 15 → ts.length ≤ 9 →
      (∀ t ∈ ts, okP t = true ∧ rowB t ≤ 1000 ∧ okTx t) → (PP ≠ m ∧ PP ≠ lg ∧ PP ≠ S ∧ PP ≠ W) → (O ≠ m ∧ O ≠ lg ∧ O ≠ S ∧ O ≠ W) → (∀ b, N b → b ≠ m ∧ b ≠ lg ∧ b ≠ S ∧ b ≠ W) → (S ≠ m ∧ S ≠ lg ∧ S ≠ lc ∧ S ≠ W) → (W ≠ m ∧ W ≠ lg ∧ W ≠ lc) →
      (∀ (H' : Hp) (n' : Int) (xs : List V) (pis : List PI) (ws : List Nat) (v7 v8 : Option V), MA m lc lg n' H' → n ≤ n' → n' ≤ n + 5 → RR m lg S W H H' → KpO H H' → H' S = some (.lst xs) → H' W = some (.lst (ws.map fun k => V.int ((k : Nat) : Int))) → WR vs ts xs pis ws → Paired (PIN K N C H') xs pis → StT K N C PP O as ps vs ts ovs H' → Z.nx [some (.ref m), some wv, some (.ref PP), some (.ref S), some (.ref lf), some (.ref O), some (.ref W), v7, v8, none, none, none, none] H') → t Z [some (.ref m), some wv, some (.ref PP), some (.ref S), some (.ref lf), some (.ref O), some (.ref W), none, none, none, none, none, none] H := by
  have hr13 : Room 13 _ := hr
  have hr12 : Room 12 _ := hr.mono (by decide)
  have hr11 : Room 11 _ := hr.mono (by decide)
  have hr8 : Room 8 _ := hr.mono (by decide)
  have hr6 : Room 6 _ := hr.mono (by decide)
  have hr5 : Room 5 _ := hr.mono (by decide)
  have hr3 : Room 3 _ := hr.mono (by decide)
  have hr2 : Room 2 _ := hr.mono (by decide)
  have hr1 : Room 1 _ := hr.mono (by decide)
  have big : (1000000 : Nat) < sizeLine := by decide
  refine ⟨_, (ps_for PassesOwn.never rfl (pi_range1 rfl gR (pa_cons (pe_call TR.GD hr2 rfl TR.AD.g TR.AD.k TR.AD.b .nil pass0 (pa_cons (pv 0) (pa_cons pe_int pa_nil))) pa_nil)) (pg_name (i := 7) scTR.nd rfl (.inl rfl)) (pss_one (ps_if (pt_cmpR (op_neNil hr.units0) (pv 3) (pe_lst pa_nil) (nomark _)) (pss_cons (ps_set (i := 8) scTR.nd rfl (Or.inl rfl) (pe_call TR.GD hr2 rfl TR.AD.g TR.AD.k TR.AD.b .nil pass0 (pa_cons (pv 0) (pa_cons (pe_callB call_len_seq (by rfl) gLen PySem.boot_len (pa_cons (pv 3) pa_nil)) pa_nil)))) (pss_cons (ps_asg (pe_ix ix_list (pv 5) (pe_call TR.GD hr2 rfl TR.AD.g TR.AD.k TR.AD.b .nil pass0 (pa_cons (pv 0) (pa_cons pe_int pa_nil))) (fun _ _ => rfl)) (pg_sub (pv 3) (pv 8) set_list)) (pss_one (ps_expr (pe_bm PySem.F.plainAttrs_list PySem.F.slot_list_append PySem.F.type_list_append mt_append (pv 6) (pa_cons (pv 8) pa_nil)))))) pss_nil))), ?_⟩
  rintro Z H m lc lg PP S W O lf n wv N as ps vs ovs ts M hn hS hW st hol tl hg nP nO hN nS nW k
  have vl : vs.length = ts.length := pts_len st.pt
  refine ⟨_, rfl, m, lc, lg, n, 3, rfl, M, by omega, by decide, by decide, fun H1 w0 d0 dl M1 e1 => ?_⟩
  obtain ⟨r, rfl⟩ : ∃ r : Nat, w0 = (r : Int) := ⟨w0.toNat, by omega⟩
  have D1 : DD m lg H H1 := e1
  have R1 : RR m lg S W H H1 := RR.dd D1
  have K1 : KpO H H1 := D1.kpo M
  have hS1 := D1 S _ nS.1 nS.2.1 hS
  have hW1 := D1 W _ nW.1 nW.2.1 hW
  have st1 := st.rr R1 (RR.kpN hN R1) K1 nP nO
  have pin0 : Paired (PIN K N C H1) vs (ts.map PI.good) := by
    have go : ∀ {vs : List V} {ts : List Tr}, PtsAt C H1 vs ts → (∀ t ∈ ts, okP t = true ∧ rowB t ≤ 1000 ∧ okTx t) → Paired (PIN K N C H1) vs (ts.map PI.good) := fun {vs} => by
      induction vs with
      | nil =>
        intro ts h _
        match ts, h with
        | [], _ => exact .nil
      | cons x xs ih =>
        intro ts h g
        match ts, h with
        | t :: ts, h => exact .cons ⟨h.1, g t (List.mem_cons_self ..)⟩ (ih h.2 fun u m => g u (List.mem_cons_of_mem _ m))
    exact go st1.pt hg
  refine ⟨_, rfl, by omega, by omega, for_range (lo := 0) (n := r) (fun i σ H' => ∃ (xs : List V) (pis : List PI) (ws : List Nat) (n' : Int) (v7 v8 : Option V), σ = [some (.ref m), some wv, some (.ref PP), some (.ref S), some (.ref lf), some (.ref O), some (.ref W), v7, v8, none, none, none, none] ∧ MA m lc lg n' H' ∧ n + 1 ≤ n' ∧ n' ≤ n + 1 + 2 * (i : Int) ∧ RR m lg S W H H' ∧ KpO H H' ∧ H' S = some (.lst xs) ∧ H' W = some (.lst (ws.map fun k => V.int ((k : Nat) : Int))) ∧ ws.length ≤ i ∧ WR vs ts xs pis ws ∧ Paired (PIN K N C H') xs pis ∧ StT K N C PP O as ps vs ts ovs H')
    ⟨vs, _, [], n + 1, _, _, rfl, M1, by omega, by omega, R1, K1, hS1, hW1, Nat.le_refl _, WR.start vl, pin0, st1⟩ ?_ ?_⟩
  · rintro i σ H2 hi ⟨xs, pis, ws, n', v7, v8, rfl, M2, q1, q2, R2, K2, hS2, hW2, wl, wr, pin, st2⟩
    refine ⟨_, rfl, Nat.zero_le _, fun e he => ?_⟩
    have s3 : Same H2 (upd H2 e (.lst [])) := same_upd (Same.refl H2) he
    have v3 : (upd H2 e (.lst [])) e = some (.lst []) := upd_same
    generalize upd H2 e (.lst []) = H3 at s3 v3 ⊢
    have M3 := M2.same s3
    have R3 := R2.trans (RR.same s3)
    have K3 := K2.trans (KpO.same s3)
    have hS3 := s3 _ _ hS2
    have hW3 := s3 _ _ hW2
    have st3 := st2.rr (RR.same s3) (KpN.same s3) (KpO.same s3) nP nO
    have pin3 := Paired.mapP pin fun a b q => PIN.kp (KpN.same s3) (KpO.same s3) q
    refine ⟨S, e, xs, rfl, rfl, hS3, v3, _, rfl, ?_⟩
    cases hxs : xs.isEmpty with
    | true =>
      refine iteF ?_
      exact ⟨xs, pis, ws, n', some (.int (0 + (i : Int))), v8, rfl, M3, q1, by omega, R3, K3, hS3, hW3, by omega, wr, pin3, st3⟩
    | false =>
      refine iteT ?_
      have xl := wr.lx
      have xpos : 0 < xs.length := by
        cases xs with
        | nil => cases hxs
        | cons _ _ => exact Nat.succ_pos _
      refine ⟨_, rfl, _, rfl, S, xs, rfl, .inl (SqL.of hS3), m, lc, lg, n', ((xs.length : Nat) : Int), rfl, M3, by omega, by omega, by omega, fun H4 w1 p0 p1 M4 e4 => ?_⟩
      obtain ⟨j, rfl⟩ : ∃ j : Nat, w1 = (j : Int) := ⟨w1.toNat, by omega⟩
      have D4 : DD m lg H3 H4 := e4
      refine ⟨_, rfl, _, rfl, m, lc, lg, n' + 1, 15, rfl, M4, by omega, by decide, by decide, fun H5 w2 p2 p3 M5 e5 => ?_⟩
      obtain ⟨j2, rfl⟩ : ∃ j : Nat, w2 = (j : Int) := ⟨w2.toNat, by omega⟩
      have D5 : DD m lg H3 H5 := D4.trans e5
      have R5 := RR.dd (S := S) (W := W) D5
      have K5 : KpO H3 H5 := D5.kpo M3
      have st5 := st3.rr R5 (RR.kpN hN R5) K5 nP nO
      have pin5 := Paired.mapP pin3 fun a b q => PIN.kp (RR.kpN hN R5) K5 q
      have hS5 := D5 S _ nS.1 nS.2.1 hS3
      have hW5 := D5 W _ nW.1 nW.2.1 hW3
      have jo : j2 < ovs.length := by rw [hol]; omega
      have ev : ovs[j2]? = some ovs[j2] := List.getElem?_eq_getElem jo
      have bv : BadN K N C H5 ovs[j2] := st5.bad _ (List.getElem_mem jo)
      generalize ovs[j2] = v at ev bv
      have jl : j < xs.length := by omega
      refine ⟨O, ovs, _, v, rfl, rfl, SqL.of st5.hO, atI_nat (j := j2) ev, ?_⟩
      refine ⟨_, rfl, _, rfl, S, xs, _, j, rfl, rfl, hS5, ixN_n jl, ?_⟩
      have R6 : RR m lg S W H5 (upd H5 S (.lst (xs.set j v))) := RR.s
      have K6 : KpO H5 (upd H5 S (.lst (xs.set j v))) := R6.kpo M5 hS5 hW5
      have M6 : MA m lc lg (n' + 1 + 1) (upd H5 S (.lst (xs.set j v))) := M5.offL nS.1 nS.2.1 nS.2.2.1
      have hS6 : (upd H5 S (.lst (xs.set j v))) S = some (.lst (xs.set j v)) := upd_same
      have hW6 : (upd H5 S (.lst (xs.set j v))) W = some (.lst (ws.map fun k => V.int ((k : Nat) : Int))) := by rw [upd_ne (Ne.symm nS.2.2.2)]; exact hW5
      generalize upd H5 S (.lst (xs.set j v)) = H6 at R6 K6 M6 hS6 hW6 ⊢
      refine ⟨_, rfl, .inl ⟨rfl, _, SqL.of hW6⟩, _, rfl, W, _, _, rfl, rfl, hW6, by rw [List.length_map]; omega, ?_⟩
      have R7 : RR m lg S W H6 (upd H6 W (.lst ((ws.map fun k => V.int ((k : Nat) : Int)) ++ [V.int (j : Int)]))) := RR.w
      have K7 := R7.kpo M6 hS6 hW6
      have M7 : MA m lc lg (n' + 1 + 1) (upd H6 W (.lst ((ws.map fun k => V.int ((k : Nat) : Int)) ++ [V.int (j : Int)]))) := M6.offL nW.1 nW.2.1 nW.2.2
      have hS7 : (upd H6 W (.lst ((ws.map fun k => V.int ((k : Nat) : Int)) ++ [V.int (j : Int)]))) S = some (.lst (xs.set j v)) := by rw [upd_ne nS.2.2.2]; exact hS6
      have hW7 : (upd H6 W (.lst ((ws.map fun k => V.int ((k : Nat) : Int)) ++ [V.int (j : Int)]))) W = some (.lst ((ws ++ [j]).map fun k => V.int ((k : Nat) : Int))) := by rw [upd_same, List.map_append]; rfl
      generalize upd H6 W (.lst ((ws.map fun k => V.int ((k : Nat) : Int)) ++ [V.int (j : Int)])) = H7 at R7 K7 M7 hS7 hW7 ⊢
      have R67 := R6.trans R7
      have K67 := K6.trans K7
      have kN67 : KpN N H5 H7 := RR.kpN hN R67
      have bv7 := bv.kp kN67 K67
      have pin7 : Paired (PIN K N C H7) (xs.set j v) (pis.set j .bad) := by
        have go : ∀ {xs : List V} {pis : List PI} (j : Nat), Paired (PIN K N C H5) xs pis → Paired (PIN K N C H7) (xs.set j v) (pis.set j .bad) := fun {xs} => by
          induction xs with
          | nil =>
            intro pis j h
            cases h
            exact .nil
          | cons x xs ih =>
            intro pis j h
            cases h with
            | cons h1 h2 =>
              cases j with
              | zero => exact .cons bv7 (Paired.mapP h2 fun a b q => PIN.kp kN67 K67 q)
              | succ j => exact .cons (PIN.kp kN67 K67 h1) (ih j h2)
        exact go j pin5
      exact ⟨xs.set j v, pis.set j .bad, ws ++ [j], n' + 1 + 1, some (.int (0 + (i : Int))), some (.int (j : Int)), rfl, M7, by omega, by omega, (R3.trans R5).trans R67, (K3.trans K5).trans K67, hS7, hW7, by rw [List.length_append]; show ws.length + 1 ≤ i + 1; omega, wr.step (by omega) v, pin7, st5.rr R67 kN67 K67 nP nO⟩
  · rintro σ H2 ⟨xs, pis, ws, n', v7, v8, rfl, M2, q1, q2, R2, K2, hS2, hW2, wl, wr, pin, st2⟩
    exact k H2 n' xs pis ws v7 v8 M2 (by omega) (by omega) R2 K2 hS2 hW2 wr pin st2
theorem tr8 (TR : TxtTR P w K mg base C CI a) (hr : Room 13 (A.deeper (PyProof.Rows.envOfC "_law_tree_right" (defScope sTreeRight) s.heap.objs.size f (.ref c)))) (gR : mg "range" = none) (gTup : mg "tuple" = none) (gLen : mg "len" = none)  :
    ∃ t : TS, PS (cxOf CX0 P w K mg base NTR "_law_tree_right" (defScope sTreeRight) f (.ref c) A outer s H0 E).nox (stTR 7) t ∧ ∀ (Z : Ends) (H : Hp) (σ : L2.St) (wv : V), σ[1]? = some (some wv) → Val K H wv → (∀ (H' : Hp) (p : Addr), Same H H' → H' p = some (.tup (lawK (nameV wv) []).val) → Z.nx (σ.set 9 (some (.ref p))) H') → t Z σ H := by
  have hr13 : Room 13 _ := hr
  have hr12 : Room 12 _ := hr.mono (by decide)
  have hr11 : Room 11 _ := hr.mono (by decide)
  have hr8 : Room 8 _ := hr.mono (by decide)
  have hr6 : Room 6 _ := hr.mono (by decide)
  have hr5 : Room 5 _ := hr.mono (by decide)
  have hr3 : Room 3 _ := hr.mono (by decide)
  have hr2 : Room 2 _ := hr.mono (by decide)
  have hr1 : Room 1 _ := hr.mono (by decide)
  have big : (1000000 : Nat) < sizeLine := by decide
  refine ⟨_, (ps_set (i := 9) scTR.nd rfl (Or.inl rfl) (pe_ifExp (pt_not (pt_val (pe_call TR.GNm hr1 rfl TR.ANm.g TR.ANm.k TR.ANm.b .nil pass0 (pa_cons (pv 1) pa_nil)))) (pe_tup (pa_cons pe_str (pa_cons pe_str pa_nil))) (pe_tup pa_nil))), ?_⟩
  rintro Z H σ wv h1 hv k
  refine ⟨_, h1, wv, rfl, hv, fun H1 s1 => ⟨_, rfl, ?_⟩⟩
  cases hn : nameV wv with
  | false =>
    rw [hn] at k
    refine iteT ?_
    exact ⟨by show 2 ≤ sizeLine; omega, fun p np => k _ p (same_upd s1 (s1.free np)) upd_same⟩
  | true =>
    rw [hn] at k
    refine iteF ?_
    exact ⟨Nat.zero_le _, fun p np => k _ p (same_upd s1 (s1.free np)) upd_same⟩
theorem tr9 (TR : TxtTR P w K mg base C CI a) (hr : Room 13 (A.deeper (PyProof.Rows.envOfC "_law_tree_right" (defScope sTreeRight) s.heap.objs.size f (.ref c)))) (gR : mg "range" = none) (gTup : mg "tuple" = none) (gLen : mg "len" = none)  :
    ∃ t : TS, PS (cxOf CX0 P w K mg base NTR "_law_tree_right" (defScope sTreeRight) f (.ref c) A outer s H0 E).nox (stTR 8) t ∧ ∀ (Z : Ends) (H : Hp) (m PP S W O lf p : Addr) (wv : V) (v7 v8 : Option V) (nm : Bool) (vs xs : List V) (ts : List Tr) (pis : List PI) (ws : List Nat), H S = some (.lst xs) → H W = some (.lst (ws.map fun k => V.int ((k : Nat) : Int))) → WR vs ts xs pis ws → xs.length ≤ 1000 → H p = some (.tup (lawK nm []).val) →
      (∀ (H' : Hp) (p' : Addr) (v8' : Option V), Same H H' → H' p' = some (.tup (lawK nm pis).val) → Z.nx [some (.ref m), some wv, some (.ref PP), some (.ref S), some (.ref lf), some (.ref O), some (.ref W), v7, v8', some (.ref p'), none, none, none] H') → t Z [some (.ref m), some wv, some (.ref PP), some (.ref S), some (.ref lf), some (.ref O), some (.ref W), v7, v8, some (.ref p), none, none, none] H := by
  have hr13 : Room 13 _ := hr
  have hr12 : Room 12 _ := hr.mono (by decide)
  have hr11 : Room 11 _ := hr.mono (by decide)
  have hr8 : Room 8 _ := hr.mono (by decide)
  have hr6 : Room 6 _ := hr.mono (by decide)
  have hr5 : Room 5 _ := hr.mono (by decide)
  have hr3 : Room 3 _ := hr.mono (by decide)
  have hr2 : Room 2 _ := hr.mono (by decide)
  have hr1 : Room 1 _ := hr.mono (by decide)
  have big : (1000000 : Nat) < sizeLine := by decide
  refine ⟨_, (ps_for PassesOwn.never rfl (pi_range1 rfl gR (pa_cons (pe_callB call_len_seq (by rfl) gLen PySem.boot_len (pa_cons (pv 3) pa_nil)) pa_nil)) (pg_name (i := 8) scTR.nd rfl (.inl rfl)) (pss_one (ps_set (i := 9) scTR.nd rfl (Or.inl rfl) (pe_ifExp (PW.pt (pw_and (pt_cmpR (op_eqD hr.units) (pv 9) (pe_tup pa_nil) (nomark _)) (pw_and1 (pt_cmpR op_in_seq (pv 8) (pv 6) (by rfl))))) (pe_tup (pa_cons pe_str (pa_cons (pv 8) pa_nil))) (pv 9))))), ?_⟩
  rintro Z H m PP S W O lf p wv v7 v8 nm vs xs ts pis ws hS hW wr hxl hp k
  have pl : pis.length = xs.length := by rw [wr.lp, wr.lx]
  refine ⟨_, rfl, S, xs, rfl, .inl (SqL.of hS), _, rfl, by omega, by omega, for_range (lo := 0) (n := xs.length) (fun i σ H' => ∃ (p' : Addr) (v8' : Option V), σ = [some (.ref m), some wv, some (.ref PP), some (.ref S), some (.ref lf), some (.ref O), some (.ref W), v7, v8', some (.ref p'), none, none, none] ∧ Same H H' ∧ H' p' = some (.tup (lawK nm (pis.take i)).val))
    ⟨p, v8, rfl, Same.refl H, hp⟩ ?_ ?_⟩
  · rintro i σ H1 hi ⟨p', v8', rfl, s1, hp1⟩
    have ip : i < pis.length := by omega
    have ei : pis[i]? = some pis[i] := List.getElem?_eq_getElem ip
    have step := lawK_step (nm := nm) (pis := pis.take i) (p := pis[i]) (i := i) (by rw [List.length_take]; omega)
    rw [show pis.take i ++ [pis[i]] = pis.take (i + 1) by rw [List.take_add_one, ei]; rfl] at step
    have eb := wr.isBad ei
    generalize pis[i] = pi at step eb
    generalize lawK nm (pis.take i) = kk at hp1 step
    have e0 : (0 : Int) + (i : Int) = ((i : Nat) : Int) := by omega
    rw [e0]
    refine ⟨_, rfl, Nat.zero_le _, fun e he => ?_⟩
    have s2 : Same H1 (upd H1 e (.tup [])) := same_upd (Same.refl H1) he
    have v2 : (upd H1 e (.tup [])) e = some (.tup []) := upd_same
    generalize upd H1 e (.tup []) = H2 at s2 v2 ⊢
    have s02 := s1.trans s2
    refine ⟨_, _, DK.dp (s2 _ _ hp1), .tup (SqT.of v2) .nil, kk.sh, rfl, _, rfl, ?_⟩
    rw [DK.eqv]
    cases hk : kk.isOk with
    | false =>
      refine iteF ?_
      rw [hk] at step
      refine ⟨_, rfl, p', _, rfl, s02, ?_⟩
      rw [step]
      exact s2 _ _ hp1
    | true =>
      refine iteT ?_
      rw [hk] at step
      have fl : ∀ ws : List Nat, (ws.map fun k => V.int ((k : Nat) : Int)).all flatV = true := fun ws => by
        induction ws with
        | nil => rfl
        | cons a ws ih => exact ih
      refine ⟨_, rfl, _, rfl, W, _, rfl, .inl (SqL.of (s02 _ _ hW)), rfl, fl ws, _, rfl, ?_⟩
      rw [if_neg Bool.false_ne_true, inV_mem]
      refine ite2 (fun h => ?_) (fun h => ?_)
      · have hb : pi = .bad := eb.mpr (of_decide_eq_true h)
        rw [hb] at step
        refine ⟨_, rfl, by show 2 ≤ sizeLine; omega, fun q nq => ⟨q, _, rfl, same_upd s02 (s02.free nq), ?_⟩⟩
        rw [step, upd_same]
        rfl
      · have hb : ¬ pi = .bad := fun z => h (decide_eq_true (eb.mp z))
        have hb2 : pi.isB = false := by
          cases z : pi.isB with
          | false => rfl
          | true => exact absurd (PI.isB_iff.mp z) hb
        rw [hb2] at step
        refine ⟨_, rfl, p', _, rfl, s02, ?_⟩
        rw [step]
        exact s2 _ _ hp1
  · rintro σ H1 ⟨p', v8', rfl, s1, hp1⟩
    rw [← pl, List.take_length] at hp1
    exact k H1 p' v8' s1 hp1
end
end K3

namespace K3
open PySem L2 E0
open LamX (ExtN Tabs TabS TabB LamS lamS_by lamSB)
section
variable {P : Program} {w : World} {K : PySem.W.Frag} {mg : Str → Option Value} {base : Heap} {C : Cl5} {CI f c : Addr} {a : AdT} {A : Around} {outer : List Env} {s : Shared} {H0 : Hp} {E : XK}
theorem tr10 (TR : TxtTR P w K mg base C CI a) (hr : Room 13 (A.deeper (PyProof.Rows.envOfC "_law_tree_right" (defScope sTreeRight) s.heap.objs.size f (.ref c)))) (gR : mg "range" = none) (gTup : mg "tuple" = none) (gLen : mg "len" = none)  :
    ∃ t : TS, PS (cxOf CX0 P w K mg base NTR "_law_tree_right" (defScope sTreeRight) f (.ref c) A outer s H0 E).nox (stTR 9) t ∧ ∀ (Z : Ends) (H : Hp) (σ : L2.St) (D : Addr) (wv : V) (as : List Addr) (ps vs : List V), σ.length = 13 → σ[1]? = some (some wv) → σ[2]? = some (some (.ref D)) → H D = some (.lst (as.map V.ref)) → ps.length = as.length → as.length ≤ 1000 → (∀ (i : Nat) (a : Addr), as[i]? = some a → ∃ p v, ps[i]? = some p ∧ vs[i]? = some v ∧ H a = some (.tup [p, v])) →
      (∀ (H' : Hp) (pl : Addr), Same H H' → H pl = none → H' pl = some (.tup (wv :: ps)) → Z.nx (σ.set 10 (some (.ref pl))) H') → t Z σ H := by
  have hr13 : Room 13 _ := hr
  have hr12 : Room 12 _ := hr.mono (by decide)
  have hr11 : Room 11 _ := hr.mono (by decide)
  have hr8 : Room 8 _ := hr.mono (by decide)
  have hr6 : Room 6 _ := hr.mono (by decide)
  have hr5 : Room 5 _ := hr.mono (by decide)
  have hr3 : Room 3 _ := hr.mono (by decide)
  have hr2 : Room 2 _ := hr.mono (by decide)
  have hr1 : Room 1 _ := hr.mono (by decide)
  have big : (1000000 : Nat) < sizeLine := by decide
  refine ⟨_, (ps_set (i := 10) scTR.nd rfl (Or.inl rfl) (pe_callTy call_tuple_of (by rfl) gTup PyProof.Rows.boot_tuple (pa_cons (pe_op op_cat (pe_lst (pa_cons (pv 1) pa_nil)) (pe_lc (own := [("_law_pair", 12)]) (g := gName 12) (tt := tYes) (te := tOp (rIxT K) (tVar 12) (tC (.int 0))) rfl scTR.nd (pi_list (pv 2)) (blkOk_by (N := NTR) (sc := defScope sTreeRight) (by decide +kernel)) (fun _ _ _ _ _ => pg_name (i := 12) scTR.nd rfl (Or.inl rfl)) (fun _ _ _ _ _ => pts_nil) (fun _ _ _ _ _ => (pe_ix ix_tup (pv 12) pe_int (fun _ _ => rfl))))) pa_nil))), ?_⟩
  rintro Z H σ D wv as ps vs hσ h1 h2 hD hl hl2 hp k
  refine ⟨_, h1, by show 1 ≤ sizeLine; omega, fun b0 hb0 => ?_⟩
  have s1 : Same H (upd H b0 (.lst [wv])) := same_upd (Same.refl H) hb0
  have v1 : (upd H b0 (.lst [wv])) b0 = some (.lst [wv]) := upd_same
  generalize upd H b0 (.lst [wv]) = H1 at s1 v1 ⊢
  refine lc_at (K := K) (i := 2) (s := 12) (j := 0) (xs := as.map V.ref) (out := ps) h2 (s1 _ _ hD) (by rw [hσ]; decide) (fun i x hx => ?_) (by rw [List.length_map]; exact hl) (by rw [List.length_map]; omega) fun H2 L s2 n2 h2 => ?_
  · rw [List.getElem?_map] at hx
    cases ha : as[i]? with
    | none => rw [ha] at hx; cases hx
    | some a =>
      rw [ha] at hx
      obtain ⟨p, v, g1, g2, g3⟩ := hp i a ha
      exact ⟨a, [p, v], p, (Option.some.inj hx).symm, s1 _ _ g3, rfl, g1⟩
  refine ⟨b0, L, [wv], ps, rfl, rfl, s2 _ _ v1, h2, by show 1 + ps.length ≤ sizeLine; omega, fun q hq => ?_⟩
  have s3 : Same H2 (upd H2 q (.lst ([wv] ++ ps))) := same_upd (Same.refl H2) hq
  have v3 : (upd H2 q (.lst ([wv] ++ ps))) q = some (.lst (wv :: ps)) := upd_same
  generalize upd H2 q (.lst ([wv] ++ ps)) = H3 at s3 v3 ⊢
  have s03 := s1.trans (s2.trans s3)
  exact ⟨q, _, rfl, .inl ⟨SqL.of v3, fun tp ntp => k _ tp (same_upd s03 (s03.free ntp)) (s03.free ntp) upd_same⟩⟩
end
def endK (k : DK) (n : Nat) : DK := if (k.isOk && decide (400 < n)) = true then .size else k
section
variable {P : Program} {w : World} {K : PySem.W.Frag} {mg : Str → Option Value} {base : Heap} {C : Cl5} {CI f c : Addr} {a : AdT} {A : Around} {outer : List Env} {s : Shared} {H0 : Hp} {E : XK}
theorem tr11 (TR : TxtTR P w K mg base C CI a) (hr : Room 13 (A.deeper (PyProof.Rows.envOfC "_law_tree_right" (defScope sTreeRight) s.heap.objs.size f (.ref c)))) (gR : mg "range" = none) (gTup : mg "tuple" = none) (gLen : mg "len" = none)  :
    ∃ t : TS, PS (cxOf CX0 P w K mg base NTR "_law_tree_right" (defScope sTreeRight) f (.ref c) A outer s H0 E).nox (stTR 10) t ∧ ∀ (Z : Ends) (H : Hp) (σ : L2.St) (p pl : Addr) (kk : DK) (wv : V) (ps : List V) (ts : List Tr) (N : Addr → Prop), σ.length = 13 → σ[9]? = some (some (.ref p)) → σ[10]? = some (some (.ref pl)) → H p = some (.tup kk.val) → H pl = some (.tup (wv :: ps)) → (kk.isOk = true → ∃ z, wv = .str z) → PlsAt N H ps ts → gensT ts → ts.length ≤ 9 → hts ts < 10 →
      (∀ (H' : Hp) (p' : Addr), Same H H' → H' p' = some (.tup (endK kk (1 + sizes ts)).val) → Z.nx (σ.set 9 (some (.ref p'))) H') → t Z σ H := by
  have hr13 : Room 13 _ := hr
  have hr12 : Room 12 _ := hr.mono (by decide)
  have hr11 : Room 11 _ := hr.mono (by decide)
  have hr8 : Room 8 _ := hr.mono (by decide)
  have hr6 : Room 6 _ := hr.mono (by decide)
  have hr5 : Room 5 _ := hr.mono (by decide)
  have hr3 : Room 3 _ := hr.mono (by decide)
  have hr2 : Room 2 _ := hr.mono (by decide)
  have hr1 : Room 1 _ := hr.mono (by decide)
  have big : (1000000 : Nat) < sizeLine := by decide
  refine ⟨_, (ps_if (PW.pt (pw_and (pt_cmpR (op_eqD hr.units) (pv 9) (pe_tup pa_nil) (nomark _)) (pw_and1 (pt_cmpR op_gt (pe_ix ix_tup (pe_call TR.GZ hr11 rfl TR.AZ.g TR.AZ.k TR.AZ.b .nil pass0 (pa_cons (pv 10) pa_nil)) pe_int (fun _ _ => rfl)) pe_int (nomark _))))) (pss_one (ps_set (i := 9) scTR.nd rfl (Or.inl rfl) (pe_tup (pa_cons pe_str (pa_cons pe_str pa_nil))))) pss_nil), ?_⟩
  rintro Z H σ p pl kk wv ps ts N hσ h9 h10 hp hpl hz hps hg hl hh k
  have sσ : σ.set 9 (some (.ref p)) = σ := by
    refine List.ext_getElem? fun i => ?_
    by_cases e : 9 = i
    · subst e
      rw [List.getElem?_set_self (by rw [hσ]; decide), h9]
    · rw [List.getElem?_set_ne e]
  refine ⟨_, h9, Nat.zero_le _, fun e he => ?_⟩
  have s1 : Same H (upd H e (.tup [])) := same_upd (Same.refl H) he
  have v1 : (upd H e (.tup [])) e = some (.tup []) := upd_same
  generalize upd H e (.tup []) = H1 at s1 v1 ⊢
  refine ⟨_, _, DK.dp (s1 _ _ hp), .tup (SqT.of v1) .nil, kk.sh, rfl, _, rfl, ?_⟩
  rw [DK.eqv]
  cases hk : kk.isOk with
  | false =>
    refine iteF ?_
    have e : endK kk (1 + sizes ts) = kk := by
      unfold endK
      rw [hk]
      rfl
    have q := k H1 p s1 (by rw [e]; exact s1 _ _ hp)
    rw [sσ] at q
    exact q
  | true =>
    obtain ⟨z, rfl⟩ := hz hk
    refine iteT ?_
    refine ⟨_, h10, N, pl, z, ps, ts, rfl, s1 _ _ hpl, PlsAt.kp (KpN.same s1) _ hps, hg, hl, hh, fun H2 q s2 nq hq => ?_⟩
    have s02 := s1.trans s2
    refine ⟨q, _, _, _, rfl, rfl, SqT.of hq, (atI_nat (j := 0) rfl : atI _ ((0 : Nat) : Int) = some (V.int ((1 + sizes ts : Nat) : Int))), _, _, rfl, rfl, _, rfl, ?_⟩
    refine ite2 (fun h => ?_) (fun h => ?_)
    · have h := of_decide_eq_true h
      have e : endK kk (1 + sizes ts) = .size := by
        unfold endK
        rw [hk, decide_eq_true (show 400 < 1 + sizes ts by omega)]
        rfl
      refine ⟨by show 2 ≤ sizeLine; omega, fun r nr => ?_⟩
      exact k _ r (same_upd s02 (s02.free nr)) (by rw [e, upd_same]; rfl)
    · have h : ¬ (400 : Int) < ((1 + sizes ts : Nat) : Int) := fun q => h (decide_eq_true q)
      have e : endK kk (1 + sizes ts) = kk := by
        unfold endK
        rw [hk, decide_eq_false (show ¬ 400 < 1 + sizes ts by omega)]
        rfl
      have q := k H2 p s02 (by rw [e]; exact s02 _ _ hp)
      rw [sσ] at q
      exact q
theorem tr12 (TR : TxtTR P w K mg base C CI a) (hr : Room 13 (A.deeper (PyProof.Rows.envOfC "_law_tree_right" (defScope sTreeRight) s.heap.objs.size f (.ref c)))) (gR : mg "range" = none) (gTup : mg "tuple" = none) (gLen : mg "len" = none) {CS fA Pt : Addr} {fdA : FuncData} {T : List (Addr × Str)} (FA : TxtA K mg CI CS fA fdA) (TB : TabB base mg c Pt) (hmT : (Pt, qTR) ∈ T) (hu : ∀ p ∈ T, p.1 = Pt → p.2 = qTR) :
    ∃ t : TS, PS (cxOf CX0 P w K mg base NTR "_law_tree_right" (defScope sTreeRight) f (.ref c) A outer s H0 E).nox (stTR 11) t ∧ ∀ (Z : Ends) (H : Hp) (σ : L2.St) (p S : Addr) (kk : DK) (wv : V) (xs : List V) (pis : List PI) (N : Addr → Prop), σ[1]? = some (some wv) → σ[3]? = some (some (.ref S)) → σ[9]? = some (some (.ref p)) → Tabs T H → ValB K H wv → H S = some (.lst xs) → Paired (PIN K N C H) xs pis → pis.length ≤ 9 → joinB (partsOf pis) ≤ 16000000 → H p = some (.tup kk.val) → treeDue wv pis = kk.opt →
      (∀ H', ExtN H H' → Tabs T H' → Z.nx σ H') → t Z σ H := by
  have hr13 : Room 13 _ := hr
  have hr12 : Room 12 _ := hr.mono (by decide)
  have hr11 : Room 11 _ := hr.mono (by decide)
  have hr8 : Room 8 _ := hr.mono (by decide)
  have hr6 : Room 6 _ := hr.mono (by decide)
  have hr5 : Room 5 _ := hr.mono (by decide)
  have hr3 : Room 3 _ := hr.mono (by decide)
  have hr2 : Room 2 _ := hr.mono (by decide)
  have hr1 : Room 1 _ := hr.mono (by decide)
  have big : (1000000 : Nat) < sizeLine := by decide
  refine ⟨_, (ps_if (pt_cmpR (op_neD hr.units) (pe_fault (t := (fun E => tCall (spNew K C CI) [] E (tCons (tVar 1) (tCons (tVar 3) tNil)))) (k := 6) FA rfl TB rfl hmT hu hr8 (lamS_by (sc := defScope sTreeRight) (by decide +kernel)) rfl (fun _ _ _ _ _ => rfl) (fun _ _ _ _ E _ _ hr' => (pe_call (E := E) TR.GN hr' rfl TR.AN.g TR.AN.k TR.AN.b .nil (passes_call (takes_of rfl rfl rfl rfl) (fun _ _ _ _ q => q)) (pa_cons (pv 1) (pa_cons (pv 3) pa_nil))))) (pv 9) (nomark _)) (pss_one (ps_ret pe_bl)) pss_nil), ?_⟩
  rintro Z H σ p S kk wv xs pis N h1 h3 h9 tabs hwv hS pin hl hj hp due k
  refine ⟨tabs, fun H1 e1 tb1 => fault_tree (K := K) (C := C) (n := wv) (xs := xs) (pis := pis) (fun H2 E' Q' s2 res => ?_) (fun H3 q s3 nq told => ?_)⟩
  · have e02 := e1.trans (ExtN.of s2)
    have pin2 := Paired.mapP pin fun a b q => PIN.kp (N := N) (fun b o _ z n => e02 b o z n) (KpO.ext e02) q
    exact ⟨_, h1, _, h3, wv, S, xs, pis, rfl, (hwv.ext e02).val, e02 _ _ hS fun _ => nofun, Paired.mapP pin2 fun a b q => q.at, hl, hj, res⟩
  · have e03 := e1.trans (ExtN.of s3)
    have hq := toldT_val due told
    refine ⟨_, h9, _, _, DK.dp hq, DK.dp (e03 _ _ hp fun _ => nofun), kk.sh, kk.sh, _, rfl, ?_⟩
    rw [SeqAt.eqv_refl _ (lay_of kk.sh)]
    refine iteF ?_
    exact k H3 e03 (tb1.ext s3)
theorem tr13 (TR : TxtTR P w K mg base C CI a) (hr : Room 13 (A.deeper (PyProof.Rows.envOfC "_law_tree_right" (defScope sTreeRight) s.heap.objs.size f (.ref c)))) (gR : mg "range" = none) (gTup : mg "tuple" = none) (gLen : mg "len" = none)  :
    ∃ t : TS, PS (cxOf CX0 P w K mg base NTR "_law_tree_right" (defScope sTreeRight) f (.ref c) A outer s H0 E).nox (stTR 12) t ∧ ∀ (Z : Ends) (H : Hp) (σ : L2.St) (p pl S : Addr) (kk : DK) (wv : V) (ps xs : List V) (ts : List Tr) (N : Addr → Prop), σ[1]? = some (some wv) → σ[3]? = some (some (.ref S)) → σ[9]? = some (some (.ref p)) → σ[10]? = some (some (.ref pl)) → H p = some (.tup kk.val) → H pl = some (.tup (wv :: ps)) → H S = some (.lst xs) →
      (kk.isOk = true → ∃ z, wv = .str z ∧ nameS z = true ∧ PyData.strOk z = true ∧ N pl ∧ PlsAt N H ps ts ∧ PtsAt C H xs ts ∧ gensT ts ∧ ts.length ≤ 9 ∧ sizes ts ≤ 399 ∧ levelss ts ≤ 99 ∧ wts ts ≤ 1000000 ∧ hts ts ≤ 8) →
      (∀ H', Same H H' → Z.rt (.bl true) H') → t Z σ H := by
  have hr13 : Room 13 _ := hr
  have hr12 : Room 12 _ := hr.mono (by decide)
  have hr11 : Room 11 _ := hr.mono (by decide)
  have hr8 : Room 8 _ := hr.mono (by decide)
  have hr6 : Room 6 _ := hr.mono (by decide)
  have hr5 : Room 5 _ := hr.mono (by decide)
  have hr3 : Room 3 _ := hr.mono (by decide)
  have hr2 : Room 2 _ := hr.mono (by decide)
  have hr1 : Room 1 _ := hr.mono (by decide)
  have big : (1000000 : Nat) < sizeLine := by decide
  refine ⟨_, (ps_ret (pe_or (pe_cmpR (op_neD hr.units) (pv 9) (pe_tup pa_nil) (nomark _)) (pe_one (pe_call TR.GRd hr12 rfl TR.ARd.g TR.ARd.k TR.ARd.b .nil pass0 (pa_cons (pv 10) (pa_cons (pe_call (E := E0) TR.GN hr6 rfl TR.AN.g TR.AN.k TR.AN.b .nil passL (pa_cons (pv 1) (pa_cons (pv 3) pa_nil))) (pa_cons (pv 3) pa_nil))))))), ?_⟩
  rintro Z H σ p pl S kk wv ps xs ts N h1 h3 h9 h10 hp hpl hS hok k
  refine ⟨_, h9, Nat.zero_le _, fun e he => ?_⟩
  have s1 : Same H (upd H e (.tup [])) := same_upd (Same.refl H) he
  have v1 : (upd H e (.tup [])) e = some (.tup []) := upd_same
  generalize upd H e (.tup []) = H1 at s1 v1 ⊢
  refine ⟨_, _, DK.dp (s1 _ _ hp), .tup (SqT.of v1) .nil, kk.sh, rfl, _, rfl, ?_⟩
  rw [DK.eqv]
  cases hk : kk.isOk with
  | false =>
    refine iteT ?_
    exact k H1 s1
  | true =>
    refine iteF ?_
    obtain ⟨z, rfl, hz, hzo, hNp, hps, hpt, hg, hl, hs, hv, hw, hh⟩ := hok hk
    have okg : ∀ t ∈ ts, genT t ∧ wt t ≤ 16000000 := fun t m => ⟨gens_mem hg m, by have := wts_mem m; omega⟩
    refine ⟨_, h10, _, h1, _, h3, .str z, S, xs, ts.map PI.good, rfl, val_nm hz hzo, s1 _ _ hS, gen_pi (PtsAt.kpo (KpO.same s1) _ hpt) okg, by rw [List.length_map]; exact hl, ?_, ?_⟩
    · rw [parts_good]
      have := joinB_wt hg
      omega
    · unfold TreeRes
      rw [tree_none hz (by omega) (by omega)]
      intro H2 x z' ez' s2 nx pt hpp
      cases ez'
      rw [parts_good] at pt
      have s02 := s1.trans s2
      exact ⟨_, h3, N, pl, x, S, z, ps, xs, ts, rfl, s02 _ _ hpl, hNp, PlsAt.kp (KpN.same s02) _ hps, pt, hpp, s02 _ _ hS, hz, hzo, hg, hl, hs, hv, hw, hh, fun H3 s3 => k H3 (s02.trans s3)⟩
end
end K3

namespace K3
open PySem L2 E0
open LamX (ExtN Tabs TabS TabB LamS lamS_by lamSB)
section
variable {P : Program} {w : World} {K : PySem.W.Frag} {mg : Str → Option Value} {base : Heap}
theorem wts_all {w : Nat} {ts : List Tr} (h : ∀ t ∈ ts, wt t ≤ w) : wts ts ≤ ts.length * (w + 2) := wts_le h
def spTreeRight (K : PySem.W.Frag) (T : List (Addr × Str)) : Sp := fun vs H Q _ => ∃ (m lc lg : Addr) (n : Int) (wv : V), vs = [.ref m, wv] ∧ MA m lc lg n H ∧ n + 20000 ≤ 1000000 ∧ OkV K m lg H wv ∧ Tabs T H ∧
  ∀ H' n', FD m lg H H' → MA m lc lg n' H' → n ≤ n' → n' ≤ n + 20000 → Tabs T H' → Q (.bl true) H'
theorem lawK_some {pis : List PI} {j : Nat} (h : firstBad 0 pis = some j) : lawK true pis = .at j := by
  unfold lawK
  rw [if_neg (by decide), h]
theorem lawK_none {pis : List PI} (h : firstBad 0 pis = none) : lawK true pis = .ok := by
  unfold lawK
  rw [if_neg (by decide), h]
theorem tabs_dd {T : List (Addr × Str)} {m lc lg : Addr} {n : Int} {H H' : Hp} (t : Tabs T H) (M : MA m lc lg n H) (e : DD m lg H H') : Tabs T H' := tabs_draw t M e
theorem ok_treeRight {C : Cl5} {CI CS fA f c Pt : Addr} {fd fdA : FuncData} {a : AdT} {T : List (Addr × Str)} (F : FunC K "_law_tree_right" "_law_tree_right" sTreeRight f fd c) (TR : TxtTR P w K mg base C CI a) (FA : TxtA K mg CI CS fA fdA) (TB : TabB base mg c Pt) (hmT : (Pt, qTR) ∈ T) (hu : ∀ p ∈ T, p.1 = Pt → p.2 = qTR)
    (gR : mg "range" = none) (gTup : mg "tuple" = none) (gLen : mg "len" = none) : FnOk P w K mg base CX0 14 f fd ["_law_m", "_law_word"] (spTreeRight K T) := by
  refine F.ok scTR (fun vs H Q E h => ?_) (fun A outer s H vs Q E hr h => ?_)
  · obtain ⟨m, lc, lg, n, wv, rfl, _⟩ := h
    rfl
  · obtain ⟨m, lc, lg, n, wv, rfl, M, hn, hwv, tabs, k⟩ := h
    obtain ⟨t1, p1, r1⟩ := tr1 (P := P) (w := w) (mg := mg) (base := base) (A := A) (outer := outer) (s := s) (H0 := H) (E := E) TR hr gR gTup gLen
    obtain ⟨t2, p2, r2⟩ := tr2 (P := P) (w := w) (mg := mg) (base := base) (A := A) (outer := outer) (s := s) (H0 := H) (E := E) TR hr gR gTup gLen
    obtain ⟨t3, p3, r3⟩ := tr3 (P := P) (w := w) (mg := mg) (base := base) (A := A) (outer := outer) (s := s) (H0 := H) (E := E) TR hr gR gTup gLen
    obtain ⟨t4, p4, r4⟩ := tr4 (P := P) (w := w) (mg := mg) (base := base) (A := A) (outer := outer) (s := s) (H0 := H) (E := E) TR hr gR gTup gLen
    obtain ⟨t5, p5, r5⟩ := tr5 (P := P) (w := w) (mg := mg) (base := base) (A := A) (outer := outer) (s := s) (H0 := H) (E := E) TR hr gR gTup gLen
    obtain ⟨t6, p6, r6⟩ := tr6 (P := P) (w := w) (mg := mg) (base := base) (A := A) (outer := outer) (s := s) (H0 := H) (E := E) TR hr gR gTup gLen
    obtain ⟨t7, p7, r7⟩ := tr7 (P := P) (w := w) (mg := mg) (base := base) (A := A) (outer := outer) (s := s) (H0 := H) (E := E) TR hr gR gTup gLen
    obtain ⟨t8, p8, r8⟩ := tr8 (P := P) (w := w) (mg := mg) (base := base) (A := A) (outer := outer) (s := s) (H0 := H) (E := E) TR hr gR gTup gLen
    obtain ⟨t9, p9, r9⟩ := tr9 (P := P) (w := w) (mg := mg) (base := base) (A := A) (outer := outer) (s := s) (H0 := H) (E := E) TR hr gR gTup gLen
    obtain ⟨t10, p10, r10⟩ := tr10 (P := P) (w := w) (mg := mg) (base := base) (A := A) (outer := outer) (s := s) (H0 := H) (E := E) TR hr gR gTup gLen
    obtain ⟨t11, p11, r11⟩ := tr11 (P := P) (w := w) (mg := mg) (base := base) (A := A) (outer := outer) (s := s) (H0 := H) (E := E) TR hr gR gTup gLen
    obtain ⟨t12, p12, r12⟩ := tr12 (P := P) (w := w) (mg := mg) (base := base) (A := A) (outer := outer) (s := s) (H0 := H) (E := E) TR hr gR gTup gLen FA TB hmT hu
    obtain ⟨t13, p13, r13⟩ := tr13 (P := P) (w := w) (mg := mg) (base := base) (A := A) (outer := outer) (s := s) (H0 := H) (E := E) TR hr gR gTup gLen
    refine ⟨_, pss_cons p1 (pss_cons p2 (pss_cons p3 (pss_cons p4 (pss_cons p5 (pss_cons p6 (pss_cons p7 (pss_cons p8 (pss_cons p9 (pss_cons p10 (pss_cons p11 (pss_cons p12 (pss_one p13)))))))))))), ?_⟩
    refine r1 _ H m lc lg n wv M hn fun H3 D as ps vs ts n3 dd3 nD M3 q1 q2 hD f2 f5 f6 f7 pl3 pt3 fit tl => ?_
    have nDl := M.nl nD
    refine r2 _ H3 m D wv as ps vs hD (by omega) (by omega) f7 fun H4 S s4 nS4 hS4 => ?_
    refine r3 _ H4 _ fun H5 lf s5 plf5 => ?_
    refine r4 _ H5 _ lf rfl plf5 fun H6 o1 ov1 s6 no1 ho1 hl1 bad1 => ?_
    refine r5 _ H6 _ lf o1 ov1 (New H5) rfl rfl (PtAt.kpo (KpO.same s6) _ plf5) ho1 hl1 (fun b h => s6.free h) bad1 fun H7 O ovs s7 nO hO hl7 bad7 => ?_
    refine r6 _ H7 _ fun H8 W s8 nW hW => ?_
    -- what is where
    have s37 : Same H3 H7 := s4.trans (s5.trans (s6.trans s7))
    have s38 := s37.trans s8
    have M8 := M3.same s38
    have nS3 : H3 S = none := nS4
    have nS := M3.nl nS3
    have nW3 : H3 W = none := s37.free nW
    have nWl := M3.nl nW3
    have nO3 : H3 O = none := ((s4.trans (s5.trans s6)).free nO)
    have nOl := M3.nl nO3
    have nS0 : H S = none := dd3.free M3 nS3
    have nW0 : H W = none := dd3.free M3 nW3
    have hS8 := (s5.trans (s6.trans (s7.trans s8))) _ _ hS4
    have hO8 := s8 _ _ hO
    have hD8 := s38 _ _ hD
    have nSW : S ≠ W := fun q => by rw [q] at hS8; rw [hW] at hS8; cases hS8; rw [← q, (s5.trans (s6.trans s7)) _ _ hS4] at nW; cases nW
    have nDS : D ≠ S := fun q => by rw [q] at hD; rw [nS3] at hD; cases hD
    have nDW : D ≠ W := fun q => by rw [q] at hD; rw [nW3] at hD; cases hD
    have nOS : O ≠ S := fun q => by rw [q, (s5.trans s6) _ _ hS4] at nO; cases nO
    have nOW : O ≠ W := fun q => by rw [q] at hO; rw [nW] at hO; cases hO
    obtain ⟨N, hNd⟩ : ∃ N : Addr → Prop, N = fun b => H b = none ∧ b ≠ D ∧ b ≠ S ∧ b ≠ W := ⟨_, rfl⟩
    have hN : ∀ b, N b → b ≠ m ∧ b ≠ lg ∧ b ≠ S ∧ b ≠ W := fun b h => by
      rw [hNd] at h
      have z := M.nm h.1
      exact ⟨z.1, z.2, h.2.2⟩
    have st8 : StT K N C D O as ps vs ts ovs H8 := by
      refine ⟨hD8, fun i a e => let ⟨p, v, g1, g2, g3⟩ := f7 i a e; ⟨p, v, g1, g2, s38 _ _ g3⟩, ?_, PtsAt.kpo (KpO.same s38) _ pt3, hO8, fun v hv => ?_⟩
      · refine PlsAt.kp (KpN.same s38) _ (PlsAt.mono2 (fun b o hb q => ?_) _ pl3)
        rw [hNd]
        exact ⟨hb.1, hb.2, fun z => (by rw [z, nS3] at q; cases q), fun z => (by rw [z, nW3] at q; cases q)⟩
      · refine BadN.same s8 (BadN.mono2 (fun b o hb q => ?_) (bad7 v hv))
        rw [hNd]
        have hb3 : H3 b = none := (s4.trans s5).free hb
        exact ⟨dd3.free M3 hb3, fun z => (by rw [z, hD] at hb3; cases hb3), fun z => (by
          have hb : H5 b = none := hb
          rw [z, s5 _ _ hS4] at hb
          cases hb), fun z => (by rw [z, nW] at q; cases q)⟩
    have genAll : ∀ t ∈ ts, genT t := fun t ht => (fit t ht).g
    have wtb : wts ts ≤ 9 * (53570 + 2) := Nat.le_trans (wts_le fun t ht => (fit t ht).w) (Nat.mul_le_mul_right _ tl)
    have gens : gensT ts := gens_of genAll
    have lvb : levelss ts ≤ 3 := levelss_le fun t ht => (fit t ht).l
    have htb : hts ts ≤ 6 := hts_le fun t ht => (fit t ht).h
    refine r7 _ H8 m lc lg D S W O lf n3 wv N as ps vs ovs ts M8 (by omega) hS8 hW st8 hl7 tl (fun t ht => ⟨gen_okP (genAll t ht), (gen_row (genAll t ht)).2, gen_okTx (genAll t ht) (by have := (fit t ht).w; omega)⟩) ⟨nDl.1, nDl.2.1, nDS, nDW⟩ ⟨nOl.1, nOl.2.1, nOS, nOW⟩ hN ⟨nS.1, nS.2.1, nS.2.2, nSW⟩ nWl fun H9 n9 xs pis ws v7 v8 M9 l9 u9 R9 K9 hS9 hW9 wr pin st9 => ?_
    have F38 : FD m lg H H8 := (FD.draw dd3).trans (FD.same s38)
    have F39 : FD m lg H H9 := F38.rr R9 nS0 nW0
    have hwv9 := hwv.fd F39
    have tabs9 : Tabs T H9 := by
      have t3 := tabs_dd tabs M dd3
      exact RR.tabs (t3.ext s38) R9 M8 hS8 hW
    refine r8 _ H9 _ wv rfl hwv9.b.val fun H10 p0 s10 hp0 => ?_
    have wr9 := wr
    refine r9 _ H10 m D S W O lf p0 wv v7 v8 (nameV wv) vs xs ts pis ws (s10 _ _ hS9) (s10 _ _ hW9) wr (by have := wr.lx; omega) hp0 fun H11 p1 v8' s11 hp1 => ?_
    have s911 := s10.trans s11
    have st11 := st9.rr (RR.same (m := m) (lg := lg) (S := S) (W := W) s911) (KpN.same s911) (KpO.same s911) ⟨nDl.1, nDl.2.1, nDS, nDW⟩ ⟨nOl.1, nOl.2.1, nOS, nOW⟩
    have psl := pls_len st11.pl
    refine r10 _ H11 _ D wv as ps vs rfl rfl rfl st11.hP (by omega) (by omega) st11.prs fun H12 pl s12 npl hpl => ?_
    have s912 := s911.trans s12
    -- the due word
    have k1 : (lawK (nameV wv) pis).isOk = true → nameV wv = true ∧ firstBad 0 pis = none := fun h => by
      unfold lawK at h
      cases hn2 : nameV wv with
      | false => rw [hn2] at h; cases h
      | true =>
        rw [hn2] at h
        rw [if_neg (by decide)] at h
        cases hb : firstBad 0 pis with
        | none => exact ⟨rfl, rfl⟩
        | some j => rw [hb] at h; cases h
    have isStr : nameV wv = true → ∃ z, wv = .str z := fun h => by
      cases wv with
      | str z => exact ⟨z, rfl⟩
      | _ => cases h
    have pl12 := PlsAt.kp (KpN.same s12) _ st11.pl
    refine r11 _ H12 _ p1 pl (lawK (nameV wv) pis) wv ps ts N rfl rfl rfl (s12 _ _ hp1) hpl (fun h => isStr (k1 h).1) pl12 gens tl (by omega) fun H13 p2 s13 hp2 => ?_
    have s913 := s912.trans s13
    have due : treeDue wv pis = (endK (lawK (nameV wv) pis) (1 + sizes ts)).opt := by
      cases hn2 : nameV wv with
      | false => exact due_form hn2
      | true =>
        cases hb : firstBad 0 pis with
        | some j =>
          rw [lawK_some hb]
          exact due_bad hn2 hb
        | none =>
          obtain ⟨e1, e2⟩ := wr.clean hb
          rw [lawK_none hb, due_size hn2 hb (by rw [e1, parts_good]; omega), e1, parts_good]
          by_cases q : 400 < 1 + sizes ts
          · have e : endK .ok (1 + sizes ts) = .size := by unfold endK; rw [decide_eq_true q]; rfl
            rw [if_pos q, e]
            rfl
          · have e : endK .ok (1 + sizes ts) = .ok := by unfold endK; rw [decide_eq_false q]; rfl
            rw [if_neg q, e]
            rfl
    have F13 : FD m lg H H13 := F39.trans (FD.same s913)
    have pin13 := Paired.mapP pin fun a b q => PIN.kp (KpN.same s913) (KpO.same s913) q
    have jb : joinB (partsOf pis) ≤ 16000000 := by
      have go : ∀ (pis : List PI) (ts : List Tr), gensT ts → pis.length = ts.length → (∀ i : Nat, pis[i]? = some .bad ∨ pis[i]? = (ts[i]?).map PI.good) → joinB (partsOf pis) ≤ wts ts := fun pis => by
        induction pis with
        | nil => intro ts _ _ _; exact Nat.zero_le _
        | cons p pis ih =>
          intro ts hg hl h
          match ts, hg, hl with
          | t :: ts, hg, hl =>
            have ih2 := ih ts hg.2 (by simpa using hl) fun i => by
              have := h (i + 1)
              simpa using this
            have h0 := h 0
            simp only [List.getElem?_cons_zero, Option.map_some, Option.some.injEq] at h0
            show _ ≤ wt t + 2 + wts ts
            rcases h0 with e | e
            · rw [e]
              show joinB (partsOf pis) ≤ _
              omega
            · rw [e]
              have hw := said_wt hg.1
              unfold joinB at ih2 ⊢
              show ((said t).length :: (saids (partsOf pis)).map (·.length)).sum + ((partsOf pis).length + 1) * 2 ≤ _
              rw [List.sum_cons]
              omega
      have := go pis ts gens wr.lp fun i => by
        by_cases q : i ∈ ws
        · exact .inl (wr.bad i q).1
        · exact .inr (wr.good i q).1
      omega
    refine r12 _ H13 _ p2 S _ wv xs pis N rfl rfl rfl (tabs9.ext s913) (hwv.fd F13).b (s913 _ _ hS9) pin13 (by rw [wr.lp]; exact tl) jb hp2 due fun H14 e14 tb14 => ?_
    have hS14 := e14 _ _ (s913 _ _ hS9) fun _ => nofun
    have hpl14 := e14 _ _ (s13 _ _ hpl) fun _ => nofun
    have kN14 : KpN N H13 H14 := fun b o _ q n => e14 b o q n
    have F14 : FD m lg H H14 := F13.trans (FD.ext e14)
    have M14 := (M9.same s913).ext e14
    refine r13 _ H14 _ p2 pl S _ wv ps xs ts N rfl rfl rfl rfl (e14 _ _ hp2 fun _ => nofun) hpl14 hS14 (fun h => ?_) fun H15 s15 => ?_
    · have h1 : (lawK (nameV wv) pis).isOk = true ∧ ¬ 400 < 1 + sizes ts := by
        unfold endK at h
        cases ho : (lawK (nameV wv) pis).isOk with
        | false => rw [ho] at h; exact absurd (show (lawK (nameV wv) pis).isOk = true from h) (by rw [ho]; exact Bool.false_ne_true)
        | true =>
          rw [ho] at h
          refine ⟨rfl, fun q => ?_⟩
          rw [decide_eq_true q] at h
          cases h
      obtain ⟨hn2, hb⟩ := k1 h1.1
      obtain ⟨e1, e2⟩ := wr.clean hb
      obtain ⟨z, rfl⟩ := isStr hn2
      have hzo : PyData.strOk z = true := by
        rcases hwv.b with ⟨z', e, _, o⟩ | ⟨h, _⟩
        · cases e; exact o
        · exact absurd rfl (h z)
      refine ⟨z, rfl, hn2, hzo, ?_, PlsAt.kp kN14 _ (PlsAt.kp (KpN.same s13) _ pl12), ?_, gens, tl, by omega, by omega, by omega, by omega⟩
      · have npl9 : H9 pl = none := s911.free npl
        rw [hNd]
        have nd : pl ≠ m ∧ pl ≠ lg := M9.nm npl9
        refine ⟨?_, fun q => ?_, fun q => ?_, fun q => ?_⟩
        · cases q : H pl with
          | none => rfl
          | some o =>
            have h3 := dd3 pl o nd.1 nd.2 q
            have h8 := s38 _ _ h3
            have h9 := R9 pl o nd.1 nd.2 (fun z => by rw [z, nS0] at q; cases q) (fun z => by rw [z, nW0] at q; cases q) h8
            rw [h9] at npl9
            cases npl9
        · rw [q, st11.hP] at npl; cases npl
        · rw [q, s911 _ _ hS9] at npl; cases npl
        · rw [q, s911 _ _ hW9] at npl; cases npl
      · rw [e2]
        exact PtsAt.kpo (KpO.ext e14) _ (PtsAt.kpo (KpO.same s913) _ st9.pt)
    · exact k H15 n9 (F14.trans (FD.same s15)) (M14.same s15) (by omega) (by omega) (tb14.ext s15)
end
end K3

namespace K3
open PySem L2 E0
/-! ### what the law knows of a tree, as data -/
mutual
def dat : Tr → PyData
  | .tx s => .str s
  | .row ts => .list (dats ts)
  | .nd _ f ps => .tuple (.str f :: dats ps)
  | .vr .. => .none
def dats : List Tr → List PyData
  | [] => []
  | t :: ts => dat t :: dats ts
end
mutual
theorem PlAt.dp {K : PySem.W.Frag} {N : Addr → Prop} {H : Hp} : ∀ {v : V} (t : Tr), PlAt N H v t → Dp K H v (dat t)
  | _, .tx s, h => by
    rw [show _ = V.str s from h]
    exact .str s
  | _, .row ts, h => by
    obtain ⟨l, xs, h1, h2, _, h4⟩ := h
    rw [h1]
    exact .lst (SqL.of h2) (PlsAt.dp ts h4)
  | _, .nd _ f ps, h => by
    obtain ⟨l, xs, h1, h2, _, h4⟩ := h
    rw [h1]
    exact .tup (SqT.of h2) (.cons (.str f) (PlsAt.dp ps h4))
  | _, .vr _ _, h => False.elim h
theorem PlsAt.dp {K : PySem.W.Frag} {N : Addr → Prop} {H : Hp} : ∀ {xs : List V} (ts : List Tr), PlsAt N H xs ts → DpAll K H xs (dats ts)
  | [], [], _ => .nil
  | x :: xs, t :: ts, h => .cons (PlAt.dp t h.1) (PlsAt.dp ts h.2)
  | [], _ :: _, h => False.elim h
  | _ :: _, [], h => False.elim h
end
theorem nameS_ok {f : Str} (h : nameS f = true) : PyData.strOk f = true := ok_iff.mpr fun c hc => by
  obtain ⟨_, _, _, _, q⟩ := nameS_chs h
  exact sig_small c (q c hc)
mutual
theorem dat_lay : ∀ {t : Tr}, genT t → (dat t).canLay0 = true
  | .tx s, h => (menuT_ok s h).2.2
  | .row ts, h => dats_lay h.2.1
  | .nd _ f ps, h => by
    show (PyData.strOk f && PyData.canLayAll0 (dats ps)) = true
    rw [nameS_ok h.2.1, dats_lay h.2.2.2]
    rfl
  | .vr .., h => False.elim h
theorem dats_lay : ∀ {ts : List Tr}, gensT ts → PyData.canLayAll0 (dats ts) = true
  | [], _ => rfl
  | t :: ts, h => by
    show ((dat t).canLay0 && PyData.canLayAll0 (dats ts)) = true
    rw [dat_lay h.1, dats_lay h.2]
    rfl
end
mutual
theorem dat_depth : ∀ (t : Tr), (dat t).depth ≤ ht t
  | .tx s => Nat.le_refl _
  | .row ts => Nat.succ_le_succ (dats_depth ts)
  | .nd _ f ps => by
    show max 0 (PyData.depthAll (dats ps)) + 1 ≤ hts ps + 1
    have := dats_depth ps
    omega
  | .vr .. => Nat.le_refl _
theorem dats_depth : ∀ (ts : List Tr), PyData.depthAll (dats ts) ≤ hts ts
  | [] => Nat.le_refl _
  | t :: ts => by
    show max (dat t).depth (PyData.depthAll (dats ts)) ≤ max (ht t) (hts ts)
    have := dat_depth t
    have := dats_depth ts
    omega
end
theorem dat_sh {t : Tr} (h : genT t) (hh : ht t ≤ 60) : SeqAt.shaped (dat t) = true := by
  unfold SeqAt.shaped
  rw [dat_lay h, decide_eq_true (show (dat t).depth ≤ 64 by have := dat_depth t; omega)]
  rfl
theorem str_beq {a b : Str} : (a == b) = true ↔ a = b := beq_iff_eq
mutual
theorem dat_eqv : ∀ (t u : Tr), genT t → genT u → ((dat t).eqv (dat u) = true ↔ t = u)
  | .tx s, .tx z, _, _ => by
    show (s == z) = true ↔ _
    rw [str_beq]
    exact ⟨fun e => by rw [e], fun e => by cases e; rfl⟩
  | .tx _, .row _, _, _ => ⟨fun h => (nomatch h), fun h => (nomatch h)⟩
  | .tx _, .nd _ _ _, _, _ => ⟨fun h => (nomatch h), fun h => (nomatch h)⟩
  | .row _, .tx _, _, _ => ⟨fun h => (nomatch h), fun h => (nomatch h)⟩
  | .row ts, .row us, h1, h2 => by
    show PyData.eqvAll (dats ts) (dats us) = true ↔ _
    rw [dats_eqv ts us h1.2.1 h2.2.1]
    exact ⟨fun e => by rw [e], fun e => by cases e; rfl⟩
  | .row _, .nd _ _ _, _, _ => ⟨fun h => (nomatch h), fun h => (nomatch h)⟩
  | .nd _ _ _, .tx _, _, _ => ⟨fun h => (nomatch h), fun h => (nomatch h)⟩
  | .nd _ _ _, .row _, _, _ => ⟨fun h => (nomatch h), fun h => (nomatch h)⟩
  | .nd a f ps, .nd b g qs, h1, h2 => by
    show ((f == g) && PyData.eqvAll (dats ps) (dats qs)) = true ↔ _
    rw [Bool.and_eq_true, str_beq, dats_eqv ps qs h1.2.2.2 h2.2.2.2]
    obtain ⟨rfl, _⟩ := h1
    obtain ⟨rfl, _⟩ := h2
    exact ⟨fun e => by rw [e.1, e.2], fun e => by cases e; exact ⟨rfl, rfl⟩⟩
  | .vr .., _, h, _ => False.elim h
  | .tx _, .vr .., _, h => False.elim h
  | .row _, .vr .., _, h => False.elim h
  | .nd _ _ _, .vr .., _, h => False.elim h
theorem dats_eqv : ∀ (ts us : List Tr), gensT ts → gensT us → (PyData.eqvAll (dats ts) (dats us) = true ↔ ts = us)
  | [], [], _, _ => ⟨fun _ => rfl, fun _ => rfl⟩
  | [], _ :: _, _, _ => ⟨fun h => (nomatch h), fun h => (nomatch h)⟩
  | _ :: _, [], _, _ => ⟨fun h => (nomatch h), fun h => (nomatch h)⟩
  | t :: ts, u :: us, h1, h2 => by
    show ((dat t).eqv (dat u) && PyData.eqvAll (dats ts) (dats us)) = true ↔ _
    rw [Bool.and_eq_true, dat_eqv t u h1.1 h2.1, dats_eqv ts us h1.2 h2.2]
    exact ⟨fun e => by rw [e.1, e.2], fun e => by cases e; exact ⟨rfl, rfl⟩⟩
end
theorem dat_bool {t u : Tr} (h1 : genT t) (h2 : genT u) : (dat t).eqv (dat u) = decide (said t = said u) := by
  rw [Bool.eq_iff_iff, dat_eqv t u h1 h2, decide_eq_true_eq, said_inj h1 h2]
/-! ### own comparing of trees, made easy -/
section
variable {K : PySem.W.Frag} {C : Cl5} {H : Hp} {Q : VK}
/-- which types do not come first -/
structure NF (K : PySem.W.Frag) (C : Cl5) : Prop where
  T : PySem.W.notFirst K C.T (.ref C.T) = true
  L : PySem.W.notFirst K C.T (.ref C.L) = true
  V : PySem.W.notFirst K C.T (.ref C.V) = true
  non : PySem.W.notFirst K C.T (.type "NoneType") = true
  int : PySem.W.notFirst K C.T (.type "int") = true
  str : PySem.W.notFirst K C.T (.type "str") = true
  tup : PySem.W.notFirst K C.T (.type "tuple") = true
  lst : PySem.W.notFirst K C.T (.type "list") = true
  kstr : PySem.W.kitOne K (.type "str") (.ref C.T) = some false
theorem ins_of {a : V} {t : Tr} (h : PtAt C H a t) (ht : isT t = true) : ∃ x dx fs, a = .ref x ∧ H x = some (.ins C.T dx fs) := by
  match t, ht with
  | .nd false f ps, _ =>
    obtain ⟨x, dx, fs, pa, xs, h1, h2, _⟩ := h
    exact ⟨x, dx, fs, h1, h2⟩
theorem eqO_tree (T5 : Ty5 K C) (nf : NF K C) {a b : V} {t u : Tr} (ha : PtAt C H a t) (ht : isT t = true) (hb : PtAt C H b u) (hu : isT u = true) (q : Q (.bl (decide (said t = said u))) H) : rEqO K C.T (spTreeEq K C) E0 a b H Q := by
  obtain ⟨x, dx, fs, rfl, h2⟩ := ins_of ha ht
  have tb := PtAt.ty T5 hb
  obtain ⟨f, ps, rfl⟩ : ∃ f ps, u = .nd false f ps := by
    match u, hu with
    | .nd false f ps, _ => exact ⟨f, ps, rfl⟩
  exact ⟨x, dx, fs, _, rfl, h2, tb, nf.T, .ref x, b, t, rfl, ha, ht, .inl ⟨_, hb, hu, _, rfl, q⟩⟩
theorem neO_tree (T5 : Ty5 K C) (nf : NF K C) {a b : V} {t u : Tr} (ha : PtAt C H a t) (ht : isT t = true) (hb : PtAt C H b u) (hu : isT u = true) (q : Q (.bl (!decide (said t = said u))) H) : rNeO K C.T (spTreeEq K C) E0 a b H Q := by
  obtain ⟨x, dx, fs, rfl, h2⟩ := ins_of ha ht
  have tb := PtAt.ty T5 hb
  obtain ⟨f, ps, rfl⟩ : ∃ f ps, u = .nd false f ps := by
    match u, hu with
    | .nd false f ps, _ => exact ⟨f, ps, rfl⟩
  exact ⟨x, dx, fs, _, rfl, h2, tb, nf.T, .ref x, b, t, rfl, ha, ht, .inl ⟨_, hb, hu, _, rfl, q⟩⟩
theorem eqO_odd {a b : V} {t : Tr} {ty : Value} (ha : PtAt C H a t) (ht : isT t = true) (hb : TyX K H b ty) (n : PySem.W.notFirst K C.T ty = true) (kb : PySem.W.kitOne K ty (.ref C.T) = some false) (q : Q (.bl false) H) : rEqO K C.T (spTreeEq K C) E0 a b H Q := by
  obtain ⟨x, dx, fs, rfl, h2⟩ := ins_of ha ht
  exact ⟨x, dx, fs, ty, rfl, h2, hb, n, .ref x, b, t, rfl, ha, ht, .inr ⟨ty, hb, kb, _, rfl, q⟩⟩
theorem neO_odd {a b : V} {t : Tr} {ty : Value} (ha : PtAt C H a t) (ht : isT t = true) (hb : TyX K H b ty) (n : PySem.W.notFirst K C.T ty = true) (kb : PySem.W.kitOne K ty (.ref C.T) = some false) (q : Q (.bl true) H) : rNeO K C.T (spTreeEq K C) E0 a b H Q := by
  obtain ⟨x, dx, fs, rfl, h2⟩ := ins_of ha ht
  exact ⟨x, dx, fs, ty, rfl, h2, hb, n, .ref x, b, t, rfl, ha, ht, .inr ⟨ty, hb, kb, _, rfl, q⟩⟩
end
end K3

namespace EG
open PySem PySem.Spec PyProof.Rows L2
/-! ### promises of defs that are called where no repr is under way -/
structure FnG (P : Program) (w : World) (K : PySem.W.Frag) (mg : Str → Option Value) (base : Heap) (CX : CXT) (k : Nat) (f : Addr) (fd : FuncData) (ps : List Str) (sp : Sp) : Prop where
  lenG : ∀ vs H Q E, sp vs H Q E → vs.length = ps.length
  runG : ∀ (A : Around) (outer : List Env) (s : Shared) (H : Hp) (args : Args) (us : List Value) (vs : List V) (Q : VK) (E : XK), Room k A → A.guards = some [] →
    Env0 P w K mg base A outer s H → BindsTo s fd args (ps.zip us) → Vals vs us → sp vs H Q E → codeAny (model P w) A (.call (.ref f) args) (CR CX outer P w H s Q E) s
section
variable {CX : CXT} {P : Program} {w : World} {K : PySem.W.Frag} {mg : Str → Option Value} {base : Heap} {k : Nat} {f : Addr}
theorem fnG_of {name qual : Str} {params : Arguments} {body : List Stmt} {scope : Scope} {dV kV doc pm cdv ct oc : Value} {an od : Option Addr} {osl : Array (Option Value)} {N ps : List Str} {sp : Sp}
    (lk : K.lookup f = some ⟨oc, od, .func (PySem.W.fnOf name qual params body scope dV kV doc pm an cdv ct), osl⟩) (cd : PySem.W.codeIn K cdv qual = true) (S : FnScope N ps scope)
    (ln : ∀ vs H Q E, sp vs H Q E → vs.length = ps.length)
    (bd : ∀ (A : Around) (outer : List Env) (s : Shared) (H : Hp) (vs : List V) (Q : VK) (E : XK), Room k (A.deeper (envOfC qual scope s.heap.objs.size f cdv)) → A.guards = some [] → sp vs H Q E →
      ∃ t, PSs (cxOf CX P w K mg base N qual scope f cdv A outer s H E) body t ∧ t { nx := fun _ H' => Q .non H', rt := Q } (start N vs) H) :
    FnG P w K mg base CX (k + 1) f (PySem.W.fnOf name qual params body scope dV kV doc pm an cdv ct) ps sp where
  lenG := ln
  runG A outer s H args us vs Q E hr hG e0 hb r h := by
    have inK : K.In s.heap := e0.mod.kin.keeps fun b o e => (e0.bs b o e).1
    have kinds : ∀ y ∈ ps.zip us, scope.names.lookup y.1 = some .local ∨ (scope.names.lookup y.1 = some .cell ∧ ((cellsFrom (s.heap.objs.size + 1) scope.names []).lookup y.1).isSome = true) := by
      rintro ⟨n, v⟩ hy
      exact (S.par n (List.of_mem_zip hy).1).imp id fun q => ⟨q, PySem.W.cellsFrom_some _ _ _ (.inl q)⟩
    refine codeAny_call_function hr.depth (inK _ _ lk) rfl S.co S.gen rfl (PySem.W.codeRec_of inK cd) (hb _ _ _ _ (wpAny_newFunctionEnv_cells S.kind kinds fun env he s1 x => ?_))
    cases he
    refine ⟨(e0.mod.nolimit.keeps fun b o e => (e0.bs b o e).1).keeps x.toInCall.keep, codeAny_func ?_⟩
    obtain ⟨t, pt, q⟩ := bd A outer s H vs Q E (hr.deeper _) hG h
    refine wpAny_mono (pt.run [] s1 (start N vs) H _ (inv_start S hr.hd e0 (ln _ _ _ _ h) r x) q) (fun fl s' z => ?_) fun e s' z => z
    match fl, z with
    | .ret u, ⟨v, _, H', J, rv, q⟩ => exact ⟨v, H', J.os, J.bare, J.base, J.hok, rv, q⟩
    | .next, ⟨_, H', J, q⟩ => exact ⟨V.non, H', J.os, J.bare, J.base, J.hok, rfl, q⟩
    | .brk, ⟨_, _, _, q⟩ => exact q.elim
    | .cont, ⟨_, _, _, q⟩ => exact q.elim
end
section
variable {X : Cx} {CX : CXT} {k : Nat} {f : Addr} {fd : FuncData} {ps : List Str} {sp : Sp} {ds : List Value} {dvs : List V} {E : XK} {x : Str} {p pos : Pos} {e : Expr} {es : List Expr} {t : TA}
theorem fnG_run {pins : List (Addr × Obj)} {σ : L2.St} {H : Hp} {s : Shared} {Q : VK} {us : List Value} {vs : List V} (F : FnG X.prog X.w X.K X.mg X.base CX k f fd ps sp) (hr : Room k X.A) (hG : X.A.guards = some [])
    (hb : Binds X.K fd ps ds) (hd : Vals dvs ds) (hx : Passes CX X E) (I : Inv X pins σ H s) (r : Vals vs us) (h : sp (vs ++ dvs) H Q E) : wpAny (model X.prog X.w) X.A (call (.ref f) us) (EP X pins σ Q) X.xe s := by
  have r2 := r.append hd
  have both := F.runG X.A X.stack s H ⟨us, []⟩ (us ++ ds) (vs ++ dvs) Q E hr hG I.env0 (hb s us I.kIn (by rw [← r2.length]; exact F.lenG _ _ _ _ h)) r2 h
  refine wpAny_call (codeAny_mono both fun z s' hq => ?_)
  match z, hq with
  | .error e, hq => exact hx pins σ H s e s' I hq
  | .ok (.ret u), hq => exact I.after hq
theorem pe_callG (F : FnG X.prog X.w X.K X.mg X.base CX k f fd ps sp) (hr : Room k X.A) (hG : X.A.guards = some []) (hg : Gl X x) (hm : X.mg x = some (.ref f)) (hk : PySem.W.keepIn X.K (.ref f) = true)
    (hb : Binds X.K fd ps ds) (hd : Vals dvs ds) (hx : Passes CX X E) (ha : PA X (e :: es) t) (hdb : (x == ("__debug__" : Str)) = false := by decide)
    (he : starEach (e :: es) X.env = (false, eval e X.env) :: starEach es X.env := by rfl) (hpl : (backTo pos (starEach es X.env)).any (·.1) = false := by rfl) :
    PE X (.Call (.Name x p) (e :: es) [] pos) (tCall sp dvs E t) := ⟨fun pins s σ H Q I h =>
  wpAny_Call_Name_kw (ld_glob I hg hm
    (PySem.W.callWith_K (h₀ := X.base) I.ok.mod.kin hk (thn (ha.run pos pins s σ H _ I h) fun us s1 ⟨vs, H1, I1, r, q⟩ => ⟨I1.kIn, fnG_run F hr hG hb hd hx I1 r q⟩) he hpl) hdb)⟩
end
end EG

namespace EG
open PySem PySem.Spec PyProof.Rows L2 LamX
/-! ### the end of a law's row, where its def may ask that no repr is under way -/
/-- what is tracked when the law begins: the empty tables of its code objects, and the script where the module does not hold it -/
def H0 (K : PySem.W.Frag) (T : List Addr) (a : Addr) (ob : Obj) (xs : List V) : Hp := fun b =>
  if b ∈ T then some (.tbl #[]) else if b = a ∧ (K.lookup a).isNone = true then some (.frz ob (.lst xs)) else none
section
variable {K : PySem.W.Frag} {T : List Addr} {a : Addr} {ob : Obj} {xs : List V} {b : Addr}
theorem H0_tab (h : b ∈ T) : H0 K T a ob xs b = some (.tbl #[]) := if_pos h
theorem H0_scr (h : a ∉ T) (k : K.lookup a = none) : H0 K T a ob xs a = some (.frz ob (.lst xs)) := by
  unfold H0
  rw [if_neg h, if_pos ⟨rfl, by rw [k]; rfl⟩]
theorem H0_cases (b : Addr) : H0 K T a ob xs b = none ∨ (b ∈ T ∧ H0 K T a ob xs b = some (.tbl #[])) ∨ (b = a ∧ b ∉ T ∧ K.lookup a = none ∧ H0 K T a ob xs b = some (.frz ob (.lst xs))) := by
  by_cases h : b ∈ T
  · exact .inr (.inl ⟨h, H0_tab h⟩)
  · by_cases z : b = a ∧ (K.lookup a).isNone = true
    · obtain ⟨rfl, e⟩ := z
      have k : K.lookup b = none := Option.isNone_iff_eq_none.mp e
      exact .inr (.inr ⟨rfl, h, k, H0_scr h k⟩)
    · left
      unfold H0
      rw [if_neg h, if_neg z]
end
/-- a law's def: where its code objects' tables stand, how it binds, what it is promised -/
structure TopG (P : Program) (w : World) (K : PySem.W.Frag) (mg : Str → Option Value) (CX : CXT) (k : Nat) (fa : Addr) (x : Str) (cs : List (Addr × Addr)) (fd : FuncData) (sp : Sp) (h : Heap) (n : Nat) : Prop where
  emp : ∀ p ∈ cs, h.get? p.2 = some { cls := .none, data := .fields #[] }
  out : ∀ p ∈ cs, K.lookup p.2 = none
  hd : ∀ p ∈ cs, PySem.W.CodeHd h p.1 p.2
  bnd : ∀ (s : Shared) (u : Value), BindsTo s fd ⟨[u], []⟩ [(x, u)]
  ask : ∀ (H : Hp) (a : Addr) (ns : List Int), ns.length ≤ n → (∀ z ∈ ns, Builtin.Int.intBits z ≤ 1048576) → (∀ p ∈ cs, H p.2 = some (.tbl #[])) → SqL K H a (ns.map V.int) → sp [.ref a] H (fun v _ => v = .bl true) fun _ _ _ => False
  fn : ∀ base : Heap, K.In base → base.Ns mainGlobals mg → (∀ p ∈ cs, TabB base mg p.1 p.2) → FnG P w K mg base CX k fa fd [x] sp
theorem law_runG {P : Program} {w : World} {K : PySem.W.Frag} {mg mb : Str → Option Value} {CX : CXT} {k n : Nat} {fa a : Addr} {cs : List (Addr × Addr)} {fd : FuncData} {x : Str} {sp : Sp} {s : Shared} {vs : List Value} {ns : List Int}
    (T : TopG P w K mg CX k fa x cs fd sp s.heap n) (KX : K.In s.heap) (g : s.heap.Ns mainGlobals mg) (b : s.heap.Ns builtinsNs mb) (bb : ∀ x : Str, x ≠ "__name__" → mb x = bootBuiltins x) (lim : s.heap.NoLimit) (gen : s.gens = #[])
    (bm : ∃ (bm : Addr) (o : Obj), mg "__builtins__" = some (.ref bm) ∧ bm ≠ builtinsNs ∧ s.heap.get? bm = some o ∧ o.cls = .type "module" ∧ o.dict = some builtinsNs ∧ o.data = .plain)
    (ha : s.heap.get? a = some { cls := .type "list", data := .seq vs.toArray }) (hi : IntsAre vs ns) (hl : ns.length ≤ n) (hn : n ≤ sizeLine) (bits : ∀ z ∈ ns, Builtin.Int.intBits z ≤ 1048576) (hr : Room k callerA)
    (nx : ∀ H e s', CX [] H s (fun _ _ _ => False) e s' → False) :
    codeAny (model P w) callerA (.call (.ref fa) ⟨[.ref a], []⟩) (fun r s' => r = .ok (.ret (.bool true)) ∧ OldK s.heap s'.heap ∧ s'.os = s.os ∧ AllBare s'.gens) s := by
  have rel := vals_ints hi
  have len : ns.length ≤ sizeLine := Nat.le_trans hl hn
  have lens := hi.length
  have tab : ∀ c : Addr, c ∈ cs.map (·.2) → s.heap.get? c = some { cls := .none, data := .fields #[] } := by
    intro c hc
    obtain ⟨p, hp, rfl⟩ := List.mem_map.mp hc
    exact T.emp p hp
  have inT : ∀ p ∈ cs, p.2 ∈ cs.map (·.2) := fun p hp => List.mem_map.mpr ⟨p, hp, rfl⟩
  have na : a ∉ cs.map (·.2) := fun z => by
    have q : Data.seq vs.toArray _ = Data.fields #[] := congrArg Obj.data (Option.some.inj (ha.symm.trans (tab a z)))
    cases q
  obtain ⟨Hq, eH⟩ : ∃ Hq, Hq = H0 K (cs.map (·.2)) a { cls := .type "list", data := .seq vs.toArray } (ns.map V.int) := ⟨_, rfl⟩
  have cas : ∀ c, Hq c = none ∨ (c ∈ cs.map (·.2) ∧ Hq c = some (.tbl #[])) ∨ (c = a ∧ c ∉ cs.map (·.2) ∧ K.lookup a = none ∧ Hq c = some (.frz { cls := .type "list", data := .seq vs.toArray } (.lst (ns.map V.int)))) := by
    rw [eH]
    exact H0_cases
  have atT : ∀ p ∈ cs, Hq p.2 = some (.tbl #[]) := fun p hp => by
    rw [eH]
    exact H0_tab (inT p hp)
  -- the script, read
  have hS : SqL K Hq a (ns.map V.int) := by
    cases hk : K.lookup a with
    | none =>
      rw [eH]
      exact .inl (.inr ⟨_, H0_scr na hk⟩)
    | some o =>
      have e := (KX a o hk).symm.trans ha
      cases e
      exact .inr ⟨_, vs.toArray, _, hk, rfl, rfl, rfl, by rw [List.size_toArray, lens]; exact len, by simpa using rel⟩
  have hok : HOk P w Hq s.heap := fun c u z => by
    rcases cas c with q | ⟨hc, q⟩ | ⟨rfl, _, _, q⟩
    · rw [q] at z; cases z
    · rw [q] at z; cases z; exact tab c hc
    · rw [q] at z; cases z
      exact ⟨ha, by rw [List.length_map]; exact len, vs, _, rel, ha⟩
  -- what is not tracked
  have off : ∀ {c : Addr} {o : Obj}, s.heap.get? c = some o → (∀ l m, o.data ≠ .seq l m) → o.data ≠ .fields #[] → Hq c = none := fun {c o} e h1 h2 => by
    rcases cas c with q | ⟨hc, _⟩ | ⟨rfl, _, _, _⟩
    · exact q
    · rw [tab c hc] at e
      cases e
      exact absurd rfl h2
    · rw [ha] at e
      cases e
      exact absurd rfl (h1 _ _)
  have ns' : ∀ {c : Addr} {m : Str → Option Value}, s.heap.Ns c m → (hidT s.heap Hq).Ns c m := by
    rintro c m ⟨o, es, ep, e, d, r⟩
    exact ⟨o, es, ep, hidT_get e (off e (by rw [d]; exact fun _ _ => nofun) (by rw [d]; exact nofun)), d, r⟩
  have kin : K.In (hidT s.heap Hq) := fun c o e => hidT_get (KX c o e) (by
    rcases cas c with q | ⟨hc, _⟩ | ⟨rfl, _, k, _⟩
    · exact q
    · obtain ⟨p, hp, rfl⟩ := List.mem_map.mp hc
      rw [T.out p hp] at e
      cases e
    · rw [k] at e
      cases e)
  have modl : L2.Mod K mg (hidT s.heap Hq) := ⟨kin, ns' g, ⟨mb, ns' b, bb⟩, by
    obtain ⟨mc, l1, l2⟩ := lim
    exact ⟨mc, ns' l1, l2⟩⟩
  have tabs : ∀ p ∈ cs, TabB (hidT s.heap Hq) mg p.1 p.2 := fun p hp => by
    have et := T.emp p hp
    obtain ⟨o, es, ep, ge, gd, _⟩ := g
    constructor
    · obtain ⟨oc, us, file, tf, fl, tg, inF, text, tt, c1, c2, c3, c4, rest⟩ := T.hd p hp
      refine ⟨oc, us, file, tf, fl, tg, inF, text, tt, hidT_get c1 (off c1 (by rw [c3]; exact fun _ _ => nofun) fun z => ?_), c2, c3, c4, rest⟩
      rw [c3] at z
      cases z
      simp at c4
    · obtain ⟨m, om, m1, m2, m3, m4, m5, m6⟩ := bm
      refine ⟨m, om, m1, m2, ?_, ?_, hidT_get m3 (off m3 (by rw [m6]; exact fun _ _ => nofun) (by rw [m6]; exact nofun)), m4, m5, m6⟩
      · rintro rfl
        rw [ge] at m3
        cases m3
        rw [gd] at m6
        cases m6
      · rintro rfl
        rw [et] at m3
        cases m3
        cases m6
    · intro z
      rw [z, et] at ge
      cases ge
      cases gd
  have env : Env0 P w K mg (hidT s.heap Hq) callerA [] s Hq :=
    { frames := rfl, mod := modl, bs := fun c o e => of_hidT e, bsz := Nat.le_of_eq (hidT_size _ _), funs := trivial, frf := fun c hc => (by cases hc), hok := hok, bare := .of_eq gen }
  have run := (T.fn _ kin (ns' g) tabs).runG callerA [] s Hq ⟨[.ref a], []⟩ [.ref a] [.ref a] _ _ hr rfl env (T.bnd s (.ref a)) (.cons rfl .nil) (T.ask Hq a ns hl bits atT hS)
  refine codeAny_mono run fun r s' z => ?_
  match r, z with
  | .error e, z => exact (nx Hq e s' z).elim
  | .ok (.ret u), ⟨v, H', os, bare, un, hok', rv, q⟩ =>
    cases show v = .bl true from q
    cases show u = Value.bool true from rv
    have stay : ∀ c o, c ∉ cs.map (·.2) → s.heap.get? c = some o → s'.heap.get? c = some o := fun c o hc e => by
      rcases cas c with q | ⟨h, _⟩ | ⟨_, _, _, q⟩
      · exact un.keep c o e q (by intro z; cases z) (by intro z; cases z)
      · exact absurd h hc
      · have e1 := (hok c _ q).1
        rw [e] at e1
        cases e1
        exact (hok' c _ (un.frzs c _ _ q)).1
    have more : ∀ p ∈ cs, ∃ m : Array Value, s'.heap.get? p.2 = some { cls := .none, data := .fields m } := fun p hp => by
      obtain ⟨m, z⟩ := un.tbls p.2 #[] (atT p hp)
      exact ⟨_, hok' p.2 _ z⟩
    refine ⟨rfl, ⟨fun c o e => ?_, fun c o e => ?_⟩, os, bare⟩
    · by_cases hc : c ∈ cs.map (·.2)
      · obtain ⟨p, hp, rfl⟩ := List.mem_map.mp hc
        obtain ⟨m, hm⟩ := more p hp
        have e' := (T.emp p hp).symm.trans e
        cases e'
        exact .inr (.inl ⟨((T.hd p hp).tab (T.emp p hp)).isCodeTable, rfl, #[], m, rfl, by rw [Array.empty_append]; exact hm⟩)
      · exact .inl (stay c o hc e)
    · by_cases hc : c ∈ cs.map (·.2)
      · obtain ⟨p, hp, rfl⟩ := List.mem_map.mp hc
        obtain ⟨m, hm⟩ := more p hp
        exact ⟨_, hm⟩
      · exact ⟨o, stay c o hc e⟩
theorem walk_G {l : PySem.W.OpenLaw} {n k : Nat} {q : Program} {loose : List Str} {XP : (Str → Option Value) → Heap → Prop} {YP : World → Heap → Prop} {d : DefRec} {K : Params → PySem.W.Frag} {CX : World → CXT} {x : Str}
    (most : l.most = some n) (small : n ≤ sizeLine) (noD : d.params.defaults = []) (room : Room k callerA) (inY : ∀ (w : World) (h : Heap), YP w h → (K w.params).In h)
    (top : ∀ (w : World) (mg : Str → Option Value) (fa : Addr) (h : Heap), YP w h → (K w.params).In h → h.Ns mainGlobals mg → mg d.name = some (.ref fa) → ∃ cs fd sp, TopG l.prog w (K w.params) mg (CX w) k fa x cs fd sp h n)
    (noX : ∀ (w : World) (H : Hp) (s : Shared) (e : Value) (s' : Shared), CX w [] H s (fun _ _ _ => False) e s' → False) : PySem.W.WalkO q loose XP YP l.row.toRowW d [] (fun f vs => PySem.call f vs) :=
  Att.attach_callB most noD fun w _ s₁ mg _ fa _ _ _ _ _ _ _ G Y _ _ _ hmg hobj hints hlen hbits hg => by
    obtain ⟨cs, fd, sp, T⟩ := top w mg fa _ Y (inY w _ Y) G.T.g hmg
    exact law_runG T (inY w _ Y) G.T.g G.T.b G.T.builtins G.T.nolimit hg G.T.bmain hobj hints hlen small hbits room fun H e s' => noX w H s₁ e s'
end EG

namespace K3
open PySem L2 E0 EG
open LamX (ExtN Tabs TabS TabB LamS lamS_by lamSB)
section
variable {P : Program} {w : World} {K : PySem.W.Frag} {mg : Str → Option Value} {base : Heap}
theorem okG {x qual : Str} {st : Stmt} {f : Addr} {fd : FuncData} {N ps : List Str} {k : Nat} {sp : Sp} (F : Fun K x qual st f fd) (S : FnScope N ps (defScope st)) (len : ∀ vs H Q E, sp vs H Q E → vs.length = ps.length)
    (bd : ∀ (cdv : Value) (A : Around) (outer : List Env) (s : Shared) (H : Hp) (vs : List V) (Q : VK) (E : XK), Room k (A.deeper (PyProof.Rows.envOfC qual (defScope st) s.heap.objs.size f cdv)) → A.guards = some [] → sp vs H Q E →
      ∃ t, PSs (cxOf CX0 P w K mg base N qual (defScope st) f cdv A outer s H E).nox (defBody st) t ∧ t { nx := fun _ H' => Q .non H', rt := Q } (L2.start N vs) H) : FnG P w K mg base CX0 (k + 1) f fd ps sp := by
  obtain ⟨oc, od, kV, doc, pm, an, cdv, ct, osl, rfl, lk, hcd⟩ := F.ex
  refine fnG_of lk hcd S len fun A outer s H vs Q E hr hG hsp => ?_
  obtain ⟨t, h, q⟩ := bd cdv A outer s H vs Q E hr hG hsp
  exact ⟨t, h.nox, q⟩
theorem okGC {x qual : Str} {st : Stmt} {f c : Addr} {fd : FuncData} {N ps : List Str} {k : Nat} {sp : Sp} (F : FunC K x qual st f fd c) (S : FnScope N ps (defScope st)) (len : ∀ vs H Q E, sp vs H Q E → vs.length = ps.length)
    (bd : ∀ (A : Around) (outer : List Env) (s : Shared) (H : Hp) (vs : List V) (Q : VK) (E : XK), Room k (A.deeper (PyProof.Rows.envOfC qual (defScope st) s.heap.objs.size f (.ref c))) → A.guards = some [] → sp vs H Q E →
      ∃ t, PSs (cxOf CX0 P w K mg base N qual (defScope st) f (.ref c) A outer s H E).nox (defBody st) t ∧ t { nx := fun _ H' => Q .non H', rt := Q } (L2.start N vs) H) : FnG P w K mg base CX0 (k + 1) f fd ps sp := by
  obtain ⟨oc, od, kV, doc, pm, an, ct, osl, rfl, lk, hcd⟩ := F.ex
  refine fnG_of lk hcd S len fun A outer s H vs Q E hr hG hsp => ?_
  obtain ⟨t, h, q⟩ := bd A outer s H vs Q E hr hG hsp
  exact ⟨t, h.nox, q⟩
/-- what equal_right needs besides -/
structure TxtER (P : Program) (w : World) (K : PySem.W.Frag) (mg : Str → Option Value) (base : Heap) (C : Cl5) (fE fP : Addr) (fdP : FuncData) : Prop where
  nf : NF K C
  OE : OwnC K C.T "__eq__" fE
  NE : NeObj K C.T
  GE : FnR P w K mg base CX0 1 fE (spTreeEq K C)
  GP : FnOk P w K mg base CX0 10 fP fdP ["_law_m", "_law_deep"] (spNode C 1)
  AP : DefA K mg "_law_node_pair" ["_law_m", "_law_deep"] fP fdP
def NER : List Str := ["_law_m", "_law_pairs", "_law_near", "_law_far", "_law_leaf", "_law_one", "_law_odd", "_law_some", "_law_n", "_law_k"]
theorem scER : FnScope NER ["_law_m"] (defScope sEqualRight) := ⟨rfl, rfl, rfl, by decide +kernel, rfl, by decide +kernel, by decide +kernel⟩
def stER (i : Nat) : Stmt := (defBody sEqualRight).getD i (.Pass ⟨0, 0, 0, 0⟩)
theorem pts_get {C : Cl5} {H : Hp} : ∀ {xs : List V} {ts : List Tr} {i : Nat} {x : V}, PtsAt C H xs ts → xs[i]? = some x → ∃ t, ts[i]? = some t ∧ PtAt C H x t
  | [], [], i, x, _, h => by simp at h
  | y :: ys, t :: ts, 0, x, h, e => by
    simp at e
    subst e
    exact ⟨t, rfl, h.1⟩
  | y :: ys, t :: ts, i + 1, x, h, e => by
    obtain ⟨u, e1, e2⟩ := pts_get (i := i) h.2 (by simpa using e)
    exact ⟨u, by simpa using e1, e2⟩
  | [], _ :: _, _, _, h, _ => False.elim h
  | _ :: _, [], _, _, h, _ => False.elim h
theorem pls_get {N : Addr → Prop} {H : Hp} : ∀ {xs : List V} {ts : List Tr} {i : Nat} {x : V}, PlsAt N H xs ts → xs[i]? = some x → ∃ t, ts[i]? = some t ∧ PlAt N H x t
  | [], [], i, x, _, h => by simp at h
  | y :: ys, t :: ts, 0, x, h, e => by
    simp at e
    subst e
    exact ⟨t, rfl, h.1⟩
  | y :: ys, t :: ts, i + 1, x, h, e => by
    obtain ⟨u, e1, e2⟩ := pls_get (i := i) h.2 (by simpa using e)
    exact ⟨u, by simpa using e1, e2⟩
  | [], _ :: _, _, _, h, _ => False.elim h
  | _ :: _, [], _, _, h, _ => False.elim h
/-- two truth values in a list, shown -/
theorem two_ok (x y : Bool) : (PyData.list [.bool x, .bool y]).showable = true ∧ (PyData.list [.bool x, .bool y]).hasDict = false ∧ (PyData.list [.bool x, .bool y]).depth ≤ 64 ∧ (PyData.list [.bool x, .bool y]).shown.length ≤ 100 := by
  cases x <;> cases y <;> decide +kernel
end
section
variable {P : Program} {w : World} {K : PySem.W.Frag} {mg : Str → Option Value} {base : Heap} {C : Cl5} {CI f : Addr} {cdv : Value} {a : AdT} {fE fP2 : Addr} {fdP2 : FuncData} {A : Around} {outer : List Env} {s : Shared} {H0 : Hp} {E : XK}
theorem er1 (TR : TxtTR P w K mg base C CI a) (ER : TxtER P w K mg base C fE fP2 fdP2) (hr : Room 10 (A.deeper (PyProof.Rows.envOfC "_law_equal_right" (defScope sEqualRight) s.heap.objs.size f cdv))) (hG : A.guards = some []) (gR : mg "range" = none) (gRp : mg "repr" = none) :
    ∃ t : TS, PS (cxOf CX0 P w K mg base NER "_law_equal_right" (defScope sEqualRight) f cdv A outer s H0 E).nox (stER 0) t ∧ ∀ (Z : Ends) (H : Hp) (m lc lg : Addr) (n : Int), MA m lc lg n H → n + 1000 ≤ 1000000 →
      (∀ (H3 : Hp) (D : Addr) (as : List Addr) (ps vs : List V) (ts : List Tr) (n' : Int), DD m lg H H3 → H D = none → MA m lc lg n' H3 → n ≤ n' → n' ≤ n + 240 → H3 D = some (.lst (as.map V.ref)) → as.length = 3 → ts.length = 3 →
        (∀ (i : Nat) (a : Addr), as[i]? = some a → ∃ p v, ps[i]? = some p ∧ vs[i]? = some v ∧ H3 a = some (.tup [p, v])) → PlsAt (fun b => H b = none ∧ b ≠ D) H3 ps ts → PtsAt C H3 vs ts → (∀ t ∈ ts, Fits t 5942 30 4 2 ∧ isT t = true) →
        Z.nx [some (.ref m), some (.ref D), none, none, none, none, none, none, none, none] H3) →
      t Z [some (.ref m), none, none, none, none, none, none, none, none, none] H := by
  have hr10 : Room 10 _ := hr
  have hr5 : Room 5 _ := hr.mono (by decide)
  have hr3 : Room 3 _ := hr.mono (by decide)
  have hr1 : Room 1 _ := hr.mono (by decide)
  have hu80 : (A.deeper (PyProof.Rows.envOfC "_law_equal_right" (defScope sEqualRight) s.heap.objs.size f cdv)).units + 80 < cLine := by have := hr.un; omega
  have hu64 : (A.deeper (PyProof.Rows.envOfC "_law_equal_right" (defScope sEqualRight) s.heap.objs.size f cdv)).units + 64 < cLine := by omega
  have hu0 : (A.deeper (PyProof.Rows.envOfC "_law_equal_right" (defScope sEqualRight) s.heap.objs.size f cdv)).units < cLine := by omega
  have big : (1000000 : Nat) < sizeLine := by decide
  refine ⟨_, (ps_setLc (i := 1) (own := [("_law_n", 8)]) (g := gName 8) (tt := tYes) (te := tCall (spNode C 1) [] E0 (tCons (tVar 0) (tCons (tC (.int 1)) tNil))) rfl scER.nd rfl rfl (sw_true rfl rfl rfl (by decide +kernel)) (pi_range1 rfl gR (pa_cons pe_int pa_nil)) (blkOk_by (N := NER) (sc := defScope sEqualRight) (by decide +kernel)) (fun _ _ _ _ _ => pg_name (i := 8) scER.nd rfl (Or.inl rfl)) (fun _ _ _ _ _ => pts_nil) (fun _ _ _ _ _ => (pe_call ER.GP hr10 rfl ER.AP.g ER.AP.k ER.AP.b .nil pass0 (pa_cons (pv 0) (pa_cons pe_int pa_nil))))), ?_⟩
  rintro Z H m lc lg n M hn k
  have c1 : ((2 + 3 * cP 1 : Nat) : Int) = 80 := rfl
  refine ⟨3, rfl, by decide, by decide, fun D hD => lc_range (lo := 0) (n := 3) (fun i H' => ∃ (acc : List V) (ts : List Tr) (n' : Int), H' D = some (.lst acc) ∧ Paired (PrAt (fun b => H b = none ∧ b ≠ D) C H') acc ts ∧ acc.length = i ∧ (∀ t ∈ ts, Fits t 5942 30 4 2 ∧ isT t = true) ∧ DD m lg H H' ∧ MA m lc lg n' H' ∧ n ≤ n' ∧ n' ≤ n + ((i * 80 : Nat) : Int))
    ⟨[], [], n, upd_same, .nil, rfl, (fun t h => nomatch h), DD.same (same_upd (Same.refl H) hD), M.same (same_upd (Same.refl H) hD), by omega, by omega⟩ ?_ ?_⟩
  · rintro i H3 hi ⟨acc, ts, n', q1, q2, q3, q4, q5, q6, q7, q8⟩
    obtain ⟨nDm, nDg, nDc⟩ := M.nl hD
    have nND : ¬ (H D = none ∧ D ≠ D) := fun q => q.2 rfl
    refine ⟨rfl, ?_⟩
    dsimp only [tYes]
    rw [if_pos rfl]
    refine ⟨_, rfl, m, lc, lg, n', rfl, q6, by rw [c1]; omega, fun H4 p nn t dd np M4 l1 l2 pr gt => ?_⟩
    rw [c1] at l2
    have q14 := dd D _ nDm nDg q1
    have kN : KpN (fun b => H b = none ∧ b ≠ D) H3 H4 := fun b o nb q _ => let z := M.nm nb.1; dd b o z.1 z.2 q
    have ft : Fits t 5942 30 4 2 := (GP_fits (d := 2) (.inr (.inr gt))).mono (by decide) (by decide) (by decide) (by decide)
    have itt : isT t = true := by
      obtain ⟨g, qs, rfl, _⟩ := gt
      rfl
    refine ⟨acc, q14, by omega, acc ++ [.ref p], ts ++ [t], nn, upd_same, ?_, by rw [List.length_append, q3]; rfl, fun u hu => (List.mem_append.mp hu).elim (q4 u) (fun z => by rw [List.mem_singleton.mp z]; exact ⟨ft, itt⟩), ?_, M4.offL nDm nDg nDc, by omega, by omega⟩
    · refine Paired.snoc (Paired.mapP q2 fun a b q => (q.kp kN (dd.kpo q6)).kp (kpN_upd nND) (kpO_upd q14)) ((pr.mono fun b hb => ⟨q5.free q6 hb, fun z => ?_⟩).kp (kpN_upd nND) (kpO_upd q14))
      have hb : H3 b = none := hb
      rw [z, q1] at hb
      cases hb
    · intro b o b1 b2 q
      rw [upd_ne (ne_of_none q hD)]
      exact dd b o b1 b2 (q5 b o b1 b2 q)
  rintro H3 ⟨acc, ts, n', q1, q2, q3, q4, q5, q6, q7, q8⟩
  obtain ⟨as, ps, vs, rfl, f2, f3', f4, f5, f6, f7⟩ := prs_pl q2
  have al : as.length = 3 := by rw [← q3, List.length_map]
  exact k H3 D as ps vs ts n' q5 hD q6 q7 (by omega) q1 al (by omega) f7 f3' f4 q4
theorem er2 (TR : TxtTR P w K mg base C CI a) (ER : TxtER P w K mg base C fE fP2 fdP2) (hr : Room 10 (A.deeper (PyProof.Rows.envOfC "_law_equal_right" (defScope sEqualRight) s.heap.objs.size f cdv))) (hG : A.guards = some []) (gR : mg "range" = none) (gRp : mg "repr" = none) :
    ∃ t : TS, PS (cxOf CX0 P w K mg base NER "_law_equal_right" (defScope sEqualRight) f cdv A outer s H0 E).nox (stER 1) t ∧ ∀ (Z : Ends) (H : Hp) (m D : Addr) (N : Addr → Prop) (as : List Addr) (ps vs : List V) (ts : List Tr), H D = some (.lst (as.map V.ref)) →
      (∀ (i : Nat) (a : Addr), as[i]? = some a → ∃ p v, ps[i]? = some p ∧ vs[i]? = some v ∧ H a = some (.tup [p, v])) → PlsAt N H ps ts → PtsAt C H vs ts → (∀ t ∈ ts, Fits t 5942 30 4 2 ∧ isT t = true) →
      (∀ (H' : Hp) (v2 v3 : Option V), Same H H' → Z.nx [some (.ref m), some (.ref D), v2, v3, none, none, none, none, none, none] H') →
      t Z [some (.ref m), some (.ref D), none, none, none, none, none, none, none, none] H := by
  have hr10 : Room 10 _ := hr
  have hr5 : Room 5 _ := hr.mono (by decide)
  have hr3 : Room 3 _ := hr.mono (by decide)
  have hr1 : Room 1 _ := hr.mono (by decide)
  have hu80 : (A.deeper (PyProof.Rows.envOfC "_law_equal_right" (defScope sEqualRight) s.heap.objs.size f cdv)).units + 80 < cLine := by have := hr.un; omega
  have hu64 : (A.deeper (PyProof.Rows.envOfC "_law_equal_right" (defScope sEqualRight) s.heap.objs.size f cdv)).units + 64 < cLine := by omega
  have hu0 : (A.deeper (PyProof.Rows.envOfC "_law_equal_right" (defScope sEqualRight) s.heap.objs.size f cdv)).units < cLine := by omega
  have big : (1000000 : Nat) < sizeLine := by decide
  refine ⟨_, (ps_for PassesOwn.never rfl (pi_list (pv 1)) (pg_name (i := 2) scER.nd rfl (.inl rfl)) (pss_one (ps_for PassesOwn.never rfl (pi_list (pv 1)) (pg_name (i := 3) scER.nd rfl (.inl rfl)) (pss_one (ps_if (pt_cmpR op_ne (pe_callB (call_reprD hG hu80) (by rfl) gRp PyProof.Rows.boot_repr (pa_cons (pe_lst (pa_cons (pe_cmpR (op_eqO (E := E0) ER.OE ER.GE hr1 pass0) (pe_ix ix_tup (pv 2) pe_int (fun _ _ => rfl)) (pe_ix ix_tup (pv 3) pe_int (fun _ _ => rfl)) (nomark _)) (pa_cons (pe_cmpR (op_neO (E := E0) ER.OE ER.NE ER.GE hr3 pass0) (pe_ix ix_tup (pv 2) pe_int (fun _ _ => rfl)) (pe_ix ix_tup (pv 3) pe_int (fun _ _ => rfl)) (nomark _)) pa_nil))) pa_nil)) (pe_callB (call_reprD hG hu80) (by rfl) gRp PyProof.Rows.boot_repr (pa_cons (pe_lst (pa_cons (pe_cmpR (op_eqD hu64) (pe_ix ix_tup (pv 2) pe_int (fun _ _ => rfl)) (pe_ix ix_tup (pv 3) pe_int (fun _ _ => rfl)) (nomark _)) (pa_cons (pe_cmpR (op_neD hu64) (pe_ix ix_tup (pv 2) pe_int (fun _ _ => rfl)) (pe_ix ix_tup (pv 3) pe_int (fun _ _ => rfl)) (nomark _)) pa_nil))) pa_nil)) (nomark _)) (pss_one (ps_ret pe_bl)) pss_nil))))), ?_⟩
  rintro Z H m D N as ps vs ts hD hp pl pt ft k
  refine ⟨_, rfl, D, rfl, ⟨_, SqL.of hD⟩, for_list (K := K) (a := D) (xs := as.map V.ref) (fun i σ H' => ∃ v2 v3 : Option V, σ = [some (.ref m), some (.ref D), v2, v3, none, none, none, none, none, none] ∧ Same H H') ⟨_, _, rfl, Same.refl _⟩ (fun i σ H' _ ⟨_, _, _, s'⟩ => SqL.of (s' _ _ hD)) ?_ (fun σ H' ⟨v2, v3, e, s'⟩ => by rw [e]; exact k H' v2 v3 s')⟩
  rintro i x σ H1 hx ⟨v2, v3, rfl, s1⟩
  rw [List.getElem?_map] at hx
  cases ha : as[i]? with
  | none => rw [ha] at hx; cases hx
  | some a1 =>
    rw [ha] at hx
    have hx : V.ref a1 = x := Option.some.inj hx
    subst hx
    obtain ⟨p1, x1, g1, g2, g3⟩ := hp i a1 ha
    obtain ⟨t1, e1, pt1⟩ := pts_get pt g2
    obtain ⟨t1', e1', pl1⟩ := pls_get pl g1
    rw [e1] at e1'
    cases e1'
    obtain ⟨ft1, it1⟩ := ft _ (List.mem_of_getElem? e1)
    refine ⟨_, rfl, D, rfl, ⟨_, SqL.of (s1 _ _ hD)⟩, for_list (K := K) (a := D) (xs := as.map V.ref) (fun i σ H' => ∃ v3 : Option V, σ = [some (.ref m), some (.ref D), some (.ref a1), v3, none, none, none, none, none, none] ∧ Same H H') ⟨_, rfl, s1⟩ (fun i σ H' _ ⟨_, _, s'⟩ => SqL.of (s' _ _ hD)) ?_ (fun σ H' ⟨v3, e, s'⟩ => by rw [e]; exact ⟨_, _, rfl, s'⟩)⟩
    rintro j y σ H2 hy ⟨v3, rfl, s2⟩
    rw [List.getElem?_map] at hy
    cases hb : as[j]? with
    | none => rw [hb] at hy; cases hy
    | some a2 =>
      rw [hb] at hy
      have hy : V.ref a2 = y := Option.some.inj hy
      subst hy
      obtain ⟨p2, x2, g4, g5, g6⟩ := hp j a2 hb
      obtain ⟨t2, e2, pt2⟩ := pts_get pt g5
      obtain ⟨t2', e2', pl2⟩ := pls_get pl g4
      rw [e2] at e2'
      cases e2'
      obtain ⟨ft2, it2⟩ := ft _ (List.mem_of_getElem? e2)
      have n1 : ∀ {H'}, Same H H' → SqT K H' a1 [p1, x1] := fun s' => SqT.of (s' _ _ g3)
      have n2 : ∀ {H'}, Same H H' → SqT K H' a2 [p2, x2] := fun s' => SqT.of (s' _ _ g6)
      have P1 : ∀ {H'}, Same H H' → PtAt C H' x1 t1 := fun s' => PtAt.kpo (KpO.same s') _ pt1
      have P2 : ∀ {H'}, Same H H' → PtAt C H' x2 t2 := fun s' => PtAt.kpo (KpO.same s') _ pt2
      have L1 : ∀ {H'}, Same H H' → Dp K H' p1 (dat t1) := fun s' => PlAt.dp t1 (PlAt.kp (KpN.same s') _ pl1)
      have L2 : ∀ {H'}, Same H H' → Dp K H' p2 (dat t2) := fun s' => PlAt.dp t2 (PlAt.kp (KpN.same s') _ pl2)
      have sh1 : SeqAt.shaped (dat t1) = true := dat_sh ft1.g (by have := ft1.h; omega)
      have sh2 : SeqAt.shaped (dat t2) = true := dat_sh ft2.g (by have := ft2.h; omega)
      have at0 : ∀ {p x : V}, atI [p, x] 0 = some p := fun {p x} => atI_nat (j := 0) rfl
      have at1 : ∀ {p x : V}, atI [p, x] 1 = some x := fun {p x} => atI_nat (j := 1) rfl
      have deq := dat_bool ft1.g ft2.g
      obtain ⟨w1, w2, w3, w4⟩ := two_ok (decide (said t1 = said t2)) (!decide (said t1 = said t2))
      refine ⟨_, rfl, _, _, _, _, rfl, rfl, n1 s2, at1, _, rfl, _, _, _, _, rfl, rfl, n2 s2, at1, eqO_tree TR.T5 ER.nf (P1 s2) it1 (P2 s2) it2 ?_⟩
      refine ⟨_, rfl, _, _, _, _, rfl, rfl, n1 s2, at1, _, rfl, _, _, _, _, rfl, rfl, n2 s2, at1, neO_tree TR.T5 ER.nf (P1 s2) it1 (P2 s2) it2 ?_⟩
      refine ⟨by show 2 ≤ sizeLine; omega, fun l1 nl1 => ?_⟩
      have s3 : Same H2 (upd H2 l1 (.lst [.bl (decide (said t1 = said t2)), .bl (!decide (said t1 = said t2))])) := same_upd (Same.refl H2) nl1
      have v3' : (upd H2 l1 (.lst [.bl (decide (said t1 = said t2)), .bl (!decide (said t1 = said t2))])) l1 = some (.lst [.bl (decide (said t1 = said t2)), .bl (!decide (said t1 = said t2))]) := upd_same
      generalize upd H2 l1 (.lst [.bl (decide (said t1 = said t2)), .bl (!decide (said t1 = said t2))]) = H3 at s3 v3' ⊢
      have s03 := s2.trans s3
      refine ⟨l1, _, rfl, .lst (SqL.of v3') (.cons (.bl _) (.cons (.bl _) .nil)), w1, w2, w3, by omega, ?_⟩
      refine ⟨_, rfl, _, _, _, _, rfl, rfl, n1 s03, at0, _, rfl, _, _, _, _, rfl, rfl, n2 s03, at0, _, _, L1 s03, L2 s03, sh1, sh2, ?_⟩
      refine ⟨_, rfl, _, _, _, _, rfl, rfl, n1 s03, at0, _, rfl, _, _, _, _, rfl, rfl, n2 s03, at0, _, _, L1 s03, L2 s03, sh1, sh2, ?_⟩
      rw [deq]
      refine ⟨by show 2 ≤ sizeLine; omega, fun l2 nl2 => ?_⟩
      have s4 : Same H3 (upd H3 l2 (.lst [.bl (decide (said t1 = said t2)), .bl (!decide (said t1 = said t2))])) := same_upd (Same.refl H3) nl2
      have v4' : (upd H3 l2 (.lst [.bl (decide (said t1 = said t2)), .bl (!decide (said t1 = said t2))])) l2 = some (.lst [.bl (decide (said t1 = said t2)), .bl (!decide (said t1 = said t2))]) := upd_same
      generalize upd H3 l2 (.lst [.bl (decide (said t1 = said t2)), .bl (!decide (said t1 = said t2))]) = H4 at s4 v4' ⊢
      refine ⟨l2, _, rfl, .lst (SqL.of v4') (.cons (.bl _) (.cons (.bl _) .nil)), w1, w2, w3, by omega, ?_⟩
      refine ⟨rfl, _, rfl, ?_⟩
      rw [decide_eq_true rfl]
      refine iteF ?_
      exact ⟨_, rfl, s03.trans s4⟩
end
end K3

namespace K3
open PySem L2 E0 EG
open LamX (ExtN Tabs TabS TabB LamS lamS_by lamSB)
/-! ### small trees that are written -/
def okTxb : Tr → Bool
  | .tx s => decide (s.length ≤ 1000)
  | .row ts => ts.all hasText && decide (ts.length ≤ 1000) && decide (joinB ts ≤ 16000000)
  | _ => true
theorem okTxb_ok : ∀ {t : Tr}, okTxb t = true → okTx t
  | .tx s, h => of_decide_eq_true (p := s.length ≤ 1000) h
  | .row ts, h => by
    have h : (ts.all hasText && decide (ts.length ≤ 1000) && decide (joinB ts ≤ 16000000)) = true := h
    simp only [Bool.and_eq_true, decide_eq_true_eq, List.all_eq_true] at h
    exact ⟨h.1.1, h.1.2, h.2⟩
  | .vr .., _ => True.intro
  | .nd .., _ => True.intro
def fineT (z : Str) (ts : List Tr) : Bool := nameS z && PyData.strOk z && (ts.all fun t => okP t && decide (rowB t ≤ 1000) && okTxb t) && decide (ts.length ≤ 1000) && decide (joinB ts ≤ 16000000) && decide (1 + sizes ts ≤ 400) && decide (levelss ts + 1 ≤ 100)
theorem mkT_f {K : PySem.W.Frag} {C : Cl5} {CI : Addr} {z : Str} {xs : List V} (ts : List Tr) {H : Hp} {Q : VK} {E : XK} (h : fineT z ts = true) (hp : PtsAt C H xs ts) (k : ∀ H' x, Same H H' → H x = none → PtAt C H' (.ref x) (.nd false z ts) → Q (.ref x) H') : MkT K C CI (.str z :: xs) H Q E := by
  unfold fineT at h
  simp only [Bool.and_eq_true, decide_eq_true_eq, List.all_eq_true] at h
  obtain ⟨⟨⟨⟨⟨⟨h1, h2⟩, h3⟩, h4⟩, h5⟩, h6⟩, h7⟩ := h
  exact mkT_good h1 h2 hp (fun t ht => ⟨(h3 t ht).1.1, (h3 t ht).1.2, okTxb_ok (h3 t ht).2⟩) h4 h5 h6 h7 fun H' x s n p _ => k H' x s n p
/-- the trees that are compared -/
def sL : Str := said leafT
def tens : List Tr := [.nd false "A" [leafT], .nd false "A" [.row [leafT]], .nd false "A" [.tx sL], .nd false "A" [], .nd false "B" [leafT], .nd false "A" [.row []],
  .nd false "A" [leafT, .row []], .nd false "A" [.row [leafT, leafT]], .nd false "A" [leafT, leafT], .nd false "A" [.row [leafT], .row [leafT]]]
theorem tens_ok : ((List.range 10).all fun i => (List.range 10).all fun j => (decide (said (tens.getD i leafT) = said (tens.getD j leafT)) == decide (i = j)) && isT (tens.getD i leafT)) = true := by decide +kernel
/-! ### what is no tree -/
def OddE (K : PySem.W.Frag) (C : Cl5) (H : Hp) (v : V) : Prop := ∃ ty, TyX K H v ty ∧ PySem.W.notFirst K C.T ty = true ∧ PySem.W.kitOne K ty (.ref C.T) = some false
theorem OddE.same {K : PySem.W.Frag} {C : Cl5} {H H' : Hp} {v : V} (s : Same H H') (h : OddE K C H v) : OddE K C H' v := by
  obtain ⟨ty, h1, h2, h3⟩ := h
  exact ⟨ty, TyX.keep h1 fun a o _ q => s a o q, h2, h3⟩
section
variable {P : Program} {w : World} {K : PySem.W.Frag} {mg : Str → Option Value} {base : Heap} {C : Cl5} {CI f : Addr} {cdv : Value} {a : AdT} {fE fP2 : Addr} {fdP2 : FuncData} {A : Around} {outer : List Env} {s : Shared} {H0 : Hp} {E : XK}
theorem er3 (TR : TxtTR P w K mg base C CI a) (ER : TxtER P w K mg base C fE fP2 fdP2) (hr : Room 10 (A.deeper (PyProof.Rows.envOfC "_law_equal_right" (defScope sEqualRight) s.heap.objs.size f cdv))) (hG : A.guards = some []) (gR : mg "range" = none) (gRp : mg "repr" = none) :
    ∃ t : TS, PS (cxOf CX0 P w K mg base NER "_law_equal_right" (defScope sEqualRight) f cdv A outer s H0 E).nox (stER 2) t ∧ ∀ (Z : Ends) (H : Hp) (m D : Addr) (v2 v3 : Option V) (as : List Addr) (ps vs : List V) (ts : List Tr), H D = some (.lst (as.map V.ref)) → as.length = 3 →
      (∀ (i : Nat) (a : Addr), as[i]? = some a → ∃ p v, ps[i]? = some p ∧ vs[i]? = some v ∧ H a = some (.tup [p, v])) → PtsAt C H vs ts → (∀ t ∈ ts, Fits t 5942 30 4 2 ∧ isT t = true) →
      (∀ (H' : Hp) (lf : Addr) (v0 : V) (t0 : Tr), Same H H' → PtAt C H' (.ref lf) leafT → PtAt C H' v0 t0 → isT t0 = true → Z.nx [some (.ref m), some (.ref D), v2, v3, some (.ref lf), some v0, none, none, none, none] H') →
      t Z [some (.ref m), some (.ref D), v2, v3, none, none, none, none, none, none] H := by
  have hr10 : Room 10 _ := hr
  have hr5 : Room 5 _ := hr.mono (by decide)
  have hr3 : Room 3 _ := hr.mono (by decide)
  have hr1 : Room 1 _ := hr.mono (by decide)
  have hu80 : (A.deeper (PyProof.Rows.envOfC "_law_equal_right" (defScope sEqualRight) s.heap.objs.size f cdv)).units + 80 < cLine := by have := hr.un; omega
  have hu64 : (A.deeper (PyProof.Rows.envOfC "_law_equal_right" (defScope sEqualRight) s.heap.objs.size f cdv)).units + 64 < cLine := by omega
  have hu0 : (A.deeper (PyProof.Rows.envOfC "_law_equal_right" (defScope sEqualRight) s.heap.objs.size f cdv)).units < cLine := by omega
  have big : (1000000 : Nat) < sizeLine := by decide
  refine ⟨_, (ps_par (i := 4) (j := 5) (by rfl) scER.nd rfl rfl (by decide) rfl rfl (pa_cons (pe_mkT (E := E0) TR.MT TR.GT hr5 rfl TR.gT passL (pa_cons pe_str (pa_cons pe_str pa_nil))) (pa_cons (pe_ix ix_tup (pe_ix ix_list (pv 1) pe_int (fun _ _ => rfl)) pe_int (fun _ _ => rfl)) pa_nil)) (by rfl)), ?_⟩
  rintro Z H m D v2 v3 as ps vs ts hD al hp pt ft k
  refine mkT_leaf fun H1 lf s1 _ plf => ?_
  obtain ⟨a0, ha0⟩ : ∃ a0, as[0]? = some a0 := by
    cases as with
    | nil => cases al
    | cons x xs => exact ⟨x, rfl⟩
  obtain ⟨p0, v0, g1, g2, g3⟩ := hp 0 a0 ha0
  obtain ⟨t0, e1, pt0⟩ := pts_get pt g2
  have at0 : atI (as.map V.ref) 0 = some (.ref a0) := atI_nat (j := 0) (by rw [List.getElem?_map, ha0]; rfl)
  refine ⟨_, rfl, D, _, _, _, rfl, rfl, SqL.of (s1 _ _ hD), at0, _, _, _, _, rfl, rfl, SqT.of (s1 _ _ g3), atI_nat (j := 1) rfl, ?_⟩
  exact ⟨_, _, rfl, k H1 lf v0 t0 s1 plf (PtAt.kpo (KpO.same s1) _ pt0) (ft _ (List.mem_of_getElem? e1)).2⟩
theorem er4 (TR : TxtTR P w K mg base C CI a) (ER : TxtER P w K mg base C fE fP2 fdP2) (hr : Room 10 (A.deeper (PyProof.Rows.envOfC "_law_equal_right" (defScope sEqualRight) s.heap.objs.size f cdv))) (hG : A.guards = some []) (gR : mg "range" = none) (gRp : mg "repr" = none) :
    ∃ t : TS, PS (cxOf CX0 P w K mg base NER "_law_equal_right" (defScope sEqualRight) f cdv A outer s H0 E).nox (stER 3) t ∧ ∀ (Z : Ends) (H : Hp) (m D lf : Addr) (v2 v3 : Option V) (v0 : V) (t0 : Tr), PtAt C H (.ref lf) leafT → PtAt C H v0 t0 → isT t0 = true →
      (∀ (H' : Hp) (v6 : Option V), Same H H' → Z.nx [some (.ref m), some (.ref D), v2, v3, some (.ref lf), some v0, v6, none, none, none] H') →
      t Z [some (.ref m), some (.ref D), v2, v3, some (.ref lf), some v0, none, none, none, none] H := by
  have hr10 : Room 10 _ := hr
  have hr5 : Room 5 _ := hr.mono (by decide)
  have hr3 : Room 3 _ := hr.mono (by decide)
  have hr1 : Room 1 _ := hr.mono (by decide)
  have hu80 : (A.deeper (PyProof.Rows.envOfC "_law_equal_right" (defScope sEqualRight) s.heap.objs.size f cdv)).units + 80 < cLine := by have := hr.un; omega
  have hu64 : (A.deeper (PyProof.Rows.envOfC "_law_equal_right" (defScope sEqualRight) s.heap.objs.size f cdv)).units + 64 < cLine := by omega
  have hu0 : (A.deeper (PyProof.Rows.envOfC "_law_equal_right" (defScope sEqualRight) s.heap.objs.size f cdv)).units < cLine := by omega
  have big : (1000000 : Nat) < sizeLine := by decide
  refine ⟨_, (ps_for PassesOwn.never rfl (pi_tup (pe_tup (pa_cons pe_non (pa_cons pe_int (pa_cons pe_str (pa_cons (pe_fld (pv 5) rfl) (pa_cons (pe_fld (pv 5) rfl) (pa_cons (pe_mkL (E := E0) TR.ML TR.GL hr5 rfl TR.gL passL (pa_cons pe_str (pa_cons pe_str pa_nil))) (pa_cons (pe_mkV (E := E0) (j := 0) TR.MV TR.GV hr3 rfl TR.gV TR.BV pass0 (pa_cons pe_str pa_nil)) (pa_cons (pe_call TR.GDb hr1 rfl TR.ADb.g TR.ADb.k TR.ADb.b .nil pass0 (pa_cons pe_int pa_nil)) (pa_cons (pe_call TR.GDb hr1 rfl TR.ADb.g TR.ADb.k TR.ADb.b .nil pass0 (pa_cons pe_int pa_nil)) pa_nil))))))))))) (pg_name (i := 6) scER.nd rfl (.inl rfl)) (pss_one (ps_if (PW.pt (pw_or (pt_cmpR (op_eqO (E := E0) ER.OE ER.GE hr1 pass0) (pv 5) (pv 6) (nomark _)) (pw_or (pt_not (pt_cmpR (op_neO (E := E0) ER.OE ER.NE ER.GE hr3 pass0) (pv 5) (pv 6) (nomark _))) (pw_or1 (pt_cmpR (op_eqO (E := E0) ER.OE ER.GE hr1 pass0) (pv 4) (pv 6) (nomark _)))))) (pss_one (ps_ret pe_bl)) pss_nil))), ?_⟩
  rintro Z H m D lf v2 v3 v0 t0 plf p0 i0 k
  obtain ⟨g, qs, rfl⟩ : ∃ g qs, t0 = .nd false g qs := by
    match t0, i0 with
    | .nd false g qs, _ => exact ⟨g, qs, rfl⟩
  have P0 := p0
  obtain ⟨x, dx, fs, pa, xs, rfl, e2, e3, e4, e5, e6, e7, e8, e9, e10⟩ := p0
  have mT : C.T ∈ C.all := C.n_mem false
  have cl := (TR.T5.own _ mT).cl
  have na := TR.N5.na _ mT
  refine ⟨_, rfl, x, C.T, dx, fs, _, rfl, e2, cl, na _ (by decide +kernel), e9, ?_⟩
  refine ⟨_, rfl, x, C.T, dx, fs, _, rfl, e2, cl, na _ (by decide +kernel), e4, ?_⟩
  obtain ⟨k1, k2, k3, k4, k5, k6, k7, k8⟩ := leaf_ok
  refine ⟨"Num", [.str "1"], [.tx "1"], rfl, k1, k2, ⟨rfl, True.intro⟩, (fun t ht => by rw [List.mem_singleton.mp ht]; show ("1" : Str).length ≤ 60; decide +kernel), (by decide), (Nat.le_trans k6 (by decide)), fun H1 l1 s1 n1 q1 => ?_⟩
  refine ⟨"Num", rfl, by decide +kernel, by decide +kernel, fun H2 l2 s2 n2 q2 => ?_⟩
  refine ⟨0, by decide, rfl, fun H3 l3 x3 s3 n3 w3 d3 => ?_⟩
  refine ⟨1, by decide, rfl, fun H4 l4 x4 s4 n4 w4 _ => ?_⟩
  rw [if_pos rfl] at w3
  rw [if_neg (by decide)] at w4
  refine ⟨by show 9 ≤ sizeLine; omega, fun tp ntp => ?_⟩
  have s5 : Same H4 (upd H4 tp (.tup [.non, .int 0, .str "", .str (g ++ "(" ++ Txt.join ", " (saids qs) ++ ")"), .ref pa, .ref l1, .ref l2, .ref l3, .ref l4])) := same_upd (Same.refl H4) ntp
  have v5 : (upd H4 tp (.tup [.non, .int 0, .str "", .str (g ++ "(" ++ Txt.join ", " (saids qs) ++ ")"), .ref pa, .ref l1, .ref l2, .ref l3, .ref l4])) tp = some (.tup [.non, .int 0, .str "", .str (g ++ "(" ++ Txt.join ", " (saids qs) ++ ")"), .ref pa, .ref l1, .ref l2, .ref l3, .ref l4]) := upd_same
  generalize upd H4 tp (.tup [.non, .int 0, .str "", .str (g ++ "(" ++ Txt.join ", " (saids qs) ++ ")"), .ref pa, .ref l1, .ref l2, .ref l3, .ref l4]) = H5 at s5 v5 ⊢
  have t35 := s4.trans s5
  have t25 := s3.trans t35
  have t15 := s2.trans t25
  have t05 := s1.trans t15
  have odd : ∀ v ∈ [.non, .int 0, .str "", .str (g ++ "(" ++ Txt.join ", " (saids qs) ++ ")"), .ref pa, .ref l1, .ref l2, .ref l3, .ref l4], OddE K C H5 v := by
    intro v hv
    simp only [List.mem_cons, List.not_mem_nil, or_false] at hv
    rcases hv with rfl | rfl | rfl | rfl | rfl | rfl | rfl | rfl | rfl
    · exact ⟨_, .base .non, ER.nf.non, TR.NT.non⟩
    · exact ⟨_, .base (.int _), ER.nf.int, TR.NT.int⟩
    · exact ⟨_, .base (.str _), ER.nf.str, ER.nf.kstr⟩
    · exact ⟨_, .base (.str _), ER.nf.str, ER.nf.kstr⟩
    · exact ⟨_, .base (.tup (t05 _ _ e5)), ER.nf.tup, TR.NT.tup⟩
    · exact ⟨_, PtAt.ty TR.T5 (PtAt.kpo (KpO.same t15) _ q1), ER.nf.L, kit_T TR.T5 (.nd true "Num" [.tx "1"])⟩
    · exact ⟨_, PtAt.ty TR.T5 (PtAt.kpo (KpO.same t25) _ q2), ER.nf.V, kit_T TR.T5 (.vr 0 "Num")⟩
    · exact ⟨_, .base (.tup (t35 _ _ w3)), ER.nf.tup, TR.NT.tup⟩
    · exact ⟨_, .base (.lst (s5 _ _ w4)), ER.nf.lst, TR.NT.lst⟩
  refine ⟨tp, rfl, ⟨_, SqT.of v5⟩, for_tup (K := K) (a := tp) (xs := [.non, .int 0, .str "", .str (g ++ "(" ++ Txt.join ", " (saids qs) ++ ")"), .ref pa, .ref l1, .ref l2, .ref l3, .ref l4]) (fun i σ H' => ∃ v6 : Option V, σ = [some (.ref m), some (.ref D), v2, v3, some (.ref lf), some (.ref x), v6, none, none, none] ∧ Same H5 H') ⟨_, rfl, Same.refl _⟩ (fun i σ H' _ ⟨_, _, s'⟩ => SqT.of (s' _ _ v5)) ?_ (fun σ H' ⟨v6, e, s'⟩ => by rw [e]; exact k H' v6 (t05.trans s'))⟩
  rintro i y σ H6 hy ⟨v6, rfl, s6⟩
  obtain ⟨ty, o1, o2, o3⟩ := (odd y (List.mem_of_getElem? hy)).same s6
  have s06 := t05.trans s6
  have A1 := PtAt.kpo (KpO.same s06) _ P0
  have A2 := PtAt.kpo (KpO.same s06) _ plf
  refine ⟨_, rfl, _, rfl, eqO_odd A1 rfl o1 o2 o3 ⟨_, rfl, ?_⟩⟩
  refine iteF ?_
  refine ⟨_, rfl, _, rfl, neO_odd A1 rfl o1 o2 o3 ⟨_, rfl, ?_⟩⟩
  refine iteF ?_
  refine ⟨_, rfl, _, rfl, eqO_odd A2 rfl o1 o2 o3 ⟨_, rfl, ?_⟩⟩
  refine iteF ?_
  exact ⟨_, rfl, s6⟩
theorem er5 (TR : TxtTR P w K mg base C CI a) (ER : TxtER P w K mg base C fE fP2 fdP2) (hr : Room 10 (A.deeper (PyProof.Rows.envOfC "_law_equal_right" (defScope sEqualRight) s.heap.objs.size f cdv))) (hG : A.guards = some []) (gR : mg "range" = none) (gRp : mg "repr" = none) :
    ∃ t : TS, PS (cxOf CX0 P w K mg base NER "_law_equal_right" (defScope sEqualRight) f cdv A outer s H0 E).nox (stER 4) t ∧ ∀ (Z : Ends) (H : Hp) (σ : L2.St) (lf : Addr), σ[4]? = some (some (.ref lf)) → PtAt C H (.ref lf) leafT →
      (∀ (H' : Hp) (o : Addr) (vs : List V), Same H H' → H' o = some (.lst vs) → PtsAt C H' vs (tens.take 6) → Z.nx (σ.set 7 (some (.ref o))) H') → t Z σ H := by
  have hr10 : Room 10 _ := hr
  have hr5 : Room 5 _ := hr.mono (by decide)
  have hr3 : Room 3 _ := hr.mono (by decide)
  have hr1 : Room 1 _ := hr.mono (by decide)
  have hu80 : (A.deeper (PyProof.Rows.envOfC "_law_equal_right" (defScope sEqualRight) s.heap.objs.size f cdv)).units + 80 < cLine := by have := hr.un; omega
  have hu64 : (A.deeper (PyProof.Rows.envOfC "_law_equal_right" (defScope sEqualRight) s.heap.objs.size f cdv)).units + 64 < cLine := by omega
  have hu0 : (A.deeper (PyProof.Rows.envOfC "_law_equal_right" (defScope sEqualRight) s.heap.objs.size f cdv)).units < cLine := by omega
  have big : (1000000 : Nat) < sizeLine := by decide
  refine ⟨_, (ps_set (i := 7) scER.nd rfl (Or.inr rfl) (pe_lst (pa_cons (pe_mkT (E := E0) TR.MT TR.GT hr5 rfl TR.gT passL (pa_cons pe_str (pa_cons (pv 4) pa_nil))) (pa_cons (pe_mkT (E := E0) TR.MT TR.GT hr5 rfl TR.gT passL (pa_cons pe_str (pa_cons (pe_tup (pa_cons (pv 4) pa_nil)) pa_nil))) (pa_cons (pe_mkT (E := E0) TR.MT TR.GT hr5 rfl TR.gT passL (pa_cons pe_str (pa_cons (pe_fld (pv 4) rfl) pa_nil))) (pa_cons (pe_mkT (E := E0) TR.MT TR.GT hr5 rfl TR.gT passL (pa_cons pe_str pa_nil)) (pa_cons (pe_mkT (E := E0) TR.MT TR.GT hr5 rfl TR.gT passL (pa_cons pe_str (pa_cons (pv 4) pa_nil))) (pa_cons (pe_mkT (E := E0) TR.MT TR.GT hr5 rfl TR.gT passL (pa_cons pe_str (pa_cons (pe_tup pa_nil) pa_nil))) pa_nil)))))))), ?_⟩
  rintro Z H σ lf h4 plf k
  have mT : C.T ∈ C.all := C.n_mem false
  have cl := (TR.T5.own _ mT).cl
  have na := TR.N5.na _ mT
  have sL_eq : V.str ("Num" ++ "(" ++ Txt.join ", " (saids [.tx "1"]) ++ ")") = V.str sL := congrArg V.str (by decide +kernel)
  refine ⟨_, h4, ?_⟩
  refine mkT_f (H := H) [leafT] (by decide +kernel) ⟨(PtAt.kpo (KpO.same (Same.refl H)) _ plf), True.intro⟩ fun G0 u0 s0 nu0 p0 => ?_
  have z0 : Same H G0 := s0
  refine ⟨_, h4, ?_⟩
  refine ⟨by show 1 ≤ sizeLine; omega, fun u1 nu1 => ?_⟩
  have s1 : Same G0 (upd G0 u1 (.tup [.ref lf])) := same_upd (Same.refl G0) nu1
  have w1 : (upd G0 u1 (.tup [.ref lf])) u1 = some (.tup [.ref lf]) := upd_same
  generalize upd G0 u1 (.tup [.ref lf]) = G1 at s1 w1 ⊢
  have z1 : Same H G1 := z0.trans s1
  refine mkT_f (H := G1) [.row [leafT]] (by decide +kernel) ⟨⟨_, _, rfl, (w1), (PtAt.kpo (KpO.same (z1)) _ plf), True.intro⟩, True.intro⟩ fun G2 u2 s2 nu2 p2 => ?_
  have z2 : Same H G2 := z1.trans s2
  obtain ⟨lx, ldx, lfs, lpa, lxs, le1, le2, le3, le4, le5, le6, le7, le8, le9, le10⟩ := id (PtAt.kpo (KpO.same (z2)) _ plf)
  cases le1
  refine ⟨_, h4, lf, C.T, ldx, lfs, _, rfl, le2, cl, na _ (by decide +kernel), le9, ?_⟩
  refine mkT_f (H := G2) [.tx sL] (by decide +kernel) ⟨sL_eq, True.intro⟩ fun G3 u3 s3 nu3 p3 => ?_
  have z3 : Same H G3 := z2.trans s3
  refine mkT_f (H := G3) [] (by decide +kernel) True.intro fun G4 u4 s4 nu4 p4 => ?_
  have z4 : Same H G4 := z3.trans s4
  refine ⟨_, h4, ?_⟩
  refine mkT_f (H := G4) [leafT] (by decide +kernel) ⟨(PtAt.kpo (KpO.same (z4)) _ plf), True.intro⟩ fun G5 u5 s5 nu5 p5 => ?_
  have z5 : Same H G5 := z4.trans s5
  refine ⟨by show 0 ≤ sizeLine; omega, fun u6 nu6 => ?_⟩
  have s6 : Same G5 (upd G5 u6 (.tup [])) := same_upd (Same.refl G5) nu6
  have w6 : (upd G5 u6 (.tup [])) u6 = some (.tup []) := upd_same
  generalize upd G5 u6 (.tup []) = G6 at s6 w6 ⊢
  have z6 : Same H G6 := z5.trans s6
  refine mkT_f (H := G6) [.row []] (by decide +kernel) ⟨⟨_, _, rfl, (w6), True.intro⟩, True.intro⟩ fun G7 u7 s7 nu7 p7 => ?_
  have z7 : Same H G7 := z6.trans s7
  refine ⟨by show 6 ≤ sizeLine; omega, fun o no => ?_⟩
  have sz : Same G7 (upd G7 o (.lst [.ref u0, .ref u2, .ref u3, .ref u4, .ref u5, .ref u7])) := same_upd (Same.refl G7) no
  have wz : (upd G7 o (.lst [.ref u0, .ref u2, .ref u3, .ref u4, .ref u5, .ref u7])) o = some (.lst [.ref u0, .ref u2, .ref u3, .ref u4, .ref u5, .ref u7]) := upd_same
  generalize upd G7 o (.lst [.ref u0, .ref u2, .ref u3, .ref u4, .ref u5, .ref u7]) = Gz at sz wz ⊢
  have zz := z7.trans sz
  exact k Gz o _ zz wz ⟨(PtAt.kpo (KpO.same (s1.trans (s2.trans (s3.trans (s4.trans (s5.trans (s6.trans (s7.trans sz)))))))) _ p0), (PtAt.kpo (KpO.same (s3.trans (s4.trans (s5.trans (s6.trans (s7.trans sz)))))) _ p2), (PtAt.kpo (KpO.same (s4.trans (s5.trans (s6.trans (s7.trans sz))))) _ p3), (PtAt.kpo (KpO.same (s5.trans (s6.trans (s7.trans sz)))) _ p4), (PtAt.kpo (KpO.same (s6.trans (s7.trans sz))) _ p5), (PtAt.kpo (KpO.same sz) _ p7), True.intro⟩
theorem er6 (TR : TxtTR P w K mg base C CI a) (ER : TxtER P w K mg base C fE fP2 fdP2) (hr : Room 10 (A.deeper (PyProof.Rows.envOfC "_law_equal_right" (defScope sEqualRight) s.heap.objs.size f cdv))) (hG : A.guards = some []) (gR : mg "range" = none) (gRp : mg "repr" = none) :
    ∃ t : TS, PS (cxOf CX0 P w K mg base NER "_law_equal_right" (defScope sEqualRight) f cdv A outer s H0 E).nox (stER 5) t ∧ ∀ (Z : Ends) (H : Hp) (σ : L2.St) (lf o : Addr) (vs : List V), σ[4]? = some (some (.ref lf)) → σ[7]? = some (some (.ref o)) → PtAt C H (.ref lf) leafT → H o = some (.lst vs) → PtsAt C H vs (tens.take 6) →
      (∀ (H' : Hp) (o' : Addr) (vs' : List V), Same H H' → H' o' = some (.lst vs') → PtsAt C H' vs' tens → Z.nx (σ.set 7 (some (.ref o'))) H') → t Z σ H := by
  have hr10 : Room 10 _ := hr
  have hr5 : Room 5 _ := hr.mono (by decide)
  have hr3 : Room 3 _ := hr.mono (by decide)
  have hr1 : Room 1 _ := hr.mono (by decide)
  have hu80 : (A.deeper (PyProof.Rows.envOfC "_law_equal_right" (defScope sEqualRight) s.heap.objs.size f cdv)).units + 80 < cLine := by have := hr.un; omega
  have hu64 : (A.deeper (PyProof.Rows.envOfC "_law_equal_right" (defScope sEqualRight) s.heap.objs.size f cdv)).units + 64 < cLine := by omega
  have hu0 : (A.deeper (PyProof.Rows.envOfC "_law_equal_right" (defScope sEqualRight) s.heap.objs.size f cdv)).units < cLine := by omega
  have big : (1000000 : Nat) < sizeLine := by decide
  refine ⟨_, (ps_set (i := 7) scER.nd rfl (Or.inr rfl) (pe_op op_cat (pv 7) (pe_lst (pa_cons (pe_mkT (E := E0) TR.MT TR.GT hr5 rfl TR.gT passL (pa_cons pe_str (pa_cons (pv 4) (pa_cons (pe_tup pa_nil) pa_nil)))) (pa_cons (pe_mkT (E := E0) TR.MT TR.GT hr5 rfl TR.gT passL (pa_cons pe_str (pa_cons (pe_tup (pa_cons (pv 4) (pa_cons (pv 4) pa_nil))) pa_nil))) (pa_cons (pe_mkT (E := E0) TR.MT TR.GT hr5 rfl TR.gT passL (pa_cons pe_str (pa_cons (pv 4) (pa_cons (pv 4) pa_nil)))) (pa_cons (pe_mkT (E := E0) TR.MT TR.GT hr5 rfl TR.gT passL (pa_cons pe_str (pa_cons (pe_tup (pa_cons (pv 4) pa_nil)) (pa_cons (pe_tup (pa_cons (pv 4) pa_nil)) pa_nil)))) pa_nil))))))), ?_⟩
  rintro Z H σ lf o vs h4 h7 plf ho pts k
  refine ⟨_, h7, ?_⟩
  refine ⟨_, h4, ?_⟩
  refine ⟨by show 0 ≤ sizeLine; omega, fun u0 nu0 => ?_⟩
  have s0 : Same H (upd H u0 (.tup [])) := same_upd (Same.refl H) nu0
  have w0 : (upd H u0 (.tup [])) u0 = some (.tup []) := upd_same
  generalize upd H u0 (.tup []) = G0 at s0 w0 ⊢
  have z0 : Same H G0 := s0
  refine mkT_f (H := G0) [leafT, .row []] (by decide +kernel) ⟨(PtAt.kpo (KpO.same (z0)) _ plf), ⟨_, _, rfl, (w0), True.intro⟩, True.intro⟩ fun G1 u1 s1 nu1 p1 => ?_
  have z1 : Same H G1 := z0.trans s1
  refine ⟨_, h4, ?_⟩
  refine ⟨_, h4, ?_⟩
  refine ⟨by show 2 ≤ sizeLine; omega, fun u2 nu2 => ?_⟩
  have s2 : Same G1 (upd G1 u2 (.tup [.ref lf, .ref lf])) := same_upd (Same.refl G1) nu2
  have w2 : (upd G1 u2 (.tup [.ref lf, .ref lf])) u2 = some (.tup [.ref lf, .ref lf]) := upd_same
  generalize upd G1 u2 (.tup [.ref lf, .ref lf]) = G2 at s2 w2 ⊢
  have z2 : Same H G2 := z1.trans s2
  refine mkT_f (H := G2) [.row [leafT, leafT]] (by decide +kernel) ⟨⟨_, _, rfl, (w2), (PtAt.kpo (KpO.same (z2)) _ plf), (PtAt.kpo (KpO.same (z2)) _ plf), True.intro⟩, True.intro⟩ fun G3 u3 s3 nu3 p3 => ?_
  have z3 : Same H G3 := z2.trans s3
  refine ⟨_, h4, ?_⟩
  refine ⟨_, h4, ?_⟩
  refine mkT_f (H := G3) [leafT, leafT] (by decide +kernel) ⟨(PtAt.kpo (KpO.same (z3)) _ plf), (PtAt.kpo (KpO.same (z3)) _ plf), True.intro⟩ fun G4 u4 s4 nu4 p4 => ?_
  have z4 : Same H G4 := z3.trans s4
  refine ⟨_, h4, ?_⟩
  refine ⟨by show 1 ≤ sizeLine; omega, fun u5 nu5 => ?_⟩
  have s5 : Same G4 (upd G4 u5 (.tup [.ref lf])) := same_upd (Same.refl G4) nu5
  have w5 : (upd G4 u5 (.tup [.ref lf])) u5 = some (.tup [.ref lf]) := upd_same
  generalize upd G4 u5 (.tup [.ref lf]) = G5 at s5 w5 ⊢
  have z5 : Same H G5 := z4.trans s5
  refine ⟨_, h4, ?_⟩
  refine ⟨by show 1 ≤ sizeLine; omega, fun u6 nu6 => ?_⟩
  have s6 : Same G5 (upd G5 u6 (.tup [.ref lf])) := same_upd (Same.refl G5) nu6
  have w6 : (upd G5 u6 (.tup [.ref lf])) u6 = some (.tup [.ref lf]) := upd_same
  generalize upd G5 u6 (.tup [.ref lf]) = G6 at s6 w6 ⊢
  have z6 : Same H G6 := z5.trans s6
  refine mkT_f (H := G6) [.row [leafT], .row [leafT]] (by decide +kernel) ⟨⟨_, _, rfl, (s6 _ _ (w5)), (PtAt.kpo (KpO.same (z6)) _ plf), True.intro⟩, ⟨_, _, rfl, (w6), (PtAt.kpo (KpO.same (z6)) _ plf), True.intro⟩, True.intro⟩ fun G7 u7 s7 nu7 p7 => ?_
  have z7 : Same H G7 := z6.trans s7
  refine ⟨by show 4 ≤ sizeLine; omega, fun o1 no1 => ?_⟩
  have sy : Same G7 (upd G7 o1 (.lst [.ref u1, .ref u3, .ref u4, .ref u7])) := same_upd (Same.refl G7) no1
  have wy : (upd G7 o1 (.lst [.ref u1, .ref u3, .ref u4, .ref u7])) o1 = some (.lst [.ref u1, .ref u3, .ref u4, .ref u7]) := upd_same
  generalize upd G7 o1 (.lst [.ref u1, .ref u3, .ref u4, .ref u7]) = Gy at sy wy ⊢
  refine ⟨o, o1, vs, _, rfl, rfl, (z7.trans sy) _ _ ho, wy, by show vs.length + 4 ≤ sizeLine; rw [pts_len pts]; show 6 + 4 ≤ sizeLine; omega, fun o2 no2 => ?_⟩
  have sz : Same Gy (upd Gy o2 (.lst (vs ++ [.ref u1, .ref u3, .ref u4, .ref u7]))) := same_upd (Same.refl Gy) no2
  have wz : (upd Gy o2 (.lst (vs ++ [.ref u1, .ref u3, .ref u4, .ref u7]))) o2 = some (.lst (vs ++ [.ref u1, .ref u3, .ref u4, .ref u7])) := upd_same
  generalize upd Gy o2 (.lst (vs ++ [.ref u1, .ref u3, .ref u4, .ref u7])) = Gz at sz wz ⊢
  have zz := (z7.trans sy).trans sz
  exact k Gz o2 _ zz wz (pts_app (PtsAt.kpo (KpO.same zz) _ pts) ⟨(PtAt.kpo (KpO.same (s2.trans (s3.trans (s4.trans (s5.trans (s6.trans (s7.trans (sy.trans sz)))))))) _ p1), (PtAt.kpo (KpO.same (s4.trans (s5.trans (s6.trans (s7.trans (sy.trans sz)))))) _ p3), (PtAt.kpo (KpO.same (s5.trans (s6.trans (s7.trans (sy.trans sz))))) _ p4), (PtAt.kpo (KpO.same (sy.trans sz)) _ p7), True.intro⟩)
end
end K3

namespace K3
open PySem L2 E0 EG
open LamX (ExtN Tabs TabS TabB LamS lamS_by lamSB)
theorem tens_at {i j : Nat} (hi : i < 10) (hj : j < 10) : decide (said (tens.getD i leafT) = said (tens.getD j leafT)) = decide (i = j) ∧ isT (tens.getD i leafT) = true := by
  have h := List.all_eq_true.mp (List.all_eq_true.mp tens_ok i (List.mem_range.mpr hi)) j (List.mem_range.mpr hj)
  simp only [Bool.and_eq_true, beq_iff_eq] at h
  exact h
theorem tens_get {C : Cl5} {H : Hp} {vs : List V} (p : PtsAt C H vs tens) {i : Nat} (hi : i < 10) : ∃ x, vs[i]? = some x ∧ PtAt C H x (tens.getD i leafT) := by
  have l : vs.length = 10 := pts_len p
  have e : vs[i]? = some vs[i] := List.getElem?_eq_getElem (by omega)
  obtain ⟨t, e1, h⟩ := pts_get p e
  refine ⟨_, e, ?_⟩
  rw [List.getD_eq_getElem?_getD, e1]
  exact h
section
variable {P : Program} {w : World} {K : PySem.W.Frag} {mg : Str → Option Value} {base : Heap} {C : Cl5} {CI f : Addr} {cdv : Value} {a : AdT} {fE fP2 : Addr} {fdP2 : FuncData} {A : Around} {outer : List Env} {s : Shared} {H0 : Hp} {E : XK}
theorem er7 (TR : TxtTR P w K mg base C CI a) (ER : TxtER P w K mg base C fE fP2 fdP2) (hr : Room 10 (A.deeper (PyProof.Rows.envOfC "_law_equal_right" (defScope sEqualRight) s.heap.objs.size f cdv))) (hG : A.guards = some []) (gR : mg "range" = none) (gRp : mg "repr" = none) :
    ∃ t : TS, PS (cxOf CX0 P w K mg base NER "_law_equal_right" (defScope sEqualRight) f cdv A outer s H0 E).nox (stER 6) t ∧ ∀ (Z : Ends) (H : Hp) (m D lf o : Addr) (v2 v3 v6 : Option V) (v0 : V) (vs : List V), H o = some (.lst vs) → PtsAt C H vs tens →
      (∀ (H' : Hp) (v8 : Option V), Same H H' → Z.nx [some (.ref m), some (.ref D), v2, v3, some (.ref lf), some v0, v6, some (.ref o), v8, none] H') →
      t Z [some (.ref m), some (.ref D), v2, v3, some (.ref lf), some v0, v6, some (.ref o), none, none] H := by
  have hr10 : Room 10 _ := hr
  have hr5 : Room 5 _ := hr.mono (by decide)
  have hr3 : Room 3 _ := hr.mono (by decide)
  have hr1 : Room 1 _ := hr.mono (by decide)
  have hu80 : (A.deeper (PyProof.Rows.envOfC "_law_equal_right" (defScope sEqualRight) s.heap.objs.size f cdv)).units + 80 < cLine := by have := hr.un; omega
  have hu64 : (A.deeper (PyProof.Rows.envOfC "_law_equal_right" (defScope sEqualRight) s.heap.objs.size f cdv)).units + 64 < cLine := by omega
  have hu0 : (A.deeper (PyProof.Rows.envOfC "_law_equal_right" (defScope sEqualRight) s.heap.objs.size f cdv)).units < cLine := by omega
  have big : (1000000 : Nat) < sizeLine := by decide
  refine ⟨_, (ps_for PassesOwn.never rfl (pi_range1 rfl gR (pa_cons pe_int pa_nil)) (pg_name (i := 8) scER.nd rfl (.inr rfl)) (pss_one (ps_if (pt_cmpR (op_neNil hu0) (pe_lc (own := [("_law_k", 9)]) (g := gName 9) (tt := tOr (tTest (tOp rNe (tOp (rEqO K C.T (spTreeEq K C) E0) (tOp (rIxL K) (tVar 7) (tVar 8)) (tOp (rIxL K) (tVar 7) (tVar 9))) (tOp rEq (tVar 8) (tVar 9)))) (tTest (tOp rNe (tOp (rNeO K C.T (spTreeEq K C) E0) (tOp (rIxL K) (tVar 7) (tVar 8)) (tOp (rIxL K) (tVar 7) (tVar 9))) (tOp rNe (tVar 8) (tVar 9))))) (te := tVar 9) rfl scER.nd (pi_range1 rfl gR (pa_cons pe_int pa_nil)) (blkOk_by (N := NER) (sc := defScope sEqualRight) (by decide +kernel)) (fun _ _ _ _ _ => pg_name (i := 9) scER.nd rfl (Or.inl rfl)) (fun _ _ _ _ _ => pts_one (PW.pt (pw_or (pt_cmpR op_ne (pe_cmpR (op_eqO (E := E0) ER.OE ER.GE hr1 pass0) (pe_ix ix_list (pv 7) (pv 8) (fun _ _ => rfl)) (pe_ix ix_list (pv 7) (pv 9) (fun _ _ => rfl)) (nomark _)) (pe_cmpR op_eq (pv 8) (pv 9) (nomark _)) (nomark _)) (pw_or1 (pt_cmpR op_ne (pe_cmpR (op_neO (E := E0) ER.OE ER.NE ER.GE hr3 pass0) (pe_ix ix_list (pv 7) (pv 8) (fun _ _ => rfl)) (pe_ix ix_list (pv 7) (pv 9) (fun _ _ => rfl)) (nomark _)) (pe_cmpR op_ne (pv 8) (pv 9) (nomark _)) (nomark _)))))) (fun _ _ _ _ _ => pv 9)) (pe_lst pa_nil) (nomark _)) (pss_one (ps_ret pe_bl)) pss_nil))), ?_⟩
  rintro Z H m D lf o v2 v3 v6 v0 vs ho pts k
  refine ⟨10, rfl, by decide, by decide, for_range (lo := 0) (n := 10) (fun i σ H' => ∃ v8 : Option V, σ = [some (.ref m), some (.ref D), v2, v3, some (.ref lf), some v0, v6, some (.ref o), v8, none] ∧ Same H H') ⟨_, rfl, Same.refl _⟩ ?_ (fun σ H' ⟨v8, e, s'⟩ => by rw [e]; exact k H' v8 s')⟩
  rintro i σ H1 hi ⟨v8, rfl, s1⟩
  obtain ⟨x, ex, px⟩ := tens_get pts hi
  refine ⟨10, rfl, by decide, by decide, fun L hL => lc_range (lo := 0) (n := 10) (fun j H' => Same H1 H' ∧ H' L = some (.lst [])) ⟨same_upd (Same.refl H1) hL, upd_same⟩ ?_ ?_⟩
  · rintro j H2 hj ⟨s2, eL⟩
    obtain ⟨y, ey, py⟩ := tens_get pts hj
    have s02 := s1.trans s2
    have X1 := PtAt.kpo (KpO.same s02) _ px
    have Y1 := PtAt.kpo (KpO.same s02) _ py
    obtain ⟨d1, i1⟩ := tens_at hi hj
    obtain ⟨_, i2⟩ := tens_at hj hi
    have ei : (0 : Int) + ((i : Nat) : Int) = ((i : Nat) : Int) := Int.zero_add _
    have ej : (0 : Int) + ((j : Nat) : Int) = ((j : Nat) : Int) := Int.zero_add _
    have hx : atI vs (0 + (i : Int)) = some x := by rw [ei]; exact atI_nat ex
    have hy : atI vs (0 + (j : Int)) = some y := by rw [ej]; exact atI_nat ey
    have dij : decide (V.int (0 + (i : Int)) = V.int (0 + (j : Int))) = decide (i = j) := decide_eq_decide.mpr ⟨fun h => by have := V.int.inj h; omega, fun h => by rw [h]⟩
    refine ⟨rfl, ?_⟩
    refine ⟨_, rfl, _, rfl, _, _, _, _, rfl, rfl, SqL.of (s02 _ _ ho), hx, _, rfl, _, rfl, _, _, _, _, rfl, rfl, SqL.of (s02 _ _ ho), hy, eqO_tree TR.T5 ER.nf X1 i1 Y1 i2 ?_⟩
    refine ⟨_, rfl, _, rfl, rfl, rfl, _, rfl, ?_⟩
    rw [d1, dij, decide_eq_true rfl]
    refine iteF ?_
    refine ⟨_, rfl, _, rfl, _, _, _, _, rfl, rfl, SqL.of (s02 _ _ ho), hx, _, rfl, _, rfl, _, _, _, _, rfl, rfl, SqL.of (s02 _ _ ho), hy, neO_tree TR.T5 ER.nf X1 i1 Y1 i2 ?_⟩
    refine ⟨_, rfl, _, rfl, rfl, rfl, _, rfl, ?_⟩
    rw [d1, dij, decide_eq_true rfl]
    refine iteF ?_
    exact ⟨s2, eL⟩
  · rintro H2 ⟨s2, eL⟩
    refine ⟨Nat.zero_le _, fun e he => ?_⟩
    have s3 : Same H2 (upd H2 e (.lst [])) := same_upd (Same.refl H2) he
    refine ⟨L, e, [], rfl, rfl, s3 _ _ eL, upd_same, _, rfl, ?_⟩
    refine iteF ?_
    exact ⟨_, rfl, s1.trans (s2.trans s3)⟩
theorem er8 (TR : TxtTR P w K mg base C CI a) (ER : TxtER P w K mg base C fE fP2 fdP2) (hr : Room 10 (A.deeper (PyProof.Rows.envOfC "_law_equal_right" (defScope sEqualRight) s.heap.objs.size f cdv))) (hG : A.guards = some []) (gR : mg "range" = none) (gRp : mg "repr" = none) :
    ∃ t : TS, PS (cxOf CX0 P w K mg base NER "_law_equal_right" (defScope sEqualRight) f cdv A outer s H0 E).nox (stER 7) t ∧ ∀ (Z : Ends) (H : Hp) (σ : L2.St) (lf : Addr), σ[4]? = some (some (.ref lf)) → PtAt C H (.ref lf) leafT → (∀ H', Same H H' → Z.rt (.bl true) H') → t Z σ H := by
  have hr10 : Room 10 _ := hr
  have hr5 : Room 5 _ := hr.mono (by decide)
  have hr3 : Room 3 _ := hr.mono (by decide)
  have hr1 : Room 1 _ := hr.mono (by decide)
  have hu80 : (A.deeper (PyProof.Rows.envOfC "_law_equal_right" (defScope sEqualRight) s.heap.objs.size f cdv)).units + 80 < cLine := by have := hr.un; omega
  have hu64 : (A.deeper (PyProof.Rows.envOfC "_law_equal_right" (defScope sEqualRight) s.heap.objs.size f cdv)).units + 64 < cLine := by omega
  have hu0 : (A.deeper (PyProof.Rows.envOfC "_law_equal_right" (defScope sEqualRight) s.heap.objs.size f cdv)).units < cLine := by omega
  have big : (1000000 : Nat) < sizeLine := by decide
  refine ⟨_, (ps_ret (pe_cmpR (op_eqO (E := E0) ER.OE ER.GE hr1 pass0) (pe_mkT (E := E0) TR.MT TR.GT hr5 rfl TR.gT passL (pa_cons pe_str (pa_cons (pe_mkT (E := E0) TR.MT TR.GT hr5 rfl TR.gT passL (pa_cons pe_str (pa_cons pe_str pa_nil))) (pa_cons (pe_tup (pa_cons (pv 4) pa_nil)) pa_nil)))) (pe_mkT (E := E0) TR.MT TR.GT hr5 rfl TR.gT passL (pa_cons pe_str (pa_cons (pv 4) (pa_cons (pe_tup (pa_cons (pe_mkT (E := E0) TR.MT TR.GT hr5 rfl TR.gT passL (pa_cons pe_str (pa_cons pe_str pa_nil))) pa_nil)) pa_nil)))) (nomark _))), ?_⟩
  rintro Z H σ lf h4 plf k
  refine mkT_leaf fun H1 a1 s1 _ p1 => ?_
  refine ⟨_, h4, by show 1 ≤ sizeLine; omega, fun u nu => ?_⟩
  have s2 : Same H1 (upd H1 u (.tup [.ref lf])) := same_upd (Same.refl H1) nu
  have w2 : (upd H1 u (.tup [.ref lf])) u = some (.tup [.ref lf]) := upd_same
  generalize upd H1 u (.tup [.ref lf]) = H2 at s2 w2 ⊢
  refine mkT_f (H := H2) [leafT, .row [leafT]] (by decide +kernel) ⟨PtAt.kpo (KpO.same s2) _ p1, ⟨_, _, rfl, w2, PtAt.kpo (KpO.same (s1.trans s2)) _ plf, True.intro⟩, True.intro⟩ fun H3 b3 s3 _ p3 => ?_
  refine ⟨_, h4, ?_⟩
  refine mkT_leaf fun H4 a4 s4 _ p4 => ?_
  refine ⟨by show 1 ≤ sizeLine; omega, fun z nz => ?_⟩
  have s5 : Same H4 (upd H4 z (.tup [.ref a4])) := same_upd (Same.refl H4) nz
  have w5 : (upd H4 z (.tup [.ref a4])) z = some (.tup [.ref a4]) := upd_same
  generalize upd H4 z (.tup [.ref a4]) = H5 at s5 w5 ⊢
  have s05 := (s1.trans (s2.trans s3)).trans (s4.trans s5)
  refine mkT_f (H := H5) [leafT, .row [leafT]] (by decide +kernel) ⟨PtAt.kpo (KpO.same s05) _ plf, ⟨_, _, rfl, w5, PtAt.kpo (KpO.same s5) _ p4, True.intro⟩, True.intro⟩ fun H6 b6 s6 _ p6 => ?_
  refine eqO_tree TR.T5 ER.nf (PtAt.kpo (KpO.same (s4.trans (s5.trans s6))) _ p3) rfl p6 rfl ?_
  rw [decide_eq_true rfl]
  exact k H6 (s05.trans s6)
end
section
variable {P : Program} {w : World} {K : PySem.W.Frag} {mg : Str → Option Value} {base : Heap}
def spEqualRight (T : List (Addr × Str)) : Sp := fun vs H Q _ => ∃ (m lc lg : Addr) (n : Int), vs = [.ref m] ∧ MA m lc lg n H ∧ n + 1000 ≤ 1000000 ∧ Tabs T H ∧
  ∀ H' n', FD m lg H H' → MA m lc lg n' H' → n ≤ n' → n' ≤ n + 240 → Tabs T H' → Q (.bl true) H'
theorem ok_equalRight {C : Cl5} {CI fE fP f : Addr} {fd fdP : FuncData} {a : AdT} {T : List (Addr × Str)} (F : Fun K "_law_equal_right" "_law_equal_right" sEqualRight f fd) (TR : TxtTR P w K mg base C CI a) (ER : TxtER P w K mg base C fE fP fdP)
    (gR : mg "range" = none) (gRp : mg "repr" = none) : FnG P w K mg base CX0 11 f fd ["_law_m"] (spEqualRight T) := by
  refine okG F scER (fun vs H Q E h => ?_) (fun cdv A outer s H vs Q E hr hG h => ?_)
  · obtain ⟨m, lc, lg, n, rfl, _⟩ := h
    rfl
  · obtain ⟨m, lc, lg, n, rfl, M, hn, tabs, k⟩ := h
    obtain ⟨t1, p1, r1⟩ := er1 (P := P) (w := w) (mg := mg) (base := base) (f := f) (cdv := cdv) (A := A) (outer := outer) (s := s) (H0 := H) (E := E) TR ER hr hG gR gRp
    obtain ⟨t2, p2, r2⟩ := er2 (P := P) (w := w) (mg := mg) (base := base) (f := f) (cdv := cdv) (A := A) (outer := outer) (s := s) (H0 := H) (E := E) TR ER hr hG gR gRp
    obtain ⟨t3, p3, r3⟩ := er3 (P := P) (w := w) (mg := mg) (base := base) (f := f) (cdv := cdv) (A := A) (outer := outer) (s := s) (H0 := H) (E := E) TR ER hr hG gR gRp
    obtain ⟨t4, p4, r4⟩ := er4 (P := P) (w := w) (mg := mg) (base := base) (f := f) (cdv := cdv) (A := A) (outer := outer) (s := s) (H0 := H) (E := E) TR ER hr hG gR gRp
    obtain ⟨t5, p5, r5⟩ := er5 (P := P) (w := w) (mg := mg) (base := base) (f := f) (cdv := cdv) (A := A) (outer := outer) (s := s) (H0 := H) (E := E) TR ER hr hG gR gRp
    obtain ⟨t6, p6, r6⟩ := er6 (P := P) (w := w) (mg := mg) (base := base) (f := f) (cdv := cdv) (A := A) (outer := outer) (s := s) (H0 := H) (E := E) TR ER hr hG gR gRp
    obtain ⟨t7, p7, r7⟩ := er7 (P := P) (w := w) (mg := mg) (base := base) (f := f) (cdv := cdv) (A := A) (outer := outer) (s := s) (H0 := H) (E := E) TR ER hr hG gR gRp
    obtain ⟨t8, p8, r8⟩ := er8 (P := P) (w := w) (mg := mg) (base := base) (f := f) (cdv := cdv) (A := A) (outer := outer) (s := s) (H0 := H) (E := E) TR ER hr hG gR gRp
    refine ⟨_, pss_cons p1 (pss_cons p2 (pss_cons p3 (pss_cons p4 (pss_cons p5 (pss_cons p6 (pss_cons p7 (pss_one p8))))))), ?_⟩
    refine r1 _ H m lc lg n M hn fun H3 D as ps vs ts n' dd nD M3 l1 l2 hD al tl hp pl pt ft => ?_
    refine r2 _ H3 m D _ as ps vs ts hD hp pl pt ft fun H4 v2 v3 s4 => ?_
    refine r3 _ H4 m D v2 v3 as ps vs ts (s4 _ _ hD) al (fun i a e => let ⟨p, v, e1, e2, e3⟩ := hp i a e; ⟨p, v, e1, e2, s4 _ _ e3⟩) (PtsAt.kpo (KpO.same s4) _ pt) ft fun H5 lf v0 t0 s5 plf p0 i0 => ?_
    refine r4 _ H5 m D lf v2 v3 v0 t0 plf p0 i0 fun H6 v6 s6 => ?_
    have L6 := PtAt.kpo (KpO.same s6) _ plf
    refine r5 _ H6 _ lf rfl L6 fun H7 o1 vs1 s7 ho1 pt1 => ?_
    have L7 := PtAt.kpo (KpO.same s7) _ L6
    refine r6 _ H7 _ lf o1 vs1 rfl rfl L7 ho1 pt1 fun H8 o2 vs2 s8 ho2 pt2 => ?_
    have L8 := PtAt.kpo (KpO.same s8) _ L7
    refine r7 _ H8 m D lf o2 v2 v3 v6 v0 vs2 ho2 pt2 fun H9 v8 s9 => ?_
    refine r8 _ H9 _ lf rfl (PtAt.kpo (KpO.same s9) _ L8) fun H10 s10 => ?_
    have s310 := s4.trans (s5.trans (s6.trans (s7.trans (s8.trans (s9.trans s10)))))
    exact k H10 n' ((FD.draw dd).trans (FD.same s310)) (M3.same s310) l1 l2 ((tabs_draw tabs M dd).ext s310)
end
end K3

namespace K3
open PySem PySem.Spec PyProof.Rows L2 E0
/-! ### Tree(form=..) -/
/-- a promise by positional values and keywords -/
def FnRK (P : Program) (w : World) (K : PySem.W.Frag) (mg : Str → Option Value) (base : Heap) (k : Nat) (f : Addr) (ks : List Str) (sp : List V → Sp) : Prop :=
  ∀ (A : Around) (outer : List Env) (s : Shared) (H : Hp) (us ws : List Value) (vs zs : List V) (Q : VK) (E : XK), Room k A → Env0 P w K mg base A outer s H → Vals vs us → Vals zs ws → sp vs zs H Q E →
    codeAny (model P w) A (.call (.ref f) ⟨us, ks.zip ws⟩) (CR (L2.CX P w) outer P w H s Q E) s
/-- no positional argument: an instance from keywords -/
def tMakeK (C : Addr) (sp : List V → Sp) (E : XK) (tk : TA) : TE := fun σ H Q => tk σ H fun zs H2 => ∀ x dx, H2 x = none → H2 dx = none → dx ≠ x → sp [.ref x] zs (upd (upd H2 dx (.own x)) x (.ins C dx [])) (fun v H3 => v = .non ∧ Q (.ref x) H3) E
section
variable {X : Cx} {k : Nat} {f C : Addr} {ks : List Str} {sp : List V → Sp} {E : XK} {x : Str} {p pos : Pos} {kws : List Keyword} {tk : TA}
theorem run_makeK {pins : List (Addr × Obj)} {σ : L2.St} {H : Hp} {s : Shared} {Q : VK} {ws : List Value} {zs : List V} (M : Mk X.K C f) (F : FnRK X.prog X.w X.K X.mg X.base k f ks sp) (hr : Room (k + 1) X.A) (hx : Passes (L2.CX X.prog X.w) X E) (I : L2.Inv X pins σ H s) (rz : Vals zs ws)
    (h : ∀ x dx, H x = none → H dx = none → dx ≠ x → sp [.ref x] zs (upd (upd H dx (.own x)) x (.ins C dx [])) (fun v H2 => v = .non ∧ Q (.ref x) H2) E) : wpAny (model X.prog X.w) X.A (call (.ref C) [] (ks.zip ws)) (EP X pins σ Q) X.xe s := by
  have hq := h (s.heap.objs.size + 1) s.heap.objs.size (I.hok.fresh (Nat.le_succ _)) (I.hok.fresh (Nat.le_refl _)) (Nat.ne_of_lt (Nat.lt_succ_self _))
  have I2 := Inv.made (C := C) I
  have run := F _ X.stack _ _ [Value.ref (s.heap.objs.size + 1)] ws [V.ref (s.heap.objs.size + 1)] zs _ E (hr.make C [] (ks.zip ws)) (I2.env0.make C [] (ks.zip ws)) (.cons rfl .nil) rz hq
  refine wpAny_call (make_map (f := f) I.kIn M.makes M.init (beq_iff_eq.mp M.fn) (codeAny_mono run fun r s' z => ?_))
  match r, z with
  | .error e, z => exact hx pins σ _ _ e s' I2 z
  | .ok (.ret u), z =>
    obtain ⟨v, H', I3, rv, ev, q3⟩ := I2.after z
    subst ev
    exact ⟨rv, ⟨V.ref (s.heap.objs.size + 1), H', I3, rfl, q3⟩⟩
theorem pe_makeK (M : Mk X.K C f) (F : FnRK X.prog X.w X.K X.mg X.base k f ks sp) (hr : Room (k + 1) X.A) (hg : Gl X x) (hm : X.mg x = some (.ref C)) (hx : Passes (L2.CX X.prog X.w) X E) (hkw : PK X kws tk)
    (hall : (backToKw pos (keywordEach kws X.env)).all (·.1.isSome) = true := by rfl) (hks : (backToKw pos (keywordEach kws X.env)).filterMap (·.1) = ks := by rfl) (hdb : (x == ("__debug__" : Str)) = false := by decide)
    (hpl : ((backTo pos (starEach [] X.env)).any (·.1) || (backToKw pos (keywordEach kws X.env)).any (·.1.isNone)) = false := by rfl) : PE X (.Call (.Name x p) [] kws pos) (tMakeK C sp E tk) := by
  refine ⟨fun pins s σ H Q I h => ?_⟩
  refine wpAny_Call_Name_kw (ld_glob I hg hm ?_ hdb)
  refine PySem.W.callWith_KW0 (h₀ := X.base) I.ok.mod.kin M.kp hall (thn (hkw.run pos pins s σ H _ I h) fun ws s2 ⟨zs, H2, I2, rz, q2⟩ => ⟨I2.kIn, ?_⟩) hpl
  rw [hks]
  exact run_makeK M F hr hx I2 rz q2
end
section
variable {P : Program} {w : World} {K : PySem.W.Frag} {mg : Str → Option Value} {base : Heap}
def spTreeNewK (K : PySem.W.Frag) (C : Cl5) (CI : Addr) : List V → Sp := fun vs zs H Q E => ∃ x z, vs = [x] ∧ zs = [z] ∧ ∀ p, H p = none → spTreeInit K C CI [x, z, .ref p] (upd H p (.tup [])) Q E
open StX in
theorem treeInit_kw {C : Cl5} {CI fN fP fA fM fX f : Addr} {fd fdN fdP fdA fdM fdX : FuncData} (F : Fun K "__init__" "Tree.__init__" sTreeInit f fd) (T : TxtI P w K mg base C CI fN fP fA fM fX fdN fdP fdA fdM fdX) (T5 : Ty5 K C) (N5 : Na5 K C) :
    FnRK P w K mg base 4 f ["form"] (spTreeNewK K C CI) := by
  obtain ⟨oc, od, kV, doc, pm, an, cdv, ct, osl, rfl, lk, hcd⟩ := F.ex
  intro A outer s H us ws vs zs Q E hr e0 r rz hsp
  obtain ⟨x, z, rfl, rfl, hq⟩ := hsp
  obtain ⟨u, rfl, ru⟩ := vals1 r
  obtain ⟨v, rfl, rv⟩ := vals1 rz
  have hn : H s.heap.objs.size = Option.none := e0.hok.fresh (Nat.le_refl _)
  refine run_bnd lk hcd scTreeInit hr e0 (G := fun xs H2 => ∃ p, H p = Option.none ∧ xs = [x, z, V.ref p] ∧ H2 = upd H p (.tup [])) (fun A' Ex Q' h => ?_) fun s2 H2 xs ⟨p, hp, ex, eH⟩ hr' => ?_
  · have eb : bindArgs (PySem.W.fnOf "__init__" "Tree.__init__" (defArgs sTreeInit) (defBody sTreeInit) (defScope sTreeInit) .none kV doc pm an cdv ct) ⟨[u], [(("form" : Str), v)]⟩ = (newTuple [] >>= fun t => pure [(("self" : Str), u), (("form" : Str), v), (("parts" : Str), t)]) := rfl
    rw [show (["form"] : List Str).zip [v] = [(("form" : Str), v)] from rfl, eb]
    refine wpAny_bind (wpAny_newTuple (wpAny_pure ?_) (Nat.zero_le _))
    have new : ObjOk P w (upd H s.heap.objs.size (.tup [])) (s.heap.push ({ cls := .type "tuple", data := .seq #[] } : Obj)) s.heap.objs.size (.tup []) := ⟨Nat.zero_le _, [], .nil, ⟨_, Heap.get?_push_size _ rfl, rfl, _, rfl⟩⟩
    have un := un_laid (fs := frs outer) (s := s) (o := ({ cls := .type "tuple", data := .seq #[] } : Obj)) (u := .tup []) hn
    exact h _ _ [x, z, V.ref s.heap.objs.size] [u, v, Value.ref s.heap.objs.size] (env0_laid e0 new) un rfl (fun e s' => cxUp outer s H _ _ E e s' un (fun b o q => Heap.get?_push_of_some _ q) rfl) (.cons ru (.cons rv (.cons rfl .nil))) rfl ⟨_, hn, rfl, rfl⟩
  · subst ex eH
    exact body_treeInit T T5 N5 hr' (hq p hp)
theorem treeK_made {C : Cl5} {CI : Addr} {n : V} {H : Hp} {Q : VK} {E : XK} (hn : Val K H n) (k : TreeRes C CI n [] [] E H Q) {x dx : Addr} (nx : H x = none) (ndx : H dx = none) (ne : dx ≠ x) :
    spTreeNewK K C CI [.ref x] [n] (upd (upd H dx (.own x)) x (.ins C.T dx [])) (fun v H2 => v = .non ∧ Q (.ref x) H2) E := by
  obtain ⟨ws, rest, e, hl, _, h⟩ := tree_made (K := K) (C := C) (CI := CI) (xs := []) (pis := []) hn .nil (by decide) (by decide) k nx ndx ne
  match ws, hl with
  | [a, b], _ =>
    cases rest with
    | nil =>
      cases e
      exact ⟨_, _, rfl, rfl, h⟩
    | cons _ _ => cases e
end
end K3

namespace K3
open PySem PySem.Spec PyProof.Rows L2
open LamX (ExtN Tabs TabS TabB CodeO lamEnv lamCx codeO_ne)
open PySem.W (CodeHd tabObj)
/-! ### a lambda whose default's name is a name of the def too: the slot is not seen in it -/
theorem nodup_ix {N : List Str} (h : N.Nodup) {i j : Nat} {x : Str} (a : N[i]? = some x) (b : N[j]? = some x) : i = j := by
  exact (List.getElem?_inj (List.getElem?_eq_some_iff.mp a).1 h).mp (a.trans b.symm)
theorem wiped_get {σ : L2.St} {i j : Nat} {v : V} (h : (σ.set j none)[i]? = some (some v)) : σ[i]? = some (some v) := by
  by_cases e : j = i
  · subst e
    by_cases hl : j < σ.length
    · rw [List.getElem?_set_self hl] at h; cases h
    · rw [List.getElem?_eq_none (by rw [List.length_set]; omega)] at h; cases h
  · rw [List.getElem?_set_ne e] at h
    exact h
structure LamW (sc : Scope) (N : List Str) (scope : Scope) (y : Str) (j : Nat) : Prop where
  kind : scope.kind = .function
  co : scope.isCoroutine = false
  gen : scope.isGenerator = false
  names : ∀ z ∈ scope.names, (z.2 = .local ∧ z.1 = y) ∨ z.2 = .globalImplicit ∨ (z.2 = .free ∧ (sc.names.lookup z.1 = some .cell ∨ sc.names.lookup z.1 = some .free))
  par : scope.names.lookup y = some .local
  ix : N[j]? = some y
def lamWB (sc : Scope) (N : List Str) (scope : Scope) (y : Str) (j : Nat) : Bool := decide (scope.kind = .function) && !scope.isCoroutine && !scope.isGenerator && (scope.names.all fun z => (decide (z.2 = .local) && decide (z.1 = y)) || (decide (z.2 = .globalImplicit) || (decide (z.2 = .free) && (decide (sc.names.lookup z.1 = some .cell) || decide (sc.names.lookup z.1 = some .free))))) && decide (scope.names.lookup y = some .local) && decide (N[j]? = some y)
theorem lamW_by {sc : Scope} {N : List Str} {scope : Scope} {y : Str} {j : Nat} (h : lamWB sc N scope y j = true) : LamW sc N scope y j := by
  unfold lamWB at h
  simp only [Bool.and_eq_true, Bool.not_eq_true', decide_eq_true_eq] at h
  obtain ⟨⟨⟨⟨⟨h1, h2⟩, h3⟩, h4⟩, h5⟩, h6⟩ := h
  refine ⟨h1, h2, h3, fun z hz => ?_, h5, h6⟩
  have q := List.all_eq_true.mp h4 z hz
  simp only [Bool.or_eq_true, Bool.and_eq_true, Bool.not_eq_true', decide_eq_true_eq, decide_eq_false_iff_not] at q
  exact q
theorem LamW.noCell {sc : Scope} {N : List Str} {scope : Scope} {y : Str} {j : Nat} (L : LamW sc N scope y j) {z : Str} (h : scope.names.lookup z = some .cell) : False := by
  rcases L.names _ (PySem.mem_of_lookup h) with ⟨q, _⟩ | q | ⟨q, _⟩ <;> cases q
theorem LamW.has {X : Cx} {N : List Str} {scope : Scope} {y : Str} {j : Nat} (L : LamW X.env.scope N scope y j) (ok : X.Ok) : ∀ y ∈ scope.names, y.2 = .free → ∃ c, X.env.cells.lookup y.1 = some c := fun z hz e => by
  rcases L.names z hz with ⟨q, _⟩ | q | ⟨_, q⟩
  · rw [e] at q; cases q
  · rw [e] at q; cases q
  · exact ok.has _ q
section
variable {X : Cx} {pins : List (Addr × Obj)} {σ : L2.St} {H HZ : Hp} {s s1 : Shared}
theorem lamW_start {j : Nat} (hnd : X.N.Nodup) {A : Around} {outer : List Env} {E : XK} {scope : Scope} {y : Str} {bs : List (Str × Value)} {f c' : Addr} {h₁ : Heap} {tk : Nat} (I : L2.Inv X pins σ H s) (L : LamW X.env.scope X.N scope y j) (e0 : Env0 X.prog X.w X.K X.mg X.base A outer s1 HZ) (hd : A.handled = none)
    (un : Un (frs X.stack) [] H HZ s.heap s1.heap) (hns : h₁.Ns s1.heap.objs.size fun z => bs.reverse.lookup z) (kp : ∀ b o, s1.heap.get? b = some o → h₁.get? b = some o) :
    L2.Inv (lamCx X A outer s1 HZ E scope f c') [] (σ.set j none) HZ { s1 with heap := h₁, toks := tk } := by
  have hfree := L.has I.ok
  have cm : ∀ {y c}, (cloFrom X.env.cells scope.names []).lookup y = some c → X.env.cells.lookup y = some c := fun {y c} e => by
    rcases cloFrom_mem (PySem.mem_of_lookup e) with hm | ⟨h1, h2⟩
    · cases hm
    · obtain ⟨c1, hc⟩ := hfree _ h1 rfl
      have hc : X.env.cells.lookup y = some c1 := hc
      have e2 : c = c1 := by
        rw [h2, hc] <;> rfl
      rw [e2]
      exact hc
  have look : ∀ {y}, scope.names.lookup y = some .free → ∃ c, (cloFrom X.env.cells scope.names []).lookup y = some c := fun {y} hl => by
    have hy : (y, NameKind.free) ∈ scope.names := PySem.mem_of_lookup hl
    exact mem_lookup (cloFrom_has (cells := X.env.cells) (acc := []) hy)
  have cellK : ∀ {c : Addr} {v : Option Value}, H c = none → s.heap.IsCell c v → h₁.IsCell c v := fun {c v} n ⟨o, ho, hd⟩ => by
    obtain ⟨sl, q⟩ := un.any ho n (by simp)
    exact ⟨_, kp _ _ q, hd⟩
  have noA : ∀ b : Addr, b ∉ (lamCx X A outer s1 HZ E scope f c').ex := fun b z => absurd (show b ∈ ([] : List Addr) from z) (by simp)
  refine ⟨⟨e0.mod, L.kind, rfl, rfl, Nat.le_refl _, fun y z c e1 e2 => I.ok.inj y z c (cm e1) (cm e2), fun y hy => ?_, fun y c z _ => ?_, fun _ => hd, Around.frames_deeper e0.frames, .inr ⟨rfl, rfl⟩, fun b z => absurd z (noA b), e0.bs, e0.bsz, fun b _ _ => noA b,
      fun b z => absurd z (noA b), e0.funs, e0.frf⟩,
    rfl, e0.bare, Un.kept kp, ⟨_, hns, fun i y v e1 e2 e3 => ?_⟩, fun y c e => ?_, e0.hok.fresh (Nat.le_refl _), fun y c e => ?_, fun q hq => absurd (show q ∈ ([] : List (Addr × Obj)) ++ [] from hq) (by simp), e0.hok.kept kp, by rw [List.length_set]; exact I.len⟩
  · have hy : scope.names.lookup y = some .cell ∨ scope.names.lookup y = some .free := hy
    rcases hy with hy | hy
    · exact (L.noCell hy).elim
    · exact look hy
  · have z : false = true := z
    cases z
  · have e3 : Vis scope y := e3
    rcases e3 with k | k | k
    · exfalso
      rcases L.names _ (PySem.mem_of_lookup k) with ⟨_, q⟩ | q | ⟨q, _⟩
      · have q : y = _ := q
        have e1 : X.N[i]? = some y := e1
        have hij : i = j := nodup_ix hnd e1 (by rw [q]; exact L.ix)
        rw [hij] at e2
        by_cases hl : j < σ.length
        · rw [List.getElem?_set_self hl] at e2; cases e2
        · rw [List.getElem?_eq_none (by rw [List.length_set]; omega)] at e2; cases e2
      · cases q
      · cases q
    · exact (L.noCell k).elim
    · obtain ⟨m, hn, hl⟩ := I.loc
      have kk : X.env.scope.names.lookup y = some .cell ∨ X.env.scope.names.lookup y = some .free := by
        rcases L.names _ (PySem.mem_of_lookup k) with ⟨q, _⟩ | q | ⟨_, q⟩
        · cases q
        · cases q
        · exact q
      have hvis : Vis X.env.scope y := kk.elim (fun k => .inr (.inl k)) (fun k => .inr (.inr k))
      obtain ⟨w', r, q⟩ := hl i y v e1 (wiped_get e2) hvis
      obtain ⟨c2, h2⟩ := look k
      refine ⟨w', r, .inr ⟨.inr k, c2, h2, ?_⟩⟩
      have c1 := cm h2
      rcases q with ⟨k', _⟩ | ⟨_, c3, e', z⟩
      · have k' : X.env.scope.names.lookup y = some .local := k'
        rcases kk with k2 | k2 <;> rw [k2] at k' <;> cases k'
      · rw [c1] at e'
        cases e'
        exact cellK (I.freeC y _ c1) z
  · obtain ⟨w', z⟩ := I.cell y c (cm e)
    exact ⟨w', cellK (I.freeC y c (cm e)) z⟩
  · obtain ⟨v, o, ho, hd⟩ := I.cell y c (cm e)
    exact un.free c o ho (I.freeC y c (cm e)) (by simp)
/-- x(), in the def that got the lambda -/
theorem pe_actW {j : Nat} (hnd : X.N.Nodup) {CXg : CXT} {Eg : XK} {Ng : List Str} {qg : Str} {sg : Scope} {g f c' T0 : Addr} {cdg pm ctv : Value} {params : Arguments} {body : Expr} {scope : Scope} {k i : Nat} {a y : Str} {n0 : Int} {t0 : Tok} {T : List (Addr × Str)} {H0 : Hp} {pn : List (Addr × Obj)} {xe : Value → Shared → Prop} {W : WX} {E : XK} {tb : TE} {p1 p2 : Pos}
    (I : L2.Inv X pins σ H s) (L : LamW X.env.scope X.N scope y j) (MD : MadeD X T params body scope n0 H0 H f c' T0 pm ctv t0 s)
    (hbind : ∀ (q : Str) (cl : List (Str × Addr)) (D : Addr) (pm cv ct : Value) (v : Value), ∃ kk, bindArgs (dfFn q params body scope cl (.ref D) pm cv ct) ⟨[], []⟩ = seqItems? (.ref D) >>= kk ∧ kk (some #[v]) = pure [(y, v)])
    (tk : Takes ((cxOf CXg X.prog X.w X.K X.mg X.base Ng qg sg g cdg X.A X.stack s H Eg).tr pn xe) W) (hW : ∀ cls d σ' H', E cls d H' → W cls d σ' H') (hr : Room (k + 1) (X.A.deeper (envOfC qg sg s.heap.objs.size g cdg)))
    (hbody : ∀ (A : Around) (outer : List Env) (s : Shared) (H : Hp), Room k (A.deeper (lamEnv X scope s.heap.objs.size f c')) → PE (lamCx X A outer s H E scope f c') body tb)
    (hN : Ng[i]? = some a) (hv : Vis sg a) (hd : (a == ("__debug__" : Str)) = false := by decide) (hcd : (a == ("__classdict__" : Str)) = false := by decide) :
    PE ((cxOf CXg X.prog X.w X.K X.mg X.base Ng qg sg g cdg X.A X.stack s H Eg).tr pn xe) (.Call (.Name a p1) [] [] p2) (fun σZ HZ Q => σZ[i]? = some (some (.ref f)) ∧ HZ c' = some (CodeO c' (X.env.qual ++ "<lambda>")) ∧ tb (σ.set j none) HZ Q) := by
  refine ⟨fun pinsZ sZ σZ HZ Q IZ h => ?_⟩
  obtain ⟨hs, hc, ht⟩ := h
  refine wpAny_Call_Name_kw (thn ((pe_var (pos := p1) (i := i) hN hv hd hcd).run pinsZ sZ σZ HZ (fun v H1 => v = .ref f ∧ H1 = HZ) IZ ⟨.ref f, hs, rfl, rfl⟩) fun u s1 ⟨v, H1, I1, r1, q1⟩ => ?_)
  obtain ⟨ev, eH⟩ := q1
  subst ev
  rw [eH] at I1
  obtain rfl : u = Value.ref f := r1
  have of1 := I1.base.keep f _ MD.at_ MD.fn MD.ff (fun z => nomatch (show f ∈ ([] : List Addr) from z))
  have oT1 := I1.base.keep T0 _ MD.tup MD.tn MD.tf (fun z => nomatch (show T0 ∈ ([] : List Addr) from z))
  refine PySem.W.callWith_F0 ⟨_, _, _, _, of1⟩ ?_
  have un : Un (frs X.stack) [] H HZ s.heap s1.heap := I1.base
  obtain ⟨⟨oc, vs, t, hoc, hdc, hvc⟩, _, _⟩ := I1.hok c' _ hc
  have rc : codeAny (model X.prog X.w) (X.A.deeper (envOfC qg sg s.heap.objs.size g cdg)) (.call (.ref f) ⟨[], []⟩) (CR (L2.CX X.prog X.w) (envOfC qg sg s.heap.objs.size g cdg :: X.stack) X.prog X.w HZ s1 Q E) s1 := by
    refine PySem.W.kla_callFunE hr.depth of1 rfl L.co L.gen rfl ⟨c', oc, vs, t, rfl, hoc, hdc, hvc⟩ ?_
    obtain ⟨kk, e1, e2⟩ := hbind (X.env.qual ++ "<lambda>") (cloFrom X.env.cells scope.names []) T0 pm (.ref c') ctv (.int n0 t0)
    refine BindsTo.of_defaults (T := T0) (k := kk) rfl oT1 rfl e1 e2 _ _ _ _ ?_
    refine wpAny_newFunctionEnv (fun z hz q => ?_) (fun z hz => ?_) (fun h₁ hns hsb => ⟨I1.nolimit.fresh _ hsb, ?_⟩) L.kind
    · rcases L.names z hz with ⟨q2, _⟩ | q2 | ⟨q2, _⟩ <;> rw [q2] at q <;> cases q
    · rw [List.mem_singleton.mp hz]
      exact L.par
    · show codeAny _ _ (.expr body (lamEnv X scope s1.heap.objs.size f c')) _ _
      have kp : ∀ b o, s1.heap.get? b = some o → h₁.get? b = some o := fun b o e => hsb.extBut b o (Nat.ne_of_lt (Heap.lt_size e)) (Heap.get?_push_of_some _ e)
      have J : L2.Inv (lamCx X (X.A.deeper (envOfC qg sg s.heap.objs.size g cdg)) (envOfC qg sg s.heap.objs.size g cdg :: X.stack) s1 HZ E scope f c') [] (σ.set j none) HZ { s1 with heap := h₁, toks := s1.toks + ([(y, Value.int n0 t0)] : List (Str × Value)).length } :=
        lamW_start hnd I L I1.env0 hr.hd un hns kp
      refine PySem.W.kla_codeExpr (wpAny_mono ((hbody _ _ s1 HZ (hr.deeper _)).run [] _ _ HZ Q J ht) (fun v s' hq => ?_) fun e s' hq => hq)
      obtain ⟨w', H', J', rv, q⟩ := hq
      exact ⟨w', H', J'.os, J'.bare, J'.base, J'.hok, rv, q⟩
  have hx : Passes (L2.CX X.prog X.w) ((cxOf CXg X.prog X.w X.K X.mg X.base Ng qg sg g cdg X.A X.stack s H Eg).tr pn xe) E := passes_call tk hW
  refine wpAny_call (codeAny_mono rc fun r s' hq => ?_)
  cases r with
  | error e => exact hx pinsZ σZ HZ s1 e s' I1 hq
  | ok fl =>
    cases fl with
    | ret u => exact I1.after hq
    | next => exact False.elim hq
    | brk => exact False.elim hq
    | cont => exact False.elim hq
end
section
variable {X : Cx}
/-- _law_fault(lambda y=n0: body) -/
theorem pe_faultW {jj : Nat} (hnd : X.N.Nodup) {T : List (Addr × Str)} {CI CS fA c Pt : Addr} {fdA : FuncData} {k : Nat} {params : Arguments} {body : Expr} {scope : Scope} {t : XK → TE} {y : Str} {n0 : Int} {j : Nat} {p lpos pos pd : Pos} (AA : TxtA X.K X.mg CI CS fA fdA) (hg : Gl X "_law_fault")
    (TB : TabB X.base X.mg c Pt) (hcode : X.env.code = .ref c) (hmT : (Pt, X.env.qual ++ "<lambda>") ∈ T) (hu : ∀ p ∈ T, p.1 = Pt → p.2 = X.env.qual ++ "<lambda>") (hr : Room (k + 2) X.A) (L : LamW X.env.scope X.N scope y jj) (hdef : defaultsOf params X.env = ([eval (.Constant (.int n0) j pd) X.env], [])) (hko : params.kwonlyargs = [])
    (hbind : ∀ (q : Str) (cl : List (Str × Addr)) (D : Addr) (pm cv ct : Value) (v : Value), ∃ kk, bindArgs (dfFn q params body scope cl (.ref D) pm cv ct) ⟨[], []⟩ = seqItems? (.ref D) >>= kk ∧ kk (some #[v]) = pure [(y, v)])
    (hbody : ∀ (A : Around) (outer : List Env) (s : Shared) (H : Hp) (E : XK) (f c' : Addr), Room k (A.deeper (lamEnv X scope s.heap.objs.size f c')) → PE (lamCx X A outer s H E scope f c') body (t E)) :
    PE X (.Call (.Name "_law_fault" p) [.Lambda params body scope lpos] [] pos) (LamX.tLam T (TFault CI) fun E σ H Q => t E (σ.set jj none) H Q) := by
  obtain ⟨oc, od, kV, doc, pm, an, cdv, ct, osl, e, lk, hcg⟩ := AA.F.ex
  subst e
  refine ⟨fun pins s σ H Q I h => ?_⟩
  obtain ⟨hT, h⟩ := h
  refine wpAny_Call_Name_kw (ld_glob I hg AA.g ?_ (by decide))
  refine PySem.W.callWith_K (h₀ := X.base) I.ok.mod.kin AA.F.kp ?_ (by rfl) (by rfl)
  show wpAny _ _ (spliced ((false, eval (.Lambda params body scope lpos) X.env) :: backTo pos (starEach [] X.env))) _ _ s
  refine Calls.spliced_cons (lamD_make I TB hcode hmT hu hT hdef hko (L.has I.ok) rfl fun f c' T0 pm' ctv t0 H1 s' I1 MD => ?_)
  refine Calls.spliced_nil ⟨I1.kIn, ?_⟩
  have rc : codeAny (model X.prog X.w) X.A (.call (.ref fA) ⟨[.ref f], []⟩) (CR C8.CX0 X.stack X.prog X.w H1 s' Q C8.E0) s' := by
    refine LamX.run_ofS (N := ["_law_call", "_law_error", "e"]) (ps := ["_law_call"]) (us := [.ref f]) (vs := [.ref f]) lk hcg scFault hr I1.env0 (AA.b s' [.ref f] I1.kIn rfl) (.cons rfl .nil) rfl fun hr' => ?_
    obtain ⟨t', ht', hq'⟩ := fault_gives (q := X.env.qual ++ "<lambda>") AA.gS AA.gI AA.isi AA.L AA.nf AA.hx AA.hk f c' s' H1 Q (fun E H' Q' => t E (σ.set jj none) H' Q')
      (fun W pn xe E p1 p2 tk hW => pe_actW (i := 0) hnd I1 L MD hbind tk hW hr' (fun A outer s H hr2 => hbody A outer s H E f c' hr2) rfl (Or.inl rfl)) MD.co (h H1 MD.ext MD.tabs)
    exact ⟨t', ht'.nox, hq'⟩
  refine wpAny_call (codeAny_mono rc fun r s2 hq => ?_)
  cases r with
  | error e => exact (show False from hq).elim
  | ok fl =>
    cases fl with
    | ret u => exact I1.after hq
    | next => exact False.elim hq
    | brk => exact False.elim hq
    | cont => exact False.elim hq
end
end K3

namespace K3
open PySem L2 E0
open LamX (ExtN Tabs TabS TabB LamS lamS_by lamSB)
/-! ### the tree of 100 levels -/
def negP (n : Nat) (t : Tr) : List Tr := if n < 50 then [.tx "-", t] else [.row [t]]
def tallT : Nat → Tr
  | 0 => leafT
  | n + 1 => .nd false "Neg" (negP n (tallT n))
theorem negP_sizes (n : Nat) (t : Tr) : sizes (negP n t) = size t ∧ levelss (negP n t) = levels t := by
  unfold negP
  by_cases h : n < 50
  · rw [if_pos h]
    simp [sizes, size, levelss, levels]
  · rw [if_neg h]
    simp [sizes, size, levelss, levels]
theorem tall_isT : ∀ n, isT (tallT n) = true
  | 0 => rfl
  | n + 1 => rfl
theorem tall_size : ∀ n, size (tallT n) = n + 1 ∧ levels (tallT n) = n + 1
  | 0 => ⟨by decide +kernel, by decide +kernel⟩
  | n + 1 => by
    obtain ⟨a, b⟩ := tall_size n
    obtain ⟨c, d⟩ := negP_sizes n (tallT n)
    show size (.nd false "Neg" (negP n (tallT n))) = _ ∧ levels (.nd false "Neg" (negP n (tallT n))) = _
    simp only [size, levels]
    omega
theorem len_app (a b : Str) : (a ++ b).length = a.length + b.length := by
  show (a.cps ++ b.cps).size = _
  rw [Array.size_append]
  rfl
theorem said_le (lk : Bool) (f : Str) (ps : List Tr) : (said (.nd lk f ps)).length ≤ f.length + 2 + joinB ps := by
  rw [said_nd, len_app, len_app, len_app]
  have := join_len ps
  have e1 : ("(" : Str).length = 1 := by decide +kernel
  have e2 : (")" : Str).length = 1 := by decide +kernel
  omega
theorem saidrow_le (ps : List Tr) : (said (.row ps)).length ≤ 2 + joinB ps := by
  rw [said_row, len_app, len_app]
  have := join_len ps
  have e1 : ("[" : Str).length = 1 := by decide +kernel
  have e2 : ("]" : Str).length = 1 := by decide +kernel
  omega
theorem joinB_one (t : Tr) : joinB [t] = (said t).length + 2 := by
  unfold joinB
  simp [saids]
theorem joinB_two (t u : Tr) : joinB [t, u] = (said t).length + (said u).length + 4 := by
  unfold joinB
  simp [saids]
theorem negP_join (n : Nat) (t : Tr) : joinB (negP n t) ≤ (said t).length + 20 := by
  unfold negP
  have e : (said (.tx "-")).length = 3 := by decide +kernel
  by_cases h : n < 50
  · rw [if_pos h, joinB_two, e]
    omega
  · rw [if_neg h, joinB_one]
    have := saidrow_le [t]
    rw [joinB_one] at this
    omega
theorem tall_said : ∀ n, (said (tallT n)).length ≤ 30 * (n + 1)
  | 0 => by decide +kernel
  | n + 1 => by
    have a := tall_said n
    have b := negP_join n (tallT n)
    have c := said_le false "Neg" (negP n (tallT n))
    have e : ("Neg" : Str).length = 3 := by decide +kernel
    show (said (.nd false "Neg" (negP n (tallT n)))).length ≤ _
    omega
theorem neg_ok : nameS "Neg" = true ∧ PyData.strOk "Neg" = true := by decide +kernel
theorem isT_parts {t : Tr} (h : isT t = true) : okP t = true ∧ rowB t ≤ 1000 ∧ okTx t := by
  match t, h with
  | .nd false _ _, _ => exact ⟨rfl, Nat.zero_le _, True.intro⟩
theorem row_parts {ts : List Tr} (h : ∀ t ∈ ts, isT t = true) (hl : ts.length ≤ 1000) (hj : joinB ts ≤ 16000000) : okP (.row ts) = true ∧ rowB (.row ts) ≤ 1000 ∧ okTx (.row ts) :=
  ⟨List.all_eq_true.mpr h, hl, fun t m => isT_text (h t m), hl, hj⟩
theorem negP_parts {n m : Nat} (hm : m ≤ 99) : ∀ t ∈ negP n (tallT m), okP t = true ∧ rowB t ≤ 1000 ∧ okTx t := by
  intro t ht
  unfold negP at ht
  by_cases h : n < 50
  · rw [if_pos h] at ht
    simp only [List.mem_cons, List.not_mem_nil, or_false] at ht
    rcases ht with rfl | rfl
    · exact ⟨by decide +kernel, by decide +kernel, by show ("-" : Str).length ≤ 1000; decide +kernel⟩
    · exact isT_parts (tall_isT m)
  · rw [if_neg h] at ht
    rw [List.mem_singleton.mp ht]
    refine row_parts (fun u hu => by rw [List.mem_singleton.mp hu]; exact tall_isT m) (by show 1 ≤ 1000; omega) ?_
    rw [joinB_one]
    have := tall_said m
    omega
theorem negP_len (n : Nat) (t : Tr) : (negP n t).length ≤ 2 := by
  unfold negP
  by_cases h : n < 50
  · rw [if_pos h]; show 2 ≤ 2; omega
  · rw [if_neg h]; show 1 ≤ 2; omega
/-! ### the tree of 400 nodes -/
def leafs (n : Nat) : List Tr := List.replicate n leafT
theorem leafs_sizes : ∀ n, sizes (leafs n) = n ∧ levelss (leafs n) ≤ 1 ∧ joinB (leafs n) = n * 10
  | 0 => ⟨rfl, Nat.zero_le _, rfl⟩
  | n + 1 => by
    obtain ⟨a, b, c⟩ := leafs_sizes n
    have e1 : size leafT = 1 := by decide +kernel
    have e2 : levels leafT = 1 := by decide +kernel
    have e3 : (said leafT).length = 8 := by decide +kernel
    refine ⟨?_, ?_, ?_⟩
    · show size leafT + sizes (leafs n) = _
      omega
    · show max (levels leafT) (levelss (leafs n)) ≤ 1
      omega
    · unfold joinB at c ⊢
      show ((said leafT).length :: (saids (leafs n)).map (·.length)).sum + ((leafs n).length + 1) * 2 = _
      rw [List.sum_cons]
      omega
theorem leafs_isT (n : Nat) : ∀ t ∈ leafs n, isT t = true := fun t ht => by
  rw [List.eq_of_mem_replicate ht]
  rfl
theorem leafs_len (n : Nat) : (leafs n).length = n := List.length_replicate ..
theorem leafs_parts {n : Nat} (h : n ≤ 1000) : okP (.row (leafs n)) = true ∧ rowB (.row (leafs n)) ≤ 1000 ∧ okTx (.row (leafs n)) :=
  row_parts (leafs_isT n) (by rw [leafs_len]; exact h) (by rw [(leafs_sizes n).2.2]; omega)
theorem flat_rep {α : Type} (x : α) : ∀ n : Nat, (List.replicate n [x]).flatten = List.replicate n x
  | 0 => rfl
  | n + 1 => by
    rw [List.replicate_succ, List.replicate_succ, List.flatten_cons, flat_rep x n]
    rfl
theorem leafs_pts {C : Cl5} {H : Hp} {v : V} (h : PtAt C H v leafT) : ∀ n, PtsAt C H (List.replicate n v) (leafs n)
  | 0 => True.intro
  | n + 1 => ⟨h, leafs_pts h n⟩
def wideT : Tr := .nd false "Row" [.row (leafs 399)]
theorem row_ok : nameS "Row" = true ∧ PyData.strOk "Row" = true ∧ nameS "Num" = true ∧ PyData.strOk "Num" = true := by decide +kernel
theorem wide_size : size wideT = 400 ∧ levelss [.row (leafs 399)] + 1 = 2 ∧ (said wideT).length ≤ 5000 := by
  obtain ⟨a, b, c⟩ := leafs_sizes 399
  refine ⟨?_, ?_, ?_⟩
  · show size (.nd false "Row" [.row (leafs 399)]) = _
    simp only [size, sizes]
    omega
  · have h1 : 1 ≤ levelss (leafs 399) := by
      show 1 ≤ max (levels leafT) (levelss (leafs 398))
      have e2 : levels leafT = 1 := by decide +kernel
      omega
    simp only [levelss, levels]
    omega
  · have h1 := said_le false "Row" [.row (leafs 399)]
    rw [joinB_one] at h1
    have h2 := saidrow_le (leafs 399)
    have e : ("Row" : Str).length = 3 := by decide +kernel
    show (said (.nd false "Row" [.row (leafs 399)])).length ≤ _
    omega
/-! ### what is due, for trees of all heights -/
theorem due_any {n : V} {ts : List Tr} (h : nameV n = true) : treeDue n (ts.map PI.good) = (if 400 < 1 + sizes ts ∨ 100 < levelss ts + 1 then DK.size else DK.ok).opt := by
  have hb : firstBad 0 (ts.map PI.good) = none := by
    have go : ∀ (ts : List Tr) (k : Nat), firstBad k (ts.map PI.good) = none := fun ts => by
      induction ts with
      | nil => intro k; rfl
      | cons t ts ih => intro k; exact ih (k + 1)
    exact go ts 0
  unfold treeDue
  rw [if_neg (by rw [h]; exact Bool.noConfusion), hb, parts_good]
  by_cases q : 400 < 1 + sizes ts ∨ 100 < levelss ts + 1
  · rw [if_pos q, if_pos q]; rfl
  · rw [if_neg q, if_neg q]; rfl
theorem fault_kk {K : PySem.W.Frag} {C : Cl5} {CI : Addr} {n : V} {xs : List V} {pis : List PI} {kk : DK} {H : Hp} {Q : VK} {tl : XK → Hp → VK → Prop} (due : treeDue n pis = kk.opt) (ht : ∀ H1 E' Q', Same H H1 → TreeRes C CI n xs pis E' H1 Q' → tl E' H1 Q')
    (k : ∀ H' p, Same H H' → H p = none → H' p = some (.tup kk.val) → Q (.ref p) H') : TFault CI tl H Q := fault_tree (K := K) ht fun H' p s n t => k H' p s n (toldT_val due t)
/-- what limits_right needs besides -/
structure TxtLR (P : Program) (w : World) (K : PySem.W.Frag) (mg : Str → Option Value) (base : Heap) (C : Cl5) (fLn : Addr) : Prop where
  OL : OwnC K C.T "__len__" fLn
  GL : FnR P w K mg base CX0 1 fLn (spTreeLen C)
def NLR : List Str := ["_law_leaf", "_law_tall", "_law_n", "_law_sign", "_law_told", "_law_wide", "_law_due"]
theorem scLR : FnScope NLR [] (defScope sLimitsRight) := ⟨rfl, rfl, rfl, by decide +kernel, rfl, by decide +kernel, by decide +kernel⟩
abbrev qLR : Str := "_law_limits_right.<locals>.<lambda>"
def stLR (i : Nat) : Stmt := (defBody sLimitsRight).getD i (.Pass ⟨0, 0, 0, 0⟩)
theorem good_pis {K : PySem.W.Frag} {C : Cl5} {H : Hp} : ∀ {xs : List V} {ts : List Tr}, PtsAt C H xs ts → (∀ t ∈ ts, okP t = true ∧ rowB t ≤ 1000 ∧ okTx t) → Paired (PIAt K C H) xs (ts.map PI.good)
  | [], [], _, _ => .nil
  | x :: xs, t :: ts, h, g => .cons ⟨h.1, g t (List.mem_cons_self ..)⟩ (good_pis h.2 fun u m => g u (List.mem_cons_of_mem _ m))
  | [], _ :: _, h, _ => False.elim h
  | _ :: _, [], h, _ => False.elim h
section
variable {P : Program} {w : World} {K : PySem.W.Frag} {mg : Str → Option Value} {base : Heap} {C : Cl5} {CI CS f c fA fLn Pt : Addr} {fdA : FuncData} {T : List (Addr × Str)} {a : AdT} {A : Around} {outer : List Env} {s : Shared} {H0 : Hp} {E : XK}
theorem lr1 (TR : TxtTR P w K mg base C CI a) (LR : TxtLR P w K mg base C fLn) (FA : TxtA K mg CI CS fA fdA) (TB : TabB base mg c Pt) (hmT : (Pt, qLR) ∈ T) (hu : ∀ p ∈ T, p.1 = Pt → p.2 = qLR) (hr : Room 7 (A.deeper (PyProof.Rows.envOfC "_law_limits_right" (defScope sLimitsRight) s.heap.objs.size f (.ref c)))) (gR : mg "range" = none) :
    ∃ t : TS, PS (cxOf CX0 P w K mg base NLR "_law_limits_right" (defScope sLimitsRight) f (.ref c) A outer s H0 E).nox (stLR 0) t ∧ ∀ (Z : Ends) (H : Hp), (∀ (H' : Hp) (lf tl : Addr), Same H H' → PtAt C H' (.ref lf) leafT → PtAt C H' (.ref tl) leafT → Z.nx [some (.ref lf), some (.ref tl), none, none, none, none, none] H') → t Z [none, none, none, none, none, none, none] H := by
  have hr5 : Room 5 _ := hr.mono (by decide)
  have hr2 : Room 2 _ := hr.mono (by decide)
  have hr1 : Room 1 _ := hr.mono (by decide)
  have hu64 : (A.deeper (PyProof.Rows.envOfC "_law_limits_right" (defScope sLimitsRight) s.heap.objs.size f (.ref c))).units + 64 < cLine := by have := hr.un; omega
  have big : (1000000 : Nat) < sizeLine := by decide
  refine ⟨_, (ps_asg (pe_tup (pa_cons (pe_mkT (E := E0) TR.MT TR.GT hr5 rfl TR.gT passL (pa_cons pe_str (pa_cons pe_str pa_nil))) (pa_cons (pe_mkT (E := E0) TR.MT TR.GT hr5 rfl TR.gT passL (pa_cons pe_str (pa_cons pe_str pa_nil))) pa_nil))) (pg_tup (by rfl) (pgs_cons (pg_name (i := 0) scLR.nd rfl (.inr rfl)) (pgs_cons (pg_name (i := 1) scLR.nd rfl (.inr rfl)) pgs_nil)))), ?_⟩
  rintro Z H k
  refine mkT_leaf fun H1 lf s1 _ p1 => ?_
  refine mkT_leaf fun H2 tl s2 _ p2 => ?_
  refine ⟨by show 2 ≤ sizeLine; omega, fun t nt => ?_⟩
  have s3 : Same H2 (upd H2 t (.tup [.ref lf, .ref tl])) := same_upd (Same.refl H2) nt
  have v3 : (upd H2 t (.tup [.ref lf, .ref tl])) t = some (.tup [.ref lf, .ref tl]) := upd_same
  generalize upd H2 t (.tup [.ref lf, .ref tl]) = H3 at s3 v3 ⊢
  refine ⟨t, _, rfl, .inl (.inl v3), rfl, _, _, rfl, ?_⟩
  refine ⟨_, _, rfl, rfl, ?_⟩
  exact k H3 lf tl (s1.trans (s2.trans s3)) (PtAt.kpo (KpO.same (s2.trans s3)) _ p1) (PtAt.kpo (KpO.same s3) _ p2)
theorem lr2 (TR : TxtTR P w K mg base C CI a) (LR : TxtLR P w K mg base C fLn) (FA : TxtA K mg CI CS fA fdA) (TB : TabB base mg c Pt) (hmT : (Pt, qLR) ∈ T) (hu : ∀ p ∈ T, p.1 = Pt → p.2 = qLR) (hr : Room 7 (A.deeper (PyProof.Rows.envOfC "_law_limits_right" (defScope sLimitsRight) s.heap.objs.size f (.ref c)))) (gR : mg "range" = none) :
    ∃ t : TS, PS (cxOf CX0 P w K mg base NLR "_law_limits_right" (defScope sLimitsRight) f (.ref c) A outer s H0 E).nox (stLR 1) t ∧ ∀ (Z : Ends) (H : Hp) (lf tl : Addr), PtAt C H (.ref tl) leafT → (∀ (H' : Hp) (tl' : Addr) (v2 : Option V), Same H H' → PtAt C H' (.ref tl') (tallT 99) → Z.nx [some (.ref lf), some (.ref tl'), v2, none, none, none, none] H') → t Z [some (.ref lf), some (.ref tl), none, none, none, none, none] H := by
  have hr5 : Room 5 _ := hr.mono (by decide)
  have hr2 : Room 2 _ := hr.mono (by decide)
  have hr1 : Room 1 _ := hr.mono (by decide)
  have hu64 : (A.deeper (PyProof.Rows.envOfC "_law_limits_right" (defScope sLimitsRight) s.heap.objs.size f (.ref c))).units + 64 < cLine := by have := hr.un; omega
  have big : (1000000 : Nat) < sizeLine := by decide
  refine ⟨_, (ps_for PassesOwn.never rfl (pi_range1 rfl gR (pa_cons pe_int pa_nil)) (pg_name (i := 2) scLR.nd rfl (.inl rfl)) (pss_one (ps_set (i := 1) scLR.nd rfl (Or.inr rfl) (pe_ifExp (pt_cmpR op_lt (pv 2) pe_int (nomark _)) (pe_mkT (E := E0) TR.MT TR.GT hr5 rfl TR.gT passL (pa_cons pe_str (pa_cons pe_str (pa_cons (pv 1) pa_nil)))) (pe_mkT (E := E0) TR.MT TR.GT hr5 rfl TR.gT passL (pa_cons pe_str (pa_cons (pe_tup (pa_cons (pv 1) pa_nil)) pa_nil))))))), ?_⟩
  rintro Z H lf tl pt k
  refine ⟨99, rfl, by decide, by decide, for_range (lo := 0) (n := 99) (fun i σ H' => ∃ (tl' : Addr) (v2 : Option V), σ = [some (.ref lf), some (.ref tl'), v2, none, none, none, none] ∧ Same H H' ∧ PtAt C H' (.ref tl') (tallT i)) ⟨tl, _, rfl, Same.refl _, pt⟩ ?_ (fun σ H' ⟨tl', v2, e, s', p'⟩ => by rw [e]; exact k H' tl' v2 s' p')⟩
  rintro i σ H1 hi ⟨tl', v2, rfl, s1, p1⟩
  obtain ⟨z1, z2⟩ := neg_ok
  obtain ⟨y1, y2⟩ := tall_size i
  obtain ⟨x1, x2⟩ := negP_sizes i (tallT i)
  have js := tall_said i
  have jn := negP_join i (tallT i)
  have ln := negP_len i (tallT i)
  have prt := negP_parts (n := i) (m := i) (by omega)
  refine ⟨_, rfl, _, _, rfl, rfl, _, rfl, ?_⟩
  have ed : decide ((0 : Int) + (i : Int) < 50) = decide (i < 50) := decide_eq_decide.mpr (by omega)
  rw [ed]
  by_cases h : i < 50
  · have en : negP i (tallT i) = [.tx "-", tallT i] := if_pos h
    rw [decide_eq_true h]
    refine iteT ?_
    refine ⟨_, rfl, ?_⟩
    refine mkT_good (ts := negP i (tallT i)) z1 z2 (by rw [en]; exact ⟨rfl, p1, True.intro⟩) prt (by omega) (by omega) (by omega) (by omega) fun H2 x s2 _ p2 _ => ?_
    exact ⟨x, _, rfl, s1.trans s2, p2⟩
  · have en : negP i (tallT i) = [.row [tallT i]] := if_neg h
    rw [decide_eq_false h]
    refine iteF ?_
    refine ⟨_, rfl, by show 1 ≤ sizeLine; omega, fun t nt => ?_⟩
    have s2 : Same H1 (upd H1 t (.tup [.ref tl'])) := same_upd (Same.refl H1) nt
    have w2 : (upd H1 t (.tup [.ref tl'])) t = some (.tup [.ref tl']) := upd_same
    generalize upd H1 t (.tup [.ref tl']) = H2 at s2 w2 ⊢
    refine mkT_good (H := H2) (ts := negP i (tallT i)) z1 z2 (by rw [en]; exact ⟨⟨_, _, rfl, w2, PtAt.kpo (KpO.same s2) _ p1, True.intro⟩, True.intro⟩) prt (by omega) (by omega) (by omega) (by omega) fun H3 x s3 _ p3 _ => ?_
    exact ⟨x, _, rfl, s1.trans (s2.trans s3), p3⟩
theorem lr3 (TR : TxtTR P w K mg base C CI a) (LR : TxtLR P w K mg base C fLn) (FA : TxtA K mg CI CS fA fdA) (TB : TabB base mg c Pt) (hmT : (Pt, qLR) ∈ T) (hu : ∀ p ∈ T, p.1 = Pt → p.2 = qLR) (hr : Room 7 (A.deeper (PyProof.Rows.envOfC "_law_limits_right" (defScope sLimitsRight) s.heap.objs.size f (.ref c)))) (gR : mg "range" = none) :
    ∃ t : TS, PS (cxOf CX0 P w K mg base NLR "_law_limits_right" (defScope sLimitsRight) f (.ref c) A outer s H0 E).nox (stLR 2) t ∧ ∀ (Z : Ends) (H : Hp) (σ : L2.St) (tl : Addr), σ[1]? = some (some (.ref tl)) → Tabs T H → PtAt C H (.ref tl) (tallT 99) → (∀ H', ExtN H H' → Tabs T H' → Z.nx σ H') → t Z σ H := by
  have hr5 : Room 5 _ := hr.mono (by decide)
  have hr2 : Room 2 _ := hr.mono (by decide)
  have hr1 : Room 1 _ := hr.mono (by decide)
  have hu64 : (A.deeper (PyProof.Rows.envOfC "_law_limits_right" (defScope sLimitsRight) s.heap.objs.size f (.ref c))).units + 64 < cLine := by have := hr.un; omega
  have big : (1000000 : Nat) < sizeLine := by decide
  refine ⟨_, (ps_if (pt_cmpR (op_neD hu64) (pe_lst (pa_cons (pe_fld (pv 1) rfl) (pa_cons (pe_callB (call_lenO (E := E0) LR.OL LR.GL hr2 pass0) (by rfl) TR.T.len PySem.boot_len (pa_cons (pv 1) pa_nil)) (pa_cons (pe_fault (t := (fun E => tMkT K C CI E (tCons (tC (.str "Neg")) (tCons (tVar 1) tNil)))) (k := 5) FA rfl TB rfl hmT hu hr (lamS_by (sc := defScope sLimitsRight) (by decide +kernel)) rfl (fun _ _ _ _ _ => rfl) (fun _ _ _ _ E _ _ hr' => (pe_mkT (E := E) TR.MT TR.GT hr' rfl TR.gT (passes_call (takes_of rfl rfl rfl rfl) (fun _ _ _ _ q => q)) (pa_cons pe_str (pa_cons (pv 1) pa_nil))))) pa_nil)))) (pe_lst (pa_cons pe_int (pa_cons pe_int (pa_cons (pe_tup (pa_cons pe_str (pa_cons pe_str pa_nil))) pa_nil)))) (nomark _)) (pss_one (ps_ret pe_bl)) pss_nil), ?_⟩
  rintro Z H σ tl h1 tabs pt k
  obtain ⟨y1, y2⟩ := tall_size 99
  obtain ⟨z1, z2⟩ := neg_ok
  have js := tall_said 99
  have mT : C.T ∈ C.all := C.n_mem false
  have cl := (TR.T5.own _ mT).cl
  have na := TR.N5.na _ mT
  obtain ⟨x, dx, fs, pa, xs, ex, e2, e3, e4, e5, e6, e7, e8, e9, e10⟩ := id pt
  cases ex
  have elv : levelss (negP 98 (tallT 98)) + 1 = 100 := y2
  rw [elv] at e8
  refine ⟨_, h1, tl, C.T, dx, fs, _, rfl, e2, cl, na _ (by decide +kernel), e8, ?_⟩
  refine ⟨_, h1, tl, dx, fs, rfl, e2, .ref tl, _, rfl, pt, tall_isT 99, by rw [y1]; decide, fun H1 s1 => ⟨_, rfl, by rw [y1]; decide, by rw [y1]; decide, ?_⟩⟩
  rw [y1]
  refine ⟨tabs.ext s1, fun H2 e12 tb2 => fault_kk (K := K) (C := C) (n := .str "Neg") (xs := [.ref tl]) (pis := [tallT 99].map PI.good) (kk := .size) ?_ (fun H3 E' Q' s3 res => ?_) (fun H3 q s3 nq told => ?_)⟩
  · rw [due_any (n := .str "Neg") z1, if_pos (.inr (by show 100 < max (levels (tallT 99)) 0 + 1; rw [y2]; decide))]
  · have p3 := PtAt.kpo (KpO.same s3) _ (PtAt.kpo (KpO.ext e12) _ (PtAt.kpo (KpO.same s1) _ pt))
    exact ⟨_, h1, .str "Neg", [.ref tl], _, rfl, val_nm z1 z2, good_pis (ts := [tallT 99]) ⟨p3, True.intro⟩ (fun t ht => by rw [List.mem_singleton.mp ht]; exact isT_parts (tall_isT 99)), by decide, by rw [parts_good, joinB_one]; omega, res⟩
  · refine ⟨by show 3 ≤ sizeLine; omega, fun l1 nl1 => ?_⟩
    have s4 : Same H3 (upd H3 l1 (.lst [.int ((100 : Nat) : Int), .int ((99 + 1 : Nat) : Int), .ref q])) := same_upd (Same.refl H3) nl1
    have v4 : (upd H3 l1 (.lst [.int ((100 : Nat) : Int), .int ((99 + 1 : Nat) : Int), .ref q])) l1 = some (.lst [.int ((100 : Nat) : Int), .int ((99 + 1 : Nat) : Int), .ref q]) := upd_same
    generalize upd H3 l1 (.lst [.int ((100 : Nat) : Int), .int ((99 + 1 : Nat) : Int), .ref q]) = H4 at s4 v4 ⊢
    refine ⟨by show 2 ≤ sizeLine; omega, fun u nu => ?_⟩
    have s5 : Same H4 (upd H4 u (.tup [.str "wrong", .str "size"])) := same_upd (Same.refl H4) nu
    have v5 : (upd H4 u (.tup [.str "wrong", .str "size"])) u = some (.tup [.str "wrong", .str "size"]) := upd_same
    generalize upd H4 u (.tup [.str "wrong", .str "size"]) = H5 at s5 v5 ⊢
    refine ⟨by show 3 ≤ sizeLine; omega, fun l2 nl2 => ?_⟩
    have s6 : Same H5 (upd H5 l2 (.lst [.int 100, .int 100, .ref u])) := same_upd (Same.refl H5) nl2
    have v6 : (upd H5 l2 (.lst [.int 100, .int 100, .ref u])) l2 = some (.lst [.int 100, .int 100, .ref u]) := upd_same
    generalize upd H5 l2 (.lst [.int 100, .int 100, .ref u]) = H6 at s6 v6 ⊢
    have s46 := s4.trans (s5.trans s6)
    have sh : SeqAt.shaped (.list [.int 100, .int 100, .tuple DK.size.dat]) = true := by decide +kernel
    refine ⟨_, _, .lst (SqL.of ((s5.trans s6) _ _ v4)) (.cons (.int _) (.cons (.int _) (.cons (DK.dp (k := .size) (s46 _ _ told)) .nil))), .lst (SqL.of v6) (.cons (.int _) (.cons (.int _) (.cons (DK.dp (k := .size) (s6 _ _ v5)) .nil))), sh, sh, _, rfl, ?_⟩
    have hq : (PyData.list [.int ((100 : Nat) : Int), .int ((99 + 1 : Nat) : Int), .tuple DK.size.dat]).eqv (.list [.int 100, .int 100, .tuple DK.size.dat]) = true := SeqAt.eqv_refl _ (lay_of sh)
    rw [hq]
    refine iteF ?_
    have eE := (ExtN.of s1).trans (e12.trans (ExtN.of (s3.trans s46)))
    exact k H6 eE ((tb2.ext s3).ext s46)
end
end K3

namespace K3
open PySem L2 E0
open LamX (ExtN Tabs TabS TabB LamS lamS_by lamSB)
def signs : List Str := ["\"", "\\", "\n", "[", " "]
theorem signs_ok : ∀ z ∈ signs, 1 ≤ z.length ∧ z.length ≤ 100 ∧ (timesS z 60).length ≤ 60 ∧ 60 < (timesS z 61).length ∧ (timesS z 61).length ≤ 1000 ∧ PyData.strOk (timesS z 60) = true ∧ joinB [.tx (timesS z 60)] ≤ 1000 := by
  have h : (signs.all fun z => decide (1 ≤ z.length) && decide (z.length ≤ 100) && decide ((timesS z 60).length ≤ 60) && decide (60 < (timesS z 61).length) && decide ((timesS z 61).length ≤ 1000) && PyData.strOk (timesS z 60) && decide (joinB [.tx (timesS z 60)] ≤ 1000)) = true := by decide +kernel
  intro z hz
  have q := List.all_eq_true.mp h z hz
  simp only [Bool.and_eq_true, decide_eq_true_eq] at q
  obtain ⟨⟨⟨⟨⟨⟨a, b⟩, c⟩, d⟩, e⟩, f⟩, g⟩ := q
  exact ⟨a, b, c, d, e, f, g⟩
theorem tx_parts {z : Str} (h : z.length ≤ 60) : okP (.tx z) = true ∧ rowB (.tx z) ≤ 1000 ∧ okTx (.tx z) := ⟨decide_eq_true h, by show z.length ≤ 1000; omega, by show z.length ≤ 1000; omega⟩
/-- all but one list stands -/
def ExtL (L : Addr) (H H' : Hp) : Prop := ∀ b o, b ≠ L → H b = some o → (∀ ps, o ≠ .tbl ps) → H' b = some o
theorem ExtL.trans {L : Addr} {H H1 H2 : Hp} (a : ExtL L H H1) (b : ExtL L H1 H2) : ExtL L H H2 := fun c o n e t => b c o n (a c o n e t) t
theorem ExtL.ext {L : Addr} {H H' : Hp} (e : ExtN H H') : ExtL L H H' := fun b o _ q t => e b o q t
theorem ExtL.upd {L : Addr} {H : Hp} {u : HO} : ExtL L H (upd H L u) := fun b o n q _ => by rw [upd_ne n]; exact q
theorem ExtL.kpo {L : Addr} {H H' : Hp} {xs : List V} (e : ExtL L H H') (h : H L = some (.lst xs)) : KpO H H' := fun b o t q => e b o (fun z => by rw [z, h] at q; cases q; cases t) q fun ps z => by rw [z] at t; cases t
theorem below_row (n : Nat) : (below [.row (leafs n)]).length = n := by
  show ((leafs n).filter isN ++ []).length = n
  rw [List.append_nil, List.filter_eq_self.mpr fun t ht => isT_isN (leafs_isT n t ht), leafs_len]
section
variable {P : Program} {w : World} {K : PySem.W.Frag} {mg : Str → Option Value} {base : Heap} {C : Cl5} {CI CS f c fA fLn Pt : Addr} {fdA : FuncData} {T : List (Addr × Str)} {a : AdT} {A : Around} {outer : List Env} {s : Shared} {H0 : Hp} {E : XK}
theorem lr4 (TR : TxtTR P w K mg base C CI a) (LR : TxtLR P w K mg base C fLn) (FA : TxtA K mg CI CS fA fdA) (TB : TabB base mg c Pt) (hmT : (Pt, qLR) ∈ T) (hu : ∀ p ∈ T, p.1 = Pt → p.2 = qLR) (hr : Room 7 (A.deeper (PyProof.Rows.envOfC "_law_limits_right" (defScope sLimitsRight) s.heap.objs.size f (.ref c)))) (gR : mg "range" = none) :
    ∃ t : TS, PS (cxOf CX0 P w K mg base NLR "_law_limits_right" (defScope sLimitsRight) f (.ref c) A outer s H0 E).nox (stLR 3) t ∧ ∀ (Z : Ends) (H : Hp) (lf tl : Addr) (v2 : Option V), Tabs T H → (∀ (H' : Hp) (v3 v4 : Option V), ExtN H H' → Tabs T H' → Z.nx [some (.ref lf), some (.ref tl), v2, v3, v4, none, none] H') → t Z [some (.ref lf), some (.ref tl), v2, none, none, none, none] H := by
  have hr5 : Room 5 _ := hr.mono (by decide)
  have hr2 : Room 2 _ := hr.mono (by decide)
  have hr1 : Room 1 _ := hr.mono (by decide)
  have hu64 : (A.deeper (PyProof.Rows.envOfC "_law_limits_right" (defScope sLimitsRight) s.heap.objs.size f (.ref c))).units + 64 < cLine := by have := hr.un; omega
  have big : (1000000 : Nat) < sizeLine := by decide
  refine ⟨_, (ps_for PassesOwn.never rfl (pi_tup (pe_tup (pa_cons pe_str (pa_cons pe_str (pa_cons pe_str (pa_cons pe_str (pa_cons pe_str pa_nil))))))) (pg_name (i := 3) scLR.nd rfl (.inr rfl)) (pss_cons (ps_set (i := 4) scLR.nd rfl (Or.inl rfl) (pe_lst (pa_cons (pe_fault (t := (fun E => tMkT K C CI E (tCons (tC (.str "Num")) (tCons (tOp rMulS (tVar 3) (tC (.int 60))) tNil)))) (k := 5) FA rfl TB rfl hmT hu hr (lamS_by (sc := defScope sLimitsRight) (by decide +kernel)) rfl (fun _ _ _ _ _ => rfl) (fun _ _ _ _ E _ _ hr' => (pe_mkT (E := E) TR.MT TR.GT hr' rfl TR.gT (passes_call (takes_of rfl rfl rfl rfl) (fun _ _ _ _ q => q)) (pa_cons pe_str (pa_cons (pe_op op_mul_str (pv 3) pe_int) pa_nil))))) (pa_cons (pe_faultW (jj := 2) (t := (fun E => tMkT K C CI E (tCons (tC (.str "Num")) (tCons (tC (.str "")) (tCons (tOp rMulS (tVar 3) (tC (.int 61))) tNil))))) (k := 5) scLR.nd FA rfl TB rfl hmT hu hr (lamW_by (sc := defScope sLimitsRight) (N := NLR) (y := "_law_n") (j := 2) (by decide +kernel)) rfl rfl (fun _ _ _ _ _ _ _ => ⟨_, rfl, rfl⟩) (fun _ _ _ _ E _ _ hr' => (pe_mkT (E := E) TR.MT TR.GT hr' rfl TR.gT (passes_call (takes_of rfl rfl rfl rfl) (fun _ _ _ _ q => q)) (pa_cons pe_str (pa_cons pe_str (pa_cons (pe_op op_mul_str (pv 3) pe_int) pa_nil)))))) pa_nil)))) (pss_one (ps_if (PW.pt (pw_or (pt_cmpR (op_neD hu64) (pv 4) (pe_lst (pa_cons (pe_tup pa_nil) (pa_cons (pe_tup (pa_cons pe_str (pa_cons pe_int pa_nil))) pa_nil))) (nomark _)) (pw_or1 (pt_cmpR (op_neD hu64) (pe_fld (pe_mkT (E := E0) TR.MT TR.GT hr5 rfl TR.gT passL (pa_cons pe_str (pa_cons (pe_op op_mul_str (pv 3) pe_int) pa_nil))) rfl) (pe_tup (pa_cons (pe_op op_mul_str (pv 3) pe_int) pa_nil)) (nomark _))))) (pss_one (ps_ret pe_bl)) pss_nil)))), ?_⟩
  rintro Z H lf tl v2 tabs k
  have mT : C.T ∈ C.all := C.n_mem false
  have cl := (TR.T5.own _ mT).cl
  have na := TR.N5.na _ mT
  obtain ⟨_, _, u1, u2⟩ := row_ok
  refine ⟨by show 5 ≤ sizeLine; omega, fun tp ntp => ?_⟩
  have s1 : Same H (upd H tp (.tup [.str "\"", .str "\\", .str "\n", .str "[", .str " "])) := same_upd (Same.refl H) ntp
  have v1 : (upd H tp (.tup [.str "\"", .str "\\", .str "\n", .str "[", .str " "])) tp = some (.tup (signs.map V.str)) := upd_same
  generalize upd H tp (.tup [.str "\"", .str "\\", .str "\n", .str "[", .str " "]) = H1 at s1 v1 ⊢
  refine ⟨tp, rfl, ⟨_, SqT.of v1⟩, for_tup (K := K) (a := tp) (xs := signs.map V.str) (fun i σ H' => ∃ v3 v4 : Option V, σ = [some (.ref lf), some (.ref tl), v2, v3, v4, none, none] ∧ ExtN H1 H' ∧ Tabs T H') ⟨_, _, rfl, ExtN.refl _, tabs.ext s1⟩ (fun i σ H' _ ⟨_, _, _, e', _⟩ => SqT.of (e' _ _ v1 fun _ => nofun)) ?_ (fun σ H' ⟨v3, v4, e, e', tb'⟩ => by rw [e]; exact k H' v3 v4 ((ExtN.of s1).trans e') tb')⟩
  rintro i x σ H2 hx ⟨v3, v4, rfl, e2, tb2⟩
  rw [List.getElem?_map] at hx
  cases hz : signs[i]? with
  | none => rw [hz] at hx; cases hx
  | some z =>
    rw [hz] at hx
    have hx : V.str z = x := Option.some.inj hx
    subst hx
    obtain ⟨g1, g2, g3, g4, g5, g6, g7⟩ := signs_ok z (List.mem_of_getElem? hz)
    refine ⟨tb2, fun H3 e3 tb3 => fault_kk (K := K) (C := C) (n := .str "Num") (xs := [.str (timesS z 60)]) (pis := [Tr.tx (timesS z 60)].map PI.good) (kk := .ok) ?_ (fun H4 E' Q' s4 res => ?_) (fun H4 q1 s4 nq1 told1 => ?_)⟩
    · rw [due_any (n := .str "Num") u1, if_neg (by simp [sizes, size, levelss, levels])]
    · exact ⟨_, rfl, z, 60, rfl, rfl, by decide, by decide, g1, g2, by omega, .str "Num", [.str (timesS z 60)], _, rfl, val_nm u1 u2, good_pis (ts := [.tx (timesS z 60)]) ⟨rfl, True.intro⟩ (fun t ht => by rw [List.mem_singleton.mp ht]; exact tx_parts g3), by show 1 ≤ 1000; omega, by rw [parts_good]; omega, res⟩
    refine ⟨tb3.ext s4, fun H5 e5 tb5 => fault_kk (K := K) (C := C) (n := .str "Num") (xs := [.str "", .str (timesS z 61)]) (pis := [.good (.tx ""), .bad]) (kk := .at 1) ?_ (fun H6 E' Q' s6 res => ?_) (fun H6 q2 s6 nq2 told2 => ?_)⟩
    · exact due_bad (n := .str "Num") u1 rfl
    · exact ⟨_, rfl, z, 61, rfl, rfl, by decide, by decide, g1, g2, by omega, .str "Num", [.str "", .str (timesS z 61)], [.good (.tx ""), .bad], rfl, val_nm u1 u2, .cons ⟨rfl, tx_parts (by decide +kernel)⟩ (.cons (.inl ⟨_, rfl, g4, g5⟩) .nil), by decide, by decide +kernel, res⟩
    refine ⟨by show 2 ≤ sizeLine; omega, fun L nL => ?_⟩
    have s7 : Same H6 (upd H6 L (.lst [.ref q1, .ref q2])) := same_upd (Same.refl H6) nL
    have v7 : (upd H6 L (.lst [.ref q1, .ref q2])) L = some (.lst [.ref q1, .ref q2]) := upd_same
    generalize upd H6 L (.lst [.ref q1, .ref q2]) = H7 at s7 v7 ⊢
    have E47 : ExtN H4 H7 := e5.trans (ExtN.of (s6.trans s7))
    refine ⟨_, rfl, Nat.zero_le _, fun t0 nt0 => ?_⟩
    have s8 : Same H7 (upd H7 t0 (.tup [])) := same_upd (Same.refl H7) nt0
    have v8 : (upd H7 t0 (.tup [])) t0 = some (.tup []) := upd_same
    generalize upd H7 t0 (.tup []) = H8 at s8 v8 ⊢
    refine ⟨by show 2 ≤ sizeLine; omega, fun t1 nt1 => ?_⟩
    have s9 : Same H8 (upd H8 t1 (.tup [.str "wrong", .int 1])) := same_upd (Same.refl H8) nt1
    have v9 : (upd H8 t1 (.tup [.str "wrong", .int 1])) t1 = some (.tup [.str "wrong", .int 1]) := upd_same
    generalize upd H8 t1 (.tup [.str "wrong", .int 1]) = H9 at s9 v9 ⊢
    refine ⟨by show 2 ≤ sizeLine; omega, fun l2 nl2 => ?_⟩
    have s10 : Same H9 (upd H9 l2 (.lst [.ref t0, .ref t1])) := same_upd (Same.refl H9) nl2
    have v10 : (upd H9 l2 (.lst [.ref t0, .ref t1])) l2 = some (.lst [.ref t0, .ref t1]) := upd_same
    generalize upd H9 l2 (.lst [.ref t0, .ref t1]) = H10 at s10 v10 ⊢
    have s710 := s8.trans (s9.trans s10)
    have sh : SeqAt.shaped (.list [.tuple DK.ok.dat, .tuple (DK.at 1).dat]) = true := by decide +kernel
    refine ⟨_, _, .lst (SqL.of (s710 _ _ v7)) (.cons (DK.dp (k := .ok) (s710 _ _ (E47 _ _ told1 fun _ => nofun))) (.cons (DK.dp (k := .at 1) (s710 _ _ (s7 _ _ told2))) .nil)), .lst (SqL.of v10) (.cons (DK.dp (k := .ok) ((s9.trans s10) _ _ v8)) (.cons (DK.dp (k := .at 1) (s10 _ _ v9)) .nil)), sh, sh, _, rfl, ?_⟩
    rw [SeqAt.eqv_refl _ (lay_of sh)]
    refine iteF ?_
    refine ⟨_, rfl, z, 60, rfl, rfl, by decide, by decide, g1, g2, by omega, ?_⟩
    refine mkT_good (H := H10) (ts := [.tx (timesS z 60)]) u1 u2 ⟨rfl, True.intro⟩ (fun t ht => by rw [List.mem_singleton.mp ht]; exact tx_parts g3) (by show 1 ≤ 1000; omega) (by omega) (by show 1 + (0 + 0) ≤ 400; omega) (by show max 0 0 + 1 ≤ 100; omega) fun H11 y s11 _ py _ => ?_
    obtain ⟨y', dx, fs, pa, xs, ey, i2, i3, i4, i5, i6, _⟩ := id py
    cases ey
    have exs : xs = [.str (timesS z 60)] := by
      match xs, i6 with
      | [v], h => rw [show v = V.str (timesS z 60) from h.1]
    rw [exs] at i5
    refine ⟨y, C.T, dx, fs, _, rfl, i2, cl, na _ (by decide +kernel), i4, ?_⟩
    refine ⟨_, rfl, z, 60, rfl, rfl, by decide, by decide, g1, g2, by omega, by show 1 ≤ sizeLine; omega, fun u nu => ?_⟩
    have s12 : Same H11 (upd H11 u (.tup [.str (timesS z 60)])) := same_upd (Same.refl H11) nu
    have v12 : (upd H11 u (.tup [.str (timesS z 60)])) u = some (.tup [.str (timesS z 60)]) := upd_same
    generalize upd H11 u (.tup [.str (timesS z 60)]) = H12 at s12 v12 ⊢
    have sh2 : SeqAt.shaped (.tuple [.str (timesS z 60)]) = true := by
      simp [SeqAt.shaped, PyData.canLay0, PyData.canLayAll0, PyData.depth, PyData.depthAll, g6]
    refine ⟨_, _, .tup (SqT.of (s12 _ _ i5)) (.cons (.str _) .nil), .tup (SqT.of v12) (.cons (.str _) .nil), sh2, sh2, _, rfl, ?_⟩
    rw [SeqAt.eqv_refl _ (lay_of sh2)]
    refine iteF ?_
    have s712 := s7.trans (s710.trans (s11.trans s12))
    exact ⟨_, _, rfl, e2.trans (e3.trans ((ExtN.of s4).trans (e5.trans (ExtN.of (s6.trans s712))))), (tb5.ext s6).ext s712⟩
end
end K3

namespace K3
open PySem L2 E0
open LamX (ExtN Tabs TabS TabB LamS lamS_by lamSB)
/-- the same where the parts are made in the call -/
theorem fault_xs {C : Cl5} {CI : Addr} {n : V} {pis : List PI} {kk : DK} {H : Hp} {Q : VK} {tl : XK → Hp → VK → Prop} (due : treeDue n pis = kk.opt) (ht : ∀ H1 E' Q', Same H H1 → (∀ xs, TreeRes C CI n xs pis E' H1 Q') → tl E' H1 Q')
    (k : ∀ H' p, Same H H' → H p = none → H' p = some (.tup kk.val) → Q (.ref p) H') : TFault CI tl H Q := by
  intro E' Q' hE hQ
  have k' : ∀ H' p, Same H H' → H p = none → ToldT n pis H' p → Q (.ref p) H' := fun H' p s n t => k H' p s n (toldT_val due t)
  refine ht H E' Q' (Same.refl H) fun xs => ?_
  unfold TreeRes
  unfold ToldT at k'
  cases e : treeDue n pis with
  | some u =>
    rw [e] at k'
    exact fun H' dd s nd hd => hE dd u H' hd fun H'' p s' np hp => k' H'' p (s.trans s') (s.free np) hp
  | none =>
    rw [e] at k'
    exact fun H' x z ez s nx at_ hp => hQ (.ref x) H' fun H'' p s' np hp => k' H'' p (s.trans s') (s.free np) hp
section
variable {P : Program} {w : World} {K : PySem.W.Frag} {mg : Str → Option Value} {base : Heap} {C : Cl5} {CI CS f c fA fLn Pt : Addr} {fdA : FuncData} {T : List (Addr × Str)} {a : AdT} {A : Around} {outer : List Env} {s : Shared} {H0 : Hp} {E : XK}
theorem lr5 (TR : TxtTR P w K mg base C CI a) (LR : TxtLR P w K mg base C fLn) (FA : TxtA K mg CI CS fA fdA) (TB : TabB base mg c Pt) (hmT : (Pt, qLR) ∈ T) (hu : ∀ p ∈ T, p.1 = Pt → p.2 = qLR) (hr : Room 7 (A.deeper (PyProof.Rows.envOfC "_law_limits_right" (defScope sLimitsRight) s.heap.objs.size f (.ref c)))) (gR : mg "range" = none) :
    ∃ t : TS, PS (cxOf CX0 P w K mg base NLR "_law_limits_right" (defScope sLimitsRight) f (.ref c) A outer s H0 E).nox (stLR 4) t ∧ ∀ (Z : Ends) (H : Hp) (σ : L2.St) (lf : Addr), σ[0]? = some (some (.ref lf)) → PtAt C H (.ref lf) leafT → (∀ (H' : Hp) (wd : Addr), Same H H' → PtAt C H' (.ref wd) wideT → Z.nx (σ.set 5 (some (.ref wd))) H') → t Z σ H := by
  have hr5 : Room 5 _ := hr.mono (by decide)
  have hr2 : Room 2 _ := hr.mono (by decide)
  have hr1 : Room 1 _ := hr.mono (by decide)
  have hu64 : (A.deeper (PyProof.Rows.envOfC "_law_limits_right" (defScope sLimitsRight) s.heap.objs.size f (.ref c))).units + 64 < cLine := by have := hr.un; omega
  have big : (1000000 : Nat) < sizeLine := by decide
  refine ⟨_, (ps_set (i := 5) scLR.nd rfl (Or.inr rfl) (pe_mkT (E := E0) TR.MT TR.GT hr5 rfl TR.gT passL (pa_cons pe_str (pa_cons (pe_op op_repT (pe_tup (pa_cons (pv 0) pa_nil)) pe_int) pa_nil)))), ?_⟩
  rintro Z H σ lf h0 pt k
  obtain ⟨u1, u2, _, _⟩ := row_ok
  refine ⟨_, h0, by show 1 ≤ sizeLine; omega, fun u nu => ?_⟩
  have s1 : Same H (upd H u (.tup [.ref lf])) := same_upd (Same.refl H) nu
  have v1 : (upd H u (.tup [.ref lf])) u = some (.tup [.ref lf]) := upd_same
  generalize upd H u (.tup [.ref lf]) = H1 at s1 v1 ⊢
  refine ⟨u, 399, _, rfl, rfl, SqT.of v1, by simp, by decide, by decide, by show 1 ≤ 1000; omega, fun p np => ?_⟩
  rw [show ((399 : Int)).toNat = 399 from rfl, flat_rep]
  have s2 : Same H1 (upd H1 p (.tup (List.replicate 399 (.ref lf)))) := same_upd (Same.refl H1) np
  have v2 : (upd H1 p (.tup (List.replicate 399 (.ref lf)))) p = some (.tup (List.replicate 399 (.ref lf))) := upd_same
  generalize upd H1 p (.tup (List.replicate 399 (.ref lf))) = H2 at s2 v2 ⊢
  have s12 := s1.trans s2
  obtain ⟨a, b', c'⟩ := leafs_sizes 399
  have e1 : sizes [.row (leafs 399)] = 399 := by simp only [sizes, size]; omega
  have e2 := wide_size.2.1
  have sr := saidrow_le (leafs 399)
  refine mkT_good (H := H2) (ts := [.row (leafs 399)]) u1 u2 ⟨⟨_, _, rfl, v2, leafs_pts (PtAt.kpo (KpO.same s12) _ pt) 399⟩, True.intro⟩ (fun t ht => by rw [List.mem_singleton.mp ht]; exact leafs_parts (by decide)) (by show 1 ≤ 1000; omega) (by rw [joinB_one]; omega) (by omega) (by omega) fun H3 x s3 _ p3 _ => ?_
  exact k H3 x (s12.trans s3) p3
theorem lr6 (TR : TxtTR P w K mg base C CI a) (LR : TxtLR P w K mg base C fLn) (FA : TxtA K mg CI CS fA fdA) (TB : TabB base mg c Pt) (hmT : (Pt, qLR) ∈ T) (hu : ∀ p ∈ T, p.1 = Pt → p.2 = qLR) (hr : Room 7 (A.deeper (PyProof.Rows.envOfC "_law_limits_right" (defScope sLimitsRight) s.heap.objs.size f (.ref c)))) (gR : mg "range" = none) :
    ∃ t : TS, PS (cxOf CX0 P w K mg base NLR "_law_limits_right" (defScope sLimitsRight) f (.ref c) A outer s H0 E).nox (stLR 5) t ∧ ∀ (Z : Ends) (H : Hp) (σ : L2.St) (wd : Addr), σ[5]? = some (some (.ref wd)) → PtAt C H (.ref wd) wideT → (∀ H', Same H H' → Z.nx σ H') → t Z σ H := by
  have hr5 : Room 5 _ := hr.mono (by decide)
  have hr2 : Room 2 _ := hr.mono (by decide)
  have hr1 : Room 1 _ := hr.mono (by decide)
  have hu64 : (A.deeper (PyProof.Rows.envOfC "_law_limits_right" (defScope sLimitsRight) s.heap.objs.size f (.ref c))).units + 64 < cLine := by have := hr.un; omega
  have big : (1000000 : Nat) < sizeLine := by decide
  refine ⟨_, (ps_if (pt_cmpR (op_neD hu64) (pe_lst (pa_cons (pe_fld (pv 5) rfl) (pa_cons (pe_callB (call_lenO (E := E0) LR.OL LR.GL hr2 pass0) (by rfl) TR.T.len PySem.boot_len (pa_cons (pv 5) pa_nil)) (pa_cons (pe_callB call_len_seq (by rfl) TR.T.len PySem.boot_len (pa_cons (pe_fld (pv 5) rfl) pa_nil)) pa_nil)))) (pe_lst (pa_cons pe_int (pa_cons pe_int (pa_cons pe_int pa_nil)))) (nomark _)) (pss_one (ps_ret pe_bl)) pss_nil), ?_⟩
  rintro Z H σ wd h5 pt k
  have mT : C.T ∈ C.all := C.n_mem false
  have cl := (TR.T5.own _ mT).cl
  have na := TR.N5.na _ mT
  obtain ⟨y1, y2, _⟩ := wide_size
  obtain ⟨x, dx, fs, pa, xs, ex, e2, e3, e4, e5, e6, e7, e8, e9, e10⟩ := id pt
  cases ex
  obtain ⟨ca, cs, c1, c2, c3⟩ := e10 rfl
  have cl2 : cs.length = 399 := by rw [pts_len (kids_pts c3 e6), below_row]
  rw [y2] at e8
  refine ⟨_, h5, wd, C.T, dx, fs, _, rfl, e2, cl, na _ (by decide +kernel), e8, ?_⟩
  refine ⟨_, h5, wd, dx, fs, rfl, e2, .ref wd, _, rfl, pt, rfl, by rw [y1]; decide, fun H1 s1 => ⟨_, rfl, by rw [y1]; decide, by rw [y1]; decide, ?_⟩⟩
  rw [y1]
  refine ⟨_, h5, wd, C.T, dx, fs, _, rfl, s1 _ _ e2, cl, na _ (by decide +kernel), c1, ca, cs, rfl, .inr (SqT.of (s1 _ _ c2)), ?_⟩
  rw [cl2]
  refine ⟨by show 3 ≤ sizeLine; omega, fun l1 nl1 => ?_⟩
  have s2 : Same H1 (upd H1 l1 (.lst [.int ((2 : Nat) : Int), .int ((400 : Nat) : Int), .int ((399 : Nat) : Int)])) := same_upd (Same.refl H1) nl1
  have v2 : (upd H1 l1 (.lst [.int ((2 : Nat) : Int), .int ((400 : Nat) : Int), .int ((399 : Nat) : Int)])) l1 = some (.lst [.int 2, .int 400, .int 399]) := upd_same
  generalize upd H1 l1 (.lst [.int ((2 : Nat) : Int), .int ((400 : Nat) : Int), .int ((399 : Nat) : Int)]) = H2 at s2 v2 ⊢
  refine ⟨by show 3 ≤ sizeLine; omega, fun l2 nl2 => ?_⟩
  have s3 : Same H2 (upd H2 l2 (.lst [.int 2, .int 400, .int 399])) := same_upd (Same.refl H2) nl2
  have v3 : (upd H2 l2 (.lst [.int 2, .int 400, .int 399])) l2 = some (.lst [.int 2, .int 400, .int 399]) := upd_same
  generalize upd H2 l2 (.lst [.int 2, .int 400, .int 399]) = H3 at s3 v3 ⊢
  have sh : SeqAt.shaped (.list [.int 2, .int 400, .int 399]) = true := by decide +kernel
  refine ⟨_, _, .lst (SqL.of (s3 _ _ v2)) (.cons (.int _) (.cons (.int _) (.cons (.int _) .nil))), .lst (SqL.of v3) (.cons (.int _) (.cons (.int _) (.cons (.int _) .nil))), sh, sh, _, rfl, ?_⟩
  rw [SeqAt.eqv_refl _ (lay_of sh)]
  refine iteF ?_
  exact k H3 (s1.trans (s2.trans s3))
theorem lr7 (TR : TxtTR P w K mg base C CI a) (LR : TxtLR P w K mg base C fLn) (FA : TxtA K mg CI CS fA fdA) (TB : TabB base mg c Pt) (hmT : (Pt, qLR) ∈ T) (hu : ∀ p ∈ T, p.1 = Pt → p.2 = qLR) (hr : Room 7 (A.deeper (PyProof.Rows.envOfC "_law_limits_right" (defScope sLimitsRight) s.heap.objs.size f (.ref c)))) (gR : mg "range" = none) :
    ∃ t : TS, PS (cxOf CX0 P w K mg base NLR "_law_limits_right" (defScope sLimitsRight) f (.ref c) A outer s H0 E).nox (stLR 6) t ∧ ∀ (Z : Ends) (H : Hp) (lf tl wd : Addr) (v2 v3 v4 : Option V), Tabs T H → PtAt C H (.ref lf) leafT → PtAt C H (.ref wd) wideT →
      (∀ (H' : Hp) (L q1 q2 : Addr), ExtN H H' → Tabs T H' → (∀ b o, H b = some o → (∀ ps, o ≠ .tbl ps) → b ≠ L) → H' L = some (.lst [.ref q1, .ref q2]) → H' q1 = some (.tup DK.size.val) → H' q2 = some (.tup DK.size.val) → Z.nx [some (.ref lf), some (.ref tl), v2, v3, some (.ref L), some (.ref wd), none] H') →
      t Z [some (.ref lf), some (.ref tl), v2, v3, v4, some (.ref wd), none] H := by
  have hr5 : Room 5 _ := hr.mono (by decide)
  have hr2 : Room 2 _ := hr.mono (by decide)
  have hr1 : Room 1 _ := hr.mono (by decide)
  have hu64 : (A.deeper (PyProof.Rows.envOfC "_law_limits_right" (defScope sLimitsRight) s.heap.objs.size f (.ref c))).units + 64 < cLine := by have := hr.un; omega
  have big : (1000000 : Nat) < sizeLine := by decide
  refine ⟨_, (ps_set (i := 4) scLR.nd rfl (Or.inl rfl) (pe_lst (pa_cons (pe_fault (t := (fun E => tMkT K C CI E (tCons (tC (.str "Row")) (tCons (tOp (rRepT K) (tTup (tCons (tVar 0) tNil)) (tC (.int 400))) tNil)))) (k := 5) FA rfl TB rfl hmT hu hr (lamS_by (sc := defScope sLimitsRight) (by decide +kernel)) rfl (fun _ _ _ _ _ => rfl) (fun _ _ _ _ E _ _ hr' => (pe_mkT (E := E) TR.MT TR.GT hr' rfl TR.gT (passes_call (takes_of rfl rfl rfl rfl) (fun _ _ _ _ q => q)) (pa_cons pe_str (pa_cons (pe_op op_repT (pe_tup (pa_cons (pv 0) pa_nil)) pe_int) pa_nil))))) (pa_cons (pe_faultW (jj := 2) (t := (fun E => tMkT K C CI E (tCons (tC (.str "Row")) (tCons (tVar 5) tNil)))) (k := 5) scLR.nd FA rfl TB rfl hmT hu hr (lamW_by (sc := defScope sLimitsRight) (N := NLR) (y := "_law_n") (j := 2) (by decide +kernel)) rfl rfl (fun _ _ _ _ _ _ _ => ⟨_, rfl, rfl⟩) (fun _ _ _ _ E _ _ hr' => (pe_mkT (E := E) TR.MT TR.GT hr' rfl TR.gT (passes_call (takes_of rfl rfl rfl rfl) (fun _ _ _ _ q => q)) (pa_cons pe_str (pa_cons (pv 5) pa_nil))))) pa_nil)))), ?_⟩
  rintro Z H lf tl wd v2 v3 v4 tabs plf pwd k
  obtain ⟨u1, u2, _, _⟩ := row_ok
  obtain ⟨a, b', c'⟩ := leafs_sizes 400
  obtain ⟨y1, y2, y3⟩ := wide_size
  have sr := saidrow_le (leafs 400)
  refine ⟨tabs, fun H1 e1 tb1 => fault_xs (C := C) (n := .str "Row") (pis := [Tr.row (leafs 400)].map PI.good) (kk := .size) ?_ (fun H2 E' Q' s2 res => ?_) (fun H2 q1 s2 nq1 told1 => ?_)⟩
  · rw [due_any (n := .str "Row") u1, if_pos (.inl (by simp only [sizes, size]; omega))]
  · refine ⟨_, rfl, by show 1 ≤ sizeLine; omega, fun u nu => ?_⟩
    have sau : Same H2 (upd H2 u (.tup [.ref lf])) := same_upd (Same.refl H2) nu
    have vau : (upd H2 u (.tup [.ref lf])) u = some (.tup [.ref lf]) := upd_same
    generalize upd H2 u (.tup [.ref lf]) = Gua at sau vau ⊢
    refine ⟨u, 400, _, rfl, rfl, SqT.of vau, by simp, by decide, by decide, by show 1 ≤ 1000; omega, fun pu npu => ?_⟩
    rw [show ((400 : Int)).toNat = 400 from rfl, flat_rep]
    have sbu : Same Gua (upd Gua pu (.tup (List.replicate 400 (.ref lf)))) := same_upd (Same.refl Gua) npu
    have vbu : (upd Gua pu (.tup (List.replicate 400 (.ref lf)))) pu = some (.tup (List.replicate 400 (.ref lf))) := upd_same
    generalize upd Gua pu (.tup (List.replicate 400 (.ref lf))) = Gub at sbu vbu ⊢
    have L3 := PtAt.kpo (KpO.same (sau.trans sbu)) _ (PtAt.kpo (KpO.same s2) _ (PtAt.kpo (KpO.ext e1) _ plf))
    exact ⟨.str "Row", [.ref pu], _, rfl, val_nm u1 u2, good_pis (ts := [.row (leafs 400)]) ⟨⟨_, _, rfl, vbu, leafs_pts L3 400⟩, True.intro⟩ (fun t ht => by rw [List.mem_singleton.mp ht]; exact leafs_parts (by decide)), by show 1 ≤ 1000; omega, by rw [parts_good, joinB_one]; omega, (res _).same (sau.trans sbu)⟩
  refine ⟨tb1.ext s2, fun H3 e3 tb3 => fault_kk (K := K) (C := C) (n := .str "Row") (xs := [.ref wd]) (pis := [wideT].map PI.good) (kk := .size) ?_ (fun H4 E' Q' s4 res => ?_) (fun H4 q2 s4 nq2 told2 => ?_)⟩
  · rw [due_any (n := .str "Row") u1, if_pos (.inl (by simp only [sizes]; omega))]
  · have W4 := PtAt.kpo (KpO.same s4) _ (PtAt.kpo (KpO.ext e3) _ (PtAt.kpo (KpO.same s2) _ (PtAt.kpo (KpO.ext e1) _ pwd)))
    exact ⟨_, rfl, .str "Row", [.ref wd], _, rfl, val_nm u1 u2, good_pis (ts := [wideT]) ⟨W4, True.intro⟩ (fun t ht => by rw [List.mem_singleton.mp ht]; exact isT_parts rfl), by show 1 ≤ 1000; omega, by rw [parts_good, joinB_one]; omega, res⟩
  refine ⟨by show 2 ≤ sizeLine; omega, fun L nL => ?_⟩
  have s5 : Same H4 (upd H4 L (.lst [.ref q1, .ref q2])) := same_upd (Same.refl H4) nL
  have v5 : (upd H4 L (.lst [.ref q1, .ref q2])) L = some (.lst [.ref q1, .ref q2]) := upd_same
  generalize upd H4 L (.lst [.ref q1, .ref q2]) = H5 at s5 v5 ⊢
  have e25 := e3.trans (ExtN.of (s4.trans s5))
  exact k H5 L q1 q2 (e1.trans ((ExtN.of s2).trans e25)) ((tb3.ext s4).ext s5) (fun b o q t z => by rw [z] at q; rw [(e1.trans ((ExtN.of s2).trans (e3.trans (ExtN.of s4)))) _ _ q t] at nL; cases nL) v5 (e25 _ _ told1 fun _ => nofun) (s5 _ _ told2)
end
end K3

namespace K3
open PySem L2 E0
open LamX (ExtN Tabs TabS TabB LamS lamS_by lamSB)
theorem tabs_lst' {T : List (Addr × Str)} {H : Hp} {L : Addr} {xs : List V} {u : HO} (t : Tabs T H) (h : H L = some (.lst xs)) : Tabs T (upd H L u) := tabs_upd t (fun ps z => by rw [h] at z; cases z) (fun c q z => by rw [h] at z; unfold LamX.CodeO at z; cases z)
theorem joinB_four (t : Tr) : joinB [t, t, t, t] = 4 * ((said t).length + 2) := by
  unfold joinB
  rw [saids_map]
  simp only [List.map_cons, List.map_nil, List.sum_cons, List.sum_nil, List.length_cons, List.length_nil]
  omega
theorem one_val {K : PySem.W.Frag} {H : Hp} : Val K H (.str "1") := .inl ⟨"1", rfl, by decide +kernel, by decide +kernel⟩
section
variable {P : Program} {w : World} {K : PySem.W.Frag} {mg : Str → Option Value} {base : Heap} {C : Cl5} {CI CS f c fA fLn Pt : Addr} {fdA : FuncData} {T : List (Addr × Str)} {a : AdT} {A : Around} {outer : List Env} {s : Shared} {H0 : Hp} {E : XK}
theorem lr8 (TR : TxtTR P w K mg base C CI a) (LR : TxtLR P w K mg base C fLn) (FA : TxtA K mg CI CS fA fdA) (TB : TabB base mg c Pt) (hmT : (Pt, qLR) ∈ T) (hu : ∀ p ∈ T, p.1 = Pt → p.2 = qLR) (hr : Room 7 (A.deeper (PyProof.Rows.envOfC "_law_limits_right" (defScope sLimitsRight) s.heap.objs.size f (.ref c)))) (gR : mg "range" = none) :
    ∃ t : TS, PS (cxOf CX0 P w K mg base NLR "_law_limits_right" (defScope sLimitsRight) f (.ref c) A outer s H0 E).nox (stLR 7) t ∧ ∀ (Z : Ends) (H : Hp) (lf tl L wd : Addr) (v2 v3 : Option V) (xs : List V), Tabs T H → H L = some (.lst xs) → xs.length ≤ 10 → PtAt C H (.ref lf) leafT → PtAt C H (.ref tl) (tallT 99) → PtAt C H (.ref wd) wideT →
      (∀ (H' : Hp) (q : Addr), ExtL L H H' → Tabs T H' → H' L = some (.lst (xs ++ [.ref q])) → H' q = some (.tup (DK.val .ok)) → Z.nx [some (.ref lf), some (.ref tl), v2, v3, some (.ref L), some (.ref wd), none] H') →
      t Z [some (.ref lf), some (.ref tl), v2, v3, some (.ref L), some (.ref wd), none] H := by
  have hr5 : Room 5 _ := hr.mono (by decide)
  have hr2 : Room 2 _ := hr.mono (by decide)
  have hr1 : Room 1 _ := hr.mono (by decide)
  have hu64 : (A.deeper (PyProof.Rows.envOfC "_law_limits_right" (defScope sLimitsRight) s.heap.objs.size f (.ref c))).units + 64 < cLine := by have := hr.un; omega
  have big : (1000000 : Nat) < sizeLine := by decide
  refine ⟨_, (ps_expr (pe_bm PySem.F.plainAttrs_list PySem.F.slot_list_append PySem.F.type_list_append mt_append (pv 4) (pa_cons (pe_fault (t := (fun E => tMkT K C CI E (tCons (tC (.str "Row")) (tCons (tOp (rRepT K) (tTup (tCons (tVar 0) tNil)) (tC (.int 200))) (tCons (tOp (rRepT K) (tTup (tCons (tVar 0) tNil)) (tC (.int 199))) tNil))))) (k := 5) FA rfl TB rfl hmT hu hr (lamS_by (sc := defScope sLimitsRight) (by decide +kernel)) rfl (fun _ _ _ _ _ => rfl) (fun _ _ _ _ E _ _ hr' => (pe_mkT (E := E) TR.MT TR.GT hr' rfl TR.gT (passes_call (takes_of rfl rfl rfl rfl) (fun _ _ _ _ q => q)) (pa_cons pe_str (pa_cons (pe_op op_repT (pe_tup (pa_cons (pv 0) pa_nil)) pe_int) (pa_cons (pe_op op_repT (pe_tup (pa_cons (pv 0) pa_nil)) pe_int) pa_nil)))))) pa_nil))), ?_⟩
  rintro Z H lf tl L wd v2 v3 xs tabs hL xl plf ptl pwd k
  obtain ⟨u1, u2, _, _⟩ := row_ok
  obtain ⟨y1, y2, y3⟩ := wide_size
  obtain ⟨x1, x2⟩ := tall_size 99
  have x3 := tall_said 99
  have x4 := tall_isT 99
  generalize tallT 99 = TT at *
  obtain ⟨a200, b200, c200⟩ := leafs_sizes 200
  obtain ⟨a199, b199, c199⟩ := leafs_sizes 199
  have r200 := saidrow_le (leafs 200)
  have r199 := saidrow_le (leafs 199)
  refine ⟨_, rfl, .inl ⟨rfl, _, SqL.of hL⟩, tabs, fun H1 e1 tb1 => fault_xs (C := C) (n := .str "Row") (pis := [Tr.row (leafs 200), Tr.row (leafs 199)].map PI.good) (kk := .ok) ?_ (fun H2 E' Q' s2 res => ?_) (fun H3 q s3 nq told => ?_)⟩
  · rw [due_any (n := .str "Row") u1, if_neg (by simp only [sizes, size, levelss, levels]; omega)]
  · have F2 := PtAt.kpo (KpO.same s2) _ (PtAt.kpo (KpO.ext e1) _ plf)
    have T2 := PtAt.kpo (KpO.same s2) _ (PtAt.kpo (KpO.ext e1) _ ptl)
    have W2 := PtAt.kpo (KpO.same s2) _ (PtAt.kpo (KpO.ext e1) _ pwd)
    refine ⟨_, rfl, by show 1 ≤ sizeLine; omega, fun u nu => ?_⟩
    have sau : Same H2 (upd H2 u (.tup [.ref lf])) := same_upd (Same.refl H2) nu
    have vau : (upd H2 u (.tup [.ref lf])) u = some (.tup [.ref lf]) := upd_same
    generalize upd H2 u (.tup [.ref lf]) = Gua at sau vau ⊢
    refine ⟨u, 200, _, rfl, rfl, SqT.of vau, by simp, by decide, by decide, by show 1 ≤ 1000; omega, fun pu npu => ?_⟩
    rw [show ((200 : Int)).toNat = 200 from rfl, flat_rep]
    have sbu : Same Gua (upd Gua pu (.tup (List.replicate 200 (.ref lf)))) := same_upd (Same.refl Gua) npu
    have vbu : (upd Gua pu (.tup (List.replicate 200 (.ref lf)))) pu = some (.tup (List.replicate 200 (.ref lf))) := upd_same
    generalize upd Gua pu (.tup (List.replicate 200 (.ref lf))) = Gub at sbu vbu ⊢
    refine ⟨_, rfl, by show 1 ≤ sizeLine; omega, fun w nw => ?_⟩
    have saw : Same Gub (upd Gub w (.tup [.ref lf])) := same_upd (Same.refl Gub) nw
    have vaw : (upd Gub w (.tup [.ref lf])) w = some (.tup [.ref lf]) := upd_same
    generalize upd Gub w (.tup [.ref lf]) = Gwa at saw vaw ⊢
    refine ⟨w, 199, _, rfl, rfl, SqT.of vaw, by simp, by decide, by decide, by show 1 ≤ 1000; omega, fun pw npw => ?_⟩
    rw [show ((199 : Int)).toNat = 199 from rfl, flat_rep]
    have sbw : Same Gwa (upd Gwa pw (.tup (List.replicate 199 (.ref lf)))) := same_upd (Same.refl Gwa) npw
    have vbw : (upd Gwa pw (.tup (List.replicate 199 (.ref lf)))) pw = some (.tup (List.replicate 199 (.ref lf))) := upd_same
    generalize upd Gwa pw (.tup (List.replicate 199 (.ref lf))) = Gwb at sbw vbw ⊢
    have L3 := PtAt.kpo (KpO.same ((sau.trans sbu).trans (saw.trans sbw))) _ F2
    exact ⟨.str "Row", [.ref pu, .ref pw], _, rfl, val_nm u1 u2, good_pis (ts := [.row (leafs 200), .row (leafs 199)]) ⟨⟨_, _, rfl, (saw.trans sbw) _ _ vbu, leafs_pts L3 200⟩, ⟨_, _, rfl, vbw, leafs_pts L3 199⟩, True.intro⟩ (fun t ht => by
      simp only [List.mem_cons, List.not_mem_nil, or_false] at ht
      rcases ht with rfl | rfl
      · exact leafs_parts (by decide)
      · exact leafs_parts (by decide)), by show 2 ≤ 1000; omega, by rw [parts_good, joinB_two]; omega, (res _).same ((sau.trans sbu).trans (saw.trans sbw))⟩
  · have hL1 := e1 _ _ hL fun _ => nofun
    have hL3 := s3 _ _ hL1
    have nqL : q ≠ L := fun z => by rw [z, hL1] at nq; cases nq
    refine ⟨L, _, _, rfl, rfl, hL3, by omega, ?_⟩
    exact k _ q ((ExtL.ext (e1.trans (ExtN.of s3))).trans ExtL.upd) (tabs_lst' (tb1.ext s3) hL3) upd_same (by rw [upd_ne nqL]; exact told)
theorem lr9 (TR : TxtTR P w K mg base C CI a) (LR : TxtLR P w K mg base C fLn) (FA : TxtA K mg CI CS fA fdA) (TB : TabB base mg c Pt) (hmT : (Pt, qLR) ∈ T) (hu : ∀ p ∈ T, p.1 = Pt → p.2 = qLR) (hr : Room 7 (A.deeper (PyProof.Rows.envOfC "_law_limits_right" (defScope sLimitsRight) s.heap.objs.size f (.ref c)))) (gR : mg "range" = none) :
    ∃ t : TS, PS (cxOf CX0 P w K mg base NLR "_law_limits_right" (defScope sLimitsRight) f (.ref c) A outer s H0 E).nox (stLR 8) t ∧ ∀ (Z : Ends) (H : Hp) (lf tl L wd : Addr) (v2 v3 : Option V) (xs : List V), Tabs T H → H L = some (.lst xs) → xs.length ≤ 10 → PtAt C H (.ref lf) leafT → PtAt C H (.ref tl) (tallT 99) → PtAt C H (.ref wd) wideT →
      (∀ (H' : Hp) (q : Addr), ExtL L H H' → Tabs T H' → H' L = some (.lst (xs ++ [.ref q])) → H' q = some (.tup (DK.val .form)) → Z.nx [some (.ref lf), some (.ref tl), v2, v3, some (.ref L), some (.ref wd), none] H') →
      t Z [some (.ref lf), some (.ref tl), v2, v3, some (.ref L), some (.ref wd), none] H := by
  have hr5 : Room 5 _ := hr.mono (by decide)
  have hr2 : Room 2 _ := hr.mono (by decide)
  have hr1 : Room 1 _ := hr.mono (by decide)
  have hu64 : (A.deeper (PyProof.Rows.envOfC "_law_limits_right" (defScope sLimitsRight) s.heap.objs.size f (.ref c))).units + 64 < cLine := by have := hr.un; omega
  have big : (1000000 : Nat) < sizeLine := by decide
  refine ⟨_, (ps_expr (pe_bm PySem.F.plainAttrs_list PySem.F.slot_list_append PySem.F.type_list_append mt_append (pv 4) (pa_cons (pe_fault (t := (fun E => tMkT K C CI E (tCons (tC (.str "1")) (tCons (tVar 5) tNil)))) (k := 5) FA rfl TB rfl hmT hu hr (lamS_by (sc := defScope sLimitsRight) (by decide +kernel)) rfl (fun _ _ _ _ _ => rfl) (fun _ _ _ _ E _ _ hr' => (pe_mkT (E := E) TR.MT TR.GT hr' rfl TR.gT (passes_call (takes_of rfl rfl rfl rfl) (fun _ _ _ _ q => q)) (pa_cons pe_str (pa_cons (pv 5) pa_nil))))) pa_nil))), ?_⟩
  rintro Z H lf tl L wd v2 v3 xs tabs hL xl plf ptl pwd k
  obtain ⟨u1, u2, _, _⟩ := row_ok
  obtain ⟨y1, y2, y3⟩ := wide_size
  obtain ⟨x1, x2⟩ := tall_size 99
  have x3 := tall_said 99
  have x4 := tall_isT 99
  generalize tallT 99 = TT at *
  obtain ⟨a200, b200, c200⟩ := leafs_sizes 200
  obtain ⟨a199, b199, c199⟩ := leafs_sizes 199
  have r200 := saidrow_le (leafs 200)
  have r199 := saidrow_le (leafs 199)
  refine ⟨_, rfl, .inl ⟨rfl, _, SqL.of hL⟩, tabs, fun H1 e1 tb1 => fault_xs (C := C) (n := .str "1") (pis := [wideT].map PI.good) (kk := .form) ?_ (fun H2 E' Q' s2 res => ?_) (fun H3 q s3 nq told => ?_)⟩
  · exact due_form (by decide +kernel)
  · have F2 := PtAt.kpo (KpO.same s2) _ (PtAt.kpo (KpO.ext e1) _ plf)
    have T2 := PtAt.kpo (KpO.same s2) _ (PtAt.kpo (KpO.ext e1) _ ptl)
    have W2 := PtAt.kpo (KpO.same s2) _ (PtAt.kpo (KpO.ext e1) _ pwd)
    exact ⟨_, rfl, .str "1", [.ref wd], _, rfl, one_val, good_pis (ts := [wideT]) ⟨W2, True.intro⟩ (fun t ht => by rw [List.mem_singleton.mp ht]; exact isT_parts rfl), by show 1 ≤ 1000; omega, by rw [parts_good, joinB_one]; omega, res _⟩
  · have hL1 := e1 _ _ hL fun _ => nofun
    have hL3 := s3 _ _ hL1
    have nqL : q ≠ L := fun z => by rw [z, hL1] at nq; cases nq
    refine ⟨L, _, _, rfl, rfl, hL3, by omega, ?_⟩
    exact k _ q ((ExtL.ext (e1.trans (ExtN.of s3))).trans ExtL.upd) (tabs_lst' (tb1.ext s3) hL3) upd_same (by rw [upd_ne nqL]; exact told)
theorem lr10 (TR : TxtTR P w K mg base C CI a) (LR : TxtLR P w K mg base C fLn) (FA : TxtA K mg CI CS fA fdA) (TB : TabB base mg c Pt) (hmT : (Pt, qLR) ∈ T) (hu : ∀ p ∈ T, p.1 = Pt → p.2 = qLR) (hr : Room 7 (A.deeper (PyProof.Rows.envOfC "_law_limits_right" (defScope sLimitsRight) s.heap.objs.size f (.ref c)))) (gR : mg "range" = none) :
    ∃ t : TS, PS (cxOf CX0 P w K mg base NLR "_law_limits_right" (defScope sLimitsRight) f (.ref c) A outer s H0 E).nox (stLR 9) t ∧ ∀ (Z : Ends) (H : Hp) (lf tl L wd : Addr) (v2 v3 : Option V) (xs : List V), Tabs T H → H L = some (.lst xs) → xs.length ≤ 10 → PtAt C H (.ref lf) leafT → PtAt C H (.ref tl) (tallT 99) → PtAt C H (.ref wd) wideT →
      (∀ (H' : Hp) (q : Addr), ExtL L H H' → Tabs T H' → H' L = some (.lst (xs ++ [.ref q])) → H' q = some (.tup (DK.val (.at 1))) → Z.nx [some (.ref lf), some (.ref tl), v2, v3, some (.ref L), some (.ref wd), none] H') →
      t Z [some (.ref lf), some (.ref tl), v2, v3, some (.ref L), some (.ref wd), none] H := by
  have hr5 : Room 5 _ := hr.mono (by decide)
  have hr2 : Room 2 _ := hr.mono (by decide)
  have hr1 : Room 1 _ := hr.mono (by decide)
  have hu64 : (A.deeper (PyProof.Rows.envOfC "_law_limits_right" (defScope sLimitsRight) s.heap.objs.size f (.ref c))).units + 64 < cLine := by have := hr.un; omega
  have big : (1000000 : Nat) < sizeLine := by decide
  refine ⟨_, (ps_expr (pe_bm PySem.F.plainAttrs_list PySem.F.slot_list_append PySem.F.type_list_append mt_append (pv 4) (pa_cons (pe_fault (t := (fun E => tMkT K C CI E (tCons (tC (.str "Row")) (tCons (tVar 5) (tCons (tC .non) tNil))))) (k := 5) FA rfl TB rfl hmT hu hr (lamS_by (sc := defScope sLimitsRight) (by decide +kernel)) rfl (fun _ _ _ _ _ => rfl) (fun _ _ _ _ E _ _ hr' => (pe_mkT (E := E) TR.MT TR.GT hr' rfl TR.gT (passes_call (takes_of rfl rfl rfl rfl) (fun _ _ _ _ q => q)) (pa_cons pe_str (pa_cons (pv 5) (pa_cons pe_non pa_nil)))))) pa_nil))), ?_⟩
  rintro Z H lf tl L wd v2 v3 xs tabs hL xl plf ptl pwd k
  obtain ⟨u1, u2, _, _⟩ := row_ok
  obtain ⟨y1, y2, y3⟩ := wide_size
  obtain ⟨x1, x2⟩ := tall_size 99
  have x3 := tall_said 99
  have x4 := tall_isT 99
  generalize tallT 99 = TT at *
  obtain ⟨a200, b200, c200⟩ := leafs_sizes 200
  obtain ⟨a199, b199, c199⟩ := leafs_sizes 199
  have r200 := saidrow_le (leafs 200)
  have r199 := saidrow_le (leafs 199)
  refine ⟨_, rfl, .inl ⟨rfl, _, SqL.of hL⟩, tabs, fun H1 e1 tb1 => fault_xs (C := C) (n := .str "Row") (pis := [.good wideT, .bad]) (kk := .at 1) ?_ (fun H2 E' Q' s2 res => ?_) (fun H3 q s3 nq told => ?_)⟩
  · exact due_bad (n := .str "Row") u1 rfl
  · have F2 := PtAt.kpo (KpO.same s2) _ (PtAt.kpo (KpO.ext e1) _ plf)
    have T2 := PtAt.kpo (KpO.same s2) _ (PtAt.kpo (KpO.ext e1) _ ptl)
    have W2 := PtAt.kpo (KpO.same s2) _ (PtAt.kpo (KpO.ext e1) _ pwd)
    exact ⟨_, rfl, .str "Row", [.ref wd, .non], [.good wideT, .bad], rfl, val_nm u1 u2, .cons ⟨W2, isT_parts rfl⟩ (.cons (.inr (.inr ⟨_, .base .non, kit_ty (by decide +kernel), kit_ty (by decide +kernel), TR.NT.non⟩)) .nil), by show 2 ≤ 1000; omega, by show joinB [wideT] ≤ 16000000; rw [joinB_one]; omega, res _⟩
  · have hL1 := e1 _ _ hL fun _ => nofun
    have hL3 := s3 _ _ hL1
    have nqL : q ≠ L := fun z => by rw [z, hL1] at nq; cases nq
    refine ⟨L, _, _, rfl, rfl, hL3, by omega, ?_⟩
    exact k _ q ((ExtL.ext (e1.trans (ExtN.of s3))).trans ExtL.upd) (tabs_lst' (tb1.ext s3) hL3) upd_same (by rw [upd_ne nqL]; exact told)
theorem lr11 (TR : TxtTR P w K mg base C CI a) (LR : TxtLR P w K mg base C fLn) (FA : TxtA K mg CI CS fA fdA) (TB : TabB base mg c Pt) (hmT : (Pt, qLR) ∈ T) (hu : ∀ p ∈ T, p.1 = Pt → p.2 = qLR) (hr : Room 7 (A.deeper (PyProof.Rows.envOfC "_law_limits_right" (defScope sLimitsRight) s.heap.objs.size f (.ref c)))) (gR : mg "range" = none) :
    ∃ t : TS, PS (cxOf CX0 P w K mg base NLR "_law_limits_right" (defScope sLimitsRight) f (.ref c) A outer s H0 E).nox (stLR 10) t ∧ ∀ (Z : Ends) (H : Hp) (lf tl L wd : Addr) (v2 v3 : Option V) (xs : List V), Tabs T H → H L = some (.lst xs) → xs.length ≤ 10 → PtAt C H (.ref lf) leafT → PtAt C H (.ref tl) (tallT 99) → PtAt C H (.ref wd) wideT →
      (∀ (H' : Hp) (q : Addr), ExtL L H H' → Tabs T H' → H' L = some (.lst (xs ++ [.ref q])) → H' q = some (.tup (DK.val .size)) → Z.nx [some (.ref lf), some (.ref tl), v2, v3, some (.ref L), some (.ref wd), none] H') →
      t Z [some (.ref lf), some (.ref tl), v2, v3, some (.ref L), some (.ref wd), none] H := by
  have hr5 : Room 5 _ := hr.mono (by decide)
  have hr2 : Room 2 _ := hr.mono (by decide)
  have hr1 : Room 1 _ := hr.mono (by decide)
  have hu64 : (A.deeper (PyProof.Rows.envOfC "_law_limits_right" (defScope sLimitsRight) s.heap.objs.size f (.ref c))).units + 64 < cLine := by have := hr.un; omega
  have big : (1000000 : Nat) < sizeLine := by decide
  refine ⟨_, (ps_expr (pe_bm PySem.F.plainAttrs_list PySem.F.slot_list_append PySem.F.type_list_append mt_append (pv 4) (pa_cons (pe_fault (t := (fun E => tMkT K C CI E (tCons (tC (.str "Row")) (tCons (tVar 1) (tCons (tVar 1) (tCons (tVar 1) (tCons (tVar 1) tNil))))))) (k := 5) FA rfl TB rfl hmT hu hr (lamS_by (sc := defScope sLimitsRight) (by decide +kernel)) rfl (fun _ _ _ _ _ => rfl) (fun _ _ _ _ E _ _ hr' => (pe_mkT (E := E) TR.MT TR.GT hr' rfl TR.gT (passes_call (takes_of rfl rfl rfl rfl) (fun _ _ _ _ q => q)) (pa_cons pe_str (pa_cons (pv 1) (pa_cons (pv 1) (pa_cons (pv 1) (pa_cons (pv 1) pa_nil)))))))) pa_nil))), ?_⟩
  rintro Z H lf tl L wd v2 v3 xs tabs hL xl plf ptl pwd k
  obtain ⟨u1, u2, _, _⟩ := row_ok
  obtain ⟨y1, y2, y3⟩ := wide_size
  obtain ⟨x1, x2⟩ := tall_size 99
  have x3 := tall_said 99
  have x4 := tall_isT 99
  generalize tallT 99 = TT at *
  obtain ⟨a200, b200, c200⟩ := leafs_sizes 200
  obtain ⟨a199, b199, c199⟩ := leafs_sizes 199
  have r200 := saidrow_le (leafs 200)
  have r199 := saidrow_le (leafs 199)
  refine ⟨_, rfl, .inl ⟨rfl, _, SqL.of hL⟩, tabs, fun H1 e1 tb1 => fault_xs (C := C) (n := .str "Row") (pis := [TT, TT, TT, TT].map PI.good) (kk := .size) ?_ (fun H2 E' Q' s2 res => ?_) (fun H3 q s3 nq told => ?_)⟩
  · rw [due_any (n := .str "Row") u1, if_pos (.inl (by show 400 < 1 + (size TT + (size TT + (size TT + (size TT + 0)))); omega))]
  · have F2 := PtAt.kpo (KpO.same s2) _ (PtAt.kpo (KpO.ext e1) _ plf)
    have T2 := PtAt.kpo (KpO.same s2) _ (PtAt.kpo (KpO.ext e1) _ ptl)
    have W2 := PtAt.kpo (KpO.same s2) _ (PtAt.kpo (KpO.ext e1) _ pwd)
    have j4 := joinB_four TT
    exact ⟨_, rfl, _, rfl, _, rfl, _, rfl, .str "Row", [.ref tl, .ref tl, .ref tl, .ref tl], _, rfl, val_nm u1 u2, good_pis (ts := [TT, TT, TT, TT]) ⟨T2, T2, T2, T2, True.intro⟩ (fun t ht => by
      simp only [List.mem_cons, List.not_mem_nil, or_false, or_self] at ht
      rw [ht]
      exact isT_parts x4), by show 4 ≤ 1000; omega, by rw [parts_good, j4]; omega, res _⟩
  · have hL1 := e1 _ _ hL fun _ => nofun
    have hL3 := s3 _ _ hL1
    have nqL : q ≠ L := fun z => by rw [z, hL1] at nq; cases nq
    refine ⟨L, _, _, rfl, rfl, hL3, by omega, ?_⟩
    exact k _ q ((ExtL.ext (e1.trans (ExtN.of s3))).trans ExtL.upd) (tabs_lst' (tb1.ext s3) hL3) upd_same (by rw [upd_ne nqL]; exact told)
theorem lr12 (TR : TxtTR P w K mg base C CI a) (LR : TxtLR P w K mg base C fLn) (FA : TxtA K mg CI CS fA fdA) (TB : TabB base mg c Pt) (hmT : (Pt, qLR) ∈ T) (hu : ∀ p ∈ T, p.1 = Pt → p.2 = qLR) (hr : Room 7 (A.deeper (PyProof.Rows.envOfC "_law_limits_right" (defScope sLimitsRight) s.heap.objs.size f (.ref c)))) (gR : mg "range" = none) :
    ∃ t : TS, PS (cxOf CX0 P w K mg base NLR "_law_limits_right" (defScope sLimitsRight) f (.ref c) A outer s H0 E).nox (stLR 11) t ∧ ∀ (Z : Ends) (H : Hp) (σ : L2.St), (∀ (H' : Hp) (D q1 q2 q3 q4 q5 : Addr), Same H H' → H' D = some (.lst [.ref q1, .ref q1, .ref q2, .ref q3, .ref q4, .ref q5]) → H' q1 = some (.tup DK.size.val) → H' q2 = some (.tup DK.ok.val) → H' q3 = some (.tup DK.form.val) → H' q4 = some (.tup (DK.at 1).val) → H' q5 = some (.tup DK.size.val) → Z.nx (σ.set 6 (some (.ref D))) H') → t Z σ H := by
  have hr5 : Room 5 _ := hr.mono (by decide)
  have hr2 : Room 2 _ := hr.mono (by decide)
  have hr1 : Room 1 _ := hr.mono (by decide)
  have hu64 : (A.deeper (PyProof.Rows.envOfC "_law_limits_right" (defScope sLimitsRight) s.heap.objs.size f (.ref c))).units + 64 < cLine := by have := hr.un; omega
  have big : (1000000 : Nat) < sizeLine := by decide
  refine ⟨_, (ps_set (i := 6) scLR.nd rfl (Or.inl rfl) (pe_op op_cat (pe_op op_rep (pe_lst (pa_cons (pe_tup (pa_cons pe_str (pa_cons pe_str pa_nil))) pa_nil)) pe_int) (pe_lst (pa_cons (pe_tup pa_nil) (pa_cons (pe_tup (pa_cons pe_str (pa_cons pe_str pa_nil))) (pa_cons (pe_tup (pa_cons pe_str (pa_cons pe_int pa_nil))) (pa_cons (pe_tup (pa_cons pe_str (pa_cons pe_str pa_nil))) pa_nil))))))), ?_⟩
  rintro Z H σ k
  refine ⟨by show 2 ≤ sizeLine; omega, fun q1 nq1 => ?_⟩
  have s1 : Same H (upd H q1 (.tup [.str "wrong", .str "size"])) := same_upd (Same.refl H) nq1
  have v1 : (upd H q1 (.tup [.str "wrong", .str "size"])) q1 = some (.tup [.str "wrong", .str "size"]) := upd_same
  generalize upd H q1 (.tup [.str "wrong", .str "size"]) = H1 at s1 v1 ⊢
  refine ⟨by show 1 ≤ sizeLine; omega, fun l1 nl1 => ?_⟩
  have s2 : Same H1 (upd H1 l1 (.lst [.ref q1])) := same_upd (Same.refl H1) nl1
  have v2 : (upd H1 l1 (.lst [.ref q1])) l1 = some (.lst [.ref q1]) := upd_same
  generalize upd H1 l1 (.lst [.ref q1]) = H2 at s2 v2 ⊢
  refine ⟨l1, 2, _, rfl, rfl, v2, by decide, by decide, by show 1 * 2 ≤ sizeLine; omega, fun l2 nl2 => ?_⟩
  rw [show (List.replicate ((2 : Int)).toNat [V.ref q1]).flatten = [V.ref q1, V.ref q1] from rfl]
  have s3 : Same H2 (upd H2 l2 (.lst [.ref q1, .ref q1])) := same_upd (Same.refl H2) nl2
  have v3 : (upd H2 l2 (.lst [.ref q1, .ref q1])) l2 = some (.lst [.ref q1, .ref q1]) := upd_same
  generalize upd H2 l2 (.lst [.ref q1, .ref q1]) = H3 at s3 v3 ⊢
  refine ⟨by show 0 ≤ sizeLine; omega, fun q2 nq2 => ?_⟩
  have s4 : Same H3 (upd H3 q2 (.tup [])) := same_upd (Same.refl H3) nq2
  have v4 : (upd H3 q2 (.tup [])) q2 = some (.tup []) := upd_same
  generalize upd H3 q2 (.tup []) = H4 at s4 v4 ⊢
  refine ⟨by show 2 ≤ sizeLine; omega, fun q3 nq3 => ?_⟩
  have s5 : Same H4 (upd H4 q3 (.tup [.str "wrong", .str "form"])) := same_upd (Same.refl H4) nq3
  have v5 : (upd H4 q3 (.tup [.str "wrong", .str "form"])) q3 = some (.tup [.str "wrong", .str "form"]) := upd_same
  generalize upd H4 q3 (.tup [.str "wrong", .str "form"]) = H5 at s5 v5 ⊢
  refine ⟨by show 2 ≤ sizeLine; omega, fun q4 nq4 => ?_⟩
  have s6 : Same H5 (upd H5 q4 (.tup [.str "wrong", .int 1])) := same_upd (Same.refl H5) nq4
  have v6 : (upd H5 q4 (.tup [.str "wrong", .int 1])) q4 = some (.tup [.str "wrong", .int 1]) := upd_same
  generalize upd H5 q4 (.tup [.str "wrong", .int 1]) = H6 at s6 v6 ⊢
  refine ⟨by show 2 ≤ sizeLine; omega, fun q5 nq5 => ?_⟩
  have s7 : Same H6 (upd H6 q5 (.tup [.str "wrong", .str "size"])) := same_upd (Same.refl H6) nq5
  have v7 : (upd H6 q5 (.tup [.str "wrong", .str "size"])) q5 = some (.tup [.str "wrong", .str "size"]) := upd_same
  generalize upd H6 q5 (.tup [.str "wrong", .str "size"]) = H7 at s7 v7 ⊢
  refine ⟨by show 4 ≤ sizeLine; omega, fun l3 nl3 => ?_⟩
  have s8 : Same H7 (upd H7 l3 (.lst [.ref q2, .ref q3, .ref q4, .ref q5])) := same_upd (Same.refl H7) nl3
  have v8 : (upd H7 l3 (.lst [.ref q2, .ref q3, .ref q4, .ref q5])) l3 = some (.lst [.ref q2, .ref q3, .ref q4, .ref q5]) := upd_same
  generalize upd H7 l3 (.lst [.ref q2, .ref q3, .ref q4, .ref q5]) = H8 at s8 v8 ⊢
  refine ⟨l2, l3, _, _, rfl, rfl, (s4.trans (s5.trans (s6.trans (s7.trans s8)))) _ _ v3, v8, by show 2 + 4 ≤ sizeLine; omega, fun D nD => ?_⟩
  rw [show ([V.ref q1, V.ref q1] ++ [V.ref q2, V.ref q3, V.ref q4, V.ref q5]) = [V.ref q1, V.ref q1, V.ref q2, V.ref q3, V.ref q4, V.ref q5] from rfl]
  have s9 : Same H8 (upd H8 D (.lst [.ref q1, .ref q1, .ref q2, .ref q3, .ref q4, .ref q5])) := same_upd (Same.refl H8) nD
  have v9 : (upd H8 D (.lst [.ref q1, .ref q1, .ref q2, .ref q3, .ref q4, .ref q5])) D = some (.lst [.ref q1, .ref q1, .ref q2, .ref q3, .ref q4, .ref q5]) := upd_same
  generalize upd H8 D (.lst [.ref q1, .ref q1, .ref q2, .ref q3, .ref q4, .ref q5]) = H9 at s9 v9 ⊢
  have t8 := s8.trans s9
  have t7 := s7.trans t8
  have t6 := s6.trans t7
  have t5 := s5.trans t6
  have t4 := s4.trans t5
  have t3 := s3.trans t4
  have t2 := s2.trans t3
  exact k H9 D q1 q2 q3 q4 q5 (s1.trans t2) v9 (t2 _ _ v1) (t5 _ _ v4) (t6 _ _ v5) (t7 _ _ v6) (t8 _ _ v7)
end
end K3

namespace K3
open PySem L2 E0 EG
open LamX (ExtN Tabs TabS TabB LamS lamS_by lamSB)
/-- what limits_right needs at its end -/
structure TxtLE (P : Program) (w : World) (K : PySem.W.Frag) (mg : Str → Option Value) (base : Heap) (C : Cl5) (CI fT fE : Addr) : Prop where
  mx : ∃ mc t1 t2, ClX.CRead K C.T mc ∧ ClX.CVal K C.T mc "MAX_NODES" (.int 400) (.int 400 t1) ∧ ClX.CVal K C.T mc "MAX_LEVELS" (.int 100) (.int 100 t2)
  GK : FnRK P w K mg base 4 fT ["form"] (spTreeNewK K C CI)
  nf : NF K C
  OE : OwnC K C.T "__eq__" fE
  GE : FnR P w K mg base CX0 1 fE (spTreeEq K C)
theorem dueN {n : V} : treeDue n [] = if nameV n = false then some (.str "form") else none := by
  unfold treeDue
  cases nameV n with
  | false => rfl
  | true =>
    rw [if_neg (by decide), if_neg (by decide)]
    show (if 400 < 1 + sizes [] ∨ 100 < levelss [] + 1 then some (V.str "size") else none) = _
    rw [if_neg (by decide +kernel), if_neg (by decide)]
theorem mkK_A {K : PySem.W.Frag} {C : Cl5} {CI : Addr} {H : Hp} {Q : VK} {E : XK} (k : ∀ H' x, Same H H' → PtAt C H' (.ref x) (.nd false "A" []) → Q (.ref x) H') :
    ∀ x dx, H x = none → H dx = none → dx ≠ x → spTreeNewK K C CI [.ref x] [.str "A"] (upd (upd H dx (.own x)) x (.ins C.T dx [])) (fun v H3 => v = .non ∧ Q (.ref x) H3) E := by
  intro x dx nx ndx ne
  refine treeK_made (val_nm (by decide +kernel) (by decide +kernel)) ?_ nx ndx ne
  unfold TreeRes
  rw [dueN, show nameV (V.str "A") = true by decide +kernel, if_neg (by decide)]
  intro H' y z ez s _ at_ _
  cases ez
  exact k H' y s at_
section
variable {P : Program} {w : World} {K : PySem.W.Frag} {mg : Str → Option Value} {base : Heap} {C : Cl5} {CI CS f c fA fLn Pt : Addr} {fdA : FuncData} {T : List (Addr × Str)} {a : AdT} {fEq : Addr} {A : Around} {outer : List Env} {s : Shared} {H0 : Hp} {E : XK}
theorem lr13 (TR : TxtTR P w K mg base C CI a) (LR : TxtLR P w K mg base C fLn) (LE : TxtLE P w K mg base C CI a.fT fEq) (FA : TxtA K mg CI CS fA fdA) (TB : TabB base mg c Pt) (hmT : (Pt, qLR) ∈ T) (hu : ∀ p ∈ T, p.1 = Pt → p.2 = qLR) (hr : Room 7 (A.deeper (PyProof.Rows.envOfC "_law_limits_right" (defScope sLimitsRight) s.heap.objs.size f (.ref c)))) (gR : mg "range" = none) :
    ∃ t : TS, PS (cxOf CX0 P w K mg base NLR "_law_limits_right" (defScope sLimitsRight) f (.ref c) A outer s H0 E).nox (stLR 12) t ∧ ∀ (Z : Ends) (H : Hp) (σ : L2.St) (L D a1 a2 a3 a4 a5 a6 q1 q2 q3 q4 q5 : Addr), σ[4]? = some (some (.ref L)) → σ[6]? = some (some (.ref D)) → H L = some (.lst [.ref a1, .ref a2, .ref a3, .ref a4, .ref a5, .ref a6]) →
      H a1 = some (.tup DK.size.val) → H a2 = some (.tup DK.size.val) → H a3 = some (.tup DK.ok.val) → H a4 = some (.tup DK.form.val) → H a5 = some (.tup (DK.at 1).val) → H a6 = some (.tup DK.size.val) →
      H D = some (.lst [.ref q1, .ref q1, .ref q2, .ref q3, .ref q4, .ref q5]) → H q1 = some (.tup DK.size.val) → H q2 = some (.tup DK.ok.val) → H q3 = some (.tup DK.form.val) → H q4 = some (.tup (DK.at 1).val) → H q5 = some (.tup DK.size.val) →
      (∀ H', Same H H' → Z.rt (.bl true) H') → t Z σ H := by
  have hr5 : Room 5 _ := hr.mono (by decide)
  have hr2 : Room 2 _ := hr.mono (by decide)
  have hr1 : Room 1 _ := hr.mono (by decide)
  have hu64 : (A.deeper (PyProof.Rows.envOfC "_law_limits_right" (defScope sLimitsRight) s.heap.objs.size f (.ref c))).units + 64 < cLine := by have := hr.un; omega
  have big : (1000000 : Nat) < sizeLine := by decide
  refine ⟨_, (ps_ret (pe_and (pe_cmpR (op_eqD hu64) (pv 4) (pv 6) (nomark _)) (pe_and (pe_cmpR (op_eqD hu64) (pe_lst (pa_cons (ClX.pe_cval (pe_glob (v := .ref C.T) rfl TR.gT rfl)) (pa_cons (ClX.pe_cval (pe_glob (v := .ref C.T) rfl TR.gT rfl)) pa_nil))) (pe_lst (pa_cons pe_int (pa_cons pe_int pa_nil))) (nomark _)) (pe_one (pe_cmpR (op_eqO (E := E0) LE.OE LE.GE hr1 pass0) (pe_makeK (E := E0) TR.MT LE.GK hr5 rfl TR.gT passL (pk_cons pe_str pk_nil)) (pe_mkT (E := E0) TR.MT TR.GT hr5 rfl TR.gT passL (pa_cons pe_str pa_nil)) (nomark _)))))), ?_⟩
  rintro Z H σ L D a1 a2 a3 a4 a5 a6 q1 q2 q3 q4 q5 h4 h6 hL e1 e2 e3 e4 e5 e6 hD g1 g2 g3 g4 g5 k
  have sh : SeqAt.shaped (.list [.tuple DK.size.dat, .tuple DK.size.dat, .tuple DK.ok.dat, .tuple DK.form.dat, .tuple (DK.at 1).dat, .tuple DK.size.dat]) = true := by decide +kernel
  have d1 : Dp K H (.ref L) (.list [.tuple DK.size.dat, .tuple DK.size.dat, .tuple DK.ok.dat, .tuple DK.form.dat, .tuple (DK.at 1).dat, .tuple DK.size.dat]) := .lst (SqL.of hL) (.cons (DK.dp e1) (.cons (DK.dp e2) (.cons (DK.dp e3) (.cons (DK.dp e4) (.cons (DK.dp e5) (.cons (DK.dp e6) .nil))))))
  have d2 : Dp K H (.ref D) (.list [.tuple DK.size.dat, .tuple DK.size.dat, .tuple DK.ok.dat, .tuple DK.form.dat, .tuple (DK.at 1).dat, .tuple DK.size.dat]) := .lst (SqL.of hD) (.cons (DK.dp g1) (.cons (DK.dp g1) (.cons (DK.dp g2) (.cons (DK.dp g3) (.cons (DK.dp g4) (.cons (DK.dp g5) .nil))))))
  obtain ⟨mc, t1, t2, cr, cv1, cv2⟩ := LE.mx
  refine ⟨_, h4, _, h6, _, _, d1, d2, sh, sh, _, rfl, ?_⟩
  rw [SeqAt.eqv_refl _ (lay_of sh)]
  refine iteT ?_
  refine ⟨C.T, mc, _, _, rfl, cr, cv1, C.T, mc, _, _, rfl, cr, cv2, by show 2 ≤ sizeLine; omega, fun l1 nl1 => ?_⟩
  have s1 : Same H (upd H l1 (.lst [.int 400, .int 100])) := same_upd (Same.refl H) nl1
  have v1 : (upd H l1 (.lst [.int 400, .int 100])) l1 = some (.lst [.int 400, .int 100]) := upd_same
  generalize upd H l1 (.lst [.int 400, .int 100]) = H1 at s1 v1 ⊢
  refine ⟨by show 2 ≤ sizeLine; omega, fun l2 nl2 => ?_⟩
  have s2 : Same H1 (upd H1 l2 (.lst [.int 400, .int 100])) := same_upd (Same.refl H1) nl2
  have v2 : (upd H1 l2 (.lst [.int 400, .int 100])) l2 = some (.lst [.int 400, .int 100]) := upd_same
  generalize upd H1 l2 (.lst [.int 400, .int 100]) = H2 at s2 v2 ⊢
  have sh2 : SeqAt.shaped (.list [.int 400, .int 100]) = true := by decide +kernel
  refine ⟨_, _, .lst (SqL.of (s2 _ _ v1)) (.cons (.int _) (.cons (.int _) .nil)), .lst (SqL.of v2) (.cons (.int _) (.cons (.int _) .nil)), sh2, sh2, _, rfl, ?_⟩
  rw [SeqAt.eqv_refl _ (lay_of sh2)]
  refine iteT ?_
  refine fun x0 dx0 nx0 ndx0 ne0 => mkK_A (K := K) (C := C) (CI := CI) (Q := fun x H1 => tMkT K C CI E0 (tCons (tC (.str "A")) tNil) σ H1 fun y H2 => rEqO K C.T (spTreeEq K C) E0 x y H2 Z.rt) (fun H3 x s3 px => ?_) x0 dx0 nx0 ndx0 ne0
  refine mkT_f (H := H3) [] (by decide +kernel) True.intro fun H4 y s4 _ py => ?_
  refine eqO_tree TR.T5 LE.nf (PtAt.kpo (KpO.same s4) _ px) rfl py rfl ?_
  rw [decide_eq_true rfl]
  exact k H4 (s1.trans (s2.trans (s3.trans s4)))
end
section
variable {P : Program} {w : World} {K : PySem.W.Frag} {mg : Str → Option Value} {base : Heap}
def spLimits (T : List (Addr × Str)) : Sp := fun vs H Q _ => vs = [] ∧ Tabs T H ∧ ∀ H', ExtN H H' → Tabs T H' → Q (.bl true) H'
theorem ok_limitsRight {C : Cl5} {CI CS fA fLn fEq f c Pt : Addr} {fd fdA : FuncData} {a : AdT} {T : List (Addr × Str)} (F : FunC K "_law_limits_right" "_law_limits_right" sLimitsRight f fd c) (TR : TxtTR P w K mg base C CI a) (LR : TxtLR P w K mg base C fLn) (LE : TxtLE P w K mg base C CI a.fT fEq)
    (FA : TxtA K mg CI CS fA fdA) (TB : TabB base mg c Pt) (hmT : (Pt, qLR) ∈ T) (hu : ∀ p ∈ T, p.1 = Pt → p.2 = qLR) (gR : mg "range" = none) : FnOk P w K mg base CX0 8 f fd [] (spLimits T) := by
  refine F.ok scLR (fun vs H Q E h => ?_) (fun A outer s H vs Q E hr h => ?_)
  · obtain ⟨rfl, _⟩ := h
    rfl
  · obtain ⟨rfl, tabs, k⟩ := h
    obtain ⟨t1, p1, r1⟩ := lr1 (P := P) (w := w) (mg := mg) (base := base) (C := C) (CI := CI) (CS := CS) (f := f) (c := c) (A := A) (outer := outer) (s := s) (H0 := H) (E := E)  TR LR FA TB hmT hu hr gR
    obtain ⟨t2, p2, r2⟩ := lr2 (P := P) (w := w) (mg := mg) (base := base) (C := C) (CI := CI) (CS := CS) (f := f) (c := c) (A := A) (outer := outer) (s := s) (H0 := H) (E := E)  TR LR FA TB hmT hu hr gR
    obtain ⟨t3, p3, r3⟩ := lr3 (P := P) (w := w) (mg := mg) (base := base) (C := C) (CI := CI) (CS := CS) (f := f) (c := c) (A := A) (outer := outer) (s := s) (H0 := H) (E := E)  TR LR FA TB hmT hu hr gR
    obtain ⟨t4, p4, r4⟩ := lr4 (P := P) (w := w) (mg := mg) (base := base) (C := C) (CI := CI) (CS := CS) (f := f) (c := c) (A := A) (outer := outer) (s := s) (H0 := H) (E := E)  TR LR FA TB hmT hu hr gR
    obtain ⟨t5, p5, r5⟩ := lr5 (P := P) (w := w) (mg := mg) (base := base) (C := C) (CI := CI) (CS := CS) (f := f) (c := c) (A := A) (outer := outer) (s := s) (H0 := H) (E := E)  TR LR FA TB hmT hu hr gR
    obtain ⟨t6, p6, r6⟩ := lr6 (P := P) (w := w) (mg := mg) (base := base) (C := C) (CI := CI) (CS := CS) (f := f) (c := c) (A := A) (outer := outer) (s := s) (H0 := H) (E := E)  TR LR FA TB hmT hu hr gR
    obtain ⟨t7, p7, r7⟩ := lr7 (P := P) (w := w) (mg := mg) (base := base) (C := C) (CI := CI) (CS := CS) (f := f) (c := c) (A := A) (outer := outer) (s := s) (H0 := H) (E := E)  TR LR FA TB hmT hu hr gR
    obtain ⟨t8, p8, r8⟩ := lr8 (P := P) (w := w) (mg := mg) (base := base) (C := C) (CI := CI) (CS := CS) (f := f) (c := c) (A := A) (outer := outer) (s := s) (H0 := H) (E := E)  TR LR FA TB hmT hu hr gR
    obtain ⟨t9, p9, r9⟩ := lr9 (P := P) (w := w) (mg := mg) (base := base) (C := C) (CI := CI) (CS := CS) (f := f) (c := c) (A := A) (outer := outer) (s := s) (H0 := H) (E := E)  TR LR FA TB hmT hu hr gR
    obtain ⟨t10, p10, r10⟩ := lr10 (P := P) (w := w) (mg := mg) (base := base) (C := C) (CI := CI) (CS := CS) (f := f) (c := c) (A := A) (outer := outer) (s := s) (H0 := H) (E := E)  TR LR FA TB hmT hu hr gR
    obtain ⟨t11, p11, r11⟩ := lr11 (P := P) (w := w) (mg := mg) (base := base) (C := C) (CI := CI) (CS := CS) (f := f) (c := c) (A := A) (outer := outer) (s := s) (H0 := H) (E := E)  TR LR FA TB hmT hu hr gR
    obtain ⟨t12, p12, r12⟩ := lr12 (P := P) (w := w) (mg := mg) (base := base) (C := C) (CI := CI) (CS := CS) (f := f) (c := c) (A := A) (outer := outer) (s := s) (H0 := H) (E := E)  TR LR FA TB hmT hu hr gR
    obtain ⟨t13, p13, r13⟩ := lr13 (P := P) (w := w) (mg := mg) (base := base) (C := C) (CI := CI) (CS := CS) (f := f) (c := c) (A := A) (outer := outer) (s := s) (H0 := H) (E := E)  TR LR LE FA TB hmT hu hr gR
    refine ⟨_, pss_cons p1 (pss_cons p2 (pss_cons p3 (pss_cons p4 (pss_cons p5 (pss_cons p6 (pss_cons p7 (pss_cons p8 (pss_cons p9 (pss_cons p10 (pss_cons p11 (pss_cons p12 (pss_one p13)))))))))))), ?_⟩
    refine r1 _ H fun H1 lf tl0 s1 plf1 ptl1 => ?_
    refine r2 _ H1 lf tl0 ptl1 fun H2 tl v2 s2 ptl2 => ?_
    have plf2 := PtAt.kpo (KpO.same s2) _ plf1
    have tabs2 := (tabs.ext s1).ext s2
    refine r3 _ H2 _ tl rfl tabs2 ptl2 fun H3 e3 tb3 => ?_
    have plf3 := PtAt.kpo (KpO.ext e3) _ plf2
    have ptl3 := PtAt.kpo (KpO.ext e3) _ ptl2
    refine r4 _ H3 lf tl v2 tb3 fun H4 v3 v4 e4 tb4 => ?_
    have plf4 := PtAt.kpo (KpO.ext e4) _ plf3
    have ptl4 := PtAt.kpo (KpO.ext e4) _ ptl3
    refine r5 _ H4 _ lf rfl plf4 fun H5 wd s5 pwd5 => ?_
    refine r6 _ H5 _ wd rfl pwd5 fun H6 s6 => ?_
    have s46 := s5.trans s6
    have plf6 := PtAt.kpo (KpO.same s46) _ plf4
    have ptl6 := PtAt.kpo (KpO.same s46) _ ptl4
    have pwd6 := PtAt.kpo (KpO.same s6) _ pwd5
    have tb6 := tb4.ext s46
    have E6 : ExtN H H6 := (ExtN.of (s1.trans s2)).trans (e3.trans (e4.trans (ExtN.of s46)))
    refine r7 _ H6 lf tl wd v2 v3 v4 tb6 plf6 pwd6 fun H7 L b1 b2 e7 tb7 nL hL h1 h2 => ?_
    have plf7 := PtAt.kpo (KpO.ext e7) _ plf6
    have ptl7 := PtAt.kpo (KpO.ext e7) _ ptl6
    have pwd7 := PtAt.kpo (KpO.ext e7) _ pwd6
    refine r8 _ H7 lf tl L wd v2 v3 _ tb7 hL (by show 2 ≤ 10; omega) plf7 ptl7 pwd7 fun H8 b3 e8 tb8 hL8 h3 => ?_
    have k8 := e8.kpo hL
    have plf8 := PtAt.kpo k8 _ plf7
    have ptl8 := PtAt.kpo k8 _ ptl7
    have pwd8 := PtAt.kpo k8 _ pwd7
    refine r9 _ H8 lf tl L wd v2 v3 _ tb8 hL8 (by show 3 ≤ 10; omega) plf8 ptl8 pwd8 fun H9 b4 e9 tb9 hL9 h4 => ?_
    have k9 := e9.kpo hL8
    have plf9 := PtAt.kpo k9 _ plf8
    have ptl9 := PtAt.kpo k9 _ ptl8
    have pwd9 := PtAt.kpo k9 _ pwd8
    refine r10 _ H9 lf tl L wd v2 v3 _ tb9 hL9 (by show 4 ≤ 10; omega) plf9 ptl9 pwd9 fun H10 b5 e10 tb10 hL10 h5 => ?_
    have k10 := e10.kpo hL9
    have plf10 := PtAt.kpo k10 _ plf9
    have ptl10 := PtAt.kpo k10 _ ptl9
    have pwd10 := PtAt.kpo k10 _ pwd9
    refine r11 _ H10 lf tl L wd v2 v3 _ tb10 hL10 (by show 5 ≤ 10; omega) plf10 ptl10 pwd10 fun H11 b6 e11 tb11 hL11 h6 => ?_
    have k11 := e11.kpo hL10
    refine r12 _ H11 _ fun H12 D q1 q2 q3 q4 q5 s12 hD g1 g2 g3 g4 g5 => ?_
    have k12 := KpO.same s12
    have K10 := k11.trans k12
    have K9 := k10.trans K10
    have K8 := k9.trans K9
    have K7 := k8.trans K8
    refine r13 _ H12 _ L D b1 b2 b3 b4 b5 b6 q1 q2 q3 q4 q5 rfl rfl (s12 _ _ hL11) (K7 _ _ rfl h1) (K7 _ _ rfl h2) (K8 _ _ rfl h3) (K9 _ _ rfl h4) (K10 _ _ rfl h5) (k12 _ _ rfl h6) hD g1 g2 g3 g4 g5 fun H13 s13 => ?_
    have eL : ExtL L H7 H13 := e8.trans (e9.trans (e10.trans (e11.trans (ExtL.ext (ExtN.of (s12.trans s13))))))
    refine k H13 (fun b o q t => ?_) ((tb11.ext s12).ext s13)
    have q6 := E6 b o q t
    exact eL b o (nL b o q6 t) (e7 b o q6 t) t
end
end K3

namespace K3
open PySem L2 E0 EG
open LamX (ExtN Tabs TabS TabB LamS lamS_by lamSB)
theorem ife {b : Bool} {t u : TE} {σ : L2.St} {H : Hp} {Q : VK} (R : V → Hp → Prop) (ht : ∀ Q' : VK, (∀ v H', R v H' → Q' v H') → t σ H Q') (hu : ∀ Q' : VK, (∀ v H', R v H' → Q' v H') → u σ H Q') (hQ : ∀ v H', R v H' → Q v H') : if b = true then t σ H Q else u σ H Q := by
  cases b
  · exact iteF (hu Q hQ)
  · exact iteT (ht Q hQ)
theorem val_at {l : List V} {d : Int} (h0 : 0 ≤ d) (h1 : d < (l.length : Int)) : ∃ z, z ∈ l ∧ atI l d = some z := by
  obtain ⟨k, rfl⟩ := Int.eq_ofNat_of_zero_le h0
  have hk : k < l.length := by omega
  exact ⟨l[k], List.getElem_mem hk, atI_nat (j := k) (List.getElem?_eq_getElem hk)⟩
def kkN (b : Bool) : DK := if b = true then .ok else .form
theorem dueK {n : V} : treeDue n [] = (kkN (nameV n)).opt := by
  rw [dueN]
  cases nameV n <;> rfl
theorem ife_due {b : Bool} {σ : L2.St} {H : Hp} {Q : VK} (k : ∀ H' r, Same H H' → H' r = some (.tup (kkN b).val) → Q (.ref r) H') : if b = true then tTup tNil σ H Q else tTup (tCons (tC (.str "wrong")) (tCons (tC (.str "form")) tNil)) σ H Q := by
  cases b
  · exact iteF ⟨by show 2 ≤ sizeLine; decide, fun r nr => k _ r (same_upd (Same.refl H) nr) upd_same⟩
  · exact iteT ⟨Nat.zero_le _, fun r nr => k _ r (same_upd (Same.refl H) nr) upd_same⟩
/-- the words that are tried -/
def wordsL (t q : Addr) : List V := [.str "A", .str (timesS "a" 20), .str (timesS "a" 21), .str "", .str "1a", .str "_a", .str "a b", .non, .bl true, .int 5, .ref t, .ref q, .str "z_9", .str "raw_x"]
def NLW : List Str := ["_law_script", "_law_m", "_law_words", "_law_word", "_law_turn"]
theorem scLW : FnScope NLW ["_law_script"] (defScope sLaw) := ⟨rfl, rfl, rfl, by decide +kernel, rfl, by decide +kernel, by decide +kernel⟩
abbrev qLW : Str := "law.<locals>.<lambda>"
structure TxtLw (P : Program) (w : World) (K : PySem.W.Frag) (mg : Str → Option Value) (base : Heap) (C : Cl5) (CI fT fBg fTr fEq fLi : Addr) (fdBg fdTr fdEq fdLi : FuncData) (T : List (Addr × Str)) : Prop where
  GBg : FnOk P w K mg base CX0 2 fBg fdBg ["_law_script"] (spBegun K)
  ABg : DefA K mg "_law_begun" ["_law_script"] fBg fdBg
  GTr : FnOk P w K mg base CX0 14 fTr fdTr ["_law_m", "_law_word"] (spTreeRight K T)
  ATr : DefA K mg "_law_tree_right" ["_law_m", "_law_word"] fTr fdTr
  GEq : FnG P w K mg base CX0 11 fEq fdEq ["_law_m"] (spEqualRight T)
  AEq : DefA K mg "_law_equal_right" ["_law_m"] fEq fdEq
  GLi : FnOk P w K mg base CX0 8 fLi fdLi [] (spLimits T)
  ALi : DefA K mg "_law_limits_right" [] fLi fdLi
  GK : FnRK P w K mg base 4 fT ["form"] (spTreeNewK K C CI)
section
variable {P : Program} {w : World} {K : PySem.W.Frag} {mg : Str → Option Value} {base : Heap}
def spLaw (K : PySem.W.Frag) (T : List (Addr × Str)) : Sp := fun vs H Q _ => ∃ (a : Addr) (ns : List Int), vs = [.ref a] ∧ SqL K H a (ns.map V.int) ∧ ns.length ≤ 63 ∧ Tabs T H ∧ ∀ H', Q (.bl true) H'
theorem ok_law {C : Cl5} {CI CS fA fBg fTr fEq fLi f c Pt : Addr} {fd fdA fdBg fdTr fdEq fdLi : FuncData} {a : AdT} {T : List (Addr × Str)} (F : FunC K "law" "law" sLaw f fd c) (TR : TxtTR P w K mg base C CI a) (TL : TxtLw P w K mg base C CI a.fT fBg fTr fEq fLi fdBg fdTr fdEq fdLi T)
    (FA : TxtA K mg CI CS fA fdA) (TB : TabB base mg c Pt) (hmT : (Pt, qLW) ∈ T) (hu : ∀ p ∈ T, p.1 = Pt → p.2 = qLW) (gR : mg "range" = none) : FnG P w K mg base CX0 15 f fd ["_law_script"] (spLaw K T) := by
  refine okGC F scLW (fun vs H Q E h => ?_) (fun A outer s H vs Q E hr hG h => ?_)
  · obtain ⟨a, ns, rfl, _⟩ := h
    rfl
  · obtain ⟨sa, ns, rfl, hS, hl, tabs, k⟩ := h
    have hr11 : Room 11 _ := hr.mono (by decide)
    have hr8 : Room 8 _ := hr.mono (by decide)
    have hr7 : Room 7 _ := hr.mono (by decide)
    have hr2 : Room 2 _ := hr.mono (by decide)
    have hr1 : Room 1 _ := hr.mono (by decide)
    have hu64 : (A.deeper (PyProof.Rows.envOfC "law" (defScope sLaw) s.heap.objs.size f (.ref c))).units + 64 < cLine := by have := hr.un; omega
    have big : (1000000 : Nat) < sizeLine := by decide
    refine ⟨_, (pss_cons (ps_set (i := 1) scLW.nd rfl (Or.inl rfl) (pe_call TL.GBg hr2 rfl TL.ABg.g TL.ABg.k TL.ABg.b .nil pass0 (pa_cons (pv 0) pa_nil))) (pss_cons (ps_set (i := 2) scLW.nd rfl (Or.inl rfl) (pe_lst (pa_cons pe_str (pa_cons (pe_op op_mul_str pe_str pe_int) (pa_cons (pe_op op_mul_str pe_str pe_int) (pa_cons pe_str (pa_cons pe_str (pa_cons pe_str (pa_cons pe_str (pa_cons pe_non (pa_cons pe_bl (pa_cons pe_int (pa_cons (pe_tup (pa_cons pe_str pa_nil)) (pa_cons (pe_call TR.GDb hr1 rfl TR.ADb.g TR.ADb.k TR.ADb.b .nil pass0 (pa_cons pe_int pa_nil)) (pa_cons pe_str (pa_cons pe_str pa_nil)))))))))))))))) (pss_cons (ps_for PassesOwn.never rfl (pi_list (pv 2)) (pg_name (i := 3) scLW.nd rfl (.inr rfl)) (pss_cons (ps_if (pt_cmpR (op_neD hu64) (pe_fault (t := (fun E => tMkT K C CI E (tCons (tVar 3) tNil))) (k := 5) FA rfl TB rfl hmT hu hr7 (lamS_by (sc := defScope sLaw) (by decide +kernel)) rfl (fun _ _ _ _ _ => rfl) (fun _ _ _ _ E _ _ hr' => (pe_mkT (E := E) TR.MT TR.GT hr' rfl TR.gT (passes_call (takes_of rfl rfl rfl rfl) (fun _ _ _ _ q => q)) (pa_cons (pv 3) pa_nil)))) (pe_ifExp (pt_val (pe_call TR.GNm hr1 rfl TR.ANm.g TR.ANm.k TR.ANm.b .nil pass0 (pa_cons (pv 3) pa_nil))) (pe_tup pa_nil) (pe_tup (pa_cons pe_str (pa_cons pe_str pa_nil)))) (nomark _)) (pss_one (ps_ret pe_bl)) pss_nil) (pss_one (ps_if (pt_cmpR (op_neD hu64) (pe_fault (t := (fun E => tMakeK C.T (spTreeNewK K C CI) E (tCons (tVar 3) tNil))) (k := 5) FA rfl TB rfl hmT hu hr7 (lamS_by (sc := defScope sLaw) (by decide +kernel)) rfl (fun _ _ _ _ _ => rfl) (fun _ _ _ _ E _ _ hr' => (pe_makeK (E := E) TR.MT TL.GK hr' rfl TR.gT (passes_call (takes_of rfl rfl rfl rfl) (fun _ _ _ _ q => q)) (pk_cons (pv 3) pk_nil)))) (pe_ifExp (pt_val (pe_call TR.GNm hr1 rfl TR.ANm.g TR.ANm.k TR.ANm.b .nil pass0 (pa_cons (pv 3) pa_nil))) (pe_tup pa_nil) (pe_tup (pa_cons pe_str (pa_cons pe_str pa_nil)))) (nomark _)) (pss_one (ps_ret pe_bl)) pss_nil)))) (pss_cons (ps_for PassesOwn.never rfl (pi_range1 rfl gR (pa_cons pe_int pa_nil)) (pg_name (i := 4) scLW.nd rfl (.inl rfl)) (pss_cons (ps_set (i := 3) scLW.nd rfl (Or.inr rfl) (pe_ifExp (pt_cmpR op_eq (pe_call TR.GD hr2 rfl TR.AD.g TR.AD.k TR.AD.b .nil pass0 (pa_cons (pv 1) (pa_cons pe_int pa_nil))) pe_int (nomark _)) (pe_ix ix_list (pv 2) (pe_call TR.GD hr2 rfl TR.AD.g TR.AD.k TR.AD.b .nil pass0 (pa_cons (pv 1) (pa_cons pe_int pa_nil))) (fun _ _ => rfl)) pe_str)) (pss_one (ps_if (PW.pt (pw_or (pt_not (pt_val (pe_call TL.GTr hr rfl TL.ATr.g TL.ATr.k TL.ATr.b .nil pass0 (pa_cons (pv 1) (pa_cons (pv 3) pa_nil))))) (pw_or1 (pt_not (pt_val (pe_callG TL.GEq hr11 hG rfl TL.AEq.g TL.AEq.k TL.AEq.b .nil pass0 (pa_cons (pv 1) pa_nil))))))) (pss_one (ps_ret pe_bl)) pss_nil)))) (pss_one (ps_ret (pe_call0 TL.GLi hr8 rfl TL.ALi.g TL.ALi.k TL.ALi.b .nil pass0))))))), ?_⟩
    refine ⟨_, rfl, sa, ns, rfl, hS, hl, fun H1 m lc lg s1 nm nlg M1 => ?_⟩
    have T1 : Tabs T H1 := tabs.ext s1
    refine ⟨"a", 20, rfl, rfl, by decide, by decide, by decide +kernel, by decide +kernel, by decide +kernel, "a", 21, rfl, rfl, by decide, by decide, by decide +kernel, by decide +kernel, by decide +kernel, ?_⟩
    refine ⟨by show 1 ≤ sizeLine; omega, fun t nt => ?_⟩
    have s2 : Same H1 (upd H1 t (.tup [.str "A"])) := same_upd (Same.refl H1) nt
    have v2 : (upd H1 t (.tup [.str "A"])) t = some (.tup [.str "A"]) := upd_same
    generalize upd H1 t (.tup [.str "A"]) = H2 at s2 v2 ⊢
    refine ⟨0, by decide, rfl, fun H3 q xs3 s3 nq w3 _ => ?_⟩
    rw [if_pos rfl] at w3
    refine ⟨by show 14 ≤ sizeLine; omega, fun W nW => ?_⟩
    have s4 : Same H3 (upd H3 W (.lst (wordsL t q))) := same_upd (Same.refl H3) nW
    have v4 : (upd H3 W (.lst (wordsL t q))) W = some (.lst (wordsL t q)) := upd_same
    show tSeq _ _ _ _ (upd H3 W (.lst (wordsL t q)))
    generalize upd H3 W (.lst (wordsL t q)) = H4 at s4 v4 ⊢
    have M2 := M1.same s2
    have M3 := M2.same s3
    have M4 := M3.same s4
    have z14 := s2.trans (s3.trans s4)
    have T4 : Tabs T H4 := T1.ext z14
    have nWm := M3.nm nW
    have ok : ∀ {r : Addr}, ValB K H4 (.ref r) → r ≠ m ∧ r ≠ lg → OkV K m lg H4 (.ref r) := fun {r} h n => ⟨h, fun q => n.1 (by cases q; rfl), fun q => n.2 (by cases q; rfl)⟩
    have LW4 : LsV K m lg H4 W (wordsL t q) := by
      refine ⟨v4, nWm.1, nWm.2, fun x hx => ?_⟩
      unfold wordsL at hx
      simp only [List.mem_cons, List.not_mem_nil, or_false] at hx
      rcases hx with rfl | rfl | rfl | rfl | rfl | rfl | rfl | rfl | rfl | rfl | rfl | rfl | rfl | rfl
      · exact okV_str (by decide +kernel)
      · exact okV_str (by decide +kernel)
      · exact okV_str (by decide +kernel)
      · exact okV_str (by decide +kernel)
      · exact okV_str (by decide +kernel)
      · exact okV_str (by decide +kernel)
      · exact okV_str (by decide +kernel)
      · exact okV_of valB_non nofun
      · exact okV_of valB_bl nofun
      · exact okV_of valB_int nofun
      · exact ok (valB_tup ((s3.trans s4) _ _ v2)) (M1.nm nt)
      · exact ok (valB_tup (s4 _ _ w3)) (M2.nm nq)
      · exact okV_str (by decide +kernel)
      · exact okV_str (by decide +kernel)
    have wl : (wordsL t q).length = 14 := rfl
    generalize wordsL t q = ws at LW4 wl v4 ⊢
    -- the words, one by one
    refine ⟨_, rfl, W, rfl, ⟨_, SqL.of v4⟩, for_list (K := K) (a := W) (xs := ws) (fun i σ H' => ∃ v3 : Option V, σ = [some (.ref sa), some (.ref m), some (.ref W), v3, none] ∧ ExtN H4 H' ∧ Tabs T H') ⟨_, rfl, ExtN.refl _, T4⟩ (fun i σ H' _ ⟨_, _, e', _⟩ => SqL.of (e' _ _ v4 fun _ => nofun)) ?_ ?_⟩
    · rintro i x σ H5 hx ⟨v3, rfl, e5, tb5⟩
      have ox := LW4.ok x (List.mem_of_getElem? hx)
      have okx : ∀ {H'}, ExtN H4 H' → ValB K H' x := fun {H'} e => ox.b.ext e
      refine ⟨tb5, fun H6 e6 tb6 => fault_xs (C := C) (n := x) (pis := []) (kk := kkN (nameV x)) dueK (fun H7 E' Q' s7 res => ?_) (fun H7 q1 s7 nq1 told1 => ?_)⟩
      · exact ⟨_, rfl, x, [], [], rfl, (okx (e5.trans (e6.trans (ExtN.of s7)))).val, .nil, by decide, by decide, res _⟩
      have e7 := e5.trans (e6.trans (ExtN.of s7))
      refine ⟨_, rfl, x, rfl, (okx e7).val, fun H8 s8 => ⟨_, rfl, ?_⟩⟩
      have told8 := s8 _ _ told1
      refine ife_due fun H9 r s9 hr9 => ?_
      refine ⟨_, _, DK.dp (s9 _ _ told8), DK.dp hr9, (kkN (nameV x)).sh, (kkN (nameV x)).sh, _, rfl, ?_⟩
      rw [SeqAt.eqv_refl _ (lay_of (kkN (nameV x)).sh)]
      refine iteF ?_
      have s79 := s8.trans s9
      have e9 := e7.trans (ExtN.of s79)
      have tb9 := (tb6.ext s7).ext s79
      refine ⟨tb9, fun H10 e10 tb10 => fault_xs (C := C) (n := x) (pis := []) (kk := kkN (nameV x)) dueK (fun H11 E' Q' s11 res => ?_) (fun H11 q2 s11 nq2 told2 => ?_)⟩
      · have v11 := (okx (e9.trans (e10.trans (ExtN.of s11)))).val
        exact ⟨_, rfl, fun x0 dx0 nx0 ndx0 ne0 => treeK_made v11 (res []) nx0 ndx0 ne0⟩
      have e11 := e9.trans (e10.trans (ExtN.of s11))
      refine ⟨_, rfl, x, rfl, (okx e11).val, fun H12 s12 => ⟨_, rfl, ?_⟩⟩
      have told12 := s12 _ _ told2
      refine ife_due fun H13 r2 s13 hr13 => ?_
      refine ⟨_, _, DK.dp (s13 _ _ told12), DK.dp hr13, (kkN (nameV x)).sh, (kkN (nameV x)).sh, _, rfl, ?_⟩
      rw [SeqAt.eqv_refl _ (lay_of (kkN (nameV x)).sh)]
      refine iteF ?_
      have s1113 := s12.trans s13
      exact ⟨_, rfl, e11.trans (ExtN.of s1113), (tb10.ext s11).ext s1113⟩
    · rintro σ H5 ⟨v3, rfl, e5, tb5⟩
      have F5 : FD m lg H4 H5 := FD.ext e5
      refine ⟨20, rfl, by decide, by decide, for_range (lo := 0) (n := 20) (fun i σ H' => ∃ (v3 v4 : Option V) (n : Int), σ = [some (.ref sa), some (.ref m), some (.ref W), v3, v4] ∧ FD m lg H4 H' ∧ MA m lc lg n H' ∧ n ≤ 20242 * (i : Int) ∧ 0 ≤ n ∧ Tabs T H') ⟨_, _, 0, rfl, F5, M4.ext e5, by omega, by omega, tb5⟩ ?_ ?_⟩
      · rintro i σ H6 hi ⟨v3, v4, n, rfl, F6, M6, n1, n0, tb6⟩
        refine ⟨_, rfl, m, lc, lg, n, 4, rfl, M6, by omega, by decide, by decide, fun H7 d d0 d1 M7 e7 => ⟨rfl, _, rfl, ?_⟩⟩
        have F7 := F6.trans (FD.draw e7)
        have tb7 := tabs_draw tb6 M6 e7
        refine ife (fun v H' => OkV K m lg H' v ∧ FD m lg H4 H' ∧ Tabs T H' ∧ ∃ n', MA m lc lg n' H' ∧ n ≤ n' ∧ n' ≤ n + 2) (fun Q' kk => ?_) (fun Q' kk => ?_) ?_
        · refine ⟨_, rfl, _, rfl, m, lc, lg, n + 1, 14, rfl, M7, by omega, by decide, by decide, fun H8 d2 d20 d21 M8 e8 => ?_⟩
          have F8 := F7.trans (FD.draw e8)
          obtain ⟨z, hz, ez⟩ := val_at (l := ws) d20 (by rw [wl]; exact d21)
          exact ⟨W, ws, _, z, rfl, rfl, SqL.of (LW4.fd F8).at_, ez, kk _ _ ⟨(LW4.fd F8).ok z hz, F8, tabs_draw tb7 M7 e8, _, M8, by omega, by omega⟩⟩
        · exact kk _ _ ⟨okV_str (by decide +kernel), F7, tb7, _, M7, by omega, by omega⟩
        rintro x H8 ⟨ox, F8, tb8, n', M8, l1, l2⟩
        refine ⟨_, rfl, _, rfl, m, lc, lg, n', x, rfl, M8, by omega, ox, tb8, fun H9 n9 F9 M9 l3 l4 tb9 => ⟨_, rfl, ?_⟩⟩
        refine iteF ?_
        refine ⟨_, rfl, m, lc, lg, n9, rfl, M9, by omega, tb9, fun H10 n10 F10 M10 l5 l6 tb10 => ⟨_, rfl, ?_⟩⟩
        refine iteF ?_
        exact ⟨_, _, n10, rfl, F8.trans (F9.trans F10), M10, by omega, by omega, tb10⟩
      · rintro σ H6 ⟨v3, v4, n, rfl, F6, M6, n1, n0, tb6⟩
        exact ⟨rfl, tb6, fun H' _ _ => k H'⟩
end
end K3

namespace K3
open PySem L2 E0 EG
open LamX (ExtN Tabs TabS TabB)
theorem raw_of {P : Program} {w : World} {K : PySem.W.Frag} {mg : Str → Option Value} {base : Heap} {CX : CXT} {k : Nat} {f : Addr} {fd : FuncData} {ps : List Str} {sp : Sp} (G : FnOk P w K mg base CX k f fd ps sp) (b : Binds K fd ps []) : FnR P w K mg base CX k f sp := (G.raw b .nil).imp fun vs H Q E h => by rw [List.append_nil]; exact h
theorem uni3 {a b c : Addr} {qa qb qc : Str} (h1 : a ≠ b) (h2 : a ≠ c) (h3 : b ≠ c) : (∀ p ∈ [(a, qa), (b, qb), (c, qc)], p.1 = a → p.2 = qa) ∧ (∀ p ∈ [(a, qa), (b, qb), (c, qc)], p.1 = b → p.2 = qb) ∧ (∀ p ∈ [(a, qa), (b, qb), (c, qc)], p.1 = c → p.2 = qc) := by
  refine ⟨fun p hp e => ?_, fun p hp e => ?_, fun p hp e => ?_⟩ <;> (simp only [List.mem_cons, List.not_mem_nil, or_false] at hp; rcases hp with z | z | z <;> rw [z] at e ⊢)
  · exact absurd e.symm h1
  · exact absurd e.symm h2
  · exact absurd e h1
  · exact absurd e.symm h3
  · exact absurd e h2
  · exact absurd e h3
theorem all_mk {l : PySem.W.OpenLaw} {w : World} {K : PySem.W.Frag} {h : Heap} {mg : Str → Option Value} {fa : Addr} {P : Program}
    {fN : Addr} {ocN kVN dcN pmN ctN cdN : Value} {odN anN : Option Addr} {slN : Array (Option Value)}
    {fNd : Addr} {ocNd kVNd dcNd pmNd ctNd cdNd : Value} {odNd anNd : Option Addr} {slNd : Array (Option Value)}
    {fTP : Addr} {ocTP kVTP dcTP pmTP ctTP cdTP : Value} {odTP anTP : Option Addr} {slTP : Array (Option Value)}
    {fLP : Addr} {ocLP kVLP dcLP pmLP ctLP cdLP : Value} {odLP anLP : Option Addr} {slLP : Array (Option Value)}
    {fNA : Addr} {ocNA kVNA dcNA pmNA ctNA cdNA : Value} {odNA anNA : Option Addr} {slNA : Array (Option Value)}
    {fMS : Addr} {ocMS kVMS dcMS pmMS ctMS cdMS : Value} {odMS anMS : Option Addr} {slMS : Array (Option Value)}
    {fNX : Addr} {ocNX kVNX dcNX pmNX ctNX cdNX : Value} {odNX anNX : Option Addr} {slNX : Array (Option Value)}
    {fPT : Addr} {ocPT kVPT dcPT pmPT ctPT cdPT : Value} {odPT anPT : Option Addr} {slPT : Array (Option Value)}
    {fQ : Addr} {ocQ kVQ dcQ pmQ ctQ cdQ : Value} {odQ anQ : Option Addr} {slQ : Array (Option Value)}
    {fM : Addr} {ocM kVM dcM pmM ctM cdM : Value} {odM anM : Option Addr} {slM : Array (Option Value)}
    {fFo : Addr} {ocFo kVFo dcFo pmFo ctFo cdFo : Value} {odFo anFo : Option Addr} {slFo : Array (Option Value)}
    {fDr : Addr} {ocDr kVDr dcDr pmDr ctDr cdDr : Value} {odDr anDr : Option Addr} {slDr : Array (Option Value)}
    {fBg : Addr} {ocBg kVBg dcBg pmBg ctBg cdBg : Value} {odBg anBg : Option Addr} {slBg : Array (Option Value)}
    {fBe : Addr} {ocBe kVBe dcBe pmBe ctBe cdBe : Value} {odBe anBe : Option Addr} {slBe : Array (Option Value)}
    {fD2 : Addr} {ocD2 kVD2 dcD2 pmD2 ctD2 cdD2 : Value} {odD2 anD2 : Option Addr} {slD2 : Array (Option Value)}
    {fIN : Addr} {ocIN kVIN dcIN pmIN ctIN cdIN : Value} {odIN anIN : Option Addr} {slIN : Array (Option Value)}
    {fFa : Addr} {ocFa kVFa dcFa pmFa ctFa cdFa : Value} {odFa anFa : Option Addr} {slFa : Array (Option Value)}
    {fNw : Addr} {ocNw kVNw dcNw pmNw ctNw cdNw : Value} {odNw anNw : Option Addr} {slNw : Array (Option Value)}
    {fPi : Addr} {ocPi kVPi dcPi pmPi ctPi cdPi : Value} {odPi anPi : Option Addr} {slPi : Array (Option Value)}
    {fNP : Addr} {ocNP kVNP dcNP pmNP ctNP cdNP : Value} {odNP anNP : Option Addr} {slNP : Array (Option Value)}
    {fSz : Addr} {ocSz kVSz dcSz pmSz ctSz cdSz : Value} {odSz anSz : Option Addr} {slSz : Array (Option Value)}
    {fSa : Addr} {ocSa kVSa dcSa pmSa ctSa cdSa : Value} {odSa anSa : Option Addr} {slSa : Array (Option Value)}
    {fRR : Addr} {ocRR kVRR dcRR pmRR ctRR cdRR : Value} {odRR anRR : Option Addr} {slRR : Array (Option Value)}
    {fTR : Addr} {ocTR kVTR dcTR pmTR ctTR : Value} {odTR anTR : Option Addr} {slTR : Array (Option Value)}
    {fEQ : Addr} {ocEQ kVEQ dcEQ pmEQ ctEQ cdEQ : Value} {odEQ anEQ : Option Addr} {slEQ : Array (Option Value)}
    {fLI : Addr} {ocLI kVLI dcLI pmLI ctLI : Value} {odLI anLI : Option Addr} {slLI : Array (Option Value)}
    {fL : Addr} {ocL kVL dcL pmL ctL : Value} {odL anL : Option Addr} {slL : Array (Option Value)}
    {CT CL CV CW CR CI CS cTR cLI cL pTR pLI pL : Addr} {mc : Value} {tMx tLt tSg tMt tMN tML tMS tMV : Tok}
    {fIT : Addr} {ocIT kVIT dcIT pmIT ctIT cdIT : Value} {odIT anIT : Option Addr} {slIT : Array (Option Value)}
    {fIL : Addr} {ocIL kVIL dcIL pmIL ctIL cdIL : Value} {odIL anIL : Option Addr} {slIL : Array (Option Value)}
    {fIV : Addr} {ocIV kVIV dcIV pmIV ctIV cdIV : Value} {odIV anIV : Option Addr} {slIV : Array (Option Value)}
    {fIW : Addr} {ocIW kVIW dcIW pmIW ctIW cdIW : Value} {odIW anIW : Option Addr} {slIW : Array (Option Value)}
    {fIR : Addr} {ocIR kVIR dcIR pmIR ctIR cdIR : Value} {odIR anIR : Option Addr} {slIR : Array (Option Value)}
    {fTe : Addr} {ocTe kVTe dcTe pmTe ctTe cdTe : Value} {odTe anTe : Option Addr} {slTe : Array (Option Value)}
    {fTl : Addr} {ocTl kVTl dcTl pmTl ctTl cdTl : Value} {odTl anTl : Option Addr} {slTl : Array (Option Value)}
    {fEp : Addr} {ocEp kVEp dcEp pmEp ctEp cdEp : Value} {odEp anEp : Option Addr} {slEp : Array (Option Value)}
    {fE cdaE ccE NNE : Addr} {ocE kVE dcE pmE ctE cclE clE : Value} {odE anE cddE cldE : Option Addr} {slE ccsE cslE : Array (Option Value)} {cvsE : Array Value} {fileE : Str} {tfE : Tok} {nmE qE : Str} {bsE bmE : List Value} {snE : List Str} {subE : List Value} {abE : Bool} {colE : Option Bool} {ddE : Option Addr} {m0E m1E m2E m3E m5E : Option Value}
    (eP : l.prog = P) (X : K.In h) (G : h.Ns mainGlobals mg) (h1T : h.get? pTR = some (PySem.W.tabObj #[])) (h2T : h.get? pLI = some (PySem.W.tabObj #[])) (h3T : h.get? pL = some (PySem.W.tabObj #[])) (hfa : mg "law" = some (.ref fa))
    (aN : PySem.W.nsIn K mainGlobals "is_name" = some (some (.ref fN)))
    (lN : K.lookup fN = some ⟨ocN, odN, .func (PySem.W.fnOf "is_name" "is_name" (defArgs sName) (defBody sName) (defScope sName) .none kVN dcN pmN anN cdN ctN), slN⟩)
    (cNd : PySem.W.codeIn K cdN "is_name" = true)
    (kN : PySem.W.keepIn K (.ref fN) = true)
    (aNd : PySem.W.nsIn K mainGlobals "is_node" = some (some (.ref fNd)))
    (lNd : K.lookup fNd = some ⟨ocNd, odNd, .func (PySem.W.fnOf "is_node" "is_node" (defArgs sIsNode) (defBody sIsNode) (defScope sIsNode) .none kVNd dcNd pmNd anNd cdNd ctNd), slNd⟩)
    (cNdd : PySem.W.codeIn K cdNd "is_node" = true)
    (kNd : PySem.W.keepIn K (.ref fNd) = true)
    (aTP : PySem.W.nsIn K mainGlobals "_is_tree_part" = some (some (.ref fTP)))
    (lTP : K.lookup fTP = some ⟨ocTP, odTP, .func (PySem.W.fnOf "_is_tree_part" "_is_tree_part" (defArgs sTreePart) (defBody sTreePart) (defScope sTreePart) .none kVTP dcTP pmTP anTP cdTP ctTP), slTP⟩)
    (cTPd : PySem.W.codeIn K cdTP "_is_tree_part" = true)
    (kTP : PySem.W.keepIn K (.ref fTP) = true)
    (aLP : PySem.W.nsIn K mainGlobals "_is_like_part" = some (some (.ref fLP)))
    (lLP : K.lookup fLP = some ⟨ocLP, odLP, .func (PySem.W.fnOf "_is_like_part" "_is_like_part" (defArgs sLikePart) (defBody sLikePart) (defScope sLikePart) .none kVLP dcLP pmLP anLP cdLP ctLP), slLP⟩)
    (cLPd : PySem.W.codeIn K cdLP "_is_like_part" = true)
    (kLP : PySem.W.keepIn K (.ref fLP) = true)
    (aNA : PySem.W.nsIn K mainGlobals "nodes_among" = some (some (.ref fNA)))
    (lNA : K.lookup fNA = some ⟨ocNA, odNA, .func (PySem.W.fnOf "nodes_among" "nodes_among" (defArgs sNodesAmong) (defBody sNodesAmong) (defScope sNodesAmong) .none kVNA dcNA pmNA anNA cdNA ctNA), slNA⟩)
    (cNAd : PySem.W.codeIn K cdNA "nodes_among" = true)
    (kNA : PySem.W.keepIn K (.ref fNA) = true)
    (aMS : PySem.W.nsIn K mainGlobals "_measures_above" = some (some (.ref fMS)))
    (lMS : K.lookup fMS = some ⟨ocMS, odMS, .func (PySem.W.fnOf "_measures_above" "_measures_above" (defArgs sMeasures) (defBody sMeasures) (defScope sMeasures) .none kVMS dcMS pmMS anMS cdMS ctMS), slMS⟩)
    (cMSd : PySem.W.codeIn K cdMS "_measures_above" = true)
    (kMS : PySem.W.keepIn K (.ref fMS) = true)
    (aNX : PySem.W.nsIn K mainGlobals "_node_text" = some (some (.ref fNX)))
    (lNX : K.lookup fNX = some ⟨ocNX, odNX, .func (PySem.W.fnOf "_node_text" "_node_text" (defArgs sNodeText) (defBody sNodeText) (defScope sNodeText) .none kVNX dcNX pmNX anNX cdNX ctNX), slNX⟩)
    (cNXd : PySem.W.codeIn K cdNX "_node_text" = true)
    (kNX : PySem.W.keepIn K (.ref fNX) = true)
    (aPT : PySem.W.nsIn K mainGlobals "part_text" = some (some (.ref fPT)))
    (lPT : K.lookup fPT = some ⟨ocPT, odPT, .func (PySem.W.fnOf "part_text" "part_text" (defArgs sPartText) (defBody sPartText) (defScope sPartText) .none kVPT dcPT pmPT anPT cdPT ctPT), slPT⟩)
    (cPTd : PySem.W.codeIn K cdPT "part_text" = true)
    (kPT : PySem.W.keepIn K (.ref fPT) = true)
    (aQ : PySem.W.nsIn K mainGlobals "_quoted" = some (some (.ref fQ)))
    (lQ : K.lookup fQ = some ⟨ocQ, odQ, .func (PySem.W.fnOf "_quoted" "_quoted" (defArgs sQuoted) (defBody sQuoted) (defScope sQuoted) .none kVQ dcQ pmQ anQ cdQ ctQ), slQ⟩)
    (cQd : PySem.W.codeIn K cdQ "_quoted" = true)
    (kQ : PySem.W.keepIn K (.ref fQ) = true)
    (aM : PySem.W.nsIn K mainGlobals "_law_mixed" = some (some (.ref fM)))
    (lM : K.lookup fM = some ⟨ocM, odM, .func (PySem.W.fnOf "_law_mixed" "_law_mixed" (defArgs sMixed) (defBody sMixed) (defScope sMixed) .none kVM dcM pmM anM cdM ctM), slM⟩)
    (cMd : PySem.W.codeIn K cdM "_law_mixed" = true)
    (kM : PySem.W.keepIn K (.ref fM) = true)
    (aFo : PySem.W.nsIn K mainGlobals "_law_folded" = some (some (.ref fFo)))
    (lFo : K.lookup fFo = some ⟨ocFo, odFo, .func (PySem.W.fnOf "_law_folded" "_law_folded" (defArgs sFolded) (defBody sFolded) (defScope sFolded) .none kVFo dcFo pmFo anFo cdFo ctFo), slFo⟩)
    (cFod : PySem.W.codeIn K cdFo "_law_folded" = true)
    (kFo : PySem.W.keepIn K (.ref fFo) = true)
    (aDr : PySem.W.nsIn K mainGlobals "_law_draw" = some (some (.ref fDr)))
    (lDr : K.lookup fDr = some ⟨ocDr, odDr, .func (PySem.W.fnOf "_law_draw" "_law_draw" (defArgs sDraw) (defBody sDraw) (defScope sDraw) .none kVDr dcDr pmDr anDr cdDr ctDr), slDr⟩)
    (cDrd : PySem.W.codeIn K cdDr "_law_draw" = true)
    (kDr : PySem.W.keepIn K (.ref fDr) = true)
    (aBg : PySem.W.nsIn K mainGlobals "_law_begun" = some (some (.ref fBg)))
    (lBg : K.lookup fBg = some ⟨ocBg, odBg, .func (PySem.W.fnOf "_law_begun" "_law_begun" (defArgs sBegun) (defBody sBegun) (defScope sBegun) .none kVBg dcBg pmBg anBg cdBg ctBg), slBg⟩)
    (cBgd : PySem.W.codeIn K cdBg "_law_begun" = true)
    (kBg : PySem.W.keepIn K (.ref fBg) = true)
    (aBe : PySem.W.nsIn K mainGlobals "_law_below" = some (some (.ref fBe)))
    (lBe : K.lookup fBe = some ⟨ocBe, odBe, .func (PySem.W.fnOf "_law_below" "_law_below" (defArgs sBelow) (defBody sBelow) (defScope sBelow) .none kVBe dcBe pmBe anBe cdBe ctBe), slBe⟩)
    (cBed : PySem.W.codeIn K cdBe "_law_below" = true)
    (kBe : PySem.W.keepIn K (.ref fBe) = true)
    (aD2 : PySem.W.nsIn K mainGlobals "_law_doubled" = some (some (.ref fD2)))
    (lD2 : K.lookup fD2 = some ⟨ocD2, odD2, .func (PySem.W.fnOf "_law_doubled" "_law_doubled" (defArgs sDoubled) (defBody sDoubled) (defScope sDoubled) .none kVD2 dcD2 pmD2 anD2 cdD2 ctD2), slD2⟩)
    (cD2d : PySem.W.codeIn K cdD2 "_law_doubled" = true)
    (kD2 : PySem.W.keepIn K (.ref fD2) = true)
    (aIN : PySem.W.nsIn K mainGlobals "_law_is_name" = some (some (.ref fIN)))
    (lIN : K.lookup fIN = some ⟨ocIN, odIN, .func (PySem.W.fnOf "_law_is_name" "_law_is_name" (defArgs sIsName) (defBody sIsName) (defScope sIsName) .none kVIN dcIN pmIN anIN cdIN ctIN), slIN⟩)
    (cINd : PySem.W.codeIn K cdIN "_law_is_name" = true)
    (kIN : PySem.W.keepIn K (.ref fIN) = true)
    (aFa : PySem.W.nsIn K mainGlobals "_law_fault" = some (some (.ref fFa)))
    (lFa : K.lookup fFa = some ⟨ocFa, odFa, .func (PySem.W.fnOf "_law_fault" "_law_fault" (defArgs sFault) (defBody sFault) (defScope sFault) .none kVFa dcFa pmFa anFa cdFa ctFa), slFa⟩)
    (cFad : PySem.W.codeIn K cdFa "_law_fault" = true)
    (kFa : PySem.W.keepIn K (.ref fFa) = true)
    (aNw : PySem.W.nsIn K mainGlobals "_law_new" = some (some (.ref fNw)))
    (lNw : K.lookup fNw = some ⟨ocNw, odNw, .func (PySem.W.fnOf "_law_new" "_law_new" (defArgs sNew) (defBody sNew) (defScope sNew) .none kVNw dcNw pmNw anNw cdNw ctNw), slNw⟩)
    (cNwd : PySem.W.codeIn K cdNw "_law_new" = true)
    (kNw : PySem.W.keepIn K (.ref fNw) = true)
    (aPi : PySem.W.nsIn K mainGlobals "_law_piece" = some (some (.ref fPi)))
    (lPi : K.lookup fPi = some ⟨ocPi, odPi, .func (PySem.W.fnOf "_law_piece" "_law_piece" (defArgs sPiece) (defBody sPiece) (defScope sPiece) .none kVPi dcPi pmPi anPi cdPi ctPi), slPi⟩)
    (cPid : PySem.W.codeIn K cdPi "_law_piece" = true)
    (kPi : PySem.W.keepIn K (.ref fPi) = true)
    (aNP : PySem.W.nsIn K mainGlobals "_law_node_pair" = some (some (.ref fNP)))
    (lNP : K.lookup fNP = some ⟨ocNP, odNP, .func (PySem.W.fnOf "_law_node_pair" "_law_node_pair" (defArgs sNodePair) (defBody sNodePair) (defScope sNodePair) .none kVNP dcNP pmNP anNP cdNP ctNP), slNP⟩)
    (cNPd : PySem.W.codeIn K cdNP "_law_node_pair" = true)
    (kNP : PySem.W.keepIn K (.ref fNP) = true)
    (aSz : PySem.W.nsIn K mainGlobals "_law_size" = some (some (.ref fSz)))
    (lSz : K.lookup fSz = some ⟨ocSz, odSz, .func (PySem.W.fnOf "_law_size" "_law_size" (defArgs sSize) (defBody sSize) (defScope sSize) .none kVSz dcSz pmSz anSz cdSz ctSz), slSz⟩)
    (cSzd : PySem.W.codeIn K cdSz "_law_size" = true)
    (kSz : PySem.W.keepIn K (.ref fSz) = true)
    (aSa : PySem.W.nsIn K mainGlobals "_law_said" = some (some (.ref fSa)))
    (lSa : K.lookup fSa = some ⟨ocSa, odSa, .func (PySem.W.fnOf "_law_said" "_law_said" (defArgs sSaid) (defBody sSaid) (defScope sSaid) .none kVSa dcSa pmSa anSa cdSa ctSa), slSa⟩)
    (cSad : PySem.W.codeIn K cdSa "_law_said" = true)
    (kSa : PySem.W.keepIn K (.ref fSa) = true)
    (aRR : PySem.W.nsIn K mainGlobals "_law_read_right" = some (some (.ref fRR)))
    (lRR : K.lookup fRR = some ⟨ocRR, odRR, .func (PySem.W.fnOf "_law_read_right" "_law_read_right" (defArgs sReadRight) (defBody sReadRight) (defScope sReadRight) .none kVRR dcRR pmRR anRR cdRR ctRR), slRR⟩)
    (cRRd : PySem.W.codeIn K cdRR "_law_read_right" = true)
    (kRR : PySem.W.keepIn K (.ref fRR) = true)
    (aTR : PySem.W.nsIn K mainGlobals "_law_tree_right" = some (some (.ref fTR)))
    (lTR : K.lookup fTR = some ⟨ocTR, odTR, .func (PySem.W.fnOf "_law_tree_right" "_law_tree_right" (defArgs sTreeRight) (defBody sTreeRight) (defScope sTreeRight) .none kVTR dcTR pmTR anTR (.ref cTR) ctTR), slTR⟩)
    (cTRd : PySem.W.codeIn K (.ref cTR) "_law_tree_right" = true)
    (kTR : PySem.W.keepIn K (.ref fTR) = true)
    (aEQ : PySem.W.nsIn K mainGlobals "_law_equal_right" = some (some (.ref fEQ)))
    (lEQ : K.lookup fEQ = some ⟨ocEQ, odEQ, .func (PySem.W.fnOf "_law_equal_right" "_law_equal_right" (defArgs sEqualRight) (defBody sEqualRight) (defScope sEqualRight) .none kVEQ dcEQ pmEQ anEQ cdEQ ctEQ), slEQ⟩)
    (cEQd : PySem.W.codeIn K cdEQ "_law_equal_right" = true)
    (kEQ : PySem.W.keepIn K (.ref fEQ) = true)
    (aLI : PySem.W.nsIn K mainGlobals "_law_limits_right" = some (some (.ref fLI)))
    (lLI : K.lookup fLI = some ⟨ocLI, odLI, .func (PySem.W.fnOf "_law_limits_right" "_law_limits_right" (defArgs sLimitsRight) (defBody sLimitsRight) (defScope sLimitsRight) .none kVLI dcLI pmLI anLI (.ref cLI) ctLI), slLI⟩)
    (cLId : PySem.W.codeIn K (.ref cLI) "_law_limits_right" = true)
    (kLI : PySem.W.keepIn K (.ref fLI) = true)
    (aL : PySem.W.nsIn K mainGlobals "law" = some (some (.ref fL)))
    (lL : K.lookup fL = some ⟨ocL, odL, .func (PySem.W.fnOf "law" "law" (defArgs sLaw) (defBody sLaw) (defScope sLaw) .none kVL dcL pmL anL (.ref cL) ctL), slL⟩)
    (cLd : PySem.W.codeIn K (.ref cL) "law" = true)
    (kL : PySem.W.keepIn K (.ref fL) = true)
    (aCT : PySem.W.nsIn K mainGlobals "Tree" = some (some (.ref CT)))
    (qTpg : PySem.W.plainGet K CT Str.empty = true)
    (qThd : PySem.W.hasDictIn K CT = true)
    (qTpo : PySem.W.plainOver K CT = true)
    (qTsa : PySem.W.findIn K (.ref CT) "__setattr__" = some (some (.builtin "object.__setattr__")))
    (qTha : PySem.W.findIn K (.ref CT) "__class__" = some (some (.builtin "object.__class__")))
    (qTmo : PySem.W.mroIn K CT (.type "object") = some true)
    (qTmk : PySem.W.makesIn K CT = true)
    (qTkp : PySem.W.keepIn K (.ref CT) = true)
    (iIT : PySem.W.findIn K (.ref CT) "__init__" = some (some (.ref fIT)))
    (nIT : PySem.W.isFn K (.ref fIT) = true)
    (lIT : K.lookup fIT = some ⟨ocIT, odIT, .func (PySem.W.fnOf "__init__" "Tree.__init__" (defArgs sTreeInit) (defBody sTreeInit) (defScope sTreeInit) .none kVIT dcIT pmIT anIT cdIT ctIT), slIT⟩)
    (cITd : PySem.W.codeIn K cdIT "Tree.__init__" = true)
    (kIT : PySem.W.keepIn K (.ref fIT) = true)
    (naT0 : PySem.W.findIn K (.ref CT) "form" = some none)
    (naT1 : PySem.W.findIn K (.ref CT) "parts" = some none)
    (naT2 : PySem.W.findIn K (.ref CT) "children" = some none)
    (naT3 : PySem.W.findIn K (.ref CT) "size" = some none)
    (naT4 : PySem.W.findIn K (.ref CT) "levels" = some none)
    (naT5 : PySem.W.findIn K (.ref CT) "text" = some none)
    (naT6 : PySem.W.findIn K (.ref CT) "name" = some none)
    (stT : PySem.W.kitOne K (.ref CT) (.type "str") = some false)
    (tuT : PySem.W.kitOne K (.ref CT) (.type "tuple") = some false)
    (bsT : PySem.W.kitOne K (.type "str") (.ref CT) = some false)
    (btT : PySem.W.kitOne K (.type "tuple") (.ref CT) = some false)
    (ktTT : PySem.W.kitOne K (.ref CT) (.ref CT) = some true)
    (ktTL : PySem.W.kitOne K (.ref CT) (.ref CL) = some false)
    (ktTV : PySem.W.kitOne K (.ref CT) (.ref CV) = some false)
    (ktTW : PySem.W.kitOne K (.ref CT) (.ref CW) = some false)
    (ktTR : PySem.W.kitOne K (.ref CT) (.ref CR) = some false)
    (aCL : PySem.W.nsIn K mainGlobals "Like" = some (some (.ref CL)))
    (qLpg : PySem.W.plainGet K CL Str.empty = true)
    (qLhd : PySem.W.hasDictIn K CL = true)
    (qLpo : PySem.W.plainOver K CL = true)
    (qLsa : PySem.W.findIn K (.ref CL) "__setattr__" = some (some (.builtin "object.__setattr__")))
    (qLha : PySem.W.findIn K (.ref CL) "__class__" = some (some (.builtin "object.__class__")))
    (qLmo : PySem.W.mroIn K CL (.type "object") = some true)
    (qLmk : PySem.W.makesIn K CL = true)
    (qLkp : PySem.W.keepIn K (.ref CL) = true)
    (iIL : PySem.W.findIn K (.ref CL) "__init__" = some (some (.ref fIL)))
    (nIL : PySem.W.isFn K (.ref fIL) = true)
    (lIL : K.lookup fIL = some ⟨ocIL, odIL, .func (PySem.W.fnOf "__init__" "Like.__init__" (defArgs sLikeInit) (defBody sLikeInit) (defScope sLikeInit) .none kVIL dcIL pmIL anIL cdIL ctIL), slIL⟩)
    (cILd : PySem.W.codeIn K cdIL "Like.__init__" = true)
    (kIL : PySem.W.keepIn K (.ref fIL) = true)
    (naL0 : PySem.W.findIn K (.ref CL) "form" = some none)
    (naL1 : PySem.W.findIn K (.ref CL) "parts" = some none)
    (naL2 : PySem.W.findIn K (.ref CL) "children" = some none)
    (naL3 : PySem.W.findIn K (.ref CL) "size" = some none)
    (naL4 : PySem.W.findIn K (.ref CL) "levels" = some none)
    (naL5 : PySem.W.findIn K (.ref CL) "text" = some none)
    (naL6 : PySem.W.findIn K (.ref CL) "name" = some none)
    (stL : PySem.W.kitOne K (.ref CL) (.type "str") = some false)
    (tuL : PySem.W.kitOne K (.ref CL) (.type "tuple") = some false)
    (bsL : PySem.W.kitOne K (.type "str") (.ref CL) = some false)
    (btL : PySem.W.kitOne K (.type "tuple") (.ref CL) = some false)
    (ktLT : PySem.W.kitOne K (.ref CL) (.ref CT) = some false)
    (ktLL : PySem.W.kitOne K (.ref CL) (.ref CL) = some true)
    (ktLV : PySem.W.kitOne K (.ref CL) (.ref CV) = some false)
    (ktLW : PySem.W.kitOne K (.ref CL) (.ref CW) = some false)
    (ktLR : PySem.W.kitOne K (.ref CL) (.ref CR) = some false)
    (aCV : PySem.W.nsIn K mainGlobals "Var" = some (some (.ref CV)))
    (qVpg : PySem.W.plainGet K CV Str.empty = true)
    (qVhd : PySem.W.hasDictIn K CV = true)
    (qVpo : PySem.W.plainOver K CV = true)
    (qVsa : PySem.W.findIn K (.ref CV) "__setattr__" = some (some (.builtin "object.__setattr__")))
    (qVha : PySem.W.findIn K (.ref CV) "__class__" = some (some (.builtin "object.__class__")))
    (qVmo : PySem.W.mroIn K CV (.type "object") = some true)
    (qVmk : PySem.W.makesIn K CV = true)
    (qVkp : PySem.W.keepIn K (.ref CV) = true)
    (iIV : PySem.W.findIn K (.ref CV) "__init__" = some (some (.ref fIV)))
    (nIV : PySem.W.isFn K (.ref fIV) = true)
    (lIV : K.lookup fIV = some ⟨ocIV, odIV, .func (PySem.W.fnOf "__init__" "Var.__init__" (defArgs sVarInit) (defBody sVarInit) (defScope sVarInit) .none kVIV dcIV pmIV anIV cdIV ctIV), slIV⟩)
    (cIVd : PySem.W.codeIn K cdIV "Var.__init__" = true)
    (kIV : PySem.W.keepIn K (.ref fIV) = true)
    (naV0 : PySem.W.findIn K (.ref CV) "form" = some none)
    (naV1 : PySem.W.findIn K (.ref CV) "parts" = some none)
    (naV2 : PySem.W.findIn K (.ref CV) "children" = some none)
    (naV3 : PySem.W.findIn K (.ref CV) "size" = some none)
    (naV4 : PySem.W.findIn K (.ref CV) "levels" = some none)
    (naV5 : PySem.W.findIn K (.ref CV) "text" = some none)
    (naV6 : PySem.W.findIn K (.ref CV) "name" = some none)
    (stV : PySem.W.kitOne K (.ref CV) (.type "str") = some false)
    (tuV : PySem.W.kitOne K (.ref CV) (.type "tuple") = some false)
    (bsV : PySem.W.kitOne K (.type "str") (.ref CV) = some false)
    (btV : PySem.W.kitOne K (.type "tuple") (.ref CV) = some false)
    (ktVT : PySem.W.kitOne K (.ref CV) (.ref CT) = some false)
    (ktVL : PySem.W.kitOne K (.ref CV) (.ref CL) = some false)
    (ktVV : PySem.W.kitOne K (.ref CV) (.ref CV) = some true)
    (ktVW : PySem.W.kitOne K (.ref CV) (.ref CW) = some false)
    (ktVR : PySem.W.kitOne K (.ref CV) (.ref CR) = some false)
    (aCW : PySem.W.nsIn K mainGlobals "Word" = some (some (.ref CW)))
    (qWpg : PySem.W.plainGet K CW Str.empty = true)
    (qWhd : PySem.W.hasDictIn K CW = true)
    (qWpo : PySem.W.plainOver K CW = true)
    (qWsa : PySem.W.findIn K (.ref CW) "__setattr__" = some (some (.builtin "object.__setattr__")))
    (qWha : PySem.W.findIn K (.ref CW) "__class__" = some (some (.builtin "object.__class__")))
    (qWmo : PySem.W.mroIn K CW (.type "object") = some true)
    (qWmk : PySem.W.makesIn K CW = true)
    (qWkp : PySem.W.keepIn K (.ref CW) = true)
    (iIW : PySem.W.findIn K (.ref CW) "__init__" = some (some (.ref fIW)))
    (nIW : PySem.W.isFn K (.ref fIW) = true)
    (lIW : K.lookup fIW = some ⟨ocIW, odIW, .func (PySem.W.fnOf "__init__" "Word.__init__" (defArgs sWordInit) (defBody sWordInit) (defScope sWordInit) .none kVIW dcIW pmIW anIW cdIW ctIW), slIW⟩)
    (cIWd : PySem.W.codeIn K cdIW "Word.__init__" = true)
    (kIW : PySem.W.keepIn K (.ref fIW) = true)
    (naW0 : PySem.W.findIn K (.ref CW) "form" = some none)
    (naW1 : PySem.W.findIn K (.ref CW) "parts" = some none)
    (naW2 : PySem.W.findIn K (.ref CW) "children" = some none)
    (naW3 : PySem.W.findIn K (.ref CW) "size" = some none)
    (naW4 : PySem.W.findIn K (.ref CW) "levels" = some none)
    (naW5 : PySem.W.findIn K (.ref CW) "text" = some none)
    (naW6 : PySem.W.findIn K (.ref CW) "name" = some none)
    (stW : PySem.W.kitOne K (.ref CW) (.type "str") = some false)
    (tuW : PySem.W.kitOne K (.ref CW) (.type "tuple") = some false)
    (bsW : PySem.W.kitOne K (.type "str") (.ref CW) = some false)
    (btW : PySem.W.kitOne K (.type "tuple") (.ref CW) = some false)
    (ktWT : PySem.W.kitOne K (.ref CW) (.ref CT) = some false)
    (ktWL : PySem.W.kitOne K (.ref CW) (.ref CL) = some false)
    (ktWV : PySem.W.kitOne K (.ref CW) (.ref CV) = some false)
    (ktWW : PySem.W.kitOne K (.ref CW) (.ref CW) = some true)
    (ktWR : PySem.W.kitOne K (.ref CW) (.ref CR) = some false)
    (aCR : PySem.W.nsIn K mainGlobals "Rest" = some (some (.ref CR)))
    (qRpg : PySem.W.plainGet K CR Str.empty = true)
    (qRhd : PySem.W.hasDictIn K CR = true)
    (qRpo : PySem.W.plainOver K CR = true)
    (qRsa : PySem.W.findIn K (.ref CR) "__setattr__" = some (some (.builtin "object.__setattr__")))
    (qRha : PySem.W.findIn K (.ref CR) "__class__" = some (some (.builtin "object.__class__")))
    (qRmo : PySem.W.mroIn K CR (.type "object") = some true)
    (qRmk : PySem.W.makesIn K CR = true)
    (qRkp : PySem.W.keepIn K (.ref CR) = true)
    (iIR : PySem.W.findIn K (.ref CR) "__init__" = some (some (.ref fIR)))
    (nIR : PySem.W.isFn K (.ref fIR) = true)
    (lIR : K.lookup fIR = some ⟨ocIR, odIR, .func (PySem.W.fnOf "__init__" "Rest.__init__" (defArgs sRestInit) (defBody sRestInit) (defScope sRestInit) .none kVIR dcIR pmIR anIR cdIR ctIR), slIR⟩)
    (cIRd : PySem.W.codeIn K cdIR "Rest.__init__" = true)
    (kIR : PySem.W.keepIn K (.ref fIR) = true)
    (naR0 : PySem.W.findIn K (.ref CR) "form" = some none)
    (naR1 : PySem.W.findIn K (.ref CR) "parts" = some none)
    (naR2 : PySem.W.findIn K (.ref CR) "children" = some none)
    (naR3 : PySem.W.findIn K (.ref CR) "size" = some none)
    (naR4 : PySem.W.findIn K (.ref CR) "levels" = some none)
    (naR5 : PySem.W.findIn K (.ref CR) "text" = some none)
    (naR6 : PySem.W.findIn K (.ref CR) "name" = some none)
    (stR : PySem.W.kitOne K (.ref CR) (.type "str") = some false)
    (tuR : PySem.W.kitOne K (.ref CR) (.type "tuple") = some false)
    (bsR : PySem.W.kitOne K (.type "str") (.ref CR) = some false)
    (btR : PySem.W.kitOne K (.type "tuple") (.ref CR) = some false)
    (ktRT : PySem.W.kitOne K (.ref CR) (.ref CT) = some false)
    (ktRL : PySem.W.kitOne K (.ref CR) (.ref CL) = some false)
    (ktRV : PySem.W.kitOne K (.ref CR) (.ref CV) = some false)
    (ktRW : PySem.W.kitOne K (.ref CR) (.ref CW) = some false)
    (ktRR : PySem.W.kitOne K (.ref CR) (.ref CR) = some true)
    (ndC : [CT, CL, CV, CW, CR].Nodup)
    (ot_non : PySem.W.kitOne K (.type "NoneType") (.ref CT) = some false)
    (ot_bl : PySem.W.kitOne K (.type "bool") (.ref CT) = some false)
    (ot_int : PySem.W.kitOne K (.type "int") (.ref CT) = some false)
    (ot_lst : PySem.W.kitOne K (.type "list") (.ref CT) = some false)
    (ot_dK : PySem.W.kitOne K (.type "dict") (.ref CT) = some false)
    (nf_T : PySem.W.notFirst K CT (.ref CT) = true)
    (nf_L : PySem.W.notFirst K CT (.ref CL) = true)
    (nf_V : PySem.W.notFirst K CT (.ref CV) = true)
    (nf_non : PySem.W.notFirst K CT (.type "NoneType") = true)
    (nf_int : PySem.W.notFirst K CT (.type "int") = true)
    (nf_str : PySem.W.notFirst K CT (.type "str") = true)
    (nf_tup : PySem.W.notFirst K CT (.type "tuple") = true)
    (nf_lst : PySem.W.notFirst K CT (.type "list") = true)
    (Trd : PySem.W.readsIn K CT mc = true)
    (Tga : PySem.W.specialIn K (.ref CT) "__getattribute__" = some (some (.builtin "type.__getattribute__")))
    (Lrd : PySem.W.readsIn K CL mc = true)
    (Lga : PySem.W.specialIn K (.ref CL) "__getattribute__" = some (some (.builtin "type.__getattribute__")))
    (mxN : PySem.W.findCls K (.ref CT) mc "MAX_NODES" = some (.val (.int 400 tMN)))
    (mxL : PySem.W.findCls K (.ref CT) mc "MAX_LEVELS" = some (.val (.int 100 tML)))
    (lxS : PySem.W.findCls K (.ref CL) mc "MAX_SIZE" = some (.val (.int 60 tMS)))
    (lxL : PySem.W.findCls K (.ref CL) mc "MAX_LEVELS" = some (.val (.int 8 tMV)))
    (iTe : PySem.W.findIn K (.ref CT) "__eq__" = some (some (.ref fTe)))
    (nTe : PySem.W.isFn K (.ref fTe) = true)
    (wTe : PySem.W.fnIn K fTe = true)
    (lTe : K.lookup fTe = some ⟨ocTe, odTe, .func (PySem.W.fnOf "__eq__" "Tree.__eq__" (defArgs sTreeEq) (defBody sTreeEq) (defScope sTreeEq) .none kVTe dcTe pmTe anTe cdTe ctTe), slTe⟩)
    (cTed : PySem.W.codeIn K cdTe "Tree.__eq__" = true)
    (kTe : PySem.W.keepIn K (.ref fTe) = true)
    (iTl : PySem.W.findIn K (.ref CT) "__len__" = some (some (.ref fTl)))
    (nTl : PySem.W.isFn K (.ref fTl) = true)
    (wTl : PySem.W.fnIn K fTl = true)
    (lTl : K.lookup fTl = some ⟨ocTl, odTl, .func (PySem.W.fnOf "__len__" "Tree.__len__" (defArgs sTreeLen) (defBody sTreeLen) (defScope sTreeLen) .none kVTl dcTl pmTl anTl cdTl ctTl), slTl⟩)
    (cTld : PySem.W.codeIn K cdTl "Tree.__len__" = true)
    (kTl : PySem.W.keepIn K (.ref fTl) = true)
    (iEp : PySem.W.findIn K (.ref CT) "each_path" = some (some (.ref fEp)))
    (nEp : PySem.W.isFn K (.ref fEp) = true)
    (wEp : PySem.W.fnIn K fEp = true)
    (lEp : K.lookup fEp = some ⟨ocEp, odEp, .func (PySem.W.fnOf "each_path" "Tree.each_path" (defArgs sEachPath) (defBody sEachPath) (defScope sEachPath) .none kVEp dcEp pmEp anEp cdEp ctEp), slEp⟩)
    (cEpd : PySem.W.codeIn K cdEp "Tree.each_path" = true)
    (kEp : PySem.W.keepIn K (.ref fEp) = true)
    (Tne : PySem.W.findIn K (.ref CT) "__ne__" = some (some (.builtin "object.__ne__")))
    (aCS : PySem.W.nsIn K mainGlobals "RuleengineError" = some (some (.ref CS)))
    (aCE_ : PySem.W.nsIn K mainGlobals "InvalidTree" = some (some (.ref CI)))
    (xLE : K.lookup CI = some (excClassObj nmE qE CI NNE bsE bmE true snE subE abE colE ddE m0E m1E m2E m3E m5E "ValueError.__new__"))
    (rvE : HandSPX.refsVE bmE = true)
    (esaE : PySem.W.findIn K (.ref CI) "__setattr__" = some (some (.builtin "object.__setattr__")))
    (eexE : PySem.W.subIn K (.ref CI) (.type "BaseException") = some true)
    (etyE : PySem.W.typeIn K (.ref CI) = some (.type "type"))
    (ekpE : PySem.W.keepIn K (.ref CI) = true)
    (efiE : PySem.W.findIn K (.ref CI) "__init__" = some (some (.ref fE)))
    (etiE : PySem.W.typeIn K (.ref fE) = some (.type "function"))
    (lEE : K.lookup fE = some ⟨ocE, odE, .func (PySem.W.ksFn "__init__" "InvalidTree.__init__" (defArgs sErrInit) (defBody sErrInit) (defScope sErrInit) .none kVE dcE pmE anE (.ref cdaE) ctE ccE), slE⟩)
    (ecdE : PySem.W.codeIn K (.ref cdaE) "InvalidTree.__init__" = true)
    (xcE : K.lookup cdaE = some ⟨cclE, cddE, .fields cvsE, ccsE⟩)
    (v2E : cvsE[2]? = some (.str fileE tfE))
    (pfE : ((P.main.file : Str) == fileE) = true)
    (xccE : K.lookup ccE = some ⟨clE, cldE, .cell (some (.ref CI)), cslE⟩)
    (emrE : PySem.W.mroIn K CI (.ref CI) = some true)
    (ealE : PySem.W.alongIn K "__init__" bmE = some (some (.builtin "ValueError.__init__")))
    (eveE : PySem.W.subIn K (.ref CI) (.type "ValueError") = some true)
    (eeiE : PySem.W.excInitIn K CI [.type "ValueError", .type "Exception", .type "BaseException", .type "object"] "ValueError.__new__" = true)
    (enf0E : PySem.W.findIn K (.ref CI) "part" = some none)
    (egaE : PySem.W.findIn K (.ref CI) "__getattribute__" = some (some (.builtin "BaseException.__getattribute__")))
    (eggE : PySem.W.findIn K (.ref CI) "__getattr__" = some none)
    (ehdE : PySem.W.hasDictIn K CI = true)
    (ecaE : PySem.W.findIn K (.ref CI) "__class__" = some (some (.builtin "object.__class__")))
    (emoE : PySem.W.mroIn K CI (.type "object") = some true)
    (exmE : PySem.W.exmOne K (.ref CI) (.ref CS) = some true)
    (ekkE : PySem.W.kitOne K (.ref CI) (.ref CI) = some true)
    (sup : PySem.W.nsIn K mainGlobals "super" = some none)
    (opq : PySem.W.nsIn K cStatics "thirdparty.any" = some none)
    (etop : (P.main.scope.names.lookup ("super" : Str)).isSome = false)
    (ecg : PySem.W.specialIn K (.builtin "object.__class__") "__get__" = some (some (.builtin "getset_descriptor.__get__")))
    (etk : PySem.W.takesIn K (.builtin "object.__class__") = some true)
    (zI : PySem.W.nsIn K mainGlobals "isinstance" = some none)
    (zS : PySem.W.nsIn K mainGlobals "str" = some none)
    (zL : PySem.W.nsIn K mainGlobals "len" = some none)
    (zA : PySem.W.nsIn K mainGlobals "all" = some none)
    (zT : PySem.W.nsIn K mainGlobals "tuple" = some none)
    (zR : PySem.W.nsIn K mainGlobals "range" = some none)
    (zE : PySem.W.nsIn K mainGlobals "enumerate" = some none)
    (zLi : PySem.W.nsIn K mainGlobals "list" = some none)
    (zRp : PySem.W.nsIn K mainGlobals "repr" = some none)
    (yMx : PySem.W.nsIn K mainGlobals "MAX_NAME" = some (some (.int 20 tMx)))
    (yLt : PySem.W.nsIn K mainGlobals "LETTERS" = some (some (.str LET tLt)))
    (ySg : PySem.W.nsIn K mainGlobals "NAME_SIGNS" = some (some (.str SIG tSg)))
    (yMt : PySem.W.nsIn K mainGlobals "MAX_TEXT" = some (some (.int 60 tMt)))
    (tTR : PySem.W.codeHdIn K cTR pTR = true)
    (nTTR : K.lookup pTR = none)
    (tLI : PySem.W.codeHdIn K cLI pLI = true)
    (nTLI : K.lookup pLI = none)
    (tL : PySem.W.codeHdIn K cL pL = true)
    (nTL : K.lookup pL = none)
    (np1 : pTR ≠ pLI)
    (np2 : pTR ≠ pL)
    (np3 : pLI ≠ pL) :
    ∃ cs fd sp, TopG l.prog w K mg L2.CX0 15 fa "_law_script" cs fd sp h 63 := by
  have e := hfa.symm.trans (PySem.W.mg_of X G aL)
  cases e
  subst eP
  have FN0 := fun_mk (st := sName) lN cNd kN
  have FN := FN0
  have bN := FN0.binds (ps := ["value"]) fun _ _ _ _ _ _ us hl => match us, hl with | [_], _ => rfl
  have gN := PySem.W.mg_of X G aN
  have AN : DefA K mg "is_name" ["value"] fN _ := ⟨gN, kN, bN⟩
  have FNd0 := fun_mk (st := sIsNode) lNd cNdd kNd
  have FNd := FNd0
  have bNd := FNd0.binds (ps := ["value"]) fun _ _ _ _ _ _ us hl => match us, hl with | [_], _ => rfl
  have gNd := PySem.W.mg_of X G aNd
  have ANd : DefA K mg "is_node" ["value"] fNd _ := ⟨gNd, kNd, bNd⟩
  have FTP0 := fun_mk (st := sTreePart) lTP cTPd kTP
  have FTP := FTP0
  have bTP := FTP0.binds (ps := ["part"]) fun _ _ _ _ _ _ us hl => match us, hl with | [_], _ => rfl
  have gTP := PySem.W.mg_of X G aTP
  have ATP : DefA K mg "_is_tree_part" ["part"] fTP _ := ⟨gTP, kTP, bTP⟩
  have FLP0 := fun_mk (st := sLikePart) lLP cLPd kLP
  have FLP := FLP0
  have bLP := FLP0.binds (ps := ["part"]) fun _ _ _ _ _ _ us hl => match us, hl with | [_], _ => rfl
  have gLP := PySem.W.mg_of X G aLP
  have ALP : DefA K mg "_is_like_part" ["part"] fLP _ := ⟨gLP, kLP, bLP⟩
  have FNA0 := fun_mk (st := sNodesAmong) lNA cNAd kNA
  have FNA := FNA0
  have bNA := FNA0.binds (ps := ["parts"]) fun _ _ _ _ _ _ us hl => match us, hl with | [_], _ => rfl
  have gNA := PySem.W.mg_of X G aNA
  have ANA : DefA K mg "nodes_among" ["parts"] fNA _ := ⟨gNA, kNA, bNA⟩
  have FMS0 := fun_mk (st := sMeasures) lMS cMSd kMS
  have FMS := FMS0
  have bMS := FMS0.binds (ps := ["nodes"]) fun _ _ _ _ _ _ us hl => match us, hl with | [_], _ => rfl
  have gMS := PySem.W.mg_of X G aMS
  have AMS : DefA K mg "_measures_above" ["nodes"] fMS _ := ⟨gMS, kMS, bMS⟩
  have FNX0 := fun_mk (st := sNodeText) lNX cNXd kNX
  have FNX := FNX0
  have bNX := FNX0.binds (ps := ["form", "parts"]) fun _ _ _ _ _ _ us hl => match us, hl with | [_, _], _ => rfl
  have gNX := PySem.W.mg_of X G aNX
  have ANX : DefA K mg "_node_text" ["form", "parts"] fNX _ := ⟨gNX, kNX, bNX⟩
  have FPT0 := fun_mk (st := sPartText) lPT cPTd kPT
  have FPT := FPT0
  have bPT := FPT0.binds (ps := ["part"]) fun _ _ _ _ _ _ us hl => match us, hl with | [_], _ => rfl
  have gPT := PySem.W.mg_of X G aPT
  have APT : DefA K mg "part_text" ["part"] fPT _ := ⟨gPT, kPT, bPT⟩
  have FQ0 := fun_mk (st := sQuoted) lQ cQd kQ
  have FQ := FQ0
  have bQ := FQ0.binds (ps := ["text"]) fun _ _ _ _ _ _ us hl => match us, hl with | [_], _ => rfl
  have gQ := PySem.W.mg_of X G aQ
  have AQ : DefA K mg "_quoted" ["text"] fQ _ := ⟨gQ, kQ, bQ⟩
  have FM0 := fun_mk (st := sMixed) lM cMd kM
  have FM := FM0
  have bM := FM0.binds (ps := ["_law_cell", "_law_n"]) fun _ _ _ _ _ _ us hl => match us, hl with | [_, _], _ => rfl
  have gM := PySem.W.mg_of X G aM
  have AM : DefA K mg "_law_mixed" ["_law_cell", "_law_n"] fM _ := ⟨gM, kM, bM⟩
  have FFo0 := fun_mk (st := sFolded) lFo cFod kFo
  have FFo := FFo0
  have bFo := FFo0.binds (ps := ["_law_script"]) fun _ _ _ _ _ _ us hl => match us, hl with | [_], _ => rfl
  have gFo := PySem.W.mg_of X G aFo
  have AFo : DefA K mg "_law_folded" ["_law_script"] fFo _ := ⟨gFo, kFo, bFo⟩
  have FDr0 := fun_mk (st := sDraw) lDr cDrd kDr
  have FDr := FDr0
  have bDr := FDr0.binds (ps := ["_law_m", "_law_top"]) fun _ _ _ _ _ _ us hl => match us, hl with | [_, _], _ => rfl
  have gDr := PySem.W.mg_of X G aDr
  have ADr : DefA K mg "_law_draw" ["_law_m", "_law_top"] fDr _ := ⟨gDr, kDr, bDr⟩
  have FBg0 := fun_mk (st := sBegun) lBg cBgd kBg
  have FBg := FBg0
  have bBg := FBg0.binds (ps := ["_law_script"]) fun _ _ _ _ _ _ us hl => match us, hl with | [_], _ => rfl
  have gBg := PySem.W.mg_of X G aBg
  have ABg : DefA K mg "_law_begun" ["_law_script"] fBg _ := ⟨gBg, kBg, bBg⟩
  have FBe0 := fun_mk (st := sBelow) lBe cBed kBe
  have FBe := FBe0
  have bBe := FBe0.binds (ps := ["_law_plant"]) fun _ _ _ _ _ _ us hl => match us, hl with | [_], _ => rfl
  have gBe := PySem.W.mg_of X G aBe
  have ABe : DefA K mg "_law_below" ["_law_plant"] fBe _ := ⟨gBe, kBe, bBe⟩
  have FD20 := fun_mk (st := sDoubled) lD2 cD2d kD2
  have FD2 := FD20
  have bD2 := FD20.binds (ps := ["_law_kind_of"]) fun _ _ _ _ _ _ us hl => match us, hl with | [_], _ => rfl
  have gD2 := PySem.W.mg_of X G aD2
  have AD2 : DefA K mg "_law_doubled" ["_law_kind_of"] fD2 _ := ⟨gD2, kD2, bD2⟩
  have FIN0 := fun_mk (st := sIsName) lIN cINd kIN
  have FIN := FIN0
  have bIN := FIN0.binds (ps := ["_law_thing"]) fun _ _ _ _ _ _ us hl => match us, hl with | [_], _ => rfl
  have gIN := PySem.W.mg_of X G aIN
  have AIN : DefA K mg "_law_is_name" ["_law_thing"] fIN _ := ⟨gIN, kIN, bIN⟩
  have FFa0 := fun_mk (st := sFault) lFa cFad kFa
  have FFa := FFa0
  have bFa := FFa0.binds (ps := ["_law_call"]) fun _ _ _ _ _ _ us hl => match us, hl with | [_], _ => rfl
  have gFa := PySem.W.mg_of X G aFa
  have AFa : DefA K mg "_law_fault" ["_law_call"] fFa _ := ⟨gFa, kFa, bFa⟩
  have FNw0 := fun_mk (st := sNew) lNw cNwd kNw
  have FNw := FNw0
  have bNw := FNw0.binds (ps := ["_law_word", "_law_r"]) fun _ _ _ _ _ _ us hl => match us, hl with | [_, _], _ => rfl
  have gNw := PySem.W.mg_of X G aNw
  have ANw : DefA K mg "_law_new" ["_law_word", "_law_r"] fNw _ := ⟨gNw, kNw, bNw⟩
  have FPi0 := fun_mk (st := sPiece) lPi cPid kPi
  have FPi := FPi0
  have bPi := FPi0.binds (ps := ["_law_m", "_law_deep"]) fun _ _ _ _ _ _ us hl => match us, hl with | [_, _], _ => rfl
  have gPi := PySem.W.mg_of X G aPi
  have APi : DefA K mg "_law_piece" ["_law_m", "_law_deep"] fPi _ := ⟨gPi, kPi, bPi⟩
  have FNP0 := fun_mk (st := sNodePair) lNP cNPd kNP
  have FNP := FNP0
  have bNP := FNP0.binds (ps := ["_law_m", "_law_deep"]) fun _ _ _ _ _ _ us hl => match us, hl with | [_, _], _ => rfl
  have gNP := PySem.W.mg_of X G aNP
  have ANP : DefA K mg "_law_node_pair" ["_law_m", "_law_deep"] fNP _ := ⟨gNP, kNP, bNP⟩
  have FSz0 := fun_mk (st := sSize) lSz cSzd kSz
  have FSz := FSz0
  have bSz := FSz0.binds (ps := ["_law_plant"]) fun _ _ _ _ _ _ us hl => match us, hl with | [_], _ => rfl
  have gSz := PySem.W.mg_of X G aSz
  have ASz : DefA K mg "_law_size" ["_law_plant"] fSz _ := ⟨gSz, kSz, bSz⟩
  have FSa0 := fun_mk (st := sSaid) lSa cSad kSa
  have FSa := FSa0
  have bSa := FSa0.binds (ps := ["_law_own"]) fun _ _ _ _ _ _ us hl => match us, hl with | [_], _ => rfl
  have gSa := PySem.W.mg_of X G aSa
  have ASa : DefA K mg "_law_said" ["_law_own"] fSa _ := ⟨gSa, kSa, bSa⟩
  have FRR0 := fun_mk (st := sReadRight) lRR cRRd kRR
  have FRR := FRR0
  have bRR := FRR0.binds (ps := ["_law_plant", "_law_one", "_law_some"]) fun _ _ _ _ _ _ us hl => match us, hl with | [_, _, _], _ => rfl
  have gRR := PySem.W.mg_of X G aRR
  have ARR : DefA K mg "_law_read_right" ["_law_plant", "_law_one", "_law_some"] fRR _ := ⟨gRR, kRR, bRR⟩
  have FTR0 := fun_mk (st := sTreeRight) lTR cTRd kTR
  have FTR : FunC K "_law_tree_right" "_law_tree_right" sTreeRight fTR _ cTR := ⟨⟨_, _, _, _, _, _, _, _, rfl, lTR, cTRd⟩, kTR⟩
  have bTR := FTR0.binds (ps := ["_law_m", "_law_word"]) fun _ _ _ _ _ _ us hl => match us, hl with | [_, _], _ => rfl
  have gTR := PySem.W.mg_of X G aTR
  have ATR : DefA K mg "_law_tree_right" ["_law_m", "_law_word"] fTR _ := ⟨gTR, kTR, bTR⟩
  have FEQ0 := fun_mk (st := sEqualRight) lEQ cEQd kEQ
  have FEQ := FEQ0
  have bEQ := FEQ0.binds (ps := ["_law_m"]) fun _ _ _ _ _ _ us hl => match us, hl with | [_], _ => rfl
  have gEQ := PySem.W.mg_of X G aEQ
  have AEQ : DefA K mg "_law_equal_right" ["_law_m"] fEQ _ := ⟨gEQ, kEQ, bEQ⟩
  have FLI0 := fun_mk (st := sLimitsRight) lLI cLId kLI
  have FLI : FunC K "_law_limits_right" "_law_limits_right" sLimitsRight fLI _ cLI := ⟨⟨_, _, _, _, _, _, _, _, rfl, lLI, cLId⟩, kLI⟩
  have bLI := FLI0.binds (ps := []) fun _ _ _ _ _ _ us hl => match us, hl with | [], _ => rfl
  have gLI := PySem.W.mg_of X G aLI
  have ALI : DefA K mg "_law_limits_right" [] fLI _ := ⟨gLI, kLI, bLI⟩
  have FL0 := fun_mk (st := sLaw) lL cLd kL
  have FL : FunC K "law" "law" sLaw fa _ cL := ⟨⟨_, _, _, _, _, _, _, _, rfl, lL, cLd⟩, kL⟩
  have bL := FL0.binds (ps := ["_law_script"]) fun _ _ _ _ _ _ us hl => match us, hl with | [_], _ => rfl
  have gL := PySem.W.mg_of X G aL
  have AL : DefA K mg "law" ["_law_script"] fa _ := ⟨gL, kL, bL⟩
  have FIV : Fun K "__init__" "Var.__init__" sVarInit fIV _ := fun_mk (st := sVarInit) lIV cIVd kIV
  have bIV := FIV.binds (ps := ["self", "name"]) fun _ _ _ _ _ _ us hl => match us, hl with | [_, _], _ => rfl
  have FIW : Fun K "__init__" "Word.__init__" sWordInit fIW _ := fun_mk (st := sWordInit) lIW cIWd kIW
  have bIW := FIW.binds (ps := ["self", "name"]) fun _ _ _ _ _ _ us hl => match us, hl with | [_, _], _ => rfl
  have FIR : Fun K "__init__" "Rest.__init__" sRestInit fIR _ := fun_mk (st := sRestInit) lIR cIRd kIR
  have bIR := FIR.binds (ps := ["self", "name"]) fun _ _ _ _ _ _ us hl => match us, hl with | [_, _], _ => rfl
  have FTe : Fun K "__eq__" "Tree.__eq__" sTreeEq fTe _ := fun_mk (st := sTreeEq) lTe cTed kTe
  have bTe := FTe.binds (ps := ["self", "other"]) fun _ _ _ _ _ _ us hl => match us, hl with | [_, _], _ => rfl
  have FTl : Fun K "__len__" "Tree.__len__" sTreeLen fTl _ := fun_mk (st := sTreeLen) lTl cTld kTl
  have bTl := FTl.binds (ps := ["self"]) fun _ _ _ _ _ _ us hl => match us, hl with | [_], _ => rfl
  have FEp : Fun K "each_path" "Tree.each_path" sEachPath fEp _ := fun_mk (st := sEachPath) lEp cEpd kEp
  have bEp := FEp.binds (ps := ["self"]) fun _ _ _ _ _ _ us hl => match us, hl with | [_], _ => rfl
  have FIT : Fun K "__init__" "Tree.__init__" sTreeInit fIT _ := fun_mk (st := sTreeInit) lIT cITd kIT
  have FIL : Fun K "__init__" "Like.__init__" sLikeInit fIL _ := fun_mk (st := sLikeInit) lIL cILd kIL
  have none_of : ∀ {x : Str}, PySem.W.nsIn K mainGlobals x = some none → mg x = none := fun {x} z => PySem.W.mg_none_of X G z
  have TN : TxtN mg := ⟨none_of zI, none_of zS, none_of zL, none_of zA, ⟨_, PySem.W.mg_of X G yMx⟩, ⟨_, PySem.W.mg_of X G yLt⟩, ⟨_, PySem.W.mg_of X G ySg⟩⟩
  have hclE : PySem.W.clsIn K CI = some { name := nmE, bases := bsE, mro := .ref CI :: bmE, ns := NNE, qualname := qE, hasDict := true, slotNames := snE, subclasses := subE, abstract := abE, collection := colE, hasDel := false } := by
    unfold PySem.W.clsIn
    rw [xLE]
  have ECE : ErrC l.prog K mg CI fE cdaE ccE "part" "InvalidTree.__init__" sErrInit :=
    { ox := ⟨⟨nmE, qE, NNE, bsE, bmE, snE, subE, abE, colE, ddE, m0E, m1E, m2E, m3E, m5E, xLE, rvE⟩, esaE, eexE, etyE, ekpE⟩, fi := efiE, ti := etiE, fn := ⟨_, _, _, _, _, _, _, _, lEE⟩, cd := ecdE, cod := ⟨_, _, _, _, _, _, xcE, v2E, pfE⟩, cel := ⟨_, _, _, xccE⟩, mr := emrE,
      al := fun cd hc => by
        rw [hclE] at hc
        cases hc
        have e0 : (Value.ref CI :: bmE).dropWhile (fun x => x != Value.ref CI) = Value.ref CI :: bmE := by
          rw [List.dropWhile_cons, if_neg (by simp)]
        show PySem.W.alongIn K "__init__" (((Value.ref CI :: bmE).dropWhile (fun x => x != Value.ref CI)).drop 1) = _
        rw [e0]
        exact ealE
      sup := sup, opq := opq, ve := eveE, ei := eeiE, nf := enf0E, top := etop }
  have own : ∀ a ∈ (Cl5.mk CT CL CV CW CR).all, Own K a := fun a ha => by
    simp only [Cl5.all, List.mem_cons, List.not_mem_nil, or_false] at ha
    rcases ha with rfl | rfl | rfl | rfl | rfl
    · exact ⟨⟨qTpg, qThd, qTpo, qTsa⟩, qTha, ecg, etk, qTmo⟩
    · exact ⟨⟨qLpg, qLhd, qLpo, qLsa⟩, qLha, ecg, etk, qLmo⟩
    · exact ⟨⟨qVpg, qVhd, qVpo, qVsa⟩, qVha, ecg, etk, qVmo⟩
    · exact ⟨⟨qWpg, qWhd, qWpo, qWsa⟩, qWha, ecg, etk, qWmo⟩
    · exact ⟨⟨qRpg, qRhd, qRpo, qRsa⟩, qRha, ecg, etk, qRmo⟩
  have kitP : ∀ a ∈ (Cl5.mk CT CL CV CW CR).all, ∀ b ∈ (Cl5.mk CT CL CV CW CR).all, PySem.W.kitOne K (.ref a) (.ref b) = some (decide (a = b)) := fun a ha b hb => by
    have nd := ndC
    simp only [List.nodup_cons, List.mem_cons, List.not_mem_nil, or_false, not_or, not_false_eq_true, List.nodup_nil, and_true] at nd
    obtain ⟨⟨n01, n02, n03, n04⟩, ⟨n12, n13, n14⟩, ⟨n23, n24⟩, n34⟩ := nd
    simp only [Cl5.all, List.mem_cons, List.not_mem_nil, or_false] at ha hb
    rcases ha with rfl | rfl | rfl | rfl | rfl
    · rcases hb with h | h | h | h | h
      · rw [h, decide_eq_true rfl]; exact ktTT
      · rw [h, decide_eq_false n01]; exact ktTL
      · rw [h, decide_eq_false n02]; exact ktTV
      · rw [h, decide_eq_false n03]; exact ktTW
      · rw [h, decide_eq_false n04]; exact ktTR
    · rcases hb with h | h | h | h | h
      · rw [h, decide_eq_false (Ne.symm n01)]; exact ktLT
      · rw [h, decide_eq_true rfl]; exact ktLL
      · rw [h, decide_eq_false n12]; exact ktLV
      · rw [h, decide_eq_false n13]; exact ktLW
      · rw [h, decide_eq_false n14]; exact ktLR
    · rcases hb with h | h | h | h | h
      · rw [h, decide_eq_false (Ne.symm n02)]; exact ktVT
      · rw [h, decide_eq_false (Ne.symm n12)]; exact ktVL
      · rw [h, decide_eq_true rfl]; exact ktVV
      · rw [h, decide_eq_false n23]; exact ktVW
      · rw [h, decide_eq_false n24]; exact ktVR
    · rcases hb with h | h | h | h | h
      · rw [h, decide_eq_false (Ne.symm n03)]; exact ktWT
      · rw [h, decide_eq_false (Ne.symm n13)]; exact ktWL
      · rw [h, decide_eq_false (Ne.symm n23)]; exact ktWV
      · rw [h, decide_eq_true rfl]; exact ktWW
      · rw [h, decide_eq_false n34]; exact ktWR
    · rcases hb with h | h | h | h | h
      · rw [h, decide_eq_false (Ne.symm n04)]; exact ktRT
      · rw [h, decide_eq_false (Ne.symm n14)]; exact ktRL
      · rw [h, decide_eq_false (Ne.symm n24)]; exact ktRV
      · rw [h, decide_eq_false (Ne.symm n34)]; exact ktRW
      · rw [h, decide_eq_true rfl]; exact ktRR
  have stP : ∀ a ∈ (Cl5.mk CT CL CV CW CR).all, PySem.W.kitOne K (.ref a) (.type "str") = some false := fun a ha => by
    simp only [Cl5.all, List.mem_cons, List.not_mem_nil, or_false] at ha
    rcases ha with rfl | rfl | rfl | rfl | rfl
    · exact stT
    · exact stL
    · exact stV
    · exact stW
    · exact stR
  have tuP : ∀ a ∈ (Cl5.mk CT CL CV CW CR).all, PySem.W.kitOne K (.ref a) (.type "tuple") = some false := fun a ha => by
    simp only [Cl5.all, List.mem_cons, List.not_mem_nil, or_false] at ha
    rcases ha with rfl | rfl | rfl | rfl | rfl
    · exact tuT
    · exact tuL
    · exact tuV
    · exact tuW
    · exact tuR
  have bsP : ∀ a ∈ (Cl5.mk CT CL CV CW CR).all, PySem.W.kitOne K (.type "str") (.ref a) = some false := fun a ha => by
    simp only [Cl5.all, List.mem_cons, List.not_mem_nil, or_false] at ha
    rcases ha with rfl | rfl | rfl | rfl | rfl
    · exact bsT
    · exact bsL
    · exact bsV
    · exact bsW
    · exact bsR
  have btP : ∀ a ∈ (Cl5.mk CT CL CV CW CR).all, PySem.W.kitOne K (.type "tuple") (.ref a) = some false := fun a ha => by
    simp only [Cl5.all, List.mem_cons, List.not_mem_nil, or_false] at ha
    rcases ha with rfl | rfl | rfl | rfl | rfl
    · exact btT
    · exact btL
    · exact btV
    · exact btW
    · exact btR
  have T5 : Ty5 K ⟨CT, CL, CV, CW, CR⟩ := ⟨own, ndC, kitP, stP, tuP, bsP, btP⟩
  have N5 : Na5 K ⟨CT, CL, CV, CW, CR⟩ := ⟨fun a ha f hf => by
    simp only [Cl5.all, List.mem_cons, List.not_mem_nil, or_false] at ha
    simp only [List.mem_cons, List.not_mem_nil, or_false] at hf
    rcases ha with rfl | rfl | rfl | rfl | rfl
    · rcases hf with h | h | h | h | h | h | h <;> rw [h]
      · exact naT0
      · exact naT1
      · exact naT2
      · exact naT3
      · exact naT4
      · exact naT5
      · exact naT6
    · rcases hf with h | h | h | h | h | h | h <;> rw [h]
      · exact naL0
      · exact naL1
      · exact naL2
      · exact naL3
      · exact naL4
      · exact naL5
      · exact naL6
    · rcases hf with h | h | h | h | h | h | h <;> rw [h]
      · exact naV0
      · exact naV1
      · exact naV2
      · exact naV3
      · exact naV4
      · exact naV5
      · exact naV6
    · rcases hf with h | h | h | h | h | h | h <;> rw [h]
      · exact naW0
      · exact naW1
      · exact naW2
      · exact naW3
      · exact naW4
      · exact naW5
      · exact naW6
    · rcases hf with h | h | h | h | h | h | h <;> rw [h]
      · exact naR0
      · exact naR1
      · exact naR2
      · exact naR3
      · exact naR4
      · exact naR5
      · exact naR6⟩
  have ER : ErrF l.prog K mg CI := ⟨⟨_, _, _, ECE⟩, PySem.W.mg_of X G aCE_⟩
  have gT := PySem.W.mg_of X G aCT
  have gL_ := PySem.W.mg_of X G aCL
  have gV := PySem.W.mg_of X G aCV
  have gW := PySem.W.mg_of X G aCW
  have gR_ := PySem.W.mg_of X G aCR
  have gRg := none_of zR
  have gTu := none_of zT
  have gLe := none_of zL
  have TT : TxtT mg ⟨CT, CL, CV, CW, CR⟩ := ⟨none_of zI, none_of zS, gTu, gLe, none_of zA, ⟨_, PySem.W.mg_of X G yMt⟩, gT, gL_, gV, gW, gR_⟩
  have NT : NoT K ⟨CT, CL, CV, CW, CR⟩ := ⟨ot_non, ot_bl, ot_int, ot_lst, ot_dK, btT⟩
  have NFx : NF K ⟨CT, CL, CV, CW, CR⟩ := ⟨nf_T, nf_L, nf_V, nf_non, nf_int, nf_str, nf_tup, nf_lst, bsT⟩
  have CRT : ClX.CRead K CT mc := ⟨Trd, Tga⟩
  have CRL : ClX.CRead K CL mc := ⟨Lrd, Lga⟩
  have MT : Mk K CT fIT := ⟨qTmk, iIT, nIT, qTkp⟩
  have ML : Mk K CL fIL := ⟨qLmk, iIL, nIL, qLkp⟩
  have MV : Mk K CV fIV := ⟨qVmk, iIV, nIV, qVkp⟩
  have MW : Mk K CW fIW := ⟨qWmk, iIW, nIW, qWkp⟩
  have MR : Mk K CR fIR := ⟨qRmk, iIR, nIR, qRkp⟩
  have OE : OwnC K CT "__eq__" fTe := ⟨iTe, nTe, wTe⟩
  have NE : NeObj K CT := ⟨qTmo, Tne⟩
  have OL : OwnC K CT "__len__" fTl := ⟨iTl, nTl, wTl⟩
  have ME : Meth K CT "each_path" fEp := ⟨iEp, nEp, kEp⟩
  have ELE : ExcL K CI := ⟨by rw [hclE]; rfl, egaE, eggE, eexE, ehdE, ecaE, ecg, etk, emoE⟩
  have FA : TxtA K mg CI CS fFa _ := ⟨FFa, bFa, gFa, PySem.W.mg_of X G aCS, PySem.W.mg_of X G aCE_, none_of zI, ELE, enf0E, exmE, ekkE⟩
  have hd1 := PySem.W.codeHd_of_K X tTR
  have hd2 := PySem.W.codeHd_of_K X tLI
  have hd3 := PySem.W.codeHd_of_K X tL
  obtain ⟨un1, un2, un3⟩ := uni3 (qa := qTR) (qb := qLR) (qc := qLW) np1 np2 np3
  refine ⟨[(cTR, pTR), (cLI, pLI), (cL, pL)], PySem.W.fnOf "law" "law" (defArgs sLaw) (defBody sLaw) (defScope sLaw) .none kVL dcL pmL anL (.ref cL) ctL, spLaw K [(pTR, qTR), (pLI, qLR), (pL, qLW)], fun p hp => ?_, fun p hp => ?_, fun p hp => ?_, fun s v => .of_eq rfl, fun H a ns hl _ hT hS => ⟨a, ns, rfl, hS, hl, fun p hp => ?_, fun H' => rfl⟩, fun base X0 G0 hTB => ?_⟩
  · simp only [List.mem_cons, List.not_mem_nil, or_false] at hp
    rcases hp with z | z | z <;> rw [z]
    · exact h1T
    · exact h2T
    · exact h3T
  · simp only [List.mem_cons, List.not_mem_nil, or_false] at hp
    rcases hp with z | z | z <;> rw [z]
    · exact nTTR
    · exact nTLI
    · exact nTL
  · simp only [List.mem_cons, List.not_mem_nil, or_false] at hp
    rcases hp with z | z | z <;> rw [z]
    · exact hd1
    · exact hd2
    · exact hd3
  · simp only [List.mem_cons, List.not_mem_nil, or_false] at hp
    rcases hp with z | z | z <;> rw [z]
    · exact TabS.nil (hT (cTR, pTR) (by simp))
    · exact TabS.nil (hT (cLI, pLI) (by simp))
    · exact TabS.nil (hT (cL, pL) (by simp))
  · have TB1 := hTB (cTR, pTR) (by simp)
    have TB2 := hTB (cLI, pLI) (by simp)
    have TB3 := hTB (cL, pL) (by simp)
    have GN := ok_name (P := l.prog) (w := w) (base := base) FN TN
    have GNd := ok_isNode (P := l.prog) (w := w) (base := base) FNd TT T5
    have GTP := ok_treePart (P := l.prog) (w := w) (base := base) FTP TT T5
    have GLP := ok_likePart (P := l.prog) (w := w) (base := base) FLP TT T5
    have GQ := ok_quoted (P := l.prog) (w := w) (mg := mg) (base := base) FQ
    have GPT := ok_partText (P := l.prog) (w := w) (base := base) FPT TT T5 N5 GQ gQ kQ bQ
    have GNX := ok_nodeText (P := l.prog) (w := w) (base := base) FNX GPT gPT kPT bPT
    have GMS := ok_measures (P := l.prog) (w := w) (mg := mg) (base := base) FMS T5 N5
    have GNA := ok_nodes (P := l.prog) (w := w) (base := base) FNA TT T5 GNd gNd kNd bNd
    have TI : TxtI l.prog w K mg base ⟨CT, CL, CV, CW, CR⟩ CI fN fTP fNA fMS fNX _ _ _ _ _ := ⟨ER, none_of zE, gT, ⟨mc, _, _, CRT, ⟨mxN, ⟨_, rfl⟩⟩, ⟨mxL, ⟨_, rfl⟩⟩⟩, GN, gN, kN, bN, GTP, gTP, kTP, bTP, GNA, gNA, kNA, bNA, GMS, gMS, kMS, bMS, GNX, gNX, kNX, bNX⟩
    have GIT := treeInit_fnR (P := l.prog) (w := w) (base := base) FIT TI T5 N5
    have GIK := treeInit_kw (P := l.prog) (w := w) (base := base) FIT TI T5 N5
    have TLk : K3.TxtL l.prog w K mg base ⟨CT, CL, CV, CW, CR⟩ fN fLP fNA fMS fNX _ _ _ _ _ := ⟨none_of zE, gL_, ⟨mc, _, _, CRL, ⟨lxS, ⟨_, rfl⟩⟩, ⟨lxL, ⟨_, rfl⟩⟩⟩, GN, AN, GLP, ALP, GNA, ANA, GMS, AMS, GNX, ANX⟩
    have GIL := likeInit_fnR (P := l.prog) (w := w) (base := base) FIL TLk T5 N5
    have GIV := ok_varInit (P := l.prog) (w := w) (base := base) FIV GN AN T5 N5
    have GIW := ok_wordInit (P := l.prog) (w := w) (base := base) FIW GN AN T5 N5
    have GIR := ok_restInit (P := l.prog) (w := w) (base := base) FIR GN AN T5 N5
    have GTe := ok_treeEq (P := l.prog) (w := w) (base := base) FTe TT T5 N5
    have GTl := ok_treeLen (P := l.prog) (w := w) (base := base) FTl gRg gLe T5 N5
    have GEp := gfn_each (P := l.prog) (w := w) (base := base) FEp (none_of zE) T5 N5
    have GDr := ok_draw (P := l.prog) (w := w) (base := base) FDr FM bM gM gLe
    have GBg := ok_begun (P := l.prog) (w := w) (base := base) FBg FFo bFo gFo gRg (none_of zE)
    have GBe := ok_below (P := l.prog) (w := w) (base := base) FBe (none_of zI) (none_of zLi) (none_of zS)
    have GD2 := ok_doubled (P := l.prog) (w := w) (base := base) FD2 gRg
    have GIN := ok_lName (P := l.prog) (w := w) (base := base) FIN TN
    have GNw := ok_new (P := l.prog) (w := w) (base := base) FNw gT gLe MT GIT
    have GSz := ok_size (P := l.prog) (w := w) (base := base) FSz gSz kSz bSz GBe gBe kBe bBe 10
    have GSa := ok_said (P := l.prog) (w := w) (base := base) FSa gSa kSa bSa (none_of zI) (none_of zLi) (none_of zS) 10
    have bo := ok_both (P := l.prog) (w := w) (base := base) FPi FNP GDr ADr APi ANP GNw ANw gRg gTu
    have GP1 := (bo 1 (by decide)).1
    have GP2 := (bo 2 (by decide)).1
    have GP3 := ok_piece3 (P := l.prog) (w := w) (base := base) FPi FNP GDr ADr APi ANP GNw ANw gRg gTu
    have GNP1 := (bo 1 (by decide)).2
    have GPR : FnOk l.prog w K mg base L2.CX0 13 fPi _ ["_law_m", "_law_deep"] (spPieceR ⟨CT, CL, CV, CW, CR⟩) := fn_ex (I := Fin 3) (sp := fun j => spPiece ⟨CT, CL, CV, CW, CR⟩ (1 + j.val)) fun j => by
      match j with
      | ⟨0, _⟩ => exact GP1.mono (by decide)
      | ⟨1, _⟩ => exact GP2.mono (by decide)
      | ⟨2, _⟩ => exact GP3
    have TRd : TxtRd l.prog w K mg base ⟨CT, CL, CV, CW, CR⟩ fSa fBe fSz fTl fEp _ _ _ _ := ⟨TT, T5, N5, GSa, ASa, GBe, ABe, GSz, ASz, OL, raw_of GTl bTl, ME, GEp, bEp, none_of zLi⟩
    have GRR := ok_readRight (P := l.prog) (w := w) (base := base) FRR TRd
    have TTR : TxtTR l.prog w K mg base ⟨CT, CL, CV, CW, CR⟩ CI ⟨fDr, fPi, fIT, fIL, fIV, fIW, fIR, fNw, fSz, fD2, fIN, fRR, _, _, _, _, _, _, _, _, _, _⟩ :=
      ⟨TT, T5, N5, NT, GDr, ADr, GPR, APi, MT, GIT, gT, ML, GIL, gL_, MV, GIV, bIV, gV, MW, GIW, bIW, gW, MR, GIR, bIR, gR_, GNw, ANw, GSz, ASz, GD2, AD2, GIN, AIN, GRR, ARR⟩
    have GTR := ok_treeRight (P := l.prog) (w := w) (base := base) (T := [(pTR, qTR), (pLI, qLR), (pL, qLW)]) FTR TTR FA TB1 (by simp) un1 gRg gTu gLe
    have TER : TxtER l.prog w K mg base ⟨CT, CL, CV, CW, CR⟩ fTe fNP _ := ⟨NFx, OE, NE, raw_of GTe bTe, GNP1, ANP⟩
    have GEQ := ok_equalRight (P := l.prog) (w := w) (base := base) (T := [(pTR, qTR), (pLI, qLR), (pL, qLW)]) FEQ TTR TER gRg (none_of zRp)
    have TLR : TxtLR l.prog w K mg base ⟨CT, CL, CV, CW, CR⟩ fTl := ⟨OL, raw_of GTl bTl⟩
    have TLE : TxtLE l.prog w K mg base ⟨CT, CL, CV, CW, CR⟩ CI fIT fTe := ⟨⟨mc, _, _, CRT, ⟨mxN, ⟨_, rfl⟩⟩, ⟨mxL, ⟨_, rfl⟩⟩⟩, GIK, NFx, OE, raw_of GTe bTe⟩
    have GLI := ok_limitsRight (P := l.prog) (w := w) (base := base) (T := [(pTR, qTR), (pLI, qLR), (pL, qLW)]) FLI TTR TLR TLE FA TB2 (by simp) un2 gRg
    have TL : TxtLw l.prog w K mg base ⟨CT, CL, CV, CW, CR⟩ CI fIT fBg fTR fEQ fLI _ _ _ _ [(pTR, qTR), (pLI, qLR), (pL, qLW)] := ⟨GBg, ABg, GTR, ATR, GEQ, AEQ, GLI, ALI, GIK⟩
    exact ok_law (T := [(pTR, qTR), (pLI, qLR), (pL, qLW)]) FL TTR TL FA TB3 (by simp) un3 gRg
end K3

open PySem PySem.W PyProof.Rows
set_option maxRecDepth 100000 in
set_option maxHeartbeats 0 in
theorem PySem.Challenge.cw_ruleengine_k03_trees_checked_holds : PySem.Challenge.rw_ruleengine_k03_trees_checked.Holds := by
  w_on; o_law; k_head; (case hw => w_witness2)
  k_fill
  refine EG.walk_G (l := PySem.Challenge.rw_ruleengine_k03_trees_checked) (n := 63) (k := 15) (x := "_law_script") (CX := fun _ => L2.CX0) rfl (by decide) rfl ⟨rfl, by decide, by decide⟩ (fun w h Y => PySem.W.km_in_of Y) ?F (fun _ _ _ _ _ z => z)
  case F =>
    intro w mg fa h Y KX G hmg
    have t1 : h.get? 442 = some (tabObj #[]) := PySem.W.km_tabs_of Y 442 (by decide)
    have t2 : h.get? 452 = some (tabObj #[]) := PySem.W.km_tabs_of Y 452 (by decide)
    have t3 : h.get? 459 = some (tabObj #[]) := PySem.W.km_tabs_of Y 459 (by decide)
    refine' K3.all_mk (P := PySem.Challenge.pw_ruleengine_k03_trees_checked) (pTR := 442) (pLI := 452) (pL := 459) (mc := .type "type") rfl KX G t1 t2 t3 hmg ?aN ?lN ?cNd ?kN ?aNd ?lNd ?cNdd ?kNd ?aTP ?lTP ?cTPd ?kTP ?aLP ?lLP ?cLPd ?kLP ?aNA ?lNA ?cNAd ?kNA ?aMS ?lMS ?cMSd ?kMS ?aNX ?lNX ?cNXd ?kNX ?aPT ?lPT ?cPTd ?kPT ?aQ ?lQ ?cQd ?kQ ?aM ?lM ?cMd ?kM ?aFo ?lFo ?cFod ?kFo ?aDr ?lDr ?cDrd ?kDr ?aBg ?lBg ?cBgd ?kBg ?aBe ?lBe ?cBed ?kBe ?aD2 ?lD2 ?cD2d ?kD2 ?aIN ?lIN ?cINd ?kIN ?aFa ?lFa ?cFad ?kFa ?aNw ?lNw ?cNwd ?kNw ?aPi ?lPi ?cPid ?kPi ?aNP ?lNP ?cNPd ?kNP ?aSz ?lSz ?cSzd ?kSz ?aSa ?lSa ?cSad ?kSa ?aRR ?lRR ?cRRd ?kRR ?aTR ?lTR ?cTRd ?kTR ?aEQ ?lEQ ?cEQd ?kEQ ?aLI ?lLI ?cLId ?kLI ?aL ?lL ?cLd ?kL ?aCT ?qTpg ?qThd ?qTpo ?qTsa ?qTha ?qTmo ?qTmk ?qTkp ?iIT ?nIT ?lIT ?cITd ?kIT ?naT0 ?naT1 ?naT2 ?naT3 ?naT4 ?naT5 ?naT6 ?stT ?tuT ?bsT ?btT ?ktTT ?ktTL ?ktTV ?ktTW ?ktTR ?aCL ?qLpg ?qLhd ?qLpo ?qLsa ?qLha ?qLmo ?qLmk ?qLkp ?iIL ?nIL ?lIL ?cILd ?kIL ?naL0 ?naL1 ?naL2 ?naL3 ?naL4 ?naL5 ?naL6 ?stL ?tuL ?bsL ?btL ?ktLT ?ktLL ?ktLV ?ktLW ?ktLR ?aCV ?qVpg ?qVhd ?qVpo ?qVsa ?qVha ?qVmo ?qVmk ?qVkp ?iIV ?nIV ?lIV ?cIVd ?kIV ?naV0 ?naV1 ?naV2 ?naV3 ?naV4 ?naV5 ?naV6 ?stV ?tuV ?bsV ?btV ?ktVT ?ktVL ?ktVV ?ktVW ?ktVR ?aCW ?qWpg ?qWhd ?qWpo ?qWsa ?qWha ?qWmo ?qWmk ?qWkp ?iIW ?nIW ?lIW ?cIWd ?kIW ?naW0 ?naW1 ?naW2 ?naW3 ?naW4 ?naW5 ?naW6 ?stW ?tuW ?bsW ?btW ?ktWT ?ktWL ?ktWV ?ktWW ?ktWR ?aCR ?qRpg ?qRhd ?qRpo ?qRsa ?qRha ?qRmo ?qRmk ?qRkp ?iIR ?nIR ?lIR ?cIRd ?kIR ?naR0 ?naR1 ?naR2 ?naR3 ?naR4 ?naR5 ?naR6 ?stR ?tuR ?bsR ?btR ?ktRT ?ktRL ?ktRV ?ktRW ?ktRR ?ndC ?ot_non ?ot_bl ?ot_int ?ot_lst ?ot_dK ?nf_T ?nf_L ?nf_V ?nf_non ?nf_int ?nf_str ?nf_tup ?nf_lst ?Trd ?Tga ?Lrd ?Lga ?mxN ?mxL ?lxS ?lxL ?iTe ?nTe ?wTe ?lTe ?cTed ?kTe ?iTl ?nTl ?wTl ?lTl ?cTld ?kTl ?iEp ?nEp ?wEp ?lEp ?cEpd ?kEp ?Tne ?aCS ?aCE_ ?xLE ?rvE ?esaE ?eexE ?etyE ?ekpE ?efiE ?etiE ?lEE ?ecdE ?xcE ?v2E ?pfE ?xccE ?emrE ?ealE ?eveE ?eeiE ?enf0E ?egaE ?eggE ?ehdE ?ecaE ?emoE ?exmE ?ekkE ?sup ?opq ?etop ?ecg ?etk ?zI ?zS ?zL ?zA ?zT ?zR ?zE ?zLi ?zRp ?yMx ?yLt ?ySg ?yMt ?tTR ?nTTR ?tLI ?nTLI ?tL ?nTL ?np1 ?np2 ?np3
    (case aN => k_is)
    (case lN => k_is)
    (case cNd => k_is)
    (case kN => k_is)
    (case aNd => k_is)
    (case lNd => k_is)
    (case cNdd => k_is)
    (case kNd => k_is)
    (case aTP => k_is)
    (case lTP => k_is)
    (case cTPd => k_is)
    (case kTP => k_is)
    (case aLP => k_is)
    (case lLP => k_is)
    (case cLPd => k_is)
    (case kLP => k_is)
    (case aNA => k_is)
    (case lNA => k_is)
    (case cNAd => k_is)
    (case kNA => k_is)
    (case aMS => k_is)
    (case lMS => k_is)
    (case cMSd => k_is)
    (case kMS => k_is)
    (case aNX => k_is)
    (case lNX => k_is)
    (case cNXd => k_is)
    (case kNX => k_is)
    (case aPT => k_is)
    (case lPT => k_is)
    (case cPTd => k_is)
    (case kPT => k_is)
    (case aQ => k_is)
    (case lQ => k_is)
    (case cQd => k_is)
    (case kQ => k_is)
    (case aM => k_is)
    (case lM => k_is)
    (case cMd => k_is)
    (case kM => k_is)
    (case aFo => k_is)
    (case lFo => k_is)
    (case cFod => k_is)
    (case kFo => k_is)
    (case aDr => k_is)
    (case lDr => k_is)
    (case cDrd => k_is)
    (case kDr => k_is)
    (case aBg => k_is)
    (case lBg => k_is)
    (case cBgd => k_is)
    (case kBg => k_is)
    (case aBe => k_is)
    (case lBe => k_is)
    (case cBed => k_is)
    (case kBe => k_is)
    (case aD2 => k_is)
    (case lD2 => k_is)
    (case cD2d => k_is)
    (case kD2 => k_is)
    (case aIN => k_is)
    (case lIN => k_is)
    (case cINd => k_is)
    (case kIN => k_is)
    (case aFa => k_is)
    (case lFa => k_is)
    (case cFad => k_is)
    (case kFa => k_is)
    (case aNw => k_is)
    (case lNw => k_is)
    (case cNwd => k_is)
    (case kNw => k_is)
    (case aPi => k_is)
    (case lPi => k_is)
    (case cPid => k_is)
    (case kPi => k_is)
    (case aNP => k_is)
    (case lNP => k_is)
    (case cNPd => k_is)
    (case kNP => k_is)
    (case aSz => k_is)
    (case lSz => k_is)
    (case cSzd => k_is)
    (case kSz => k_is)
    (case aSa => k_is)
    (case lSa => k_is)
    (case cSad => k_is)
    (case kSa => k_is)
    (case aRR => k_is)
    (case lRR => k_is)
    (case cRRd => k_is)
    (case kRR => k_is)
    (case aTR => k_is)
    (case lTR => k_is)
    (case cTRd => k_is)
    (case kTR => k_is)
    (case aEQ => k_is)
    (case lEQ => k_is)
    (case cEQd => k_is)
    (case kEQ => k_is)
    (case aLI => k_is)
    (case lLI => k_is)
    (case cLId => k_is)
    (case kLI => k_is)
    (case aL => k_is)
    (case lL => k_is)
    (case cLd => k_is)
    (case kL => k_is)
    (case aCT => k_is)
    (case qTpg => k_is)
    (case qThd => k_is)
    (case qTpo => k_is)
    (case qTsa => k_is)
    (case qTha => k_is)
    (case qTmo => k_is)
    (case qTmk => k_is)
    (case qTkp => k_is)
    (case iIT => k_is)
    (case nIT => k_is)
    (case lIT => k_is)
    (case cITd => k_is)
    (case kIT => k_is)
    (case naT0 => k_is)
    (case naT1 => k_is)
    (case naT2 => k_is)
    (case naT3 => k_is)
    (case naT4 => k_is)
    (case naT5 => k_is)
    (case naT6 => k_is)
    (case stT => first | kernel_rfl | rfl)
    (case tuT => first | kernel_rfl | rfl)
    (case bsT => first | kernel_rfl | rfl)
    (case btT => first | kernel_rfl | rfl)
    (case ktTT => first | kernel_rfl | rfl)
    (case ktTL => first | kernel_rfl | rfl)
    (case ktTV => first | kernel_rfl | rfl)
    (case ktTW => first | kernel_rfl | rfl)
    (case ktTR => first | kernel_rfl | rfl)
    (case aCL => k_is)
    (case qLpg => k_is)
    (case qLhd => k_is)
    (case qLpo => k_is)
    (case qLsa => k_is)
    (case qLha => k_is)
    (case qLmo => k_is)
    (case qLmk => k_is)
    (case qLkp => k_is)
    (case iIL => k_is)
    (case nIL => k_is)
    (case lIL => k_is)
    (case cILd => k_is)
    (case kIL => k_is)
    (case naL0 => k_is)
    (case naL1 => k_is)
    (case naL2 => k_is)
    (case naL3 => k_is)
    (case naL4 => k_is)
    (case naL5 => k_is)
    (case naL6 => k_is)
    (case stL => first | kernel_rfl | rfl)
    (case tuL => first | kernel_rfl | rfl)
    (case bsL => first | kernel_rfl | rfl)
    (case btL => first | kernel_rfl | rfl)
    (case ktLT => first | kernel_rfl | rfl)
    (case ktLL => first | kernel_rfl | rfl)
    (case ktLV => first | kernel_rfl | rfl)
    (case ktLW => first | kernel_rfl | rfl)
    (case ktLR => first | kernel_rfl | rfl)
    (case aCV => k_is)
    (case qVpg => k_is)
    (case qVhd => k_is)
    (case qVpo => k_is)
    (case qVsa => k_is)
    (case qVha => k_is)
    (case qVmo => k_is)
    (case qVmk => k_is)
    (case qVkp => k_is)
    (case iIV => k_is)
    (case nIV => k_is)
    (case lIV => k_is)
    (case cIVd => k_is)
    (case kIV => k_is)
    (case naV0 => k_is)
    (case naV1 => k_is)
    (case naV2 => k_is)
    (case naV3 => k_is)
    (case naV4 => k_is)
    (case naV5 => k_is)
    (case naV6 => k_is)
    (case stV => first | kernel_rfl | rfl)
    (case tuV => first | kernel_rfl | rfl)
    (case bsV => first | kernel_rfl | rfl)
    (case btV => first | kernel_rfl | rfl)
    (case ktVT => first | kernel_rfl | rfl)
    (case ktVL => first | kernel_rfl | rfl)
    (case ktVV => first | kernel_rfl | rfl)
    (case ktVW => first | kernel_rfl | rfl)
    (case ktVR => first | kernel_rfl | rfl)
    (case aCW => k_is)
    (case qWpg => k_is)
    (case qWhd => k_is)
    (case qWpo => k_is)
    (case qWsa => k_is)
    (case qWha => k_is)
    (case qWmo => k_is)
    (case qWmk => k_is)
    (case qWkp => k_is)
    (case iIW => k_is)
    (case nIW => k_is)
    (case lIW => k_is)
    (case cIWd => k_is)
    (case kIW => k_is)
    (case naW0 => k_is)
    (case naW1 => k_is)
    (case naW2 => k_is)
    (case naW3 => k_is)
    (case naW4 => k_is)
    (case naW5 => k_is)
    (case naW6 => k_is)
    (case stW => first | kernel_rfl | rfl)
    (case tuW => first | kernel_rfl | rfl)
    (case bsW => first | kernel_rfl | rfl)
    (case btW => first | kernel_rfl | rfl)
    (case ktWT => first | kernel_rfl | rfl)
    (case ktWL => first | kernel_rfl | rfl)
    (case ktWV => first | kernel_rfl | rfl)
    (case ktWW => first | kernel_rfl | rfl)
    (case ktWR => first | kernel_rfl | rfl)
    (case aCR => k_is)
    (case qRpg => k_is)
    (case qRhd => k_is)
    (case qRpo => k_is)
    (case qRsa => k_is)
    (case qRha => k_is)
    (case qRmo => k_is)
    (case qRmk => k_is)
    (case qRkp => k_is)
    (case iIR => k_is)
    (case nIR => k_is)
    (case lIR => k_is)
    (case cIRd => k_is)
    (case kIR => k_is)
    (case naR0 => k_is)
    (case naR1 => k_is)
    (case naR2 => k_is)
    (case naR3 => k_is)
    (case naR4 => k_is)
    (case naR5 => k_is)
    (case naR6 => k_is)
    (case stR => first | kernel_rfl | rfl)
    (case tuR => first | kernel_rfl | rfl)
    (case bsR => first | kernel_rfl | rfl)
    (case btR => first | kernel_rfl | rfl)
    (case ktRT => first | kernel_rfl | rfl)
    (case ktRL => first | kernel_rfl | rfl)
    (case ktRV => first | kernel_rfl | rfl)
    (case ktRW => first | kernel_rfl | rfl)
    (case ktRR => first | kernel_rfl | rfl)
    (case ndC => decide +kernel)
    (case ot_non => first | kernel_rfl | rfl)
    (case ot_bl => first | kernel_rfl | rfl)
    (case ot_int => first | kernel_rfl | rfl)
    (case ot_lst => first | kernel_rfl | rfl)
    (case ot_dK => first | kernel_rfl | rfl)
    (case nf_T => first | kernel_rfl | rfl)
    (case nf_L => first | kernel_rfl | rfl)
    (case nf_V => first | kernel_rfl | rfl)
    (case nf_non => first | kernel_rfl | rfl)
    (case nf_int => first | kernel_rfl | rfl)
    (case nf_str => first | kernel_rfl | rfl)
    (case nf_tup => first | kernel_rfl | rfl)
    (case nf_lst => first | kernel_rfl | rfl)
    (case Trd => k_is)
    (case Tga => k_is)
    (case Lrd => k_is)
    (case Lga => k_is)
    (case mxN => k_is)
    (case mxL => k_is)
    (case lxS => k_is)
    (case lxL => k_is)
    (case iTe => k_is)
    (case nTe => k_is)
    (case wTe => k_is)
    (case lTe => k_is)
    (case cTed => k_is)
    (case kTe => k_is)
    (case iTl => k_is)
    (case nTl => k_is)
    (case wTl => k_is)
    (case lTl => k_is)
    (case cTld => k_is)
    (case kTl => k_is)
    (case iEp => k_is)
    (case nEp => k_is)
    (case wEp => k_is)
    (case lEp => k_is)
    (case cEpd => k_is)
    (case kEp => k_is)
    (case Tne => k_is)
    (case aCS => k_is)
    (case aCE_ => k_is)
    (case xLE => k_is)
    (case rvE => decide +kernel)
    (case esaE => k_is)
    (case eexE => k_is)
    (case etyE => k_is)
    (case ekpE => k_is)
    (case efiE => k_is)
    (case etiE => k_is)
    (case lEE => k_is)
    (case ecdE => k_is)
    (case xcE => k_is)
    (case v2E => rfl)
    (case pfE => decide +kernel)
    (case xccE => k_is)
    (case emrE => k_is)
    (case ealE => first | kernel_rfl | rfl)
    (case eveE => k_is)
    (case eeiE => first | kernel_rfl | rfl)
    (case enf0E => k_is)
    (case egaE => k_is)
    (case eggE => k_is)
    (case ehdE => k_is)
    (case ecaE => k_is)
    (case emoE => k_is)
    (case exmE => first | kernel_rfl | rfl)
    (case ekkE => first | kernel_rfl | rfl)
    (case sup => k_is)
    (case opq => k_is)
    (case etop => decide +kernel)
    (case ecg => k_is)
    (case etk => k_is)
    (case zI => k_is)
    (case zS => k_is)
    (case zL => k_is)
    (case zA => k_is)
    (case zT => k_is)
    (case zR => k_is)
    (case zE => k_is)
    (case zLi => k_is)
    (case zRp => k_is)
    (case yMx => k_is)
    (case yLt => k_is)
    (case ySg => k_is)
    (case yMt => k_is)
    (case tTR => first | kernel_rfl | rfl)
    (case nTTR => rfl)
    (case tLI => first | kernel_rfl | rfl)
    (case nTLI => rfl)
    (case tL => first | kernel_rfl | rfl)
    (case nTL => rfl)
    (case np1 => decide +kernel)
    (case np2 => decide +kernel)
    (case np3 => decide +kernel)
