import PyProof.Rows.All
import Wide.All
import OpenK.AllK
import Wide.FinOn
import HandS.ForMost
import HandS.ForExc
import HandS.Walk
import HandS.Iter
import PyProof.EnumMake
import PyProof.Draws
import HandS.Wide
import HandS.IsInst
import HandS.Text
import HandS.ExcInit
import HandS.TryOnly
import KE.KExcSuper
import HandS.ExcValue
import HandS.ExcField
import HandS.ExcIs
import KE.KExcIs
import HandS.Lambda
import HandS.ClsMeth
import HandS.ListItems
import PyProof.P3Eq
import HandS.EndTab
import HandS.ReplaceLit
import HandS.ReplaceDef
import HandS.FStr
import HandS.Star
import KE.KParD
import HandS.Sort
import PyProof.InstEq
import PyProof.NeKinds
import OpenK.KOps
import HandS.Zip
import KE.GoesZip
import KE.GoesMore
import KE.GoesEnum
import KE.KDictZip
import KE.KItemsList
import PyProof.ListNew
import HandS.Rev
import HandS.RevRange
import PyProof.ReprRoads
import HandS.TupMul
import KE.KNestM
import PySem.Challenge.RW_ruleengine_k06_parts_checked
set_option Elab.async false
set_option maxRecDepth 100000
set_option maxHeartbeats 4000000
namespace E0
open PySem PySem.Spec PyProof.Rows L2
open AutoSeq1 (wpAny_loadPart')
/-! ### enumerate of a tuple -/
theorem enum_newT (l : Addr) (items : Array Value) (n : Nat) (dct : Option Addr) (sl : Array (Option Value)) :
    Meets (Builtin.«enumerate.__new__» ⟨[.type "enumerate", .ref l], []⟩) (fun _ R s => s.heap.get? l = some { cls := .type "tuple", dict := dct, data := .seq items n, slots := sl } ∧
      R (.ok (.ret (.ref (s.heap.push { cls := .type "tuple_iterator", data := .fields #[.ref l, .int 0 0] }).objs.size)))
        { s with heap := (s.heap.push { cls := .type "tuple_iterator", data := .fields #[.ref l, .int 0 0] }).push { cls := .type "enumerate", data := .fields #[.none, .bool false, .ref s.heap.objs.size, rawInt 0, .none, .none] } }) :=
  .of_wp fun prog w A R s h => by
    obtain ⟨hp, g, d, tk, os⟩ := s
    obtain ⟨hl, h⟩ := h
    have hs := sub_enumerate
    have hT : Heap.IsTuple (Shared.heap ⟨hp, g, d, tk, os⟩) l items := ⟨_, hl, rfl, n, rfl⟩
    wp_walk using wpAny_loadPart' hl
    refine wpAny_stack_any fun st => wpAny_pure ?_
    split
    · rename_i c _ _ _ _ _
      cases (c == Value.type "enumerate")
      · wp_walk using wpAny_loadPart' hl, wpAny_pyIter_tuple hT
        exact ⟨_, rfl, h⟩
      · wp_walk using wpAny_loadPart' hl, wpAny_pyIter_tuple hT
        exact ⟨_, rfl, h⟩
    · wp_walk using wpAny_loadPart' hl, wpAny_pyIter_tuple hT
      exact ⟨_, rfl, h⟩
section
variable {prog : Program} {w : World} {A : Around} {E : Value → Shared → Prop} {s : Shared}
theorem call_enumT {l : Addr} {items : Array Value} {Q : Value → Shared → Prop} (hL : s.heap.IsTuple l items)
    (h : ∀ h', IsEnum h' (s.heap.objs.size + 1) s.heap.objs.size 0 .none → h'.IsTupleIter s.heap.objs.size l 0 → h'.objs.size = s.heap.objs.size + 2 → (∀ b o, s.heap.get? b = some o → h'.get? b = some o) → Q (.ref (s.heap.objs.size + 1)) { s with heap := h' }) :
    wpAny (model prog w) A (call (.type "enumerate") [.ref l]) Q E s := by
  obtain ⟨⟨c, dct, dt, sl⟩, hl, hc, n, hd⟩ := hL
  have hc' : c = .type "tuple" := hc
  have hd' : dt = .seq items n := hd
  subst hc' hd'
  refine callType_new F.called_enumerate (by decide) (F.typeCall_enumerate_1 _) (F.newCall_enumerate_1 _) (fun obj => F.args_object_init_2 obj _) F.entry_enumerate_new (enum_newT l items n dct sl) ⟨hl, ?_⟩
  have hz : (s.heap.push { cls := .type "tuple_iterator", data := .fields #[.ref l, .int 0 0] }).objs.size = s.heap.objs.size + 1 := Heap.size_push ..
  show _ ∧ _
  rw [hz]
  have he : IsEnum ((s.heap.push { cls := .type "tuple_iterator", data := .fields #[.ref l, .int 0 0] }).push
      { cls := .type "enumerate", data := .fields #[.none, .bool false, .ref s.heap.objs.size, rawInt 0, .none, .none] }) (s.heap.objs.size + 1) s.heap.objs.size 0 .none := by
    have e := Heap.get?_push_size (s.heap.push { cls := .type "tuple_iterator", data := .fields #[.ref l, .int 0 0] }) (o := { cls := .type "enumerate", data := .fields #[.none, .bool false, .ref s.heap.objs.size, rawInt 0, .none, .none] }) rfl
    rw [hz] at e
    exact e
  exact ⟨⟨_, he, rfl⟩, h _ he ⟨_, Heap.get?_push_of_some _ (Heap.get?_push_size _ rfl), rfl, rfl⟩ (by rw [Heap.size_push, hz]) fun b o x => Heap.get?_push_of_some _ (Heap.get?_push_of_some _ x)⟩
theorem next_tup {it t : Addr} {i : Nat} {items : Array Value} {x : Value} {Q : Value → Shared → Prop} (hit : s.heap.IsTupleIter it t i) (ht : s.heap.IsTuple t items) (hx : items[i]? = some x)
    (hQ : ∀ h', h'.IsTupleIter it t (i + 1) → Heap.SameBut it s.heap h' → Q x { s with heap := h' }) : wpAny (model prog w) A (Builtin.SmallTypes.nextOf (.ref it)) Q E s := by
  obtain ⟨o, ho, hc, hd⟩ := id hit
  obtain ⟨ol, hol, _, nl, hdl⟩ := ht
  unfold Builtin.SmallTypes.nextOf
  refine wpAny_bind (wpAny_callSpecial?_slot (name := Str.ofString "__next__") hit.typeIs F.slot_tuple_iterator_next (wpAny_call_entry F.slot_tuple_iterator_next hit.typeIs F.entry_tuple_iterator_next ?_ (F.args_tuple_iterator_next_1 _)))
  show wpAny _ _ (field (.ref it) 0 >>= _) _ _ s
  refine wpAny_bind (wpAny_field ho hd (x := .ref t) rfl ?_)
  show wpAny _ _ (if (Value.ref t == Value.none) = true then _ else _) _ _ s
  rw [if_neg (show ¬ ((Value.ref t == Value.none) = true) from Bool.false_ne_true)]
  show wpAny _ _ (field (.ref it) 1 >>= _) _ _ s
  refine wpAny_bind (wpAny_field ho hd (x := .int i 0) rfl ?_)
  show wpAny _ _ (seqItems? (.ref t) >>= _) _ _ s
  refine wpAny_bind (wpAny_seqItems hol hdl ?_)
  simp only [Int.toNat_natCast, hx]
  refine wpAny_bind (wpAny_setField ho hd (by simp) (wpAny_pure ⟨x, rfl, wpAny_pure (hQ _ ?_ (Heap.SameBut.update ..))⟩))
  exact ⟨_, Heap.get?_update_self _ ho (Obj.isFreed_of_fields (Obj.data_mapFields hd _)), (Obj.cls_mapFields ..).trans hc, by rw [Obj.data_mapFields hd]; simp [rawInt]⟩
theorem next_tup_end {it t : Addr} {i : Nat} {items : Array Value} {Q : Value → Shared → Prop} (hh : A.handled = none) (hit : s.heap.IsTupleIter it t i) (ht : s.heap.IsTuple t items) (hx : items[i]? = none)
    (hE : ∀ h' e, Heap.ExtBut it s.heap h' → (∃ o, h'.get? e = some o ∧ o.cls = .type "StopIteration") → E (.ref e) { s with heap := h' }) : wpAny (model prog w) A (Builtin.SmallTypes.nextOf (.ref it)) Q E s := by
  obtain ⟨o, ho, hc, hd⟩ := id hit
  obtain ⟨ol, hol, _, nl, hdl⟩ := ht
  unfold Builtin.SmallTypes.nextOf
  refine wpAny_bind (wpAny_callSpecial?_slot (name := Str.ofString "__next__") hit.typeIs F.slot_tuple_iterator_next (wpAny_call_entry F.slot_tuple_iterator_next hit.typeIs F.entry_tuple_iterator_next ?_ (F.args_tuple_iterator_next_1 _)))
  show wpAny _ _ (field (.ref it) 0 >>= _) _ _ s
  refine wpAny_bind (wpAny_field ho hd (x := .ref t) rfl ?_)
  show wpAny _ _ (if (Value.ref t == Value.none) = true then _ else _) _ _ s
  rw [if_neg (show ¬ ((Value.ref t == Value.none) = true) from Bool.false_ne_true)]
  show wpAny _ _ (field (.ref it) 1 >>= _) _ _ s
  refine wpAny_bind (wpAny_field ho hd (x := .int i 0) rfl ?_)
  show wpAny _ _ (seqItems? (.ref t) >>= _) _ _ s
  refine wpAny_bind (wpAny_seqItems hol hdl ?_)
  simp only [Int.toNat_natCast, hx]
  refine wpAny_bind (wpAny_rule (wpAny_bind (wpAny_setField ho hd (by simp) ?_)))
  show wpAny _ _ (newExc (.type "StopIteration") [] >>= _) _ _ _
  refine wpAny_bind ?_
  simp only [newExc, newTuple]
  refine wpAny_bind (wpAny_newObj_type ?_ (by size_fits))
  refine wpAny_bind (m := firstArgMember _ _) (wpAny_of_eq (a := Value.none) (by first | rfl | (simp only [firstArgMember]; rfl)) ?_)
  refine wpAny_newObj_type ?_ (by size_fits)
  simp only [raiseNew]
  refine wpAny_bind (wpAny_handled ?_)
  first | rw [show A.in1.handled = none from hh] | rw [hh]
  refine wpAny_bind (wpAny_pure (wpAny_throw ?_))
  exact hE _ _ (((Heap.SameBut.update ..).extBut.push _).push _) ⟨_, Heap.get?_push_size _ rfl, rfl⟩
end
theorem drawsT {prog : Program} {w : World} {A : Around} (hh : A.handled = none) (it l : Addr) (hne : l ≠ it) (items : Array Value) : Draws prog w A it [it, l] items.size (fun i v => items[i]? = some v) (fun i h => h.IsTupleIter it l i ∧ h.IsTuple l items) where
  live := fun _ _ st => let ⟨o, ho, _⟩ := st.1; ⟨o, ho⟩
  frame := fun _ _ _ st hk => ⟨let ⟨o, ho, r⟩ := st.1; ⟨o, hk it (by simp) o ho, r⟩, let ⟨o, ho, r⟩ := st.2; ⟨o, hk l (by simp) o ho, r⟩⟩
  item := fun i s Q E hi st hQ => by
    refine next_tup st.1 st.2 (x := items[i]) (by simp [hi]) fun h' hit' hs' => ?_
    exact hQ _ h' s.toks (by simp [hi]) ⟨hit', st.2.extBut hs'.extBut hne⟩ hs'
  done := fun s Q E st hE => next_tup_end hh st.1 st.2 (by simp) hE
end E0

namespace E0
open PySem PySem.Spec PyProof.Rows L2
/-- the tuple at a, each item in a new pair with its place -/
def IteT (K : PySem.W.Frag) (a : Addr) : It :=
  ⟨fun i H => ∃ (xs : List V) (x : V), SqT K H a xs ∧ xs[i]? = some x, fun i H v H' => ∃ T x, v = .ref T ∧ H T = none ∧ H' = upd H T (.tup [.int (i : Nat), x]) ∧ ∀ xs, SqT K H a xs → xs[i]? = some x, fun i H => ∃ xs : List V, SqT K H a xs ∧ xs.length ≤ i⟩
theorem turn_enumT {P : Program} {w : World} {K : PySem.W.Frag} {elts : List Expr} {kk : Nat} {tpos : Pos} (a e it : Addr) (hai : a ≠ it) :
    Turn P w K (.Tuple elts kk tpos) (IteT K a) [e, it] e (fun i h => (∃ old, IsEnum h e it ((i : Nat) : Int) old) ∧ h.IsTupleIter it a i ∧ e ≠ it) where
  mem := by simp
  obj := fun i h st b hb => by
    obtain ⟨⟨old, he⟩, ⟨o, ho, hc, hd⟩, _⟩ := st
    rcases (show b = e ∨ b = it by simpa using hb) with z | z
    · rw [z]; exact ⟨_, he, fun v q => nomatch q⟩
    · rw [z]; exact ⟨o, ho, fun v q => by rw [hd] at q; cases q⟩
  keep := fun i h h' st k => let ⟨⟨old, he⟩, ⟨o, ho, r⟩, hne⟩ := st; ⟨⟨old, k e (by simp) _ he⟩, ⟨o, k it (by simp) o ho, r⟩, hne⟩
  item := by
    intro X hP hw hK hc i pins s σ H E I hf st hg
    subst hP hw hK
    obtain ⟨⟨old, he⟩, hit, hne⟩ := st
    obtain ⟨xs, x, hq, hx⟩ := hg
    obtain ⟨its, rv, p, hz⟩ := I.tuple hq
    obtain ⟨u, hu, ru⟩ := rv.get hx
    have hel : e < s.heap.objs.size := Heap.lt_size he
    have hil : it < s.heap.objs.size := by obtain ⟨_, q, _⟩ := hit; exact Heap.lt_size q
    have pT : s.heap.IsTuple a its.toArray := p
    have hae : a ≠ e := fun z => by
      obtain ⟨o, ho, hcl, _⟩ := pT
      rw [z, he] at ho
      cases ho
      exact absurd hcl (by simp)
    have hlt : i < its.toArray.size := by
      have := (List.getElem?_eq_some_iff.mp hu).1
      simpa using this
    have D := drawsT (prog := X.prog) (w := X.w) (A := X.A.in1) (I.ok.hd hc) it a hai its.toArray
    refine wpAny_pyNext_enum_itemD D he ⟨hit, pT⟩ hlt hne (by simp [hne, hae.symm]) fun x2 h' tk hP ho hst hT hsz hk => ?_
    have ex : x2 = u := by
      have e1 : its.toArray[i]? = some u := by simpa using hu
      have e2 : its.toArray[i]? = some x2 := hP
      rw [e1] at e2
      exact (Option.some.inj e2).symm
    subst ex
    refine ⟨_, rfl, wpAny_letOwnedTupleGo_enum (s := { s with heap := h', toks := tk + 1 }) ho fun h'' he' sb => ?_⟩
    have hT2 : h''.get? s.heap.objs.size = some { cls := .type "tuple", data := .seq #[.int i tk, x2] } := (sb.2 _ (Nat.ne_of_gt hel)).trans hT
    have new : ObjOk X.prog X.w (upd H s.heap.objs.size (.tup [.int (i : Nat), x])) h'' s.heap.objs.size (.tup [.int (i : Nat), x]) := ⟨by show 2 ≤ sizeLine; decide, [.int i tk, x2], .cons ⟨_, rfl⟩ (.cons ru .nil), ⟨_, hT2, rfl, _, rfl⟩⟩
    have I1 : L2.Inv X pins σ (upd H s.heap.objs.size (.tup [.int (i : Nat), x])) { s with heap := h'', toks := tk + 1 } :=
      I.turnedNew (ch := [e, it]) (fun b ob hb q => (sb.2 b (fun z => hb (by simp [z]))).trans (hk b ob (fun z => hb (by simp [z])) (fun z => hb (by simp [z])) q)) hf (Nat.le_refl _) new
    have hit2 : h''.IsTupleIter it a (i + 1) := by
      obtain ⟨o, ho, r⟩ := hst.1
      exact ⟨o, (sb.2 it (Ne.symm hne)).trans ho, r⟩
    refine ⟨.ref s.heap.objs.size, _, I1, rfl, ⟨_, x, rfl, I.hok.fresh (Nat.le_refl _), rfl, fun ys hy => by rw [I.tuple_inj hy hq]; exact hx⟩, ⟨⟨x2, ?_⟩, hit2, hne⟩, fun b hb => ?_⟩
    · have e1 : ((i + 1 : Nat) : Int) = (i : Int) + 1 := by omega
      rw [e1]; exact he'
    · have hb' : b < s.heap.objs.size := by
        rcases (show b = e ∨ b = it by simpa using hb) with z | z
        · rw [z]; exact hel
        · rw [z]; exact hil
      rw [upd_ne (Nat.ne_of_lt hb')]
      exact (hf b hb).1
  done := by
    intro X hP hw hK hc i pins s σ H E I hf st hg
    subst hP hw hK
    obtain ⟨⟨old, he⟩, hit, hne⟩ := st
    obtain ⟨xs, hq, hx⟩ := hg
    obtain ⟨its, rv, p, hz⟩ := I.tuple hq
    obtain ⟨f0, f1, f2, f3, f4, f5⟩ := hf it (by simp)
    have hl := rv.length
    have pT : s.heap.IsTuple a its.toArray := p
    have hT : s.TypeIs (.ref e) "enumerate" := ⟨_, he, rfl⟩
    unfold pyNext
    refine wpAny_bind (wpAny_attempt (wpAny_callSpecial?_slot (name := Str.ofString "__next__") hT F.slot_enumerate_next (wpAny_call_entry F.slot_enumerate_next hT F.entry_enumerate_next ?_ (F.args_enumerate_next_1 _))))
    show wpAny _ _ (field (.ref e) 2 >>= _) _ _ _
    refine wpAny_bind (wpAny_field he rfl (x := .ref it) rfl ?_)
    refine wpAny_bind (next_tup_end (A := X.A.in1) (I.ok.hd hc) hit pT (by simp; omega) fun h' x eb hx' => ?_)
    obtain ⟨o, ho, hcl⟩ := hx'
    refine wpAny_bind (wpAny_isInstance (T := "StopIteration") (b := true) ⟨o, ho, hcl⟩ isSubtype_stop ?_)
    exact wpAny_pure ⟨rfl, I.turned (t' := s.toks) (fun b o hb q => eb b o hb q) f0 f1 f3 f4 f5⟩
  self := fun A i s Q E st h => let ⟨⟨_, he⟩, _⟩ := st; wpAny_pyIter_enum he h
def iEnumT (K : PySem.W.Frag) (ta : TA) : TI := fun σ H R => ta σ H fun vs H1 => ∃ a xs, vs = [.ref a] ∧ SqT K H1 a xs ∧ R (IteT K a) H1
theorem pi_enumT {X : Cx} {e : Expr} {ta : TA} {p pos tpos : Pos} {elts : List Expr} {kk : Nat} (hg : Gl X "enumerate") (hm : X.mg "enumerate" = none) (ha : PA X [e] ta) (hs : starEach [e] X.env = [(false, eval e X.env)] := by rfl) :
    PI X (.Tuple elts kk tpos) (.Call (.Name "enumerate" p) [e] [] pos) (iEnumT X.K ta) := by
  refine ⟨fun pins s σ H R I h => ?_⟩
  refine Call_ (ld_blt I hg hm boot_enumerate (callWith_type1 (thn (ha.run pos pins s σ H _ I h) fun us s1 ⟨vs, H1, I1, r1, q1⟩ => ?_) hs rfl))
  obtain ⟨a, xs, ex, hq, q⟩ := q1
  subst ex
  cases r1 with
  | cons r rr =>
    cases rr
    cases r
    obtain ⟨its, rv, p', hz⟩ := I1.tuple hq
    have pT : s1.heap.IsTuple a its.toArray := p'
    have hal : a < s1.heap.objs.size := by
      obtain ⟨o, ho, _⟩ := pT
      exact Heap.lt_size ho
    refine call_enumT pT fun h' he hit hsz hk => wpAny_pyIter_enum he ?_
    have I2 : L2.Inv X pins σ H1 { s1 with heap := h' } := I1.kept (t' := s1.toks) hk
    refine ⟨s1.heap.objs.size + 1, [s1.heap.objs.size + 1, s1.heap.objs.size], _, _, H1, rfl, I2, turn_enumT a (s1.heap.objs.size + 1) s1.heap.objs.size (Nat.ne_of_lt hal), ⟨⟨.none, he⟩, hit, Nat.succ_ne_self _⟩, fun b hb => ?_, q⟩
    have hle : s1.heap.objs.size ≤ b := by
      rcases (show b = s1.heap.objs.size + 1 ∨ b = s1.heap.objs.size by simpa using hb) with z | z
      · rw [z]; exact Nat.le_add_right _ _
      · rw [z]; exact Nat.le_refl _
    exact I1.fpOk hle (I1.hok.fresh hle)
theorem walk_enumT {K : PySem.W.Frag} {a : Addr} {xs : List V} : Walk (IteT K a) xs.length (fun H => SqT K H a xs) (YPair (fun i => some (.int (i : Nat))) (fun i => xs[i]?)) := by
  refine ⟨fun i _ hi q => ⟨xs, xs[i], q, by simp [hi]⟩, fun _ q => ⟨xs, q, Nat.le_refl _⟩, fun i H v H' _ q y => ?_⟩
  obtain ⟨T, x, h1, h2, h3, h4⟩ := y
  exact ⟨T, .int (i : Nat), x, h1, h2, h3, rfl, h4 xs q⟩
end E0

namespace K3
open PySem L2
def top (i : Nat) : Stmt := PySem.Challenge.pw_ruleengine_k06_parts_checked.main.body.getD i (.Pass ⟨0, 0, 0, 0⟩)

abbrev sMixed : Stmt := top 32
abbrev sFolded : Stmt := top 33
abbrev sDraw : Stmt := top 34
abbrev sBegun : Stmt := top 35
abbrev sNumber : Stmt := top 10
abbrev sName : Stmt := top 11
abbrev sErrInit : Stmt := inClass (top 3) 0
abbrev sPathErr : Stmt := inClass (top 4) 0
abbrev sTreeInit : Stmt := inClass (top 14) 2
abbrev sTreeLen : Stmt := inClass (top 14) 3
abbrev sTreeEq : Stmt := inClass (top 14) 4
abbrev sTreeHas : Stmt := inClass (top 14) 5
abbrev sTreeGet : Stmt := inClass (top 14) 6
abbrev sEachPath : Stmt := inClass (top 14) 8
abbrev sPut : Stmt := inClass (top 14) 9
abbrev sVarInit : Stmt := inClass (top 15) 0
abbrev sVarEq : Stmt := inClass (top 15) 1
abbrev sWordInit : Stmt := inClass (top 16) 0
abbrev sWordEq : Stmt := inClass (top 16) 1
abbrev sRestInit : Stmt := inClass (top 17) 0
abbrev sRestEq : Stmt := inClass (top 17) 1
abbrev sLikeInit : Stmt := inClass (top 18) 2
abbrev sLikeEq : Stmt := inClass (top 18) 3
abbrev sTreePart : Stmt := top 19
abbrev sLikePart : Stmt := top 20
abbrev sLikeRow : Stmt := top 21
abbrev sIsNode : Stmt := top 22
abbrev sRowItems : Stmt := top 23
abbrev sNodesAmong : Stmt := top 24
abbrev sMeasures : Stmt := top 25
abbrev sNodeAt : Stmt := top 26
abbrev sNodeText : Stmt := top 28
abbrev sPartText : Stmt := top 29
abbrev sQuoted : Stmt := top 30
abbrev sDoubled : Stmt := top 36
abbrev sIsName : Stmt := top 37
abbrev sFault : Stmt := top 38
abbrev sNew : Stmt := top 39
abbrev sEqualRight : Stmt := top 44
abbrev sLimitsRight : Stmt := top 45
abbrev sLaw : Stmt := top 46
abbrev sPartErr : Stmt := inClass (top 5) 0
abbrev sExchanged : Stmt := top 27
abbrev sNamesRight : Stmt := top 40
abbrev sGoods : Stmt := top 41
abbrev sOdds : Stmt := top 42
abbrev sLikeRight : Stmt := top 43
/-! ### readings, as equations for simp -/
@[simp] theorem x_tOp {r : R2} {ta tb : TE} {σ : L2.St} {H : Hp} {Q : VK} : tOp r ta tb σ H Q = ta σ H fun x H1 => tb σ H1 fun y H2 => r x y H2 Q := rfl
@[simp] theorem x_rI {C : Int → Int → Prop} {g : Int → Int → V} {x y : V} {H : Hp} {Q : VK} : rI C g x y H Q = ∃ i j, x = .int i ∧ y = .int j ∧ C i j ∧ Q (g i j) H := rfl
@[simp] theorem x_rI0 {g : Int → Int → V} {x y : V} {H : Hp} {Q : VK} : rI0 g x y H Q = ∃ i j, x = .int i ∧ y = .int j ∧ Q (g i j) H := rfl
@[simp] theorem x_rU {g : Int → V} {x : V} {H : Hp} {Q : VK} : rU g x H Q = ∃ i, x = .int i ∧ Q (g i) H := rfl
@[simp] theorem x_tVar {i : Nat} {σ : L2.St} {H : Hp} {Q : VK} : tVar i σ H Q = ∃ v, σ[i]? = some (some v) ∧ Q v H := rfl
@[simp] theorem x_tC {v : V} {σ : L2.St} {H : Hp} {Q : VK} : tC v σ H Q = Q v H := rfl
@[simp] theorem x_gName {i : Nat} {v : V} {σ : L2.St} {H : Hp} {Q : L2.St → Hp → Prop} : gName i v σ H Q = Q (σ.set i (some v)) H := rfl
@[simp] theorem x_tAsg {te : TE} {g : TG} {D : Ends} {σ : L2.St} {H : Hp} : tAsg te g D σ H = te σ H fun x H1 => g x σ H1 D.nx := rfl
@[simp] theorem x_tSeq {t u : TS} {D : Ends} {σ : L2.St} {H : Hp} : tSeq t u D σ H = t { D with nx := u D } σ H := rfl
@[simp] theorem x_tRet {te : TE} {D : Ends} {σ : L2.St} {H : Hp} : tRet te D σ H = te σ H D.rt := rfl
@[simp] theorem x_tNext {D : Ends} {σ : L2.St} {H : Hp} : tNext D σ H = D.nx σ H := rfl
@[simp] theorem x_tDrop {te : TE} {D : Ends} {σ : L2.St} {H : Hp} : tDrop te D σ H = te σ H fun _ H1 => D.nx σ H1 := rfl
@[simp] theorem x_tIfS {c : TT} {t u : TS} {D : Ends} {σ : L2.St} {H : Hp} : tIfS c t u D σ H = c σ H fun b H1 => if b = true then t D σ H1 else u D σ H1 := rfl
@[simp] theorem x_tIf {c : TT} {t u : TE} {Q : VK} {σ : L2.St} {H : Hp} : tIf c t u σ H Q = c σ H fun b H1 => if b = true then t σ H1 Q else u σ H1 Q := rfl
@[simp] theorem x_tB {t : TE} {σ : L2.St} {H : Hp} {Q : Bool → Hp → Prop} : tB t σ H Q = t σ H fun x H1 => ∃ c, x = .bl c ∧ Q c H1 := rfl
@[simp] theorem x_tTest {t : TE} {σ : L2.St} {H : Hp} {Q : Bool → Hp → Prop} : tTest t σ H Q = t σ H fun x H1 => ∃ c, x = .bl c ∧ Q c H1 := rfl
@[simp] theorem x_tAnd {t u : TT} {σ : L2.St} {H : Hp} {Q : Bool → Hp → Prop} : tAnd t u σ H Q = t σ H fun c H1 => if c = true then u σ H1 Q else Q false H1 := rfl
@[simp] theorem x_tOr {t u : TT} {σ : L2.St} {H : Hp} {Q : Bool → Hp → Prop} : tOr t u σ H Q = t σ H fun c H1 => if c = true then Q true H1 else u σ H1 Q := rfl
@[simp] theorem x_tNot {t : TT} {σ : L2.St} {H : Hp} {Q : Bool → Hp → Prop} : tNot t σ H Q = t σ H fun c H1 => Q (!c) H1 := rfl
@[simp] theorem x_tAndV {ta tb : TE} {σ : L2.St} {H : Hp} {Q : VK} : tAndV ta tb σ H Q = ta σ H fun x H1 => ∃ c, x = .bl c ∧ if c = true then tb σ H1 Q else Q (.bl false) H1 := rfl
@[simp] theorem x_tOrV {ta tb : TE} {σ : L2.St} {H : Hp} {Q : VK} : tOrV ta tb σ H Q = ta σ H fun x H1 => ∃ c, x = .bl c ∧ if c = true then Q (.bl true) H1 else tb σ H1 Q := rfl
@[simp] theorem x_tNotV {ta : TE} {σ : L2.St} {H : Hp} {Q : VK} : tNotV ta σ H Q = ta σ H fun x H1 => ∃ c, x = .bl c ∧ Q (.bl (!c)) H1 := rfl
@[simp] theorem x_tNil {σ : L2.St} {H : Hp} {Q : List V → Hp → Prop} : tNil σ H Q = Q [] H := rfl
@[simp] theorem x_tCons {ta : TE} {tr : TA} {σ : L2.St} {H : Hp} {Q : List V → Hp → Prop} : tCons ta tr σ H Q = ta σ H fun x H1 => tr σ H1 fun xs H2 => Q (x :: xs) H2 := rfl
@[simp] theorem x_tCB {r : List V → Hp → VK → Prop} {t : TA} {σ : L2.St} {H : Hp} {Q : VK} : tCB r t σ H Q = t σ H fun vs H1 => r vs H1 Q := rfl
@[simp] theorem x_tCall {sp : Sp} {dvs : List V} {E : XK} {t : TA} {σ : L2.St} {H : Hp} {Q : VK} : tCall sp dvs E t σ H Q = t σ H fun vs H1 => sp (vs ++ dvs) H1 Q E := rfl
@[simp] theorem x_tLst {t : TA} {σ : L2.St} {H : Hp} {Q : VK} : tLst t σ H Q = t σ H fun xs H1 => xs.length ≤ sizeLine ∧ ∀ p, H1 p = none → Q (.ref p) (upd H1 p (.lst xs)) := rfl
@[simp] theorem x_tTup {t : TA} {σ : L2.St} {H : Hp} {Q : VK} : tTup t σ H Q = t σ H fun xs H1 => xs.length ≤ sizeLine ∧ ∀ p, H1 p = none → Q (.ref p) (upd H1 p (.tup xs)) := rfl
@[simp] theorem x_tDGet {td ty : TE} {σ : L2.St} {H : Hp} {Q : VK} : tDGet td ty σ H Q = td σ H fun x H1 => ty σ H1 fun y H2 => ∃ a v, x = .ref a ∧ DGet H2 a y (some v) ∧ Q v H2 := rfl
@[simp] theorem x_sDPut {td ty tv : TE} {D : Ends} {σ : L2.St} {H : Hp} : sDPut td ty tv D σ H = tv σ H fun v H1 => td σ H1 fun x H2 => ty σ H2 fun y H3 => ∃ a H4, x = .ref a ∧ DPut H3 a y v H4 ∧ D.nx σ H4 := rfl
@[simp] theorem x_rNeD {K : PySem.W.Frag} {x y : V} {H : Hp} {Q : VK} : rNeD K x y H Q = ∃ d e, Dp K H x d ∧ Dp K H y e ∧ SeqAt.shaped d = true ∧ SeqAt.shaped e = true ∧ Q (.bl (!PyData.eqv d e)) H := rfl
@[simp] theorem x_rEqD {K : PySem.W.Frag} {x y : V} {H : Hp} {Q : VK} : rEqD K x y H Q = ∃ d e, Dp K H x d ∧ Dp K H y e ∧ SeqAt.shaped d = true ∧ SeqAt.shaped e = true ∧ Q (.bl (PyData.eqv d e)) H := rfl
@[simp] theorem x_rIxL {K : PySem.W.Frag} {x y : V} {H : Hp} {Q : VK} : rIxL K x y H Q = ∃ p xs i v, x = .ref p ∧ y = .int i ∧ SqL K H p xs ∧ atI xs i = some v ∧ Q v H := rfl
@[simp] theorem x_rSetL {o i v : V} {H : Hp} {Q : Hp → Prop} : rSetL o i v H Q = ∃ p xs k j, o = .ref p ∧ i = .int k ∧ H p = some (.lst xs) ∧ ixN xs.length k = some j ∧ Q (upd H p (.lst (xs.set j v))) := rfl
@[simp] theorem x_gSub {to ti : TE} {t : TSet} {v : V} {σ : L2.St} {H : Hp} {Q : L2.St → Hp → Prop} : gSub to ti t v σ H Q = to σ H fun o H1 => ti σ H1 fun i H2 => t o i v H2 fun H3 => Q σ H3 := rfl
@[simp] theorem x_rEq {x y : V} {H : Hp} {Q : VK} : rEq x y H Q = (scal x y = true ∧ Q (.bl (decide (x = y))) H) := rfl
@[simp] theorem x_rNe {x y : V} {H : Hp} {Q : VK} : rNe x y H Q = (scal x y = true ∧ Q (.bl (!decide (x = y))) H) := rfl
@[simp] theorem x_rIsi {K : PySem.W.Frag} {xs : List V} {H : Hp} {Q : VK} : rIsi K xs H Q = ∃ (x c : V) (t u : Value) (b : Bool), xs = [x, c] ∧ ClsV c u ∧ TyX K H x t ∧ PySem.W.kitOne K t u = some b ∧ Q (.bl b) H := rfl
@[simp] theorem x_start {N : List Str} {vs : List V} : L2.start N vs = vs.map some ++ List.replicate (N.length - vs.length) none := rfl
def mixed (c n : Int) : Int := ((c * (1 + 2 * n) * 48271 % 2147483647 + 7919 * n * n + 104729 * n) * 69621 % 2147483629) / 7
theorem mixed_nonneg (c n : Int) : 0 ≤ mixed c n := by
  unfold mixed
  exact Int.ediv_nonneg (Int.emod_nonneg _ (by decide)) (by decide)
theorem mixed_lt (c n : Int) : mixed c n < 2147483648 := by
  unfold mixed
  have h := Int.emod_lt_of_pos ((c * (1 + 2 * n) * 48271 % 2147483647 + 7919 * n * n + 104729 * n) * 69621) (show (0 : Int) < 2147483629 by decide)
  omega
def spMixed : Sp := fun vs H Q _ => ∃ c n : Int, vs = [.int c, .int n] ∧ -(2 ^ 62) ≤ c ∧ c ≤ 2 ^ 62 ∧ 0 ≤ n ∧ n ≤ 2 ^ 30 ∧ Q (.int (mixed c n)) H
theorem scMixed : FnScope ["_law_cell", "_law_n", "_law_turned"] ["_law_cell", "_law_n"] (defScope sMixed) := ⟨rfl, rfl, rfl, by decide +kernel, rfl, by decide +kernel, by decide +kernel⟩
section
variable {P : Program} {w : World} {K : PySem.W.Frag} {mg : Str → Option Value} {base : Heap}
theorem ok_mixed {f : Addr} {fd : FuncData} (F : Fun K "_law_mixed" "_law_mixed" sMixed f fd) : FnOk P w K mg base CX0 1 f fd ["_law_cell", "_law_n"] spMixed := by
  refine F.ok scMixed (fun vs H Q E h => ?_) (fun cdv A outer s H vs Q E hr h => ?_)
  · obtain ⟨c, n, rfl, _⟩ := h
    rfl
  · obtain ⟨c, n, rfl, c0, c1, n0, n1, k⟩ := h
    refine ⟨_, pss_cons (ps_set (i := 2) scMixed.nd rfl (Or.inl rfl)
        (pe_op op_add (pe_op op_add (pe_op op_mod (pe_op op_mul (pe_op op_mul (pv 0) (pe_op op_add pe_int (pe_op op_mul pe_int (pv 1)))) pe_int) pe_int)
          (pe_op op_mul (pe_op op_mul pe_int (pv 1)) (pv 1))) (pe_op op_mul pe_int (pv 1))))
      (pss_one (ps_ret (pe_op op_fdiv (pe_op op_mod (pe_op op_mul (pv 2) pe_int) pe_int) pe_int))), ?_⟩
    simp [CMul, CDiv]
    exact ⟨.inl ⟨by omega, by omega⟩, .inr ⟨by omega, by omega⟩, k⟩

theorem fm0 (a : Int) {b : Int} (h : 0 < b) : 0 ≤ Int.fmod a b := by
  rw [Int.fmod_eq_emod_of_nonneg _ (by omega)]
  exact Int.emod_nonneg _ (by omega)
theorem ixN_n {n j : Nat} (hj : j < n) : ixN n (j : Int) = some j := by
  unfold ixN
  rw [if_pos (by omega), if_pos (by omega)]
  simp
theorem dg {H : Hp} {a : Addr} {kvs : List (Key × V)} {k : Key} {v : V} (e : H a = some (.dK kvs)) (h : valV kvs k = some v) : DGet H a (kV k) (some v) := by
  rw [← h]
  exact DGet.k e
theorem dpInts {K : PySem.W.Frag} {H : Hp} : ∀ l : List Int, DpAll K H (l.map V.int) (l.map PyData.int)
  | [] => .nil
  | i :: l => .cons (.int i) (dpInts l)
theorem shInts (l : List Int) : SeqAt.shaped (.list (l.map PyData.int)) = true := by
  have h1 : ∀ l : List Int, PyData.canLayAll0 (l.map PyData.int) = true := fun l => by
    induction l with
    | nil => rfl
    | cons i l ih => simp [PyData.canLayAll0, PyData.canLay0, ih]
  have h2 : ∀ l : List Int, PyData.depthAll (l.map PyData.int) = 0 := fun l => by
    induction l with
    | nil => rfl
    | cons i l ih => simp [PyData.depthAll, PyData.depth, ih]
  simp [SeqAt.shaped, PyData.canLay0, PyData.depth, h1, h2]
theorem eqvNil (l : List Int) : PyData.eqv (.list (l.map PyData.int)) (.list []) = l.isEmpty := by
  cases l <;> rfl
theorem ce_ : ¬ ((Sum.inr "cells" : Key) = (Sum.inr "spot" : Key)) := by decide +kernel
theorem ge_ : ¬ ((Sum.inr "great" : Key) = (Sum.inr "spot" : Key)) := by decide +kernel
theorem cg_ : ¬ ((Sum.inr "cells" : Key) = (Sum.inr "great" : Key)) := by decide +kernel
theorem sg_ : ¬ ((Sum.inr "spot" : Key) = (Sum.inr "great" : Key)) := by decide +kernel
def mD (lc lg : Addr) (n : Int) : List (Key × V) := [(.inr "cells", .ref lc), (.inr "great", .ref lg), (.inr "spot", .int n)]
theorem mD_s {lc lg : Addr} {n : Int} : valV (mD lc lg n) (.inr "spot") = some (.int n) := by
  unfold mD
  rw [valV_neg ce_, valV_neg ge_, valV_pos rfl]
theorem mD_g {lc lg : Addr} {n : Int} : valV (mD lc lg n) (.inr "great") = some (.ref lg) := by
  unfold mD
  rw [valV_neg cg_, valV_pos rfl]
theorem mD_c {lc lg : Addr} {n : Int} : valV (mD lc lg n) (.inr "cells") = some (.ref lc) := by
  unfold mD
  rw [valV_pos rfl]
theorem mD_put {lc lg : Addr} {n k : Int} : putK (mD lc lg n) (.inr "spot") (.int k) = mD lc lg k := by
  simp only [putK, mD, List.any_cons, List.any_nil, List.map_cons, List.map_nil, if_neg ce_, if_neg ge_]
  simp
theorem mD_putg {lc lg l2 : Addr} {n : Int} : putK (mD lc lg n) (.inr "great") (.ref l2) = mD lc l2 n := by
  simp only [putK, mD, List.any_cons, List.any_nil, List.map_cons, List.map_nil, if_neg cg_, if_neg sg_]
  simp
/-! ### the drawing state -/
/-- at m: the dict of the drawing state, its lists at lc and lg, spot n -/
structure MA (m lc lg : Addr) (n : Int) (H : Hp) : Prop where
  hm : H m = some (.dK (mD lc lg n))
  ne : lc ≠ lg
  hc : ∃ cs : List Int, H lc = some (.lst (cs.map V.int)) ∧ cs.length = 64 ∧ ∀ c ∈ cs, 0 ≤ c ∧ c < 2147483648
  hg : ∃ gs : List Int, H lg = some (.lst (gs.map V.int)) ∧ gs.length ≤ 63
  n0 : 0 ≤ n
def spDraw : Sp := fun vs H Q _ => ∃ (m lc lg : Addr) (n t : Int), vs = [.ref m, .int t] ∧ MA m lc lg n H ∧ n ≤ 1000000 ∧ 0 < t ∧ t < 1000000 ∧
  ∀ H' d, 0 ≤ d → d < t → MA m lc lg (n + 1) H' → (∀ b o, b ≠ m → b ≠ lg → H b = some o → H' b = some o) → Q (.int d) H'
theorem scDraw : FnScope ["_law_m", "_law_top", "_law_n", "_law_at", "_law_cell"] ["_law_m", "_law_top"] (defScope sDraw) := ⟨rfl, rfl, rfl, by decide +kernel, rfl, by decide +kernel, by decide +kernel⟩
theorem ok_draw {f fM : Addr} {fd fdM : FuncData} (F : Fun K "_law_draw" "_law_draw" sDraw f fd) (FM : Fun K "_law_mixed" "_law_mixed" sMixed fM fdM) (bM : Binds K fdM ["_law_cell", "_law_n"] []) (gM : mg "_law_mixed" = some (.ref fM)) (gL : mg "len" = none) :
    FnOk P w K mg base CX0 2 f fd ["_law_m", "_law_top"] spDraw := by
  have GM : FnOk P w K mg base CX0 1 fM fdM ["_law_cell", "_law_n"] spMixed := ok_mixed FM
  refine F.ok scDraw (fun vs H Q E h => ?_) (fun cdv A outer s H vs Q E hr h => ?_)
  · obtain ⟨m, lc, lg, n, t, rfl, _⟩ := h
    rfl
  · obtain ⟨m, lc, lg, n, t, rfl, M, n1, t0, t1, k⟩ := h
    have hu := hu_of hr
    refine ⟨_, pss_cons (ps_set (i := 2) scDraw.nd rfl (Or.inl rfl) (pe_dget hu (pv 0) pe_str (fun _ _ => rfl)))
      (pss_cons (ps_dput hu (pv 0) pe_str (pe_op op_add (pv 2) pe_int) rfl)
      (pss_cons (ps_if (pt_cmpR (op_neD hr.units) (pe_dget hu (pv 0) pe_str (fun _ _ => rfl)) (pe_lst pa_nil) (nomark _))
        (pss_cons (ps_set (i := 3) scDraw.nd rfl (Or.inl rfl) (pe_op op_modN (pv 2) (pe_callB call_len_seq (by rfl) gL PySem.boot_len (pa_cons (pe_dget hu (pv 0) pe_str (fun _ _ => rfl)) pa_nil))))
        (pss_cons (ps_set (i := 4) scDraw.nd rfl (Or.inl rfl) (pe_ix ix_list (pe_dget hu (pv 0) pe_str (fun _ _ => rfl)) (pv 3) (fun _ _ => rfl)))
        (pss_one (ps_if (pt_cmpR op_gt (pv 4) pe_int (nomark _))
          (pss_cons (ps_asg (pe_op op_fdivN (pv 4) (pv 1)) (pg_sub (pe_dget hu (pv 0) pe_str (fun _ _ => rfl)) (pv 3) set_list))
          (pss_one (ps_ret (pe_op op_modN (pv 4) (pv 1)))))
          pss_nil))))
        pss_nil)
      (pss_one (ps_ret (pe_op op_modN (pe_call GM hr rfl gM FM.kp bM .nil pass0 (pa_cons
          (pe_call GM hr rfl gM FM.kp bM .nil pass0 (pa_cons (pe_op op_add (pe_ix ix_list (pe_dget hu (pv 0) pe_str (fun _ _ => rfl)) (pe_op op_modN (pv 2) pe_int) (fun _ _ => rfl)) (pe_op op_mul pe_int (pe_op op_fdivN (pv 2) pe_int))) (pa_cons (pv 2) pa_nil)))
          (pa_cons (pe_op op_add (pv 2) pe_int) pa_nil))) (pv 1))))))
      , ?_⟩
    obtain ⟨hm, ne, ⟨cs, hc, lcs, bcs⟩, ⟨gs, hg, lgs⟩, n0⟩ := M
    have nmc : m ≠ lc := ne_of hm hc (by intro q; cases q)
    have nmg : m ≠ lg := ne_of hm hg (by intro q; cases q)
    have tail : ∀ H2 : Hp, H2 m = some (.dK (mD lc lg (n + 1))) → H2 lc = some (.lst (cs.map V.int)) → H2 lg = some (.lst (gs.map V.int)) → (∀ b o, b ≠ m → H b = some o → H2 b = some o) → ∀ (v3 v4 : Option V),
        (fun σ H => tRet (tOp (rI (fun _ j => j ≠ 0) fun i j => V.int (i.fmod j)) (tCall spMixed [] E0 (tCons (tCall spMixed [] E0 (tCons (tOp (rI0 fun i j => V.int (i + j)) (tOp (rIxL K) (tDGet (tVar 0) (tC (.str "cells"))) (tOp (rI (fun _ j => j ≠ 0) fun i j => V.int (i.fmod j)) (tVar 2) (tC (.int 64)))) (tOp (rI CMul fun i j => V.int (i * j)) (tC (.int 31)) (tOp (rI CDivN fun i j => V.int (i.fdiv j)) (tVar 2) (tC (.int 64))))) (tCons (tVar 2) tNil))) (tCons (tOp (rI0 fun i j => V.int (i + j)) (tVar 2) (tC (.int 7))) tNil))) (tVar 1)) { nx := fun _ H' => Q .non H', rt := Q } σ H) [some (.ref m), some (.int t), some (.int n), v3, v4] H2 := by
      intro H2 hm2 hc2 hg2 o2 v3 v4
      have f0 : 0 ≤ Int.fmod n 64 := fm0 _ (by decide)
      have f1 : Int.fmod n 64 < 64 := Int.fmod_lt_of_pos n (by decide)
      obtain ⟨j, ej⟩ := Int.eq_ofNat_of_zero_le f0
      have jl : j < cs.length := by omega
      have hj : (cs.map V.int)[j]? = some (.int cs[j]) := by simp [jl]
      have bj := bcs cs[j] (List.getElem_mem jl)
      have ed : Int.fdiv n 64 = n / 64 := Int.fdiv_eq_ediv_of_nonneg n (by decide)
      refine ⟨_, rfl, m, _, rfl, dg (k := .inr "cells") hm2 mD_c, _, rfl, _, _, rfl, rfl, (by show (64 : Int) ≠ 0; decide), _, _, _, _, rfl, rfl, SqL.of hc2, at_of ej hj, _, rfl, _, _, rfl, rfl, ⟨by decide, by decide⟩, _, _, rfl, rfl, .inl ⟨by decide, by decide⟩, _, _, rfl, rfl, ?_⟩
      refine ⟨_, rfl, _, _, rfl, by omega, by omega, n0, by omega, ?_⟩
      refine ⟨_, rfl, _, _, rfl, rfl, ?_⟩
      have b0 := mixed_nonneg (cs[j] + 31 * Int.fdiv n 64) n
      have b1 := mixed_lt (cs[j] + 31 * Int.fdiv n 64) n
      refine ⟨_, _, rfl, by omega, by omega, by omega, by omega, ?_⟩
      refine ⟨_, rfl, _, _, rfl, rfl, (by omega), ?_⟩
      exact k _ _ (fm0 _ t0) (Int.fmod_lt_of_pos _ t0) ⟨hm2, ne, ⟨cs, hc2, lcs, bcs⟩, ⟨gs, hg2, lgs⟩, by omega⟩ (fun b o hb _ e => o2 b o hb e)
    -- n = m["spot"]; m["spot"] = n + 1
    refine ⟨_, rfl, m, _, rfl, dg (k := .inr "spot") hm mD_s, ?_⟩
    refine ⟨_, rfl, _, _, rfl, rfl, _, rfl, m, _, rfl, DPut.k (k := Sum.inr "spot") hm (by show 3 < sizeLine; decide), ?_⟩
    rw [mD_put]
    generalize eH1 : upd H m (.dK (mD lc lg (n + 1))) = H1
    have hm1 : H1 m = some (.dK (mD lc lg (n + 1))) := by rw [← eH1, upd_same]
    have hc1 : H1 lc = some (.lst (cs.map V.int)) := by rw [← eH1, upd_ne nmc.symm, hc]
    have hg1 : H1 lg = some (.lst (gs.map V.int)) := by rw [← eH1, upd_ne nmg.symm, hg]
    have o1 : ∀ b, b ≠ m → H1 b = H b := fun b hb => by rw [← eH1, upd_ne hb]
    -- m["great"] != []
    refine ⟨_, rfl, m, _, rfl, dg (k := .inr "great") hm1 mD_g, (by decide), fun p hp => ?_⟩
    generalize eH2 : upd H1 p (.lst []) = H2
    have np : ∀ b o, H1 b = some o → b ≠ p := fun b o h => ne_of_none h hp
    have hm2 : H2 m = some (.dK (mD lc lg (n + 1))) := by rw [← eH2, upd_ne (np _ _ hm1), hm1]
    have hc2 : H2 lc = some (.lst (cs.map V.int)) := by rw [← eH2, upd_ne (np _ _ hc1), hc1]
    have hg2 : H2 lg = some (.lst (gs.map V.int)) := by rw [← eH2, upd_ne (np _ _ hg1), hg1]
    have hp2 : H2 p = some (.lst []) := by rw [← eH2, upd_same]
    have o2 : ∀ b o, b ≠ m → H b = some o → H2 b = some o := fun b o hb e => by
      have e1 : H1 b = some o := (o1 b hb).trans e
      rw [← eH2, upd_ne (np _ _ e1), e1]
    have nlp : lg ≠ p := np _ _ hg1
    refine ⟨_, _, .lst (SqL.of hg2) (dpInts gs), .lst (xs := []) (SqL.of hp2) .nil, shInts gs, (by decide), _, rfl, ?_⟩
    rw [eqvNil]
    refine ite2 (fun h => ?_) (fun h => ?_)
    · have gl : 0 < gs.length := by
        cases gs with
        | nil => simp at h
        | cons a l => simp
      -- at = n % len(m["great"]); cell = m["great"][at]
      have gN : ((gs.map V.int).length : Int) ≠ 0 := by rw [List.length_map]; omega
      have f0 : 0 ≤ Int.fmod n ((gs.map V.int).length : Int) := fm0 _ (by rw [List.length_map]; omega)
      have f1 : Int.fmod n ((gs.map V.int).length : Int) < (gs.length : Int) := by
        have q := Int.fmod_lt_of_pos n (show (0 : Int) < ((gs.map V.int).length : Int) by rw [List.length_map]; omega)
        rw [List.length_map] at q ⊢
        exact q
      refine ⟨_, rfl, _, rfl, m, _, rfl, dg (k := .inr "great") hm2 mD_g, _, _, rfl, .inl (SqL.of hg2), _, _, rfl, rfl, gN, ?_⟩
      obtain ⟨j, ej⟩ := Int.eq_ofNat_of_zero_le f0
      have jl : j < gs.length := by omega
      have hj : (gs.map V.int)[j]? = some (.int gs[j]) := by simp [jl]
      refine ⟨_, rfl, m, _, rfl, dg (k := .inr "great") hm2 mD_g, _, rfl, _, _, _, _, rfl, rfl, SqL.of hg2, at_of ej hj, ?_⟩
      -- if cell > 0
      refine ⟨_, rfl, _, _, rfl, rfl, _, rfl, ?_⟩
      refine ite2 (fun h0 => ?_) (fun h0 => ?_)
      · refine ⟨_, rfl, _, rfl, _, _, rfl, rfl, ⟨by omega, by omega⟩, ?_⟩
        refine ⟨_, rfl, m, _, rfl, dg (k := .inr "great") hm2 mD_g, _, rfl, _, _, _, j, rfl, rfl, hg2, (by rw [ej]; exact ixN_n (by rw [List.length_map]; exact jl)), ?_⟩
        refine ⟨_, rfl, _, rfl, _, _, rfl, rfl, (by omega), ?_⟩
        refine k _ _ (fm0 _ t0) (Int.fmod_lt_of_pos _ t0) ⟨by rw [upd_ne nmg]; exact hm2, ne, ⟨cs, by rw [upd_ne ne]; exact hc2, lcs, bcs⟩, ⟨gs.set j ((gs[j]).fdiv t), ?_, by rw [List.length_set]; exact lgs⟩, by omega⟩ (fun b o hb hb2 e => ?_)
        · rw [upd_same, List.map_set]
        · rw [upd_ne hb2]
          exact o2 b o hb e
      · exact tail H2 hm2 hc2 hg2 o2 _ _
    · exact tail H2 hm2 hc2 hg2 o2 _ _
end
end K3

namespace K3
open PySem L2
section
variable {P : Program} {w : World} {K : PySem.W.Frag} {mg : Str → Option Value} {base : Heap}
def CellsOk (cs : List Int) : Prop := cs.length = 64 ∧ ∀ c ∈ cs, 0 ≤ c ∧ c < 2147483648
theorem CellsOk.set {cs : List Int} (h : CellsOk cs) (j : Nat) {v : Int} (h0 : 0 ≤ v) (h1 : v < 2147483648) : CellsOk (cs.set j v) := by
  refine ⟨by rw [List.length_set]; exact h.1, fun c hc => ?_⟩
  rcases List.mem_or_eq_of_mem_set hc with z | z
  · exact h.2 c z
  · rw [z]
    exact ⟨h0, h1⟩
theorem getI {cs : List Int} {j : Nat} (h : j < cs.length) : (cs.map V.int)[j]? = some (V.int cs[j]) := by simp [h]
def spFolded (K : PySem.W.Frag) : Sp := fun vs H Q _ => ∃ (a : Addr) (ns : List Int), vs = [.ref a] ∧ SqL K H a (ns.map V.int) ∧
  ∀ H' p cs, Same H H' → H p = none → H' p = some (.lst (cs.map V.int)) → CellsOk cs → Q (.ref p) H'
theorem scFolded : FnScope ["_law_script", "_law_n", "_law_found", "_law_cell"] ["_law_script"] (defScope sFolded) := ⟨rfl, rfl, rfl, by decide +kernel, rfl, by decide +kernel, by decide +kernel⟩
theorem same_upd {H0 H : Hp} {D : Addr} {o : HO} (s : Same H0 H) (n : H0 D = none) : Same H0 (upd H D o) := fun b x e => by
  rw [upd_ne (ne_of_none e n)]
  exact s b x e
theorem ok_folded {f : Addr} {fd : FuncData} (F : Fun K "_law_folded" "_law_folded" sFolded f fd) (gR : mg "range" = none) (gE : mg "enumerate" = none) :
    FnOk P w K mg base CX0 1 f fd ["_law_script"] (spFolded K) := by
  refine F.ok scFolded (fun vs H Q E h => ?_) (fun cdv A outer s H vs Q E hr h => ?_)
  · obtain ⟨a, ns, rfl, _⟩ := h
    rfl
  · obtain ⟨a, ns, rfl, hS, k⟩ := h
    refine ⟨_, pss_cons (ps_setLc (i := 2) (own := [("_law_n", 1)]) (g := gName 1) (tt := tYes) rfl scFolded.nd rfl rfl (sw_true rfl rfl rfl (by decide +kernel)) (pi_range1 rfl gR (pa_cons pe_int pa_nil))
          (blkOk_by (N := ["_law_script", "_law_n", "_law_found", "_law_cell"]) (sc := defScope sFolded) (by decide +kernel)) (fun _ _ _ _ _ => pg_name (i := 1) scFolded.nd rfl (Or.inl rfl)) (fun _ _ _ _ _ => pts_nil) (fun _ _ _ _ _ => pe_op op_add pe_int (pv 1)))
      (pss_cons (ps_for PassesOwn.never rfl (pi_enum rfl gE (pa_cons (pv 0) pa_nil)) (pg_tup (by rfl) (pgs_cons (pg_name (i := 1) scFolded.nd rfl (.inl rfl)) (pgs_cons (pg_name (i := 3) scFolded.nd rfl (.inl rfl)) pgs_nil)))
        (pss_one (ps_asg (pe_op op_mod (pe_op op_add (pe_op op_mul (pe_ix ix_list (pv 2) (pe_op op_mod (pv 1) pe_int) (fun _ _ => rfl)) pe_int) (pv 3)) pe_int) (pg_sub (pv 2) (pe_op op_mod (pv 1) pe_int) set_list))))
      (pss_cons (ps_for PassesOwn.never rfl (pi_range2 rfl gR (pa_cons pe_int (pa_cons pe_int pa_nil))) (pg_name (i := 1) scFolded.nd rfl (Or.inl rfl))
        (pss_one (ps_asg (pe_op op_mod (pe_op op_add (pe_ix ix_list (pv 2) (pv 1) (fun _ _ => rfl)) (pe_op op_mul (pe_ix ix_list (pv 2) (pe_op op_sub (pv 1) pe_int) (fun _ _ => rfl)) pe_int)) pe_int) (pg_sub (pv 2) (pv 1) set_list))))
      (pss_one (ps_ret (pv 2))))), ?_⟩
    refine ⟨64, rfl, by decide, by decide, fun D hD => lc_range (n := 64) (fun i H' => Same H H' ∧ H' D = some (.lst (((List.range i).map fun k : Nat => (17 + (k : Int))).map V.int))) ⟨same_upd (Same.refl H) hD, by rw [upd_same]; rfl⟩ ?_ ?_⟩
    · rintro i H' hi ⟨s1, h1⟩
      refine ⟨rfl, ?_⟩
      dsimp only [tYes]
      rw [if_pos rfl]
      refine ⟨_, rfl, _, _, rfl, rfl, _, h1, ?_, same_upd s1 hD, ?_⟩
      · rw [List.length_map, List.length_map, List.length_range]
        exact Nat.lt_trans hi (by decide)
      · rw [upd_same, List.range_succ]
        simp
    · rintro H' ⟨s1, h1⟩
      generalize ecs : ((List.range 64).map fun k : Nat => (17 + (k : Int))) = cs at h1
      have ok0 : CellsOk cs := by
        rw [← ecs]
        refine ⟨by simp, fun c hc => ?_⟩
        obtain ⟨k, hk, rfl⟩ := List.mem_map.mp hc
        have := List.mem_range.mp hk
        omega
      refine ⟨_, rfl, a, _, rfl, s1.seq hS, for_it walk_enum (fun _ σ H2 => ∃ (v1 v3 : Option V) (ds : List Int), σ = [some (.ref a), v1, some (.ref D), v3] ∧ Same H H2 ∧ H2 D = some (.lst (ds.map V.int)) ∧ CellsOk ds) ⟨_, _, cs, rfl, s1, h1, ok0⟩ (fun i σ H2 _ ⟨_, _, _, _, s2, _⟩ => s2.seq hS) ?_ ?_⟩
      · rintro i x σ H2 H3 hi ⟨v1, v3, ds, rfl, s2, h2, ok2⟩ ⟨T, y, z, rfl, hT, rfl, ey, ez⟩
        have ey : some (V.int (i : Nat)) = some y := ey
        cases ey
        have ez : (ns.map V.int)[i]? = some z := ez
        rw [List.length_map] at hi
        rw [getI hi] at ez
        cases ez
        have h2' : (upd H2 T (.tup [.int (i : Nat), .int ns[i]])) D = some (.lst (ds.map V.int)) := by rw [upd_ne (ne_of_none h2 hT)]; exact h2
        refine ⟨T, _, rfl, .inl (.inl upd_same), rfl, _, _, rfl, ?_⟩
        refine ⟨_, _, rfl, rfl, ?_⟩
        have j0 : ((i : Nat) : Int) % 64 = ((i % 64 : Nat) : Int) := by omega
        have jl : i % 64 < ds.length := by rw [ok2.1]; omega
        refine ⟨_, rfl, _, rfl, _, _, rfl, rfl, (by show (0 : Int) < 64; decide), _, _, _, _, rfl, rfl, SqL.of h2', at_of j0 (getI jl), _, _, rfl, rfl, .inr ⟨by decide, by decide⟩, _, rfl, _, _, rfl, rfl, _, _, rfl, rfl, (by show (0 : Int) < 2147483647; decide), ?_⟩
        refine ⟨_, rfl, _, rfl, _, _, rfl, rfl, (by show (0 : Int) < 64; decide), _, _, _, i % 64, rfl, rfl, h2', (by rw [j0]; exact ixN_n (by rw [List.length_map]; exact jl)), ?_⟩
        have b0 := Int.emod_nonneg (ds[i % 64] * 48271 + ns[i]) (show (2147483647 : Int) ≠ 0 by decide)
        have b1 := Int.emod_lt_of_pos (ds[i % 64] * 48271 + ns[i]) (show (0 : Int) < 2147483647 by decide)
        exact ⟨_, _, ds.set (i % 64) ((ds[i % 64] * 48271 + ns[i]) % 2147483647), rfl, same_upd (same_upd s2 (s2.free hT)) hD, by rw [upd_same, List.map_set], ok2.set _ b0 (by omega)⟩
      · rintro σ H2 ⟨v1, v3, ds, rfl, s2, h2, ok2⟩
        refine ⟨1, 64, rfl, ⟨by decide, by decide, by decide, by decide⟩, for_range (lo := 1) (n := 63) (fun _ σ H3 => ∃ (v1 v3 : Option V) (ds : List Int), σ = [some (.ref a), v1, some (.ref D), v3] ∧ Same H H3 ∧ H3 D = some (.lst (ds.map V.int)) ∧ CellsOk ds) ⟨_, _, ds, rfl, s2, h2, ok2⟩ ?_ ?_⟩
        · rintro i σ H3 hi ⟨v1, v3, es, rfl, s3, h3, ok3⟩
          have j0 : (1 + ((i : Nat) : Int)) = ((i + 1 : Nat) : Int) := by omega
          have j1 : (1 + ((i : Nat) : Int)) - 1 = ((i : Nat) : Int) := by omega
          have jl : i + 1 < es.length := by rw [ok3.1]; omega
          have jk : i < es.length := by omega
          refine ⟨_, rfl, _, rfl, _, _, _, _, rfl, rfl, SqL.of h3, at_of j0 (getI jl), _, rfl, _, rfl, _, _, rfl, rfl, _, _, _, _, rfl, rfl, SqL.of h3, at_of j1 (getI jk), _, _, rfl, rfl, .inr ⟨by decide, by decide⟩, _, _, rfl, rfl, _, _, rfl, rfl, (by show (0 : Int) < 2147483647; decide), ?_⟩
          refine ⟨_, rfl, _, rfl, _, _, _, i + 1, rfl, rfl, h3, (by rw [j0]; exact ixN_n (by rw [List.length_map]; exact jl)), ?_⟩
          have b0 := Int.emod_nonneg (es[i + 1] + es[i] * 16807) (show (2147483647 : Int) ≠ 0 by decide)
          have b1 := Int.emod_lt_of_pos (es[i + 1] + es[i] * 16807) (show (0 : Int) < 2147483647 by decide)
          exact ⟨_, _, es.set (i + 1) ((es[i + 1] + es[i] * 16807) % 2147483647), rfl, same_upd s3 hD, by rw [upd_same, List.map_set], ok3.set _ b0 (by omega)⟩
        · rintro σ H3 ⟨v1, v3, es, rfl, s3, h3, ok3⟩
          exact ⟨_, rfl, k _ _ _ s3 hD h3 ok3⟩
end
end K3

namespace K3
open PySem L2
section
variable {P : Program} {w : World} {K : PySem.W.Frag} {mg : Str → Option Value} {base : Heap}
def spBegun (K : PySem.W.Frag) : Sp := fun vs H Q _ => ∃ (a : Addr) (ns : List Int), vs = [.ref a] ∧ SqL K H a (ns.map V.int) ∧ ns.length ≤ 63 ∧
  ∀ H' m lc lg, Same H H' → H m = none → H lg = none → MA m lc lg 0 H' → Q (.ref m) H'
theorem scBegun : FnScope ["_law_script", "_law_m", "_law_cell"] ["_law_script"] (defScope sBegun) := ⟨rfl, rfl, rfl, by decide +kernel, rfl, by decide +kernel, by decide +kernel⟩
theorem ok_begun {f fM : Addr} {fd fdM : FuncData} (F : Fun K "_law_begun" "_law_begun" sBegun f fd) (FM : Fun K "_law_folded" "_law_folded" sFolded fM fdM) (bM : Binds K fdM ["_law_script"] []) (gM : mg "_law_folded" = some (.ref fM)) (gR : mg "range" = none) (gE : mg "enumerate" = none) :
    FnOk P w K mg base CX0 2 f fd ["_law_script"] (spBegun K) := by
  have GM : FnOk P w K mg base CX0 1 fM fdM ["_law_script"] (spFolded K) := ok_folded FM gR gE
  refine F.ok scBegun (fun vs H Q E h => ?_) (fun cdv A outer s H vs Q E hr h => ?_)
  · obtain ⟨a, ns, rfl, _⟩ := h
    rfl
  · obtain ⟨a, ns, rfl, hS, hl, k⟩ := h
    have hu := hu_of hr
    refine ⟨_, pss_cons (ps_set (i := 1) scBegun.nd rfl (Or.inl rfl) (pe_disp (pps_cons pe_str (pe_call GM hr rfl gM FM.kp bM .nil pass0 (pa_cons (pv 0) pa_nil)) (pps_cons pe_str (pe_lst pa_nil) (pps_cons pe_str pe_int pps_nil))) rfl rfl (by intro q; cases q) (by decide)))
      (pss_cons (ps_dput hu (pv 1) pe_str (pe_lc (own := [("_law_cell", 2)]) (g := gName 2) (tt := tYes) rfl scBegun.nd (pi_list (pv 0))
          (blkOk_by (N := ["_law_script", "_law_m", "_law_cell"]) (sc := defScope sBegun) (by decide +kernel)) (fun _ _ _ _ _ => pg_name (i := 2) scBegun.nd rfl (Or.inl rfl)) (fun _ _ _ _ _ => pts_nil)
          (fun _ _ _ _ _ => pe_ifExp (pt_cmpR op_ge (pv 2) (pe_op op_pow pe_int pe_int) (nomark _)) (pv 2) pe_int)) rfl)
      (pss_one (ps_ret (pv 1)))), ?_⟩
    intro m hm
    refine ⟨_, rfl, a, ns, rfl, (same_upd (Same.refl H) hm).seq hS, fun H1 lc cs s1 nlc hc okc => ?_⟩
    refine ⟨by decide, fun l0 nl0 => ?_⟩
    have s0 : Same H H1 := (same_upd (Same.refl H) hm).trans s1
    have nm1 : lc ≠ m := fun e => by
      rw [e, upd_same] at nlc
      cases nlc
    have hm1 : H1 m = some (.dK []) := s1 _ _ upd_same
    have e1 : (upd H1 l0 (.lst [])) m = some (.dK []) := by rw [upd_ne (ne_of_none hm1 nl0)]; exact hm1
    have e2 : (upd H1 l0 (.lst [])) lc = some (.lst (cs.map V.int)) := by rw [upd_ne (ne_of_none hc nl0)]; exact hc
    refine ⟨e1, mD lc l0 0, rfl, (by show 3 ≤ 15; decide), ?_⟩
    have em : mergeK [] (mD lc l0 0) = mD lc l0 0 := by
      simp only [mergeK, mD, List.foldl_cons, List.foldl_nil, putK, List.any_nil, List.any_cons, List.nil_append, List.cons_append, Bool.false_eq_true, if_false, decide_eq_false cg_, decide_eq_false ce_, decide_eq_false ge_, Bool.or_false]
    rw [em]
    generalize eH2 : upd (upd H1 l0 (.lst [])) m (.dK (mD lc l0 0)) = H2
    have hm2 : H2 m = some (.dK (mD lc l0 0)) := by rw [← eH2, upd_same]
    have hc2 : H2 lc = some (.lst (cs.map V.int)) := by rw [← eH2, upd_ne nm1]; exact e2
    have s2 : Same H H2 := fun b o e => by
      rw [← eH2, upd_ne (ne_of_none e hm)]
      exact same_upd s0 (s0.free nl0) b o e
    refine ⟨_, rfl, a, rfl, ⟨_, s2.seq hS⟩, fun D hD => lc_list (xs := ns.map V.int) (K := K) (a := a) (fun i H' => ∃ gs : List Int, Same H H' ∧ H' m = some (.dK (mD lc l0 0)) ∧ H' lc = some (.lst (cs.map V.int)) ∧ H' D = some (.lst (gs.map V.int)) ∧ gs.length = i) ⟨[], same_upd s2 (s2.free hD), by rw [upd_ne (ne_of_none hm2 hD)]; exact hm2, by rw [upd_ne (ne_of_none hc2 hD)]; exact hc2, upd_same, rfl⟩ (fun i H' _ ⟨_, s', _⟩ => s'.seq hS) ?_ ?_⟩
    · rintro i x H' hx ⟨gs, s', h1, h2, h3, h4⟩
      have hi : i < ns.length := by
        have q := (List.getElem?_eq_some_iff.mp hx).1
        rw [List.length_map] at q
        exact q
      rw [getI hi] at hx
      cases hx
      have go : ∀ z : Int, ∃ acc, H' D = some (.lst acc) ∧ acc.length < sizeLine ∧ ∃ gs : List Int, Same H (upd H' D (.lst (acc ++ [V.int z]))) ∧ (upd H' D (.lst (acc ++ [V.int z]))) m = some (.dK (mD lc l0 0)) ∧ (upd H' D (.lst (acc ++ [V.int z]))) lc = some (.lst (cs.map V.int)) ∧ (upd H' D (.lst (acc ++ [V.int z]))) D = some (.lst (gs.map V.int)) ∧ gs.length = i + 1 := fun z => by
        refine ⟨_, h3, ?_, gs ++ [z], same_upd s' (s2.free hD), ?_, ?_, ?_, ?_⟩
        · rw [List.length_map, h4]
          exact Nat.lt_of_lt_of_le hi (Nat.le_trans hl (by decide))
        · rw [upd_ne (ne_of_none hm2 hD)]; exact h1
        · rw [upd_ne (ne_of_none hc2 hD)]; exact h2
        · rw [upd_same, List.map_append]; rfl
        · rw [List.length_append, h4]; rfl
      refine ⟨rfl, ?_⟩
      dsimp only [tYes]
      rw [if_pos rfl]
      refine ⟨_, rfl, _, _, rfl, rfl, ⟨by decide, by decide, by decide⟩, _, _, rfl, rfl, _, rfl, ?_⟩
      refine ite2 (fun _ => ⟨_, rfl, go _⟩) (fun _ => go _)
    · rintro H' ⟨gs, s', h1, h2, h3, h4⟩
      refine ⟨_, rfl, m, _, rfl, DPut.k (k := Sum.inr "great") h1 (by show 3 < sizeLine; decide), ?_⟩
      rw [mD_putg]
      have nDm : D ≠ m := (ne_of_none hm2 hD).symm
      have nDc : D ≠ lc := (ne_of_none hc2 hD).symm
      refine ⟨_, rfl, k _ m lc D (fun b o e => ?_) hm (s2.free hD) ⟨upd_same, nDc.symm, ⟨cs, by rw [upd_ne nm1]; exact h2, okc.1, okc.2⟩, ⟨gs, by rw [upd_ne nDm]; exact h3, ?_⟩, by decide⟩⟩
      · rw [upd_ne (ne_of_none e hm)]
        exact s' b o e
      · rw [h4, List.length_map]
        exact hl
end
end K3

namespace K3
open PySem L2
/-! ### names -/
def LET : Str := "ABCDEFGHIJKLMNOPQRSTUVWXYZabcdefghijklmnopqrstuvwxyz"
def SIG : Str := "ABCDEFGHIJKLMNOPQRSTUVWXYZabcdefghijklmnopqrstuvwxyz0123456789_"
def LLET : Str := "abcdefghijklmnopqrstuvwxyzABCDEFGHIJKLMNOPQRSTUVWXYZ"
def DIG : Str := "0123456789_"
def inS (z : Str) (c : Nat) : Bool := decide (c ∈ z.cps.toList)
def nameS (z : Str) : Bool := decide (1 ≤ z.length) && decide (z.length ≤ 20) && (match z.cps.toList with | [] => false | c :: _ => inS LET c) && z.cps.toList.all (inS SIG)
def nameV : V → Bool
  | .str z => nameS z
  | _ => false
def NotStr (K : PySem.W.Frag) (H : Hp) (v : V) : Prop := (∀ z, v ≠ .str z) ∧ (∀ a, v = .ref a → ∃ o, H a = some o) ∧ ∃ t, TyX K H v t ∧ PySem.W.kitOne K t (.type "str") = some false
def Val (K : PySem.W.Frag) (H : Hp) (v : V) : Prop := (∃ z, v = .str z ∧ z.length ≤ 1000 ∧ PyData.strOk z = true) ∨ NotStr K H v
theorem NotStr.nameV {K : PySem.W.Frag} {H : Hp} {v : V} (h : NotStr K H v) : nameV v = false := by
  cases v with
  | str z => exact absurd rfl (h.1 z)
  | _ => rfl
section
variable {P : Program} {w : World} {K : PySem.W.Frag} {mg : Str → Option Value} {base : Heap}
def spName (K : PySem.W.Frag) : Sp := fun vs H Q _ => ∃ v, vs = [v] ∧ Val K H v ∧ ∀ H', Same H H' → Q (.bl (nameV v)) H'
structure TxtN (mg : Str → Option Value) : Prop where
  isi : mg "isinstance" = none
  str : mg "str" = none
  len : mg "len" = none
  all : mg "all" = none
  mx : ∃ t, mg "MAX_NAME" = some (.int 20 t)
  lt : ∃ t, mg "LETTERS" = some (.str LET t)
  sg : ∃ t, mg "NAME_SIGNS" = some (.str SIG t)
theorem scName : FnScope ["value", "sign"] ["value"] (defScope sName) := ⟨rfl, rfl, rfl, by decide +kernel, rfl, by decide +kernel, by decide +kernel⟩
theorem ok_name {f : Addr} {fd : FuncData} (F : Fun K "is_name" "is_name" sName f fd) (T : TxtN mg) : FnOk P w K mg base CX0 1 f fd ["value"] (spName K) := by
  refine F.ok scName (fun vs H Q E h => ?_) (fun cdv A outer s H vs Q E hr h => ?_)
  · obtain ⟨v, rfl, _⟩ := h
    rfl
  · obtain ⟨v, rfl, hv, k⟩ := h
    have hu := hu_of hr
    obtain ⟨tm, mx⟩ := T.mx
    obtain ⟨tl, lt⟩ := T.lt
    obtain ⟨tg, sg⟩ := T.sg
    refine ⟨_, pss_cons (ps_if (PW.pt (pw_or (pt_not (pt_val (pe_callB call_isi (by rfl) T.isi PyProof.Rows.boot_isinstance (pa_cons (pv 0) (pa_cons (pe_bltn (v := .ty "str") rfl T.str PyProof.Rows.boot_str rfl) pa_nil)))))
          (pw_or1 (pt_not (pt_chain op_le op_le pe_int (pe_callB call_len (by rfl) T.len PySem.boot_len (pa_cons (pv 0) pa_nil)) (pe_glob (v := .int 20) rfl mx ⟨_, rfl⟩))))))
        (pss_one (ps_ret pe_bl)) pss_nil)
      (pss_one (ps_ret (pe_and (pe_cmpR op_in_sign (pe_ix ix_str (pv 0) pe_int (fun _ _ => rfl)) (pe_glob (v := .str LET) rfl lt ⟨_, rfl⟩) (by rfl))
        (pe_one (pe_callB (cr_all rfl) (by rfl) T.all (show bootBuiltins "all" = some (.builtin "all") by decide +kernel) (pa_cons (pe_lc (own := [("sign", 1)]) (g := gName 1) (tt := tYes) rfl scName.nd (pi_str (pv 0)) (blkOk_by (N := ["value", "sign"]) (sc := defScope sName) (by decide +kernel))
          (fun _ _ _ _ _ => pg_name (i := 1) scName.nd rfl (Or.inl rfl)) (fun _ _ _ _ _ => pts_nil) (fun _ _ _ _ _ => pe_cmpR op_in_sign (pv 1) (pe_glob (v := .str SIG) rfl sg ⟨_, rfl⟩) (by rfl))) pa_nil)))))), ?_⟩
    rcases hv with ⟨z, rfl, hz, ho⟩ | hv
    · refine ⟨_, rfl, _, _, _, _, true, rfl, .ty "str", .base (.str z), kit_ty (by decide +kernel), _, rfl, ?_⟩
      refine iteF ?_
      -- 1 <= len(value) <= MAX_NAME
      have hz' : z.length ≤ sizeLine := Nat.le_trans hz (by decide)
      refine ⟨_, rfl, _, z.length, rfl, ⟨hz', rfl⟩, _, _, rfl, rfl, _, rfl, ?_⟩
      have eL : z.length = z.cps.toList.length := by simp [Str.length]
      have no : nameS z = false → Q (.bl false) H := fun e => by
        have q := k H (Same.refl H)
        change Q (V.bl (nameS z)) H at q
        rw [e] at q
        exact q
      refine ite2 (fun h1 => ?_) (fun h1 => ?_)
      · have h1' : 1 ≤ z.length := by have := of_decide_eq_true h1; omega
        refine ⟨_, _, rfl, rfl, _, rfl, ?_⟩
        by_cases h2 : ((z.length : Nat) : Int) ≤ 20
        · rw [decide_eq_true h2]
          refine iteF ?_
          have h2' : z.length ≤ 20 := by omega
          obtain ⟨c, l, ec⟩ : ∃ c l, z.cps.toList = c :: l := by
            cases q : z.cps.toList with
            | nil => rw [eL, q] at h1'; cases h1'
            | cons c l => exact ⟨c, l, rfl⟩
          have en : nameS z = (inS LET c && z.cps.toList.all (inS SIG)) := by
            unfold nameS
            rw [decide_eq_true h1', decide_eq_true h2', ec]
            rfl
          refine ⟨_, rfl, z, 0, c, rfl, rfl, hz', (atI_nat (j := 0) (by rw [ec]; rfl) : atI z.cps.toList ((0 : Nat) : Int) = some c), c, LET, rfl, rfl, _, rfl, ?_⟩
          refine ite2 (fun h3 => ?_) (fun h3 => ?_)
          · refine ⟨_, rfl, z, rfl, fun D hD => lc_it walk_str (fun i H' => Same H H' ∧ H' D = some (.lst (((z.cps.toList.take i).map (inS SIG)).map V.bl))) ⟨same_upd (Same.refl H) hD, by rw [upd_same]; rfl⟩ (fun _ _ _ _ => True.intro) ?_ ?_⟩
            · rintro i x H1 H2 hi ⟨s1, e1⟩ ⟨rfl, y, hy, rfl⟩
              have hy' : z.cps.toList[i]? = some y := by simpa using hy
              refine ⟨rfl, ?_⟩
              dsimp only [tYes]
              rw [if_pos rfl]
              refine ⟨_, rfl, y, SIG, rfl, rfl, _, e1, ?_, same_upd s1 hD, ?_⟩
              · rw [List.length_map, List.length_map]
                exact Nat.lt_of_le_of_lt (List.length_take_le _ _) (by
                  have : i < z.length := by rw [eL]; simpa using hi
                  exact Nat.lt_of_lt_of_le this hz')
              · rw [upd_same, List.take_add_one, hy']
                simp [inS]
            · rintro H1 ⟨s1, e1⟩
              rw [show z.cps.size = z.cps.toList.length by simp, List.take_length] at e1
              refine ⟨D, _, rfl, SqL.of e1, ?_⟩
              have q := k H1 s1
              change Q (V.bl (nameS z)) H1 at q
              rw [en, show inS LET c = true from h3] at q
              have e3 : ∀ l : List Nat, (l.map (inS SIG)).all id = l.all (inS SIG) := fun l => by
                induction l with
                | nil => rfl
                | cons a l ih => simp [ih]
              rw [e3]
              exact q
          · refine no ?_
            rw [en, show inS LET c = false from Bool.not_eq_true _ ▸ h3]
            rfl
        · rw [decide_eq_false h2]
          refine iteT ?_
          refine no ?_
          unfold nameS
          rw [decide_eq_false (show ¬ z.length ≤ 20 by omega)]
          simp
      · refine ⟨_, rfl, ?_⟩
        have e0 : z.length = 0 := by
          have : ¬ (1 : Int) ≤ z.length := fun q => h1 (decide_eq_true q)
          omega
        refine iteT ?_
        refine no ?_
        unfold nameS
        rw [e0]
        rfl
    · obtain ⟨t, ht, hk⟩ := hv.2.2
      refine ⟨_, rfl, _, _, _, _, false, rfl, .ty "str", ht, hk, _, rfl, ?_⟩
      refine iteT (iteT ?_)
      have q := k H (Same.refl H)
      rw [hv.nameV] at q
      exact q
end
end K3

namespace K3
open PySem L2
section
variable {P : Program} {w : World} {K : PySem.W.Frag} {mg : Str → Option Value} {base : Heap}
/-- what the written part says of an own exception class with one field, whose __init__ says super().__init__('..') -/
structure ErrC (P : Program) (K : PySem.W.Frag) (mg : Str → Option Value) (C fI cda cc : Addr) (fld qual : Str) (st : Stmt) : Prop where
  ox : OexC K C
  fi : PySem.W.findIn K (.ref C) "__init__" = some (some (.ref fI))
  ti : PySem.W.typeIn K (.ref fI) = some (.type "function")
  fn : ∃ (oc : Value) (od : Option Addr) (kV doc pm : Value) (an : Option Addr) (ct : Value) (osl : Array (Option Value)),
    K.lookup fI = some ⟨oc, od, .func (PySem.W.ksFn "__init__" qual (defArgs st) (defBody st) (defScope st) .none kV doc pm an (.ref cda) ct cc), osl⟩
  cd : PySem.W.codeIn K (.ref cda) qual = true
  cod : ∃ (ccl : Value) (cdd : Option Addr) (vs : Array Value) (ccs : Array (Option Value)) (file : Str) (tf : Tok), K.lookup cda = some ⟨ccl, cdd, .fields vs, ccs⟩ ∧ vs[2]? = some (.str file tf) ∧ ((P.main.file : Str) == file) = true
  cel : ∃ (cl : Value) (cld : Option Addr) (csl : Array (Option Value)), K.lookup cc = some ⟨cl, cld, .cell (some (.ref C)), csl⟩
  mr : PySem.W.mroIn K C (.ref C) = some true
  al : ∀ cd, PySem.W.clsIn K C = some cd → PySem.W.alongIn K "__init__" ((cd.mro.dropWhile (· != .ref C)).drop 1) = some (some (.builtin "ValueError.__init__"))
  sup : PySem.W.nsIn K mainGlobals "super" = some none
  opq : PySem.W.nsIn K cStatics "thirdparty.any" = some none
  ve : PySem.W.subIn K (.ref C) (.type "ValueError") = some true
  ei : PySem.W.excInitIn K C [.type "ValueError", .type "Exception", .type "BaseException", .type "object"] "ValueError.__new__" = true
  nf : PySem.W.findIn K (.ref C) fld = some none
  top : (P.main.scope.names.lookup ("super" : Str)).isSome = false
abbrev scErr : Scope := { kind := .function, names := [("self", .local), ("part", .local), ("__class__", .free), ("super", .globalImplicit)], isGenerator := false, isCoroutine := false }
def spErr (C : Addr) (fld : Str) : Sp := fun vs H Q _ => ∃ (a : Addr) (y : V), vs = [.ref a, y] ∧ H a = some (exo a C none) ∧
  ∀ dx, H dx = none → dx ≠ a → Q .non (upd (upd H dx (exd dx [(fld, y)])) a (exo a C (some dx)))
open PySem.W PySem.Calls in
/-- the __init__ of such a class, as the text has it: super().__init__('..'); self.fld = part -/
theorem ok_errInit {C fI cda cc : Addr} (T : ErrC P K mg C fI cda cc "part" "InvalidTree.__init__" sErrInit)
    {kV doc pm ct oc : Value} {od an : Option Addr} {osl : Array (Option Value)}
    (lk : K.lookup fI = some ⟨oc, od, .func (PySem.W.ksFn "__init__" "InvalidTree.__init__" (defArgs sErrInit) (defBody sErrInit) (defScope sErrInit) .none kV doc pm an (.ref cda) ct cc), osl⟩) :
    FnOk P w K mg base (L2.CX P w) 1 fI (PySem.W.ksFn "__init__" "InvalidTree.__init__" (defArgs sErrInit) (defBody sErrInit) (defScope sErrInit) .none kV doc pm an (.ref cda) ct cc) ["self", "part"] (spErr C "part") := by
  refine ⟨fun vs H Q E h => ?_, fun A outer s H args us vs Q E hr e0 hbd r h => ?_⟩
  · obtain ⟨a, y, rfl, _⟩ := h
    rfl
  · obtain ⟨a, y, rfl, ha, k⟩ := h
    obtain ⟨u0, u, rfl, r1, r2⟩ := vals2 r
    obtain rfl : u0 = Value.ref a := r1
    have KX : K.In s.heap := e0.mod.kin.keeps fun b o e => (e0.bs b o e).1
    have lim : s.heap.NoLimit := e0.mod.nolimit.keeps fun b o e => (e0.bs b o e).1
    obtain ⟨t1, hx⟩ := exo_at e0.hok ha
    obtain ⟨nm, q, N, bs, bm, sn, sub, ab, col, dd, k0, k1, k2, k3, k5, hC, hbm⟩ := T.ox.cls
    have hcl : clsIn K C = some { name := nm, bases := bs, mro := .ref C :: bm, ns := N, qualname := q, hasDict := true, slotNames := sn, subclasses := sub, abstract := ab, collection := col, hasDel := false } := by unfold clsIn; rw [hC] <;> rfl
    have hal := T.al _ hcl
    obtain ⟨ccl, cdd, cvs, ccs, file, tf, hcda, hvs, hfile⟩ := T.cod
    obtain ⟨cl, cld, csl, hcel⟩ := T.cel
    refine ks_codeAny_call_defAt (fd := ksFn "__init__" "InvalidTree.__init__" (defArgs sErrInit) (defBody sErrInit) (defScope sErrInit) .none kV doc pm an (.ref cda) ct cc) (body := defBody sErrInit) hr.depth (KX _ _ lk) rfl lim (codeRec_of KX T.cd) rfl hbd (show ∀ x ∈ (defScope sErrInit).names, x.2 ≠ .cell by decide +kernel) ?_ (fun h0 hns hk => ?_)
    · intro z hz
      rcases List.mem_cons.mp hz with e | hz
      · rw [e]; rfl
      · rcases List.mem_cons.mp hz with e | hz
        · rw [e]; rfl
        · cases hz
    · generalize eL : s.heap.objs.size = L at hns
      rw [show (callEnv (ksFn "__init__" "InvalidTree.__init__" (defArgs sErrInit) (defBody sErrInit) (defScope sErrInit) .none kV doc pm an (.ref cda) ct cc) L fI) = ksEnv "InvalidTree.__init__" (defScope sErrInit) L fI (.ref cda) cc from rfl]
      have up : ∀ {b o}, K.lookup b = some o → h0.get? b = some o := fun {b o} e => hk b o (KX b o e)
      have KX0 : K.In h0 := fun b o e => up e
      have hx0 := hk _ _ hx
      obtain ⟨mb, hmb, hbl⟩ := e0.mod.blt
      have hbk : ∀ b o, base.get? b = some o → h0.get? b = some o := fun b o e => hk b o (e0.bs b o e).1
      refine ks_wpAt_execs_cons (ks_wpAt_Expr_any (ks_wpAt_MethodCall (ks_wpAt_super_base (fd := ksFn "__init__" "InvalidTree.__init__" (defArgs sErrInit) (defBody sErrInit) (defScope sErrInit) .none kV doc pm an (.ref cda) ct cc) rfl rfl (by decide +kernel) rfl (up lk) rfl rfl rfl (up hcda) rfl hvs hfile T.top ?_)))
      refine ks_loadName_global rfl rfl (loadGlobal_builtin (env := ksEnv "InvalidTree.__init__" (defScope sErrInit) L fI (.ref cda) cc) (e0.mod.glob.keeps hbk) (mg_none_of e0.mod.kin e0.mod.glob T.sup) (hmb.keeps hbk) ((hbl _ (by decide +kernel)).trans PyProof.Rows.Boot.«super») ⟨rfl, ?_⟩)
      refine wpAny_loadName_free rfl rfl rfl ⟨_, up hcel, rfl⟩ ?_
      refine wpAny_loadName_local rfl rfl hns rfl ?_
      refine ks_wpAny_isType_cls (up hC) rfl ⟨rfl, ?_⟩
      refine ks_wpAny_call_super (up hC) rfl hx0 rfl (fun c e => by cases e) (looks_mroIn KX0 T.mr) (fun h1 so1 up1 => ?_)
      have KX1 : K.In h1 := fun b o e => up1 _ _ (up e)
      have hI1 : InstAt h1 a { cls := Value.ref C, data := Data.fields #[Value.ref t1, Value.none, Value.none, Value.none, Value.bool false, Value.none] } C none := ⟨up1 _ _ hx0, rfl, rfl, trivial⟩
      refine kxs_getMethod kxs_ValueError so1 (looks_opaque KX1 T.opq) (fun A Q E s k q => wpAny_bind ((looks_clsIn KX1 hcl) A _ E s k (wpAny_pure q))) rfl KX1 hal (hI1.type.andThen (looks_subIn KX1 T.ve)) (ks_ne KX1 hI1 hcl) (by decide +kernel) ?_
      generalize hu : h1.objs.size = z
      have lt1 : ∀ {b o}, h1.get? b = some o → b ≠ z := fun {b o} e q => by
        have w1 := Heap.lt_size e
        rw [q, ← hu] at w1
        exact Nat.lt_irrefl _ w1
      have up2 : ∀ b o, h1.get? b = some o → (h1.push (kxs_mw "ValueError.__init__" a)).get? b = some o := fun b o e => Heap.get?_push_of_some _ e
      have hmw : (h1.push (kxs_mw "ValueError.__init__" a)).get? z = some (kxs_mw "ValueError.__init__" a) := by
        rw [← hu]
        exact Heap.get?_push_size _ rfl
      generalize h1.push (kxs_mw "ValueError.__init__" a) = h2 at up2 hmw
      have all2 : ∀ b o, h0.get? b = some o → h2.get? b = some o := fun b o e => up2 b o (up1 b o e)
      refine kxs_callWith (i := "ValueError.__init__") (u := z) (x := a) (by rfl) (evalArgs_plain ?_)
      refine Calls.spliced_cons ?_
      refine Calls.Constant_str (pos := ⟨7, 25, 7, 39⟩) (k := 0) ?_
      refine Calls.spliced_nil ⟨hmw, ?_⟩
      have hbn : ∀ {b o}, h0.get? b = some o → H b ≠ none ∨ b = L → base.get? b = none := fun {b o} _ q => by
        cases e : base.get? b with
        | none => rfl
        | some v =>
          have w1 := e0.bs b v e
          rcases q with q | q
          · exact absurd w1.2 q
          · have w2 := Heap.lt_size w1.1
            rw [q, ← eL] at w2
            exact absurd w2 (Nat.lt_irrefl _)
      have aL : a ≠ L := fun q => by
        have w2 := Heap.lt_size hx
        rw [q, ← eL] at w2
        exact Nat.lt_irrefl _ w2
      have ba : base.get? a = none := hbn hx0 (.inl (by rw [ha]; exact fun q => nomatch q))
      have bz : base.get? z = none := by
        cases e : base.get? z with
        | none => rfl
        | some v => exact absurd rfl (lt1 (up1 _ _ (hbk _ _ e)))
      obtain ⟨oL, eL1, eL2, hoL, rL⟩ := id hns
      have F2 : PyProof.Rows.Fr base L h2 (fun x => List.lookup x ([("self" : Str), "part"].zip [Value.ref a, u]).reverse) := ⟨⟨oL, eL1, eL2, all2 _ _ hoL, rL⟩, fun b o e => all2 b o (hbk b o e), by rw [← eL]; exact e0.bsz⟩
      have za : z ≠ a := fun q => lt1 (up1 _ _ hx0) q.symm
      have zL : z ≠ L := fun q => lt1 (up1 _ _ hoL) q.symm
      refine kxs_call (t := t1) (dv := none) (c2 := .none) (s := ⟨h2, _, _, _, _⟩) F2 e0.mod.kin (news_at aL ba (all2 _ _ hx0)) F.excBase_ValueError T.ei (List.mem_cons_of_mem _ (mem_rest zL bz hmw za)) (.head rest_ne) (by show 1 ≤ sizeLine; decide) (fun t3 h3 F3 N3 _ => ?_)
      have k3 : ∀ b o, b ≠ L → b ≠ a → h2.get? b = some o → h3.get? b = some o := kept_of_news (fun b o e => all2 b o (hbk b o e)) F3 (fun p hp => N3 p (List.mem_cons_of_mem _ (List.mem_cons_of_mem _ hp)))
      have hx3 : h3.get? a = some ({ cls := .ref C, dict := none, data := .fields #[.ref t3, .none, .none, .none, .bool false, .none] } : Obj) := (N3 _ (List.mem_cons_of_mem _ (List.mem_cons_self ..))).1
      have all3 : ∀ b o, b ≠ a → s.heap.get? b = some o → h3.get? b = some o := fun b o hb e => k3 b o (fun q => by
        have w2 := Heap.lt_size e
        rw [q, ← eL] at w2
        exact Nat.lt_irrefl _ w2) hb (all2 b o (hk b o e))
      have KX3 : K.In h3 := e0.mod.kin.keeps F3.keep
      show wpAt _ _ _ (execs _ _) _ _ _
      refine ks_wpAt_execs_cons (ks_wpAt_Assign_Attr (wpAt_of_wpAny ?_))
      refine wpAny_Name (wpAny_loadName_local rfl rfl F3.ns rfl ?_) (by decide)
      refine wpAny_Name (wpAny_loadName_local rfl rfl F3.ns rfl ?_) (by decide)
      refine set_plain KX3 (ox := { cls := .ref C, dict := none, data := .fields #[.ref t3, .none, .none, .none, .bool false, .none] }) (od := none) ⟨hx3, rfl, rfl, trivial⟩ T.ox.sa ?_
      refine HandSPX.exc_osa KX3 hx3 hcl (show HandSPX.refsVE (.ref C :: bm) = true from hbm) rfl T.nf (fun hF tkF dx kF dn dne hxF hnF => ?_)
      have Ldx : s.heap.objs.size ≤ dx := by
        obtain ⟨o3, _, _, e3, _⟩ := F3.ns
        have w2 := Heap.lt_size e3
        rw [eL]
        exact Nat.le_trans (Nat.le_of_lt w2) dn
      have Hdx : H dx = none := e0.hok.fresh Ldx
      have keepF : ∀ b o, b ≠ a → s.heap.get? b = some o → hF.get? b = some o := fun b o nb e => kF b o nb (all3 b o nb e)
      have na : ∀ {b : Addr}, H b = none → b ≠ a := fun {b} n q => by
        rw [q, ha] at n
        cases n
      have nd : ∀ {b : Addr} {o : Obj}, s.heap.get? b = some o → b ≠ dx := fun {b o} e q => by
        have w2 := Heap.lt_size e
        rw [q] at w2
        exact absurd (Nat.lt_of_lt_of_le w2 Ldx) (Nat.lt_irrefl _)
      have same : ∀ b o, H b = some o → o ≠ exo a C none → (upd (upd H dx (exd dx [("part", y)])) a (exo a C (some dx))) b = some o := fun b o e ne => by
        rw [upd_ne (fun q => ne (by rw [q, ha] at e; exact (Option.some.inj e).symm)), upd_ne (ne_of_none e Hdx)]
        exact e
      have un : Un (frs outer) [] H (upd (upd H dx (exd dx [("part", y)])) a (exo a C (some dx))) s.heap hF := {
        keep := fun b o e n _ _ => keepF b o (na n) e
        slot := fun b o e n _ _ => ⟨o.slots, keepF b o (na n) e⟩
        free := fun b o e n _ => by
          rw [upd_ne (na n), upd_ne (nd e)]
          exact n
        there := fun b o e _ => by
          by_cases q : b = a
          · rw [q]
            exact ⟨_, hxF⟩
          · exact ⟨o, keepF b o q e⟩
        tups := fun b xs e => same b _ e (fun q => exo_tup q.symm)
        frzs := fun b o v e => same b _ e (fun q => exo_frz q.symm)
        tbls := fun b ps e => ⟨#[], by rw [same b _ e (fun q => exo_tbl q.symm)]; simp⟩ }
      have okF : HOk P w (upd (upd H dx (exd dx [("part", y)])) a (exo a C (some dx))) hF := fun b o e => by
        by_cases q : b = a
        · subst q
          rw [upd_same] at e
          cases e
          exact exo_ok hxF
        · rw [upd_ne q] at e
          by_cases q2 : b = dx
          · subst q2
            rw [upd_same] at e
            cases e
            exact exd_ok hnF (relO_put (fs := []) r2 fun g => True.intro)
          · rw [upd_ne q2] at e
            exact (e0.hok b o e).stay (fun c v hc z => keepF c v (by
                rcases hc with hc | hc
                · rw [hc]
                  exact q
                · exact at_ne ha hc exo_own) z) (fun c hc => same c _ hc (fun q => exo_own q.symm)) (fun c xs hc => same c _ hc (fun q => exo_tup q.symm))
      show wpAt _ _ _ (execs [] _) _ _ _
      refine wpAt_of_wpAny (wpAny_pure ?_)
      exact ⟨.non, _, rfl, e0.bare, un, okF, rfl, k dx Hdx dne⟩
end
end K3

namespace K3
open PySem L2
/-- at a: a caught exception of the class cls with its dict at d -/
def ExK (cls : Value) (d : Option Addr) (a : Addr) : HO := .ext fun h => ∃ (oe : Obj) (vs : Array Value), h.get? a = some oe ∧ Zc cls d oe ∧ oe.data = .fields vs
/-- what the body's exceptions are wished to do: caught by c, its object tracked behind the suite -/
def wKeep (K : PySem.W.Frag) (c : Value) (i j n : Nat) (D : Ends) : WX := fun cls d σ H =>
  PySem.W.exmOne K cls c = some true ∧ ∀ a, H a = none → σ.length = n → D.nx (((σ.set i (some (.ref a))).set j (some (.ref a))).set i none) (upd H a (ExK cls d a))
section
variable {X : Cx} {pins : List (Addr × Obj)} {σ : L2.St} {H : Hp} {s : Shared}
/-- an object that was not there at the entry, pinned till now, is tracked from now on -/
theorem Inv.takeUp {a : Addr} {oe : Obj} {vs : Array Value} {cls : Value} {d : Option Addr} (I : L2.Inv X pins σ H s) (ha : s.heap.get? a = some oe) (hz : Zc cls d oe) (hd : oe.data = .fields vs) (na : H a = none) (n0 : X.s_0.heap.get? a = none)
    (nL : a ≠ X.env.locals) (nC : ∀ x c, X.env.cells.lookup x = some c → c ≠ a) (nP : ∀ p ∈ X.pn ++ pins, p.1 ≠ a) : L2.Inv X pins σ (upd H a (ExK cls d a)) s := by
  have ne : ∀ b o, X.s_0.heap.get? b = some o → b ≠ a := fun b o e z => by
    rw [z, n0] at e
    cases e
  refine ⟨I.ok, I.os, I.bare, ⟨I.base.keep, I.base.slot, fun b o e n x => ?_, I.base.there, fun b xs e => ?_, fun b o u e => ?_, fun b ps e => ?_⟩, I.loc, I.cell, ?_, fun x c e => ?_, fun p hp => ?_, fun b u e => ?_, I.len⟩
  · rw [upd_ne (ne b o e)]
    exact I.base.free b o e n x
  · have q := I.base.tups b xs e
    rw [upd_ne (ne_of_none q na)]
    exact q
  · have q := I.base.frzs b o u e
    rw [upd_ne (ne_of_none q na)]
    exact q
  · obtain ⟨m, q⟩ := I.base.tbls b ps e
    exact ⟨m, by rw [upd_ne (ne_of_none q na)]; exact q⟩
  · rw [upd_ne nL.symm]
    exact I.free
  · rw [upd_ne (nC x c e)]
    exact I.freeC x c e
  · obtain ⟨q1, q2, q3⟩ := I.pin p hp
    exact ⟨q1, by rw [upd_ne (nP p hp)]; exact q2, q3⟩
  · by_cases q : b = a
    · subst q
      rw [upd_same] at e
      cases e
      exact ⟨⟨oe, vs, ha, hz, hd⟩, ⟨oe, ha⟩, fun h1 h2 ⟨o, v, w1, w2⟩ k => ⟨o, v, k o w1, w2⟩⟩
    · rw [upd_ne q] at e
      exact (I.hok b u e).stay (fun _ _ _ w => w) (fun c w => by rw [upd_ne (ne_of_none w na)]; exact w) fun c xs w => by rw [upd_ne (ne_of_none w na)]; exact w
end
section
variable {X : Cx} {x n : Str} {c : Value} {i j : Nat} {body : List Stmt} {np q1 q2 q3 pos pos' : Pos} {m : Str} {tb : WX → TS}
/-- try: body / except x as n: m = n -/
theorem ps_try_keep (hs : X.stack = X.env :: X.outer) (hf : X.env.frame = some X.env.locals) (hex : X.ex = []) (hN : X.N.Nodup) (hi : X.N[i]? = some n) (hj : X.N[j]? = some m) (hln : X.env.kindOf n = some .local) (hlm : X.env.kindOf m = some .local)
    (hij : i ≠ j) (hmb : X.fn m = true ∨ X.env.scope.names.lookup m = some .local) (hc : Names X x c)
    (hb : ∀ (W : WX) (pn : List (Addr × Obj)) (xe : Value → Shared → Prop), Takes (X.tr pn xe) W → PassesOwn (model X.prog X.w) X.A X.env xe → PSs (X.tr pn xe) body (tb W))
    (hd1 : (n == ("__debug__" : Str)) = false) (hd2 : (n == ("__classdict__" : Str)) = false) (hsw : swapsWith (.Name n q2) (some (.Name m q1)) q3.line X.env = pure false) :
    PS X (.Try body [.ExceptHandler (some (.Name x np)) (some n) [.Assign [.Name m q1] (.Name n q2) q3] pos'] [] [] pos) (fun D σ H => tb (wKeep X.K c i j X.N.length D) D σ H) := by
  refine ⟨fun pins s σ H D I h => ?_⟩
  have okX := I.ok
  have frX : X.A.frames = some (X.env :: X.outer) := by
    rw [okX.frames, hs]
  let clause : ExceptHandler := .ExceptHandler (some (.Name x np)) (some n) [.Assign [.Name m q1] (.Name n q2) q3] pos'
  refine wpAny_Try_except ?_
  refine wpAny_mono ((hb (wKeep X.K c i j X.N.length D) (X.pn ++ pins) (fun e s₁ => wpAny (model X.prog X.w) X.A (noteFrame e X.env) (fun _ s₂ => wpAny (model X.prog X.w) X.A (setFlight e none) (fun _ s₃ => wpAny (model X.prog X.w) X.A (handleBy e X.env [clause]) (SP X pins D) X.xe s₃) X.xe s₂) X.xe s₁)
    (fun u s' air => ?caught) PassesOwn.looking).run [] s σ H D (I.toTry _) h) (fun f s1 hsp => ?thru) (fun e s1 he => he)
  case thru =>
    cases f with
    | next =>
      obtain ⟨σ6, H6, S6, q6⟩ := hsp
      exact wpAny_execs_nil ⟨_, _, S6.ofTry okX, q6⟩
    | brk =>
      obtain ⟨σ6, H6, S6, q6⟩ := hsp
      exact ⟨_, _, S6.ofTry okX, q6⟩
    | cont =>
      obtain ⟨σ6, H6, S6, q6⟩ := hsp
      exact ⟨_, _, S6.ofTry okX, q6⟩
    | ret u =>
      obtain ⟨v6, σ6, H6, S6, r6, q6⟩ := hsp
      exact ⟨_, _, _, S6.ofTry okX, r6, q6⟩
  case caught =>
    obtain ⟨a, B, sI, pins1, σ1, H1, cls, d, rfl, J0, nb, up, sky, na, os, ag, hex1, hnx⟩ := air
    have J : L2.Inv X pins σ1 H1 sI := J0.ofTry okX
    rw [hs] at sky
    show wpAny (model X.prog X.w) X.A (noteFrame (.ref a) X.env) _ _ _
    refine Sky.land Zc.steady frX hf sky fun h3 fl3 up3 => ?_
    have J3 : L2.Inv X pins σ1 H1 { s' with heap := h3 } := J.landed nb fl3.1 (up.trans up3) os ag
    obtain ⟨oe3, vs3, he3, hz3, hd3⟩ := fl3.there
    have nfr : a ∉ frs (X.env :: X.outer) := fun hm => by
      obtain ⟨_, o1, e1, hnf⟩ := fl3.2.2.1.mem hm
      rw [he3] at e1
      cases e1
      exact hnf _ hd3
    have nL : a ≠ X.env.locals := fun z => nfr (List.mem_filterMap.mpr ⟨X.env, List.mem_cons_self, by rw [hf, z]⟩)
    have nF : a ∉ X.fs := fun hm => by
      obtain ⟨e1, he1, w1⟩ := List.mem_filterMap.mp hm
      exact nfr (List.mem_filterMap.mpr ⟨e1, List.mem_cons_of_mem _ he1, w1⟩)
    have nI : sI.heap.get? a = none := by
      cases e1 : sI.heap.get? a with
      | none => rfl
      | some o1 =>
        have w1 := nb a o1 e1 (by rw [hs]; exact nfr)
        rw [fl3.2.1] at w1
        cases w1
    have n0 : X.s_0.heap.get? a = none := by
      cases e1 : X.s_0.heap.get? a with
      | none => rfl
      | some o1 =>
        obtain ⟨o2, w1⟩ := J.base.there a o1 e1 (by rw [hex]; exact fun z => nomatch z)
        rw [nI] at w1
        cases w1
    have S3 := J3.suite he3 hd3 na nL nF
    refine wpAny_handleBy_cons (codeAny_handlers_test ?_) (by intro w1; cases w1)
    have LT : PySem.W.Looks (model X.prog X.w) h3 (typeOf (.ref a)) cls := fun A Q E s k w1 => wpAny_typeOf_ref (k _ _ he3) (by rw [hz3.1]; exact w1)
    have LM := PySem.W.exm_one (M := model X.prog X.w) (J3.kIn) LT hex1
    have test : ∀ {Q : Value → Shared → Prop} {E : Value → Shared → Prop}, Q c { s' with heap := h3 } →
        wpAny (model X.prog X.w) (X.A.mark (some (.ref a))) (eval (.Name x np) X.env) Q E { s' with heap := h3 } := fun {Q E} w1 => by
      obtain ⟨hg, hdbg, hm | ⟨hm, hv, hnn⟩⟩ := hc
      · exact ld_glob (X := X.suite a ((a, oe3) :: (X.pn ++ pins))) S3 hg hm w1 hdbg
      · exact ld_blt (X := X.suite a ((a, oe3) :: (X.pn ++ pins))) S3 hg hm hv w1 hnn hdbg
    refine test (LM.here ?_)
    refine codeAny_handlers_suite_as ?_
    refine HandSPX.lands_againZ fl3 fun h4 fl4 up4 => ?_
    have J4 : L2.Inv X pins σ1 H1 { s' with heap := h4 } := J.landed nb fl4.1 ((up.trans up3).trans up4) os ag
    obtain ⟨oe4, vs4, he4, hz4, hd4⟩ := fl4.there
    have S4 := J4.suite he4 hd4 na nL nF
    refine store_ok (X := X.suite a ((a, oe4) :: (X.pn ++ pins))) (v := .ref a) S4 hN hi (.inl hln) rfl (fun s5 S5 => ?_) (.inr hln)
    have hpa : PE (X.suite a ((a, oe4) :: (X.pn ++ pins))) (.Name n q2) (tVar i) := pe_var hi (.inl hln) hd1 hd2
    have hps : PS (X.suite a ((a, oe4) :: (X.pn ++ pins))) (.Assign [.Name m q1] (.Name n q2) q3) (tAsg (tVar i) (gName j)) := ps_asg hpa (pg_name hN hj (.inl hlm)) hsw
    have iσ : i < (σ1.set i (some (V.ref a))).length := by
      rw [List.length_set, J4.len]
      exact (List.getElem?_eq_some_iff.mp hi).1
    have at_i : (σ1.set i (some (V.ref a)))[i]? = some (some (V.ref a)) := by
      rw [List.length_set] at iσ
      exact List.getElem?_set_self iσ
    refine wpAny_mono ((pss_one hps).run [] s5 _ H1 { nx := fun σ6 H6 => σ6 = (σ1.set i (some (V.ref a))).set j (some (V.ref a)) ∧ H6 = H1, rt := fun _ _ => False } S5 ⟨V.ref a, at_i, rfl, rfl⟩) (fun f s6 hsp => ?_) (fun _ _ z => False.elim z)
    cases f with
    | next =>
      obtain ⟨σ6, H6, S6, e6, e7⟩ := hsp
      subst e6 e7
      have pa := S6.pin (a, oe4) (List.mem_append_left _ List.mem_cons_self)
      have U0 : L2.Inv X pins _ _ s6 := S6.unsuite okX
      have U := Inv.takeUp U0 pa.1 hz4 hd4 na n0 nL (fun x1 c1 w1 w2 => by
        obtain ⟨v1, o1, w3, w4⟩ := U0.cell x1 c1 w1
        rw [w2, pa.1] at w3
        cases w3
        rw [hd4] at w4
        cases w4) (fun p hp w2 => by
        have w3 := (J.pin p hp).1
        rw [w2, nI] at w3
        cases w3)
      exact gone_ok U hN hi hln (fun s7 J7 => ⟨_, _, J7, hnx a na J.len⟩)
    | brk =>
      obtain ⟨_, _, _, z⟩ := hsp
      exact z.elim
    | cont =>
      obtain ⟨_, _, _, z⟩ := hsp
      exact z.elim
    | ret u =>
      obtain ⟨_, _, _, _, _, z⟩ := hsp
      exact z.elim
end
end K3

namespace K3
open PySem L2
/-- what an own exception class says of its instances -/
structure ExcL (K : PySem.W.Frag) (C : Addr) : Prop where
  cl : (PySem.W.clsIn K C).isSome = true
  ga : PySem.W.findIn K (.ref C) "__getattribute__" = some (some (.builtin "BaseException.__getattribute__"))
  gg : PySem.W.findIn K (.ref C) "__getattr__" = some none
  ex : PySem.W.subIn K (.ref C) (.type "BaseException") = some true
  hd : PySem.W.hasDictIn K C = true
  ca : PySem.W.findIn K (.ref C) "__class__" = some (some (.builtin "object.__class__"))
  cg : PySem.W.specialIn K (.builtin "object.__class__") "__get__" = some (some (.builtin "getset_descriptor.__get__"))
  tk : PySem.W.takesIn K (.builtin "object.__class__") = some true
  mo : PySem.W.mroIn K C (.type "object") = some true
section
variable {X : Cx} {pins : List (Addr × Obj)} {σ : L2.St} {H : Hp} {s : Shared}
theorem exk_inst {a C dd : Addr} {fs : List (Str × V)} (I : L2.Inv X pins σ H s) (ha : H a = some (ExK (.ref C) (some dd) a)) (hd : H dd = some (.xd fs)) :
    ∃ oe od, PySem.W.InstAt s.heap a oe C (some od) ∧ (∀ f v, fs.lookup f = some v → ∃ u, PySem.W.lookIn f od = some (some u) ∧ RelV v u) := by
  obtain ⟨⟨oe, vs, e1, e2, e3⟩, _, _⟩ := I.hok a _ ha
  have hx : ObjOk X.prog X.w H s.heap dd (.xd fs) := I.hok dd _ hd
  obtain ⟨mA, hns, hr⟩ := hx
  obtain ⟨od, ho, hl⟩ := lookIn_ns hns
  refine ⟨oe, od, ⟨e1, e2.1, by unfold PySem.W.notCls; rw [e3] <;> rfl, by rw [e2.2]; exact ho⟩, fun f v l => ?_⟩
  obtain ⟨u, hu, ru⟩ := RelO.some_of (v := v) (o := mA f) (by rw [← l]; exact hr f)
  exact ⟨u, by rw [hl, hu], ru⟩
end
def tExk (K : PySem.W.Frag) (n : Str) (te : TE) : TE := fun σ H Q => te σ H fun x H1 => ∃ (a C dd : Addr) (fs : List (Str × V)) (v : V), x = .ref a ∧ H1 a = some (ExK (.ref C) (some dd) a) ∧ H1 dd = some (.xd fs) ∧ ExcL K C ∧ PySem.W.findIn K (.ref C) n = some none ∧ fs.lookup n = some v ∧ Q v H1
theorem pe_exk {X : Cx} {e : Expr} {te : TE} {pos : Pos} {n : Str} (he : PE X e te) (hb : attributeBase e n X.env (eval e X.env) = eval e X.env := by rfl) : PE X (.Attribute e n pos) (tExk X.K n te) := by
  refine ⟨fun pins s σ H Q I h => ?_⟩
  refine attr_of hb (thn (he.run pins s σ H _ I h) fun u s1 hh => ?_)
  obtain ⟨x, H1, I1, rx, a, C, dd, fs, v, ex, ha, hd, L, nf, l, q⟩ := hh
  subst ex
  obtain rfl : u = Value.ref a := rx
  obtain ⟨oe, od, J, look⟩ := exk_inst I1 ha hd
  obtain ⟨u, hu, ru⟩ := look n v l
  exact HandSPX.exc_get I1.kIn J L.ga L.gg L.ex (PySem.W.findObj_own L.hd nf rfl hu) (handed_of ru) ⟨v, H1, I1.tok _, ru, q⟩
def rIsK (K : PySem.W.Frag) : List V → Hp → VK → Prop := fun xs H Q => ∃ (a C C2 dd : Addr) (fs : List (Str × V)) (b : Bool), xs = [.ref a, .ref C2] ∧ H a = some (ExK (.ref C) (some dd) a) ∧ H dd = some (.xd fs) ∧ ExcL K C ∧ PySem.W.kitOne K (.ref C) (.ref C2) = some b ∧ Q (.bl b) H
theorem call_isK {X : Cx} : CallR X (.builtin "isinstance") (rIsK X.K) := by
  intro pins s σ H xs us Q I r h
  obtain ⟨a, C, C2, dd, fs, b, rfl, ha, hd, L, e, q⟩ := h
  obtain ⟨u1, u2, rfl, r1, r2⟩ := vals2 r
  obtain rfl : u1 = Value.ref a := r1
  obtain rfl : u2 = Value.ref C2 := r2
  obtain ⟨oe, od, J, _⟩ := exk_inst I ha hd
  exact PySem.W.kia_one (PySem.W.kitx_exc L.cl L.ga L.gg L.ex L.ca L.cg L.tk L.mo) I.kIn J e (fun z => nomatch z) fun tk => ⟨.bl b, H, I.tok tk, rfl, q⟩
@[simp] theorem x_tExk {K : PySem.W.Frag} {n : Str} {te : TE} {σ : L2.St} {H : Hp} {Q : VK} : tExk K n te σ H Q = te σ H fun x H1 => ∃ (a C dd : Addr) (fs : List (Str × V)) (v : V), x = .ref a ∧ H1 a = some (ExK (.ref C) (some dd) a) ∧ H1 dd = some (.xd fs) ∧ ExcL K C ∧ PySem.W.findIn K (.ref C) n = some none ∧ fs.lookup n = some v ∧ Q v H1 := rfl
end K3

namespace K3
open PySem L2
section
variable {X : Cx} {C fI cda cc : Addr}
/-- the facts that a raise of InvalidTree asks -/
structure ErrF (P : Program) (K : PySem.W.Frag) (mg : Str → Option Value) (C : Addr) : Prop where
  ex : ∃ fI cda cc, ErrC P K mg C fI cda cc "part" "InvalidTree.__init__" sErrInit
  mgC : mg "InvalidTree" = some (.ref C)
theorem pmk_form {e : Expr} {te : TE} {p pos : Pos} (T : ErrF X.prog X.K X.mg C) (hr : Room 2 X.A) (hg : Gl X "InvalidTree") (he : PE X e te)
    (hs : starEach [e] X.env = (false, eval e X.env) :: starEach [] X.env := by rfl) :
    PMk X (.Call (.Name "InvalidTree" p) [e] [] pos) (tMkO C (spErr C "part") [] (tCons te tNil)) := by
  obtain ⟨fI, cda, cc, TC⟩ := T.ex
  obtain ⟨oc, od, kV, doc, pm, an, ct, osl, lk⟩ := TC.fn
  exact pmk_oex TC.ox TC.fi TC.ti (ok_errInit TC lk) hr (.all fun us hl => match us, hl with | [_, _], _ => rfl) .nil passL hg T.mgC (pa_cons he pa_nil (by exact hs)) (by decide) hs (by rfl)
theorem raise_ans {H1 : Hp} {v : V} {Q : XK} (k : ∀ d, H1 d = none → Q (.ref C) (some d) (upd H1 d (.xd [("part", v)]))) :
    ([v] : List V).length ≤ 1000 ∧ ∀ a, H1 a = none → spErr C "part" (.ref a :: ([v] ++ [])) (upd H1 a (exo a C none))
      (fun u H2 => u = .non ∧ ∃ (d : Addr) (fs : List (Str × V)), H2 a = some (exo a C (some d)) ∧ H2 d = some (exd d fs) ∧ H1 d = none ∧ Q (.ref C) (some d) (upd (del H2 a) d (.xd fs))) (fun _ _ _ => False) := by
  refine ⟨by show 1 ≤ 1000; decide, fun a na => ⟨a, v, rfl, upd_same, fun dx ndx ne => ?_⟩⟩
  rw [upd_ne ne] at ndx
  refine ⟨rfl, dx, [("part", v)], upd_same, by rw [upd_ne ne, upd_same], ndx, ?_⟩
  have e : upd (del (upd (upd (upd H1 a (exo a C none)) dx (exd dx [("part", v)])) a (exo a C (some dx))) a) dx (.xd [("part", v)]) = upd H1 dx (.xd [("part", v)]) := by
    funext b
    by_cases q : b = dx
    · rw [q, upd_same, upd_same]
    · rw [upd_ne q, upd_ne q]
      by_cases q2 : b = a
      · rw [q2, del_same, na]
      · rw [del_ne q2, upd_ne q2, upd_ne q, upd_ne q2]
  rw [e]
  exact k dx ndx
end
/-! ### values stand while their own object stands -/
theorem TyOf.keep {K : PySem.W.Frag} {H H' : Hp} {v : V} {t : Value} (h : TyOf K H v t) (k : ∀ a o, v = .ref a → H a = some o → H' a = some o) : TyOf K H' v t := by
  cases h with
  | non => exact .non
  | bl x => exact .bl x
  | int i => exact .int i
  | str x => exact .str x
  | flt x => exact .flt x
  | lst e => exact .lst (k _ _ rfl e)
  | frz e => exact .frz (k _ _ rfl e)
  | tup e => exact .tup (k _ _ rfl e)
  | dK e => exact .dK (k _ _ rfl e)
  | dT e => exact .dT (k _ _ rfl e)
  | ins e cl ha hn htk hm => exact .ins (k _ _ rfl e) cl ha hn htk hm
theorem TyX.keep {K : PySem.W.Frag} {H H' : Hp} {v : V} {t : Value} (h : TyX K H v t) (k : ∀ a o, v = .ref a → H a = some o → H' a = some o) : TyX K H' v t := by
  cases h with
  | base h => exact .base (TyOf.keep h k)
  | byt b => exact .byt b
  | set e => exact .set (k _ _ rfl e)
  | kList e c => exact .kList e c
  | kTuple e c => exact .kTuple e c
  | kDict e c => exact .kDict e c
  | fTuple e => exact .fTuple (k _ _ rfl e)
  | fDict e => exact .fDict (k _ _ rfl e)
theorem Val.keep {K : PySem.W.Frag} {H H' : Hp} {v : V} (h : Val K H v) (k : ∀ a o, v = .ref a → H a = some o → H' a = some o) : Val K H' v := by
  rcases h with h | ⟨h1, h0, t, h2, h3⟩
  · exact .inl h
  · exact .inr ⟨h1, fun a e => let ⟨o, q⟩ := h0 a e; ⟨o, k a o e q⟩, t, TyX.keep h2 k, h3⟩
theorem Val.ne {K : PySem.W.Frag} {H : Hp} {v : V} {x : Addr} (h : Val K H v) (n : H x = none) : v ≠ .ref x := fun e => by
  rcases h with ⟨z, e2, _⟩ | h
  · rw [e] at e2
    cases e2
  · obtain ⟨o, q⟩ := h.2.1 x e
    rw [n] at q
    cases q
theorem Val.same {K : PySem.W.Frag} {H H' : Hp} {v : V} (h : Val K H v) (s : Same H H') : Val K H' v := Val.keep h fun a o _ e => s a o e
end K3

namespace K3
open PySem L2
section
variable {P : Program} {w : World} {K : PySem.W.Frag} {mg : Str → Option Value} {base : Heap}
open PySem.W PySem.Calls in
/-- the __init__ of such a class, as the text has it: super().__init__('..'); self.fld = part -/
theorem ok_errInitP {C fI cda cc : Addr} (T : ErrC P K mg C fI cda cc "part" "InvalidPart.__init__" sPartErr)
    {kV doc pm ct oc : Value} {od an : Option Addr} {osl : Array (Option Value)}
    (lk : K.lookup fI = some ⟨oc, od, .func (PySem.W.ksFn "__init__" "InvalidPart.__init__" (defArgs sPartErr) (defBody sPartErr) (defScope sPartErr) .none kV doc pm an (.ref cda) ct cc), osl⟩) :
    FnOk P w K mg base (L2.CX P w) 1 fI (PySem.W.ksFn "__init__" "InvalidPart.__init__" (defArgs sPartErr) (defBody sPartErr) (defScope sPartErr) .none kV doc pm an (.ref cda) ct cc) ["self", "part"] (spErr C "part") := by
  refine ⟨fun vs H Q E h => ?_, fun A outer s H args us vs Q E hr e0 hbd r h => ?_⟩
  · obtain ⟨a, y, rfl, _⟩ := h
    rfl
  · obtain ⟨a, y, rfl, ha, k⟩ := h
    obtain ⟨u0, u, rfl, r1, r2⟩ := vals2 r
    obtain rfl : u0 = Value.ref a := r1
    have KX : K.In s.heap := e0.mod.kin.keeps fun b o e => (e0.bs b o e).1
    have lim : s.heap.NoLimit := e0.mod.nolimit.keeps fun b o e => (e0.bs b o e).1
    obtain ⟨t1, hx⟩ := exo_at e0.hok ha
    obtain ⟨nm, q, N, bs, bm, sn, sub, ab, col, dd, k0, k1, k2, k3, k5, hC, hbm⟩ := T.ox.cls
    have hcl : clsIn K C = some { name := nm, bases := bs, mro := .ref C :: bm, ns := N, qualname := q, hasDict := true, slotNames := sn, subclasses := sub, abstract := ab, collection := col, hasDel := false } := by unfold clsIn; rw [hC] <;> rfl
    have hal := T.al _ hcl
    obtain ⟨ccl, cdd, cvs, ccs, file, tf, hcda, hvs, hfile⟩ := T.cod
    obtain ⟨cl, cld, csl, hcel⟩ := T.cel
    refine ks_codeAny_call_defAt (fd := ksFn "__init__" "InvalidPart.__init__" (defArgs sPartErr) (defBody sPartErr) (defScope sPartErr) .none kV doc pm an (.ref cda) ct cc) (body := defBody sPartErr) hr.depth (KX _ _ lk) rfl lim (codeRec_of KX T.cd) rfl hbd (show ∀ x ∈ (defScope sPartErr).names, x.2 ≠ .cell by decide +kernel) ?_ (fun h0 hns hk => ?_)
    · intro z hz
      rcases List.mem_cons.mp hz with e | hz
      · rw [e]; rfl
      · rcases List.mem_cons.mp hz with e | hz
        · rw [e]; rfl
        · cases hz
    · generalize eL : s.heap.objs.size = L at hns
      rw [show (callEnv (ksFn "__init__" "InvalidPart.__init__" (defArgs sPartErr) (defBody sPartErr) (defScope sPartErr) .none kV doc pm an (.ref cda) ct cc) L fI) = ksEnv "InvalidPart.__init__" (defScope sPartErr) L fI (.ref cda) cc from rfl]
      have up : ∀ {b o}, K.lookup b = some o → h0.get? b = some o := fun {b o} e => hk b o (KX b o e)
      have KX0 : K.In h0 := fun b o e => up e
      have hx0 := hk _ _ hx
      obtain ⟨mb, hmb, hbl⟩ := e0.mod.blt
      have hbk : ∀ b o, base.get? b = some o → h0.get? b = some o := fun b o e => hk b o (e0.bs b o e).1
      refine ks_wpAt_execs_cons (ks_wpAt_Expr_any (ks_wpAt_MethodCall (ks_wpAt_super_base (fd := ksFn "__init__" "InvalidPart.__init__" (defArgs sPartErr) (defBody sPartErr) (defScope sPartErr) .none kV doc pm an (.ref cda) ct cc) rfl rfl (by decide +kernel) rfl (up lk) rfl rfl rfl (up hcda) rfl hvs hfile T.top ?_)))
      refine ks_loadName_global rfl rfl (loadGlobal_builtin (env := ksEnv "InvalidPart.__init__" (defScope sPartErr) L fI (.ref cda) cc) (e0.mod.glob.keeps hbk) (mg_none_of e0.mod.kin e0.mod.glob T.sup) (hmb.keeps hbk) ((hbl _ (by decide +kernel)).trans PyProof.Rows.Boot.«super») ⟨rfl, ?_⟩)
      refine wpAny_loadName_free rfl rfl rfl ⟨_, up hcel, rfl⟩ ?_
      refine wpAny_loadName_local rfl rfl hns rfl ?_
      refine ks_wpAny_isType_cls (up hC) rfl ⟨rfl, ?_⟩
      refine ks_wpAny_call_super (up hC) rfl hx0 rfl (fun c e => by cases e) (looks_mroIn KX0 T.mr) (fun h1 so1 up1 => ?_)
      have KX1 : K.In h1 := fun b o e => up1 _ _ (up e)
      have hI1 : InstAt h1 a { cls := Value.ref C, data := Data.fields #[Value.ref t1, Value.none, Value.none, Value.none, Value.bool false, Value.none] } C none := ⟨up1 _ _ hx0, rfl, rfl, trivial⟩
      refine kxs_getMethod kxs_ValueError so1 (looks_opaque KX1 T.opq) (fun A Q E s k q => wpAny_bind ((looks_clsIn KX1 hcl) A _ E s k (wpAny_pure q))) rfl KX1 hal (hI1.type.andThen (looks_subIn KX1 T.ve)) (ks_ne KX1 hI1 hcl) (by decide +kernel) ?_
      generalize hu : h1.objs.size = z
      have lt1 : ∀ {b o}, h1.get? b = some o → b ≠ z := fun {b o} e q => by
        have w1 := Heap.lt_size e
        rw [q, ← hu] at w1
        exact Nat.lt_irrefl _ w1
      have up2 : ∀ b o, h1.get? b = some o → (h1.push (kxs_mw "ValueError.__init__" a)).get? b = some o := fun b o e => Heap.get?_push_of_some _ e
      have hmw : (h1.push (kxs_mw "ValueError.__init__" a)).get? z = some (kxs_mw "ValueError.__init__" a) := by
        rw [← hu]
        exact Heap.get?_push_size _ rfl
      generalize h1.push (kxs_mw "ValueError.__init__" a) = h2 at up2 hmw
      have all2 : ∀ b o, h0.get? b = some o → h2.get? b = some o := fun b o e => up2 b o (up1 b o e)
      refine kxs_callWith (i := "ValueError.__init__") (u := z) (x := a) (by rfl) (evalArgs_plain ?_)
      refine Calls.spliced_cons ?_
      refine Calls.Constant_str (pos := ⟨7, 25, 7, 39⟩) (k := 0) ?_
      refine Calls.spliced_nil ⟨hmw, ?_⟩
      have hbn : ∀ {b o}, h0.get? b = some o → H b ≠ none ∨ b = L → base.get? b = none := fun {b o} _ q => by
        cases e : base.get? b with
        | none => rfl
        | some v =>
          have w1 := e0.bs b v e
          rcases q with q | q
          · exact absurd w1.2 q
          · have w2 := Heap.lt_size w1.1
            rw [q, ← eL] at w2
            exact absurd w2 (Nat.lt_irrefl _)
      have aL : a ≠ L := fun q => by
        have w2 := Heap.lt_size hx
        rw [q, ← eL] at w2
        exact Nat.lt_irrefl _ w2
      have ba : base.get? a = none := hbn hx0 (.inl (by rw [ha]; exact fun q => nomatch q))
      have bz : base.get? z = none := by
        cases e : base.get? z with
        | none => rfl
        | some v => exact absurd rfl (lt1 (up1 _ _ (hbk _ _ e)))
      obtain ⟨oL, eL1, eL2, hoL, rL⟩ := id hns
      have F2 : PyProof.Rows.Fr base L h2 (fun x => List.lookup x ([("self" : Str), "part"].zip [Value.ref a, u]).reverse) := ⟨⟨oL, eL1, eL2, all2 _ _ hoL, rL⟩, fun b o e => all2 b o (hbk b o e), by rw [← eL]; exact e0.bsz⟩
      have za : z ≠ a := fun q => lt1 (up1 _ _ hx0) q.symm
      have zL : z ≠ L := fun q => lt1 (up1 _ _ hoL) q.symm
      refine kxs_call (t := t1) (dv := none) (c2 := .none) (s := ⟨h2, _, _, _, _⟩) F2 e0.mod.kin (news_at aL ba (all2 _ _ hx0)) F.excBase_ValueError T.ei (List.mem_cons_of_mem _ (mem_rest zL bz hmw za)) (.head rest_ne) (by show 1 ≤ sizeLine; decide) (fun t3 h3 F3 N3 _ => ?_)
      have k3 : ∀ b o, b ≠ L → b ≠ a → h2.get? b = some o → h3.get? b = some o := kept_of_news (fun b o e => all2 b o (hbk b o e)) F3 (fun p hp => N3 p (List.mem_cons_of_mem _ (List.mem_cons_of_mem _ hp)))
      have hx3 : h3.get? a = some ({ cls := .ref C, dict := none, data := .fields #[.ref t3, .none, .none, .none, .bool false, .none] } : Obj) := (N3 _ (List.mem_cons_of_mem _ (List.mem_cons_self ..))).1
      have all3 : ∀ b o, b ≠ a → s.heap.get? b = some o → h3.get? b = some o := fun b o hb e => k3 b o (fun q => by
        have w2 := Heap.lt_size e
        rw [q, ← eL] at w2
        exact Nat.lt_irrefl _ w2) hb (all2 b o (hk b o e))
      have KX3 : K.In h3 := e0.mod.kin.keeps F3.keep
      show wpAt _ _ _ (execs _ _) _ _ _
      refine ks_wpAt_execs_cons (ks_wpAt_Assign_Attr (wpAt_of_wpAny ?_))
      refine wpAny_Name (wpAny_loadName_local rfl rfl F3.ns rfl ?_) (by decide)
      refine wpAny_Name (wpAny_loadName_local rfl rfl F3.ns rfl ?_) (by decide)
      refine set_plain KX3 (ox := { cls := .ref C, dict := none, data := .fields #[.ref t3, .none, .none, .none, .bool false, .none] }) (od := none) ⟨hx3, rfl, rfl, trivial⟩ T.ox.sa ?_
      refine HandSPX.exc_osa KX3 hx3 hcl (show HandSPX.refsVE (.ref C :: bm) = true from hbm) rfl T.nf (fun hF tkF dx kF dn dne hxF hnF => ?_)
      have Ldx : s.heap.objs.size ≤ dx := by
        obtain ⟨o3, _, _, e3, _⟩ := F3.ns
        have w2 := Heap.lt_size e3
        rw [eL]
        exact Nat.le_trans (Nat.le_of_lt w2) dn
      have Hdx : H dx = none := e0.hok.fresh Ldx
      have keepF : ∀ b o, b ≠ a → s.heap.get? b = some o → hF.get? b = some o := fun b o nb e => kF b o nb (all3 b o nb e)
      have na : ∀ {b : Addr}, H b = none → b ≠ a := fun {b} n q => by
        rw [q, ha] at n
        cases n
      have nd : ∀ {b : Addr} {o : Obj}, s.heap.get? b = some o → b ≠ dx := fun {b o} e q => by
        have w2 := Heap.lt_size e
        rw [q] at w2
        exact absurd (Nat.lt_of_lt_of_le w2 Ldx) (Nat.lt_irrefl _)
      have same : ∀ b o, H b = some o → o ≠ exo a C none → (upd (upd H dx (exd dx [("part", y)])) a (exo a C (some dx))) b = some o := fun b o e ne => by
        rw [upd_ne (fun q => ne (by rw [q, ha] at e; exact (Option.some.inj e).symm)), upd_ne (ne_of_none e Hdx)]
        exact e
      have un : Un (frs outer) [] H (upd (upd H dx (exd dx [("part", y)])) a (exo a C (some dx))) s.heap hF := {
        keep := fun b o e n _ _ => keepF b o (na n) e
        slot := fun b o e n _ _ => ⟨o.slots, keepF b o (na n) e⟩
        free := fun b o e n _ => by
          rw [upd_ne (na n), upd_ne (nd e)]
          exact n
        there := fun b o e _ => by
          by_cases q : b = a
          · rw [q]
            exact ⟨_, hxF⟩
          · exact ⟨o, keepF b o q e⟩
        tups := fun b xs e => same b _ e (fun q => exo_tup q.symm)
        frzs := fun b o v e => same b _ e (fun q => exo_frz q.symm)
        tbls := fun b ps e => ⟨#[], by rw [same b _ e (fun q => exo_tbl q.symm)]; simp⟩ }
      have okF : HOk P w (upd (upd H dx (exd dx [("part", y)])) a (exo a C (some dx))) hF := fun b o e => by
        by_cases q : b = a
        · subst q
          rw [upd_same] at e
          cases e
          exact exo_ok hxF
        · rw [upd_ne q] at e
          by_cases q2 : b = dx
          · subst q2
            rw [upd_same] at e
            cases e
            exact exd_ok hnF (relO_put (fs := []) r2 fun g => True.intro)
          · rw [upd_ne q2] at e
            exact (e0.hok b o e).stay (fun c v hc z => keepF c v (by
                rcases hc with hc | hc
                · rw [hc]
                  exact q
                · exact at_ne ha hc exo_own) z) (fun c hc => same c _ hc (fun q => exo_own q.symm)) (fun c xs hc => same c _ hc (fun q => exo_tup q.symm))
      show wpAt _ _ _ (execs [] _) _ _ _
      refine wpAt_of_wpAny (wpAny_pure ?_)
      exact ⟨.non, _, rfl, e0.bare, un, okF, rfl, k dx Hdx dne⟩
end
open PySem L2
section
variable {X : Cx} {C fI cda cc : Addr}
/-- the facts that a raise of InvalidPart asks -/
structure ErrP (P : Program) (K : PySem.W.Frag) (mg : Str → Option Value) (C : Addr) : Prop where
  ex : ∃ fI cda cc, ErrC P K mg C fI cda cc "part" "InvalidPart.__init__" sPartErr
  mgC : mg "InvalidPart" = some (.ref C)
theorem pmk_part {e : Expr} {te : TE} {p pos : Pos} (T : ErrP X.prog X.K X.mg C) (hr : Room 2 X.A) (hg : Gl X "InvalidPart") (he : PE X e te)
    (hs : starEach [e] X.env = (false, eval e X.env) :: starEach [] X.env := by rfl) :
    PMk X (.Call (.Name "InvalidPart" p) [e] [] pos) (tMkO C (spErr C "part") [] (tCons te tNil)) := by
  obtain ⟨fI, cda, cc, TC⟩ := T.ex
  obtain ⟨oc, od, kV, doc, pm, an, ct, osl, lk⟩ := TC.fn
  exact pmk_oex TC.ox TC.fi TC.ti (ok_errInitP TC lk) hr (.all fun us hl => match us, hl with | [_, _], _ => rfl) .nil passL hg T.mgC (pa_cons he pa_nil (by exact hs)) (by decide) hs (by rfl)
end
end K3

namespace K3
open PySem L2
open LamX (ExtN Tabs TabS TabB LamS lamS_by lamSB)
/-! ### what stands while tables of code grow -/
theorem rd_ext {H H' : Hp} {a : Addr} {xs : List V} (e : ExtN H H') (h : Rd H a (.lst xs)) : Rd H' a (.lst xs) := by
  rcases h with h | ⟨o, h⟩
  · exact .inl (e _ _ h fun ps q => by cases q)
  · exact .inr ⟨o, e _ _ h fun ps q => by cases q⟩
theorem seq_ext {K : PySem.W.Frag} {H H' : Hp} {a : Addr} {xs : List V} (e : ExtN H H') (h : SqL K H a xs) : SqL K H' a xs := by
  rcases h with h | h
  · exact .inl (rd_ext e h)
  · exact .inr h
/-- a text, or another thing whose own object stands -/
def ValB (K : PySem.W.Frag) (H : Hp) (v : V) : Prop := (∃ z, v = .str z ∧ z.length ≤ 1000 ∧ PyData.strOk z = true) ∨ ((∀ z, v ≠ .str z) ∧ (∀ a, v = .ref a → ∃ o, H a = some o ∧ ∀ ps, o ≠ .tbl ps) ∧ ∃ t, TyX K H v t ∧ PySem.W.kitOne K t (.type "str") = some false)
theorem ValB.val {K : PySem.W.Frag} {H : Hp} {v : V} (h : ValB K H v) : Val K H v := by
  rcases h with h | ⟨h1, h2, h3⟩
  · exact .inl h
  · exact .inr ⟨h1, fun a e => let ⟨o, q, _⟩ := h2 a e; ⟨o, q⟩, h3⟩
theorem ValB.ext {K : PySem.W.Frag} {H H' : Hp} {v : V} (h : ValB K H v) (e : ExtN H H') : ValB K H' v := by
  rcases h with h | ⟨h1, h2, t, h3, h4⟩
  · exact .inl h
  · refine .inr ⟨h1, fun a q => ?_, t, TyX.keep h3 fun a o q1 q2 => ?_, h4⟩
    · obtain ⟨o, q1, q2⟩ := h2 a q
      exact ⟨o, e _ _ q1 q2, q2⟩
    · obtain ⟨o', q3, q4⟩ := h2 a q1
      rw [q2] at q3
      cases q3
      exact e _ _ q2 q4
theorem ValB.same {K : PySem.W.Frag} {H H' : Hp} {v : V} (h : ValB K H v) (e : Same H H') : ValB K H' v := h.ext (ExtN.of e)
theorem layStrs : ∀ l : List Str, (∀ x ∈ l, PyData.strOk x = true) → PyData.canLayAll0 (l.map PyData.str) = true := fun l => by
  induction l with
  | nil => intro _; rfl
  | cons i l ih =>
    intro h
    simp [PyData.canLayAll0, PyData.canLay0, ih (fun x hx => h x (List.mem_cons_of_mem _ hx)), h i (List.mem_cons_self ..)]
theorem depStrs : ∀ l : List Str, PyData.depthAll (l.map PyData.str) = 0 := fun l => by
  induction l with
  | nil => rfl
  | cons i l ih => simp [PyData.depthAll, PyData.depth, ih]
theorem shTup {l : List Str} (h : ∀ x ∈ l, PyData.strOk x = true) : SeqAt.shaped (.tuple (l.map PyData.str)) = true := by
  simp [SeqAt.shaped, PyData.canLay0, PyData.depth, layStrs l h, depStrs]
/-- a list of tuples of texts -/
theorem shLT {ls : List (List Str)} (h : ∀ l ∈ ls, ∀ x ∈ l, PyData.strOk x = true) : SeqAt.shaped (.list (ls.map fun l => .tuple (l.map PyData.str))) = true := by
  have h1 : ∀ ls : List (List Str), (∀ l ∈ ls, ∀ x ∈ l, PyData.strOk x = true) → PyData.canLayAll0 (ls.map fun l => PyData.tuple (l.map PyData.str)) = true := fun ls => by
    induction ls with
    | nil => intro _; rfl
    | cons i l ih =>
      intro h
      simp [PyData.canLayAll0, PyData.canLay0, ih (fun x hx => h x (List.mem_cons_of_mem _ hx)), layStrs i (h i (List.mem_cons_self ..))]
  have h2 : ∀ ls : List (List Str), PyData.depthAll (ls.map fun l => PyData.tuple (l.map PyData.str)) ≤ 1 := fun ls => by
    induction ls with
    | nil => exact Nat.zero_le _
    | cons i l ih => 
      simp only [PyData.depthAll, PyData.depth, depStrs, List.map_cons]
      omega
  have := h2 ls
  have e : PyData.depthAll (ls.map fun l => PyData.tuple (l.map PyData.str)) + 1 ≤ 64 := by omega
  simp [SeqAt.shaped, PyData.canLay0, PyData.depth, h1 ls h]
  omega
theorem eqvNilT (l : List Str) : PyData.eqv (.tuple (l.map PyData.str)) (.tuple []) = l.isEmpty := by
  cases l <;> rfl
theorem lay_of {d : PyData} (h : SeqAt.shaped d = true) : d.canLay0 = true := by
  unfold SeqAt.shaped at h
  exact (Bool.and_eq_true _ _ ▸ h).1
/-! ### a def whose code object is known -/
structure FunC (K : PySem.W.Frag) (x qual : Str) (st : Stmt) (f : Addr) (fd : FuncData) (c : Addr) : Prop where
  ex : ∃ (oc : Value) (od : Option Addr) (kV doc pm : Value) (an : Option Addr) (ct : Value) (osl : Array (Option Value)),
    fd = PySem.W.fnOf x qual (defArgs st) (defBody st) (defScope st) .none kV doc pm an (.ref c) ct ∧ K.lookup f = some ⟨oc, od, .func fd, osl⟩ ∧ PySem.W.codeIn K (.ref c) qual = true
  kp : PySem.W.keepIn K (.ref f) = true
section
variable {P : Program} {w : World} {K : PySem.W.Frag} {mg : Str → Option Value} {base : Heap}
theorem FunC.ok {x qual : Str} {st : Stmt} {f c : Addr} {fd : FuncData} {N ps : List Str} {k : Nat} {sp : Sp} (F : FunC K x qual st f fd c) (S : FnScope N ps (defScope st)) (len : ∀ vs H Q E, sp vs H Q E → vs.length = ps.length)
    (hbody : ∀ (A : Around) (outer : List Env) (s : Shared) (H : Hp) (vs : List V) (Q : VK) (E : XK), Room k (A.deeper (PyProof.Rows.envOfC qual (defScope st) s.heap.objs.size f (.ref c))) → sp vs H Q E →
      ∃ t, PSs (cxOf CX0 P w K mg base N qual (defScope st) f (.ref c) A outer s H E).nox (defBody st) t ∧ t { nx := fun _ H' => Q .non H', rt := Q } (L2.start N vs) H) : FnOk P w K mg base CX0 (k + 1) f fd ps sp := by
  obtain ⟨oc, od, kV, doc, pm, an, ct, osl, rfl, lk, hcd⟩ := F.ex
  refine fn_of lk hcd S len fun A outer s H vs Q E hr hsp => ?_
  obtain ⟨t, h, q⟩ := hbody A outer s H vs Q E hr hsp
  exact ⟨t, h.nox, q⟩
end
theorem putK_new {kvs : List (Key × V)} {k : Key} {v : V} (h : k ∉ kvs.map Prod.fst) : putK kvs k v = kvs ++ [(k, v)] := by
  unfold putK
  rw [if_neg]
  intro q
  rw [List.any_eq_true] at q
  obtain ⟨p, hp, e⟩ := q
  exact h (List.mem_map.mpr ⟨p, hp, of_decide_eq_true e⟩)
theorem ext_upd {H H1 H2 : Hp} {l : Addr} {u : HO} (e1 : ExtN H H1) (n : H1 l = none) (e2 : ExtN H H2) : ExtN H (upd H2 l u) := fun b o e nt => by
  have nb : b ≠ l := fun q => by
    have z := e1 b o e nt
    rw [q, n] at z
    cases z
  rw [upd_ne nb]
  exact e2 b o e nt
theorem tabs_upd {T : List (Addr × Str)} {H : Hp} {l : Addr} {u : HO} (t : Tabs T H) (h1 : ∀ ps, H l ≠ some (.tbl ps)) (h2 : ∀ c q, H l ≠ some (LamX.CodeO c q)) : Tabs T (upd H l u) := fun p hp => by
  obtain ⟨ps, a, b, c⟩ := t p hp
  refine ⟨ps, by rw [upd_ne (fun q => h1 ps (by rw [← q]; exact a))]; exact a, b, fun pos cv hcv => ?_⟩
  obtain ⟨c0, e1, e2⟩ := c pos cv hcv
  exact ⟨c0, e1, by rw [upd_ne (fun q => h2 c0 _ (by rw [← q]; exact e2))]; exact e2⟩
theorem tabs_lst {T : List (Addr × Str)} {H : Hp} {l : Addr} {u : HO} {xs : List V} (t : Tabs T H) (h : H l = some (.lst xs)) : Tabs T (upd H l u) :=
  tabs_upd t (fun ps z => by rw [h] at z; cases z) fun c q z => by
    rw [h] at z
    unfold LamX.CodeO at z
    cases z
theorem tabs_dK {T : List (Addr × Str)} {H : Hp} {l : Addr} {u : HO} {xs : List (Key × V)} (t : Tabs T H) (h : H l = some (.dK xs)) : Tabs T (upd H l u) :=
  tabs_upd t (fun ps z => by rw [h] at z; cases z) fun c q z => by
    rw [h] at z
    unfold LamX.CodeO at z
    cases z
def mkP (p : Str × Str) : Key × V := (.inr p.1, .str p.2)
def dpP (p : Str × Str) : PyData := .tuple [.str p.1, .str p.2]
theorem dpPairs {K : PySem.W.Frag} {H : Hp} : ∀ {ps : List (Str × Str)} {ts : List Addr}, Paired (fun (t : Addr) (q : Key × V) => H t = some (.tup [kV q.1, q.2])) ts (ps.map mkP) → DpAll K H (ts.map V.ref) (ps.map dpP)
  | [], _, h => by
    cases h
    exact .nil
  | p :: ps, _, h => by
    cases h with
    | cons a t => exact .cons (.tup (SqT.of a) (.cons (.str _) (.cons (.str _) .nil))) (dpPairs t)
theorem shForm {a b : Str} {ps : List (Str × Str)} (ha : PyData.strOk a = true) (hb : PyData.strOk b = true) (h : ∀ p ∈ ps, PyData.strOk p.1 = true ∧ PyData.strOk p.2 = true) : SeqAt.shaped (.list [.str a, .str b, .tuple (ps.map dpP)]) = true := by
  have h1 : ∀ ps : List (Str × Str), (∀ p ∈ ps, PyData.strOk p.1 = true ∧ PyData.strOk p.2 = true) → PyData.canLayAll0 (ps.map dpP) = true := fun ps => by
    induction ps with
    | nil => intro _; rfl
    | cons i l ih =>
      intro h
      simp [PyData.canLayAll0, PyData.canLay0, dpP, ih (fun x hx => h x (List.mem_cons_of_mem _ hx)), h i (List.mem_cons_self ..)]
  have h2 : ∀ ps : List (Str × Str), PyData.depthAll (ps.map dpP) ≤ 1 := fun ps => by
    induction ps with
    | nil => exact Nat.zero_le _
    | cons i l ih =>
      have e : PyData.depth (dpP i) = 1 := by simp [dpP, PyData.depth, PyData.depthAll]
      rw [List.map_cons]
      simp only [PyData.depthAll, e]
      omega
  have h3 := h2 ps
  have e : PyData.depthAll (ps.map dpP) + 1 + 1 ≤ 64 := by omega
  simp [SeqAt.shaped, PyData.canLay0, PyData.canLayAll0, PyData.depth, PyData.depthAll, h1 ps h, ha, hb]
  omega
/-! ### which values are right and wrong -/
section
variable {K : PySem.W.Frag} {H : Hp}
theorem valB_str {z : Str} (h : z.length ≤ 1000) (o : PyData.strOk z = true) : ValB K H (.str z) := .inl ⟨z, rfl, h, o⟩
theorem valB_other {v : V} {a : String} (h1 : ∀ z, v ≠ .str z) (h2 : ∀ b, v = .ref b → ∃ o, H b = some o ∧ ∀ ps, o ≠ .tbl ps) (h3 : TyOf K H v (.type a)) (h4 : kitB a "str" = some false) : ValB K H v := .inr ⟨h1, h2, _, .base h3, kit_ty h4⟩
theorem valB_non : ValB K H .non := valB_other (fun _ => nofun) (fun _ => nofun) .non (by decide +kernel)
theorem valB_bl {b : Bool} : ValB K H (.bl b) := valB_other (fun _ => nofun) (fun _ => nofun) (.bl b) (by decide +kernel)
theorem valB_int {i : Int} : ValB K H (.int i) := valB_other (fun _ => nofun) (fun _ => nofun) (.int i) (by decide +kernel)
theorem valB_tup {a : Addr} {xs : List V} (e : H a = some (.tup xs)) : ValB K H (.ref a) := valB_other (fun _ => nofun) (fun b q => by cases q; exact ⟨_, e, fun _ => nofun⟩) (.tup e) (by decide +kernel)
theorem valB_lst {a : Addr} {xs : List V} (e : H a = some (.lst xs)) : ValB K H (.ref a) := valB_other (fun _ => nofun) (fun b q => by cases q; exact ⟨_, e, fun _ => nofun⟩) (.lst e) (by decide +kernel)
theorem valB_dK {a : Addr} {xs : List (Key × V)} (e : H a = some (.dK xs)) : ValB K H (.ref a) := valB_other (fun _ => nofun) (fun b q => by cases q; exact ⟨_, e, fun _ => nofun⟩) (.dK e) (by decide +kernel)
end
/-! ### a text written several times -/
def timesS (z : Str) (n : Nat) : Str := ⟨(List.replicate n z.cps).foldl (· ++ ·) #[]⟩
def rMulS : R2 := fun x y H Q => ∃ (z : Str) (n : Nat), x = .str z ∧ y = .int (n : Int) ∧ 2 ≤ n ∧ n ≤ 1000 ∧ 1 ≤ z.length ∧ z.length ≤ 100 ∧ (timesS z n).length ≤ 100000 ∧ Q (.str (timesS z n)) H
theorem op_mul_str {X : Cx} : OpR X (binaryOp .Mult) rMulS := by
  intro pins s σ H x y v u Q I rx ry h
  obtain ⟨z, n, rfl, rfl, n1, n2, z1, z2, hl, q⟩ := h
  obtain ⟨t, rfl⟩ := rx
  obtain ⟨t', rfl⟩ := ry
  have e1 : ¬ ((n : Int) < 1) := by omega
  have e2 : ¬ ((((n : Int) == 1) || (z.length == 0)) = true) := by
    rw [Bool.or_eq_true, beq_iff_eq, beq_iff_eq]
    omega
  refine PySem.P.mul_str ?_ (fun _ _ => ?_) (fun _ _ => ?_) ?_
  · rw [decide_eq_false (by omega), decide_eq_false (by omega)]
    rfl
  · have h3 : (1000 : Int) ≤ (2 ^ 63 - 1) / (n : Int) := (Int.le_ediv_iff_mul_le (by omega)).mpr (by omega)
    omega
  · have h4 : z.length * n ≤ 100 * 1000 := Nat.mul_le_mul z2 n2
    have e : ((n : Int)).toNat = n := by omega
    rw [e]
    have h5 : 100000 ≤ sizeLine := by decide
    exact decide_eq_false (by omega)
  · rw [if_neg e1, if_neg e2]
    have e : ((n : Int)).toNat = n := by omega
    rw [e]
    refine ⟨?_, ⟨.str (timesS z n), H, I.tok _, ⟨_, rfl⟩, q⟩⟩
    exact Nat.le_trans hl (by decide)
/-! ### what stands while the law draws and asks -/
def FD (m lg : Addr) (H H' : Hp) : Prop := ∀ b o, b ≠ m → b ≠ lg → H b = some o → (∀ ps, o ≠ .tbl ps) → H' b = some o
theorem FD.refl {m lg : Addr} (H : Hp) : FD m lg H H := fun _ _ _ _ e _ => e
theorem FD.trans {m lg : Addr} {H H1 H2 : Hp} (a : FD m lg H H1) (b : FD m lg H1 H2) : FD m lg H H2 := fun c o h1 h2 e n => b c o h1 h2 (a c o h1 h2 e n) n
theorem FD.ext {m lg : Addr} {H H' : Hp} (e : ExtN H H') : FD m lg H H' := fun b o _ _ q n => e b o q n
theorem FD.same {m lg : Addr} {H H' : Hp} (e : Same H H') : FD m lg H H' := fun b o _ _ q _ => e b o q
theorem FD.draw {m lg : Addr} {H H' : Hp} (e : ∀ b o, b ≠ m → b ≠ lg → H b = some o → H' b = some o) : FD m lg H H' := fun b o h1 h2 q _ => e b o h1 h2 q
theorem MA.ext {m lc lg : Addr} {n : Int} {H H' : Hp} (M : MA m lc lg n H) (e : ExtN H H') : MA m lc lg n H' := by
  obtain ⟨hm, ne, ⟨cs, hc, c1, c2⟩, ⟨gs, hg, g1⟩, n0⟩ := M
  exact ⟨e _ _ hm fun _ => nofun, ne, ⟨cs, e _ _ hc fun _ => nofun, c1, c2⟩, ⟨gs, e _ _ hg fun _ => nofun, g1⟩, n0⟩
theorem MA.same {m lc lg : Addr} {n : Int} {H H' : Hp} (M : MA m lc lg n H) (e : Same H H') : MA m lc lg n H' := M.ext (ExtN.of e)
theorem tabs_draw {T : List (Addr × Str)} {m lc lg : Addr} {n : Int} {H H' : Hp} (t : Tabs T H) (M : MA m lc lg n H) (e : ∀ b o, b ≠ m → b ≠ lg → H b = some o → H' b = some o) : Tabs T H' := fun p hp => by
  obtain ⟨hm, _, _, ⟨gs, hg, _⟩, _⟩ := M
  obtain ⟨ps, a, b, c⟩ := t p hp
  refine ⟨ps, e _ _ (ne_of a hm (by intro q; cases q)) (ne_of a hg (by intro q; cases q)) a, b, fun pos cv hcv => ?_⟩
  obtain ⟨c0, e1, e2⟩ := c pos cv hcv
  refine ⟨c0, e1, e _ _ (ne_of e2 hm ?_) (ne_of e2 hg ?_) e2⟩
  · unfold LamX.CodeO
    intro q
    cases q
  · unfold LamX.CodeO
    intro q
    cases q
def keyB (z : Str) : Bool := decide (z.length ≤ 1000) && PyData.strOk z
/-- a value that is not touched by drawing -/
structure OkV (K : PySem.W.Frag) (m lg : Addr) (H : Hp) (v : V) : Prop where
  b : ValB K H v
  m : v ≠ .ref m
  g : v ≠ .ref lg
theorem OkV.fd {K : PySem.W.Frag} {m lg : Addr} {H H' : Hp} {v : V} (h : OkV K m lg H v) (e : FD m lg H H') : OkV K m lg H' v := by
  refine ⟨?_, h.m, h.g⟩
  rcases h.b with q | ⟨h1, h2, t, h3, h4⟩
  · exact .inl q
  · have go : ∀ a o, v = .ref a → H a = some o → H' a = some o := fun a o q q2 => by
      obtain ⟨o', q3, q4⟩ := h2 a q
      rw [q2] at q3
      cases q3
      exact e a o (fun z => h.m (by rw [q, z])) (fun z => h.g (by rw [q, z])) q2 q4
    refine .inr ⟨h1, fun a q => ?_, t, TyX.keep h3 go, h4⟩
    obtain ⟨o, q2, q4⟩ := h2 a q
    exact ⟨o, go a o q q2, q4⟩
theorem okV_str {K : PySem.W.Frag} {m lg : Addr} {H : Hp} {z : Str} (h : keyB z = true) : OkV K m lg H (.str z) := by
  unfold keyB at h
  rw [Bool.and_eq_true] at h
  exact ⟨valB_str (of_decide_eq_true h.1) h.2, nofun, nofun⟩
theorem okV_of {K : PySem.W.Frag} {m lg : Addr} {H : Hp} {v : V} (h : ValB K H v) (n : ∀ a, v ≠ .ref a) : OkV K m lg H v := ⟨h, n m, n lg⟩
/-- a list of values that stands -/
structure LsV (K : PySem.W.Frag) (m lg : Addr) (H : Hp) (l : Addr) (xs : List V) : Prop where
  at_ : H l = some (.lst xs)
  nm : l ≠ m
  ng : l ≠ lg
  ok : ∀ x ∈ xs, OkV K m lg H x
theorem LsV.fd {K : PySem.W.Frag} {m lg : Addr} {H H' : Hp} {l : Addr} {xs : List V} (h : LsV K m lg H l xs) (e : FD m lg H H') : LsV K m lg H' l xs := ⟨e _ _ h.nm h.ng h.at_ fun _ => nofun, h.nm, h.ng, fun x hx => (h.ok x hx).fd e⟩
end K3

namespace K3
open PySem L2
open LamX (ExtN Tabs TabS TabB)
/-! ### parts of nodes: texts, rows, variables, nodes of trees and of patterns -/
inductive Tr where
  | tx (s : Str)
  | row (ts : List Tr)
  | vr (k : Nat) (n : Str)
  | nd (lk : Bool) (f : Str) (ps : List Tr)
/-- it can stand for a node -/
def isN : Tr → Bool
  | .nd .. => true
  | .vr 0 _ => true
  | _ => false
/-- the nodes among parts -/
def below : List Tr → List Tr
  | [] => []
  | .row ts :: ps => ts.filter isN ++ below ps
  | p :: ps => (if isN p = true then [p] else []) ++ below ps
def quoteS (s : Str) : Str := "\"" ++ (Txt.replace (Txt.replace (Txt.replace s "\\" "\\\\") "\"" "\\\"") "\n" "\\n") ++ "\""
def varS : Nat → Str → Str
  | 0, n => n
  | 1, n => "$" ++ n
  | _, n => "*" ++ n
mutual
def said : Tr → Str
  | .tx s => quoteS s
  | .row ts => "[" ++ Txt.join ", " (saids ts) ++ "]"
  | .vr k n => varS k n
  | .nd _ f ps => f ++ "(" ++ Txt.join ", " (saids ps) ++ ")"
def saids : List Tr → List Str
  | [] => []
  | t :: ts => said t :: saids ts
end
/-! size and levels of what can stand for a node; of a row, those of its items -/
mutual
def size : Tr → Nat
  | .nd _ _ ps => 1 + sizes ps
  | .vr 0 _ => 1
  | .row ts => sizes ts
  | _ => 0
def sizes : List Tr → Nat
  | [] => 0
  | t :: ts => size t + sizes ts
end
mutual
def levels : Tr → Nat
  | .nd _ _ ps => levelss ps + 1
  | .vr 0 _ => 1
  | .row ts => levelss ts
  | _ => 0
def levelss : List Tr → Nat
  | [] => 0
  | t :: ts => max (levels t) (levelss ts)
end
structure Cl5 where
  T : Addr
  L : Addr
  V : Addr
  W : Addr
  R : Addr
def Cl5.v (c : Cl5) : Nat → Addr
  | 0 => c.V
  | 1 => c.W
  | _ => c.R
def Cl5.n (c : Cl5) : Bool → Addr
  | false => c.T
  | true => c.L
/-- the nodes among parts, as they stand: rows are looked through -/
def KidsAt (H : Hp) : List V → List Tr → List V → Prop
  | [], [], cs => cs = []
  | x :: xs, .row ts :: ps, cs => ∃ a ys r, x = .ref a ∧ H a = some (.tup ys) ∧ ys.length = ts.length ∧ cs = ((ys.zip ts).filter fun p => isN p.2).map Prod.fst ++ r ∧ KidsAt H xs ps r
  | x :: xs, p :: ps, cs => ∃ r, cs = (if isN p = true then [x] else []) ++ r ∧ KidsAt H xs ps r
  | _, _, _ => False
mutual
def PtAt (C : Cl5) (H : Hp) : V → Tr → Prop
  | v, .tx s => v = .str s
  | v, .row ts => ∃ a xs, v = .ref a ∧ H a = some (.tup xs) ∧ PtsAt C H xs ts
  | v, .vr k n => ∃ x dx fs, v = .ref x ∧ H x = some (.ins (C.v k) dx fs) ∧ fs.lookup ("name" : Str) = some (.str n) ∧ fs.lookup ("text" : Str) = some (.str (varS k n)) ∧ (k = 0 → fs.lookup ("size" : Str) = some (.int 1) ∧ fs.lookup ("levels" : Str) = some (.int 1))
  | v, .nd lk f ps => ∃ x dx fs pa xs, v = .ref x ∧ H x = some (.ins (C.n lk) dx fs) ∧ fs.lookup ("form" : Str) = some (.str f) ∧ fs.lookup ("parts" : Str) = some (.ref pa) ∧ H pa = some (.tup xs) ∧ PtsAt C H xs ps ∧
      fs.lookup ("size" : Str) = some (.int ((1 + sizes ps : Nat) : Int)) ∧ fs.lookup ("levels" : Str) = some (.int ((levelss ps + 1 : Nat) : Int)) ∧ fs.lookup ("text" : Str) = some (.str (f ++ "(" ++ Txt.join ", " (saids ps) ++ ")")) ∧
      (lk = false → ∃ ca cs, fs.lookup ("children" : Str) = some (.ref ca) ∧ H ca = some (.tup cs) ∧ KidsAt H xs ps cs)
def PtsAt (C : Cl5) (H : Hp) : List V → List Tr → Prop
  | [], [] => True
  | x :: xs, t :: ts => PtAt C H x t ∧ PtsAt C H xs ts
  | _, _ => False
end
/-- instances and tuples stand -/
def tiO : HO → Bool
  | .ins .. => true
  | .tup _ => true
  | _ => false
def KpO (H H' : Hp) : Prop := ∀ b o, tiO o = true → H b = some o → H' b = some o
theorem KpO.same {H H' : Hp} (e : Same H H') : KpO H H' := fun b o _ q => e b o q
theorem KpO.ext {H H' : Hp} (e : ExtN H H') : KpO H H' := fun b o h q => e b o q fun ps z => by rw [z] at h; cases h
theorem KpO.trans {H H1 H2 : Hp} (a : KpO H H1) (b : KpO H1 H2) : KpO H H2 := fun c o h q => b c o h (a c o h q)
theorem KidsAt.kpo {H H' : Hp} (e : KpO H H') : ∀ {xs : List V} {ps : List Tr} {cs : List V}, KidsAt H xs ps cs → KidsAt H' xs ps cs
  | [], [], _, h => h
  | x :: xs, .row ts :: ps, cs, h => by
    obtain ⟨a, ys, r, h1, h2, h3, h4, h5⟩ := h
    exact ⟨a, ys, r, h1, e _ _ rfl h2, h3, h4, KidsAt.kpo e h5⟩
  | x :: xs, .tx _ :: ps, cs, h => by obtain ⟨r, h1, h2⟩ := h; exact ⟨r, h1, KidsAt.kpo e h2⟩
  | x :: xs, .vr _ _ :: ps, cs, h => by obtain ⟨r, h1, h2⟩ := h; exact ⟨r, h1, KidsAt.kpo e h2⟩
  | x :: xs, .nd _ _ _ :: ps, cs, h => by obtain ⟨r, h1, h2⟩ := h; exact ⟨r, h1, KidsAt.kpo e h2⟩
  | [], _ :: _, _, h => False.elim (by cases ‹Tr› <;> exact h)
  | _ :: _, [], _, h => False.elim h
mutual
theorem PtAt.kpo {C : Cl5} {H H' : Hp} (e : KpO H H') : ∀ {v : V} (t : Tr), PtAt C H v t → PtAt C H' v t
  | _, .tx _, h => h
  | _, .row ts, h => by
    obtain ⟨a, xs, h1, h2, h3⟩ := h
    exact ⟨a, xs, h1, e _ _ rfl h2, PtsAt.kpo e ts h3⟩
  | _, .vr k n, h => by
    obtain ⟨x, dx, fs, h1, h2, h3⟩ := h
    exact ⟨x, dx, fs, h1, e _ _ rfl h2, h3⟩
  | _, .nd lk f ps, h => by
    obtain ⟨x, dx, fs, pa, xs, h1, h2, h3, h4, h5, h6, h7, h8, h9, h10⟩ := h
    exact ⟨x, dx, fs, pa, xs, h1, e _ _ rfl h2, h3, h4, e _ _ rfl h5, PtsAt.kpo e ps h6, h7, h8, h9, fun z => let ⟨ca, cs, k1, k2, k3⟩ := h10 z; ⟨ca, cs, k1, e _ _ rfl k2, k3.kpo e⟩⟩
theorem PtsAt.kpo {C : Cl5} {H H' : Hp} (e : KpO H H') : ∀ {xs : List V} (ts : List Tr), PtsAt C H xs ts → PtsAt C H' xs ts
  | [], [], h => h
  | x :: xs, t :: ts, h => ⟨PtAt.kpo e t h.1, PtsAt.kpo e ts h.2⟩
  | [], _ :: _, h => False.elim h
  | _ :: _, [], h => False.elim h
end
theorem ptsAt_iff {C : Cl5} {H : Hp} : ∀ {xs : List V} {ts : List Tr}, PtsAt C H xs ts ↔ Paired (PtAt C H) xs ts
  | [], [] => ⟨fun _ => .nil, fun _ => True.intro⟩
  | x :: xs, t :: ts => ⟨fun h => .cons h.1 (ptsAt_iff.mp h.2), fun h => by cases h with | cons a b => exact ⟨a, ptsAt_iff.mpr b⟩⟩
  | [], _ :: _ => ⟨fun h => False.elim h, fun h => nomatch h⟩
  | _ :: _, [] => ⟨fun h => False.elim h, fun h => nomatch h⟩
theorem saids_map : ∀ ts : List Tr, saids ts = ts.map said
  | [] => rfl
  | t :: ts => by
    show said t :: saids ts = _
    rw [saids_map ts]
    rfl
end K3

namespace K3
open PySem L2
open LamX (ExtN Tabs TabS TabB)
structure Own (K : PySem.W.Frag) (A : Addr) : Prop where
  cl : Cls K A
  ha : PySem.W.findIn K (.ref A) "__class__" = some (some (.builtin "object.__class__"))
  hn : PySem.W.specialIn K (.builtin "object.__class__") "__get__" = some (some (.builtin "getset_descriptor.__get__"))
  htk : PySem.W.takesIn K (.builtin "object.__class__") = some true
  hm : PySem.W.mroIn K A (.type "object") = some true
theorem Own.ty {K : PySem.W.Frag} {A x dx : Addr} {H : Hp} {fs : List (Str × V)} (T : Own K A) (h : H x = some (.ins A dx fs)) : TyX K H (.ref x) (.ref A) := .base (.ins h T.cl T.ha T.hn T.htk T.hm)
def Cl5.all (C : Cl5) : List Addr := [C.T, C.L, C.V, C.W, C.R]
theorem Cl5.v_mem (C : Cl5) (k : Nat) : C.v k ∈ C.all := by
  match k with
  | 0 => simp [Cl5.v, Cl5.all]
  | 1 => simp [Cl5.v, Cl5.all]
  | _ + 2 => simp [Cl5.v, Cl5.all]
theorem Cl5.n_mem (C : Cl5) (b : Bool) : C.n b ∈ C.all := by cases b <;> simp [Cl5.n, Cl5.all]
/-- the five classes, and what the types say of each other -/
structure Ty5 (K : PySem.W.Frag) (C : Cl5) : Prop where
  own : ∀ a ∈ C.all, Own K a
  nd : C.all.Nodup
  kit : ∀ a ∈ C.all, ∀ b ∈ C.all, PySem.W.kitOne K (.ref a) (.ref b) = some (decide (a = b))
  str : ∀ a ∈ C.all, PySem.W.kitOne K (.ref a) (.type "str") = some false
  tup : ∀ a ∈ C.all, PySem.W.kitOne K (.ref a) (.type "tuple") = some false
  bs : ∀ a ∈ C.all, PySem.W.kitOne K (.type "str") (.ref a) = some false
  bt : ∀ a ∈ C.all, PySem.W.kitOne K (.type "tuple") (.ref a) = some false
def tyT (C : Cl5) : Tr → Value
  | .tx _ => .type "str"
  | .row _ => .type "tuple"
  | .vr k _ => .ref (C.v k)
  | .nd lk _ _ => .ref (C.n lk)
theorem PtAt.ty {K : PySem.W.Frag} {C : Cl5} {H : Hp} (T : Ty5 K C) : ∀ {v : V} {t : Tr}, PtAt C H v t → TyX K H v (tyT C t)
  | _, .tx s, h => by
    rw [show _ = V.str s from h]
    exact .base (.str _)
  | _, .row ts, h => by
    obtain ⟨a, xs, h1, h2, _⟩ := h
    rw [h1]
    exact .base (.tup h2)
  | _, .vr k n, h => by
    obtain ⟨x, dx, fs, h1, h2, _⟩ := h
    rw [h1]
    exact (T.own _ (C.v_mem k)).ty h2
  | _, .nd lk f ps, h => by
    obtain ⟨x, dx, fs, pa, xs, h1, h2, _⟩ := h
    rw [h1]
    exact (T.own _ (C.n_mem lk)).ty h2
def isT : Tr → Bool
  | .nd false _ _ => true
  | _ => false
def isTx : Tr → Bool
  | .tx _ => true
  | _ => false
def isRow : Tr → Bool
  | .row _ => true
  | _ => false
theorem kit_T {K : PySem.W.Frag} {C : Cl5} (T : Ty5 K C) (t : Tr) : PySem.W.kitOne K (tyT C t) (.ref C.T) = some (isT t) := by
  have mT : C.T ∈ C.all := C.n_mem false
  have nd := T.nd
  simp only [Cl5.all, List.nodup_cons, List.mem_cons, List.not_mem_nil, or_false, not_or] at nd
  obtain ⟨⟨a1, a2, a3, a4⟩, _⟩ := nd
  match t with
  | .tx _ => exact T.bs _ mT
  | .row _ => exact T.bt _ mT
  | .vr 0 _ => exact (T.kit _ (C.v_mem 0) _ mT).trans (by rw [decide_eq_false (fun q => a2 q.symm)]; rfl)
  | .vr 1 _ => exact (T.kit _ (C.v_mem 1) _ mT).trans (by rw [decide_eq_false (fun q => a3 q.symm)]; rfl)
  | .vr (n + 2) _ => exact (T.kit _ (C.v_mem (n + 2)) _ mT).trans (by rw [decide_eq_false (fun q => a4 q.symm)]; rfl)
  | .nd false _ _ => exact (T.kit _ (C.n_mem false) _ mT).trans (by show some (decide (C.T = C.T)) = some true; rw [decide_eq_true rfl])
  | .nd true _ _ => exact (T.kit _ (C.n_mem true) _ mT).trans (by rw [decide_eq_false (fun q => a1 q.symm)]; rfl)
theorem kit_str {K : PySem.W.Frag} {C : Cl5} (T : Ty5 K C) (t : Tr) : PySem.W.kitOne K (tyT C t) (.type "str") = some (isTx t) := by
  match t with
  | .tx _ => exact kit_ty (r := true) (by decide +kernel)
  | .row _ => exact kit_ty (r := false) (by decide +kernel)
  | .vr k _ => exact T.str _ (C.v_mem k)
  | .nd b _ _ => exact T.str _ (C.n_mem b)
theorem kit_tup {K : PySem.W.Frag} {C : Cl5} (T : Ty5 K C) (t : Tr) : PySem.W.kitOne K (tyT C t) (.type "tuple") = some (isRow t) := by
  match t with
  | .tx _ => exact kit_ty (r := false) (by decide +kernel)
  | .row _ => exact kit_ty (r := true) (by decide +kernel)
  | .vr k _ => exact T.tup _ (C.v_mem k)
  | .nd b _ _ => exact T.tup _ (C.n_mem b)
theorem kit_N {K : PySem.W.Frag} {C : Cl5} (T : Ty5 K C) (t : Tr) : PySem.W.kitAny K (tyT C t) [.ref C.L, .ref C.T, .ref C.V] = some (isN t) := by
  have nd := T.nd
  simp only [Cl5.all, List.nodup_cons, List.mem_cons, List.not_mem_nil, or_false, not_or] at nd
  obtain ⟨⟨a1, a2, a3, a4⟩, ⟨b2, b3, b4⟩, ⟨c3, c4⟩, _⟩ := nd
  have mT : C.T ∈ C.all := C.n_mem false
  have mL : C.L ∈ C.all := C.n_mem true
  have mV : C.V ∈ C.all := C.v_mem 0
  unfold PySem.W.kitAny PySem.W.kitAny PySem.W.kitAny PySem.W.kitAny
  match t with
  | .tx _ =>
    show (match PySem.W.kitOne K (.type "str") (.ref C.L) with | some true => some true | some false => _ | none => none) = _
    rw [T.bs _ mL]
    dsimp only
    rw [show PySem.W.kitOne K (tyT C (.tx _)) (.ref C.T) = some false from T.bs _ mT]
    dsimp only
    rw [show PySem.W.kitOne K (tyT C (.tx _)) (.ref C.V) = some false from T.bs _ mV]
    rfl
  | .row _ =>
    rw [show PySem.W.kitOne K (tyT C (.row _)) (.ref C.L) = some false from T.bt _ mL]
    dsimp only
    rw [show PySem.W.kitOne K (tyT C (.row _)) (.ref C.T) = some false from T.bt _ mT]
    dsimp only
    rw [show PySem.W.kitOne K (tyT C (.row _)) (.ref C.V) = some false from T.bt _ mV]
    rfl
  | .vr 0 n =>
    rw [show PySem.W.kitOne K (tyT C (.vr 0 n)) (.ref C.L) = some false from (T.kit _ mV _ mL).trans (by rw [decide_eq_false (fun q => b2 q.symm)])]
    dsimp only
    rw [show PySem.W.kitOne K (tyT C (.vr 0 n)) (.ref C.T) = some false from (T.kit _ mV _ mT).trans (by rw [decide_eq_false (fun q => a2 q.symm)])]
    dsimp only
    rw [show PySem.W.kitOne K (tyT C (.vr 0 n)) (.ref C.V) = some true from (T.kit _ mV _ mV).trans (by rw [decide_eq_true rfl])]
    rfl
  | .vr 1 n =>
    rw [show PySem.W.kitOne K (tyT C (.vr 1 n)) (.ref C.L) = some false from (T.kit _ (C.v_mem 1) _ mL).trans (by rw [decide_eq_false (fun q => b3 q.symm)])]
    dsimp only
    rw [show PySem.W.kitOne K (tyT C (.vr 1 n)) (.ref C.T) = some false from (T.kit _ (C.v_mem 1) _ mT).trans (by rw [decide_eq_false (fun q => a3 q.symm)])]
    dsimp only
    rw [show PySem.W.kitOne K (tyT C (.vr 1 n)) (.ref C.V) = some false from (T.kit _ (C.v_mem 1) _ mV).trans (by rw [decide_eq_false (fun q => c3 q.symm)])]
    rfl
  | .vr (k + 2) n =>
    rw [show PySem.W.kitOne K (tyT C (.vr (k + 2) n)) (.ref C.L) = some false from (T.kit _ (C.v_mem (k + 2)) _ mL).trans (by rw [decide_eq_false (fun q => b4 q.symm)])]
    dsimp only
    rw [show PySem.W.kitOne K (tyT C (.vr (k + 2) n)) (.ref C.T) = some false from (T.kit _ (C.v_mem (k + 2)) _ mT).trans (by rw [decide_eq_false (fun q => a4 q.symm)])]
    dsimp only
    rw [show PySem.W.kitOne K (tyT C (.vr (k + 2) n)) (.ref C.V) = some false from (T.kit _ (C.v_mem (k + 2)) _ mV).trans (by rw [decide_eq_false (fun q => c4 q.symm)])]
    rfl
  | .nd false f ps =>
    rw [show PySem.W.kitOne K (tyT C (.nd false f ps)) (.ref C.L) = some false from (T.kit _ mT _ mL).trans (by rw [decide_eq_false a1])]
    dsimp only
    rw [show PySem.W.kitOne K (tyT C (.nd false f ps)) (.ref C.T) = some true from (T.kit _ mT _ mT).trans (by rw [decide_eq_true rfl])]
    rfl
  | .nd true f ps =>
    rw [show PySem.W.kitOne K (tyT C (.nd true f ps)) (.ref C.L) = some true from (T.kit _ mL _ mL).trans (by rw [decide_eq_true rfl])]
    rfl
/-! ### _is_node, _is_tree_part -/
structure TxtT (mg : Str → Option Value) (C : Cl5) : Prop where
  isi : mg "isinstance" = none
  str : mg "str" = none
  tup : mg "tuple" = none
  len : mg "len" = none
  all : mg "all" = none
  mx : ∃ t, mg "MAX_TEXT" = some (.int 60 t)
  gT : mg "Tree" = some (.ref C.T)
  gL : mg "Like" = some (.ref C.L)
  gV : mg "Var" = some (.ref C.V)
  gW : mg "Word" = some (.ref C.W)
  gR : mg "Rest" = some (.ref C.R)
section
variable {P : Program} {w : World} {K : PySem.W.Frag} {mg : Str → Option Value} {base : Heap}
def spIsNode (C : Cl5) : Sp := fun vs H Q _ => ∃ v t, vs = [v] ∧ PtAt C H v t ∧ ∀ H', Same H H' → Q (.bl (isN t)) H'
theorem scIsNode : FnScope ["value"] ["value"] (defScope sIsNode) := ⟨rfl, rfl, rfl, by decide +kernel, rfl, by decide +kernel, by decide +kernel⟩
theorem ok_isNode {C : Cl5} {f : Addr} {fd : FuncData} (F : Fun K "is_node" "is_node" sIsNode f fd) (T : TxtT mg C) (T5 : Ty5 K C) : FnOk P w K mg base CX0 1 f fd ["value"] (spIsNode C) := by
  refine F.ok scIsNode (fun vs H Q E h => ?_) (fun cdv A outer s H vs Q E hr h => ?_)
  · obtain ⟨v, t, rfl, _⟩ := h
    rfl
  · obtain ⟨v, t, rfl, hv, k⟩ := h
    refine ⟨_, pss_one (ps_ret (pe_callB call_isiT (by rfl) T.isi PyProof.Rows.boot_isinstance (pa_cons (pv 0) (pa_cons (pe_tup (pa_cons (pe_glob (v := .ref C.L) rfl T.gL rfl) (pa_cons (pe_glob (v := .ref C.T) rfl T.gT rfl) (pa_cons (pe_glob (v := .ref C.V) rfl T.gV rfl) pa_nil)))) pa_nil)))), ?_⟩
    refine ⟨_, rfl, by show 3 ≤ sizeLine; decide, fun p hp => ?_⟩
    have s1 : Same H (upd H p (.tup [.ref C.L, .ref C.T, .ref C.V])) := same_upd (Same.refl H) hp
    exact ⟨v, p, [.ref C.L, .ref C.T, .ref C.V], tyT C t, _, isN t, rfl, upd_same, .cons (.own _) (.cons (.own _) (.cons (.own _) .nil)), PtAt.ty T5 (PtAt.kpo (KpO.same s1) t hv), kit_N T5 t, k _ s1⟩
end
end K3

namespace K3
open PySem L2
open LamX (ExtN Tabs TabS TabB)
/-- a part that a node of a tree can have -/
def okP : Tr → Bool
  | .tx s => decide (s.length ≤ 60)
  | .row ts => ts.all isT
  | .nd false _ _ => true
  | _ => false
/-- a value that is no part of a tree -/
def BadT (K : PySem.W.Frag) (C : Cl5) (H : Hp) (v : V) : Prop :=
  (∃ s, v = .str s ∧ 60 < s.length ∧ s.length ≤ 1000) ∨
  (∃ a xs bs, v = .ref a ∧ H a = some (.tup xs) ∧ xs.length ≤ 1000 ∧ Paired (fun x b => ∃ t, TyX K H x t ∧ PySem.W.kitOne K t (.ref C.T) = some b ∧ ∀ a, x = .ref a → ∃ o, H a = some o) xs bs ∧ bs.all id = false) ∨
  (∃ t, TyX K H v t ∧ PySem.W.kitOne K t (.type "str") = some false ∧ PySem.W.kitOne K t (.type "tuple") = some false ∧ PySem.W.kitOne K t (.ref C.T) = some false)
theorem TyX.sm {K : PySem.W.Frag} {H H' : Hp} {v : V} {t : Value} (h : TyX K H v t) (e : Same H H') : TyX K H' v t := TyX.keep h fun a o _ q => e a o q
theorem all_isT {C : Cl5} {H : Hp} {K : PySem.W.Frag} (T5 : Ty5 K C) : ∀ {xs : List V} {ts : List Tr}, PtsAt C H xs ts → ∃ bs, Paired (fun x b => ∃ t, TyX K H x t ∧ PySem.W.kitOne K t (.ref C.T) = some b) xs bs ∧ bs = ts.map isT
  | [], [], _ => ⟨[], .nil, rfl⟩
  | x :: xs, t :: ts, h => by
    obtain ⟨bs, h1, h2⟩ := all_isT T5 h.2
    exact ⟨isT t :: bs, .cons ⟨_, PtAt.ty T5 h.1, kit_T T5 t⟩ h1, by rw [h2]; rfl⟩
  | [], _ :: _, h => False.elim h
  | _ :: _, [], h => False.elim h
theorem pts_len {C : Cl5} {H : Hp} : ∀ {xs : List V} {ts : List Tr}, PtsAt C H xs ts → xs.length = ts.length
  | [], [], _ => rfl
  | x :: xs, t :: ts, h => by rw [List.length_cons, List.length_cons, pts_len h.2]
  | [], _ :: _, h => False.elim h
  | _ :: _, [], h => False.elim h
section
variable {P : Program} {w : World} {K : PySem.W.Frag} {mg : Str → Option Value} {base : Heap}
def rowB : Tr → Nat
  | .row ts => ts.length
  | .tx s => s.length
  | _ => 0
def spTreePart (K : PySem.W.Frag) (C : Cl5) : Sp := fun vs H Q _ => ∃ v, vs = [v] ∧ ((∃ t, PtAt C H v t ∧ rowB t ≤ 1000 ∧ ∀ H', Same H H' → Q (.bl (okP t)) H') ∨ (BadT K C H v ∧ ∀ H', Same H H' → Q (.bl false) H'))
theorem scTreePart : FnScope ["part", "item"] ["part"] (defScope sTreePart) := ⟨rfl, rfl, rfl, by decide +kernel, rfl, by decide +kernel, by decide +kernel⟩
theorem ok_treePart {C : Cl5} {f : Addr} {fd : FuncData} (F : Fun K "_is_tree_part" "_is_tree_part" sTreePart f fd) (T : TxtT mg C) (T5 : Ty5 K C) : FnOk P w K mg base CX0 1 f fd ["part"] (spTreePart K C) := by
  refine F.ok scTreePart (fun vs H Q E h => ?_) (fun cdv A outer s H vs Q E hr h => ?_)
  · obtain ⟨v, rfl, _⟩ := h
    rfl
  · obtain ⟨v, rfl, hv⟩ := h
    obtain ⟨tm, mx⟩ := T.mx
    refine ⟨_, pss_cons (ps_if (pt_val (pe_callB call_isi (by rfl) T.isi PyProof.Rows.boot_isinstance (pa_cons (pv 0) (pa_cons (pe_bltn (v := .ty "str") rfl T.str PyProof.Rows.boot_str rfl) pa_nil)))) (pss_one (ps_ret (pe_cmpR op_le (pe_callB call_len (by rfl) T.len PySem.boot_len (pa_cons (pv 0) pa_nil)) (pe_glob (v := .int 60) rfl mx ⟨_, rfl⟩) (nomark _)))) pss_nil)
      (pss_cons (ps_if (pt_val (pe_callB call_isi (by rfl) T.isi PyProof.Rows.boot_isinstance (pa_cons (pv 0) (pa_cons (pe_bltn (v := .ty "tuple") rfl T.tup PyProof.Rows.boot_tuple rfl) pa_nil)))) (pss_one (ps_ret
          (pe_callB (cr_all rfl) (by rfl) T.all (show bootBuiltins "all" = some (.builtin "all") by decide +kernel) (pa_cons (pe_lc (own := [("item", 1)]) (g := gName 1) (tt := tYes) (te := tCB (rIsi K) (tCons (tVar 1) (tCons (tC (.ref C.T)) tNil))) rfl scTreePart.nd (pi_tup (pv 0))
            (blkOk_by (N := ["part", "item"]) (sc := defScope sTreePart) (by decide +kernel)) (fun _ _ _ _ _ => pg_name (i := 1) scTreePart.nd rfl (Or.inl rfl)) (fun _ _ _ _ _ => pts_nil)
            (fun _ _ _ _ _ => pe_callB call_isi (by rfl) T.isi PyProof.Rows.boot_isinstance (pa_cons (pv 1) (pa_cons (pe_glob (v := .ref C.T) rfl T.gT rfl) pa_nil)))) pa_nil)))) pss_nil)
      (pss_one (ps_ret (pe_callB call_isi (by rfl) T.isi PyProof.Rows.boot_isinstance (pa_cons (pv 0) (pa_cons (pe_glob (v := .ref C.T) rfl T.gT rfl) pa_nil)))))), ?_⟩
    -- a tuple whose items have these types
    have go : ∀ (a : Addr) (xs : List V) (bs : List Bool), v = .ref a → H a = some (.tup xs) → xs.length ≤ 1000 → Paired (fun x b => ∃ t, TyX K H x t ∧ PySem.W.kitOne K t (.ref C.T) = some b) xs bs → ∀ {Q' : VK}, (∀ H', Same H H' → Q' (.bl (bs.all id)) H') →
        ∀ D, H D = none → ∃ W : Nat → Nat → Hp → Prop, (∃ m, W 0 m (upd H D (.lst []))) ∧ ∀ i m H2, W i m H2 → ((Itt K a).stop i H2 ∧ (∃ (a_1 : Addr) (bs_1 : List Bool), [V.ref D] = [V.ref a_1] ∧ SqL K H2 a_1 (bs_1.map V.bl) ∧ Q' (.bl (bs_1.all id)) H2)) ∨
          ((Itt K a).go i H2 ∧ ∃ Nx : Hp → Prop, (∀ H', Nx H' → ∃ m', m' < m ∧ W (i + 1) m' H') ∧ ∀ x H', (Itt K a).yld i H2 x H' → gName 1 x (wipe [some v, none] [1]) H' fun σ2 H3 => wipe σ2 [1] = wipe [some v, none] [1] ∧ tYes σ2 H3 fun b H4 =>
            if b = true then tCB (rIsi K) (tCons (tVar 1) (tCons (tC (.ref C.T)) tNil)) σ2 H4 fun y H5 => ∃ acc, H5 D = some (.lst acc) ∧ acc.length < sizeLine ∧ Nx (upd H5 D (.lst (acc ++ [y]))) else Nx H4) := by
      intro a xs bs ev ha hl hp Q' hq D hD
      have bl : bs.length = xs.length := hp.length.symm
      refine lc_tup (K := K) (a := a) (xs := xs) (fun i H' => Same H H' ∧ H' D = some (.lst ((bs.take i).map V.bl))) ⟨same_upd (Same.refl H) hD, upd_same⟩ (fun i H' _ ⟨s', _⟩ => SqT.of (s' _ _ ha)) ?_ ?_
      · rintro i x H1 hx ⟨s1, e1⟩
        obtain ⟨b, eb, t, ht, hk⟩ := LiI.paired_get hp hx
        have il : i < xs.length := (List.getElem?_eq_some_iff.mp hx).1
        refine ⟨rfl, ?_⟩
        dsimp only [tYes]
        rw [if_pos rfl]
        refine ⟨_, rfl, x, .ref C.T, t, _, b, rfl, .own _, TyX.sm ht s1, hk, _, e1, ?_, same_upd s1 hD, ?_⟩
        · rw [List.length_map]
          exact Nat.lt_of_le_of_lt (List.length_take_le _ _) (by
            have : sizeLine > 1000 := by decide
            omega)
        · rw [upd_same, List.take_add_one, eb]
          simp
      · rintro H1 ⟨s1, e1⟩
        rw [← bl, List.take_length] at e1
        exact ⟨D, bs, rfl, SqL.of e1, hq _ s1⟩
    rcases hv with ⟨t, ht, hb, k⟩ | ⟨hbad, k⟩
    · have ty := PtAt.ty T5 ht
      refine ⟨_, rfl, _, _, _, _, isTx t, rfl, .ty "str", ty, kit_str T5 t, _, rfl, ?_⟩
      match t, ht, hb, k, ty with
      | .tx s, ht, hb, k, ty =>
        refine iteT ?_
        have ev : v = .str s := ht
        subst ev
        have hz : s.length ≤ sizeLine := Nat.le_trans hb (by decide)
        refine ⟨_, rfl, _, s.length, rfl, ⟨hz, rfl⟩, _, _, rfl, rfl, ?_⟩
        have q := k H (Same.refl H)
        have e : decide (((s.length : Nat) : Int) ≤ 60) = decide (s.length ≤ 60) := decide_eq_decide.mpr ⟨fun h => by omega, fun h => by omega⟩
        change Q (.bl (decide (s.length ≤ 60))) H at q
        rw [← e] at q
        exact q
      | .row ts, ht, hb, k, ty =>
        refine iteF ?_
        refine ⟨_, rfl, _, _, _, _, true, rfl, .ty "tuple", ty, kit_tup T5 (.row ts), _, rfl, ?_⟩
        refine iteT ?_
        obtain ⟨a, xs, ev, ha, hp⟩ := ht
        obtain ⟨bs, pb, eb⟩ := all_isT T5 hp
        have xl := pts_len hp
        have hb : ts.length ≤ 1000 := hb
        subst ev
        refine ⟨_, rfl, a, rfl, ⟨_, SqT.of ha⟩, fun D hD => go a xs bs rfl ha (by omega) pb (fun H' s' => ?_) D hD⟩
        have q := k H' s'
        rw [eb]
        have e : (ts.map isT).all id = ts.all isT := by simp [List.all_map]
        rw [e]
        exact q
      | .vr j n, ht, hb, k, ty =>
        refine iteF ?_
        refine ⟨_, rfl, _, _, _, _, false, rfl, .ty "tuple", ty, kit_tup T5 (.vr j n), _, rfl, ?_⟩
        refine iteF ?_
        exact ⟨_, rfl, _, _, _, _, false, rfl, .own _, ty, kit_T T5 (.vr j n), k _ (Same.refl H)⟩
      | .nd lk f ps, ht, hb, k, ty =>
        refine iteF ?_
        refine ⟨_, rfl, _, _, _, _, false, rfl, .ty "tuple", ty, kit_tup T5 (.nd lk f ps), _, rfl, ?_⟩
        refine iteF ?_
        refine ⟨_, rfl, _, _, _, _, _, rfl, .own _, ty, kit_T T5 (.nd lk f ps), ?_⟩
        cases lk <;> exact k _ (Same.refl H)
    · rcases hbad with ⟨s, rfl, h1, h2⟩ | ⟨a, xs, bs, rfl, ha, hl, hp, hb⟩ | ⟨t, ht, h1, h2, h3⟩
      · refine ⟨_, rfl, _, _, _, _, true, rfl, .ty "str", .base (.str s), kit_ty (r := true) (by decide +kernel), _, rfl, ?_⟩
        refine iteT ?_
        have hz : s.length ≤ sizeLine := Nat.le_trans h2 (by decide)
        refine ⟨_, rfl, _, s.length, rfl, ⟨hz, rfl⟩, _, _, rfl, rfl, ?_⟩
        have e : decide (((s.length : Nat) : Int) ≤ 60) = false := decide_eq_false (by omega)
        have q := k _ (Same.refl H)
        rw [← e] at q
        exact q
      · refine ⟨_, rfl, _, _, _, _, false, rfl, .ty "str", .base (.tup ha), kit_ty (r := false) (by decide +kernel), _, rfl, ?_⟩
        refine iteF ?_
        refine ⟨_, rfl, _, _, _, _, true, rfl, .ty "tuple", .base (.tup ha), kit_ty (r := true) (by decide +kernel), _, rfl, ?_⟩
        refine iteT ?_
        refine ⟨_, rfl, a, rfl, ⟨_, SqT.of ha⟩, fun D hD => go a xs bs rfl ha hl (Paired.mapP hp fun x b q => let ⟨t, z1, z2, _⟩ := q; ⟨t, z1, z2⟩) (fun H' s' => ?_) D hD⟩
        rw [hb]
        exact k _ s'
      · refine ⟨_, rfl, _, _, _, _, false, rfl, .ty "str", ht, h1, _, rfl, ?_⟩
        refine iteF ?_
        refine ⟨_, rfl, _, _, _, _, false, rfl, .ty "tuple", ht, h2, _, rfl, ?_⟩
        refine iteF ?_
        exact ⟨_, rfl, _, _, _, _, false, rfl, .own _, ht, h3, k _ (Same.refl H)⟩
end
end K3

namespace K3
open PySem L2
open CwR (tReplC pet_replC pet_replT PET.of pst_ret psst_nil psst_one pst_if)
/-! ### texts of nodes -/
section
variable {P : Program} {w : World} {K : PySem.W.Frag} {mg : Str → Option Value} {base : Heap}
theorem pst_set {X : Cx} {i : Nat} {x : Str} {e : Expr} {te : TE} {pos pos' : Pos} (nod : X.N.Nodup) (at_ : X.N[i]? = some x) (lc : Loc X.env.scope x) (he : PET X e te) (sw : swapsWith e (some (.Name x pos')) pos.line X.env = pure false := by rfl) (fr : X.fn x = true ∨ X.env.scope.names.lookup x = some .local := by first | exact .inl rfl | exact .inr rfl | assumption) :
    PST X (.Assign [.Name x pos'] e pos) (tAsg te (gName i)) := fun pins z σ H D n0 I h =>
  wpAny_Assign_Name (thn (he pins z σ H _ n0 I h) fun _ _ ⟨_, H1, I1, rv, q⟩ => store_ok I1 nod at_ lc rv (fun _ I2 => ⟨_, H1, I2, q⟩) fr) sw
theorem funT_ok {x qual : Str} {st : Stmt} {f : Addr} {fd : FuncData} {N ps : List Str} {k : Nat} {sp : Sp} (F : Fun K x qual st f fd) (S : FnScope N ps (defScope st)) (nc : ∀ y ∈ (defScope st).names, y.2 ≠ .cell) (one : 1 ≤ ps.length) (len : ∀ vs H Q E, sp vs H Q E → vs.length = ps.length)
    (hbody : ∀ (cdv : Value) (A : Around) (outer : List Env) (s : Shared) (H : Hp) (vs : List V) (Q : VK) (E : XK), Room k (A.deeper (PyProof.Rows.envOfC qual (defScope st) s.heap.objs.size f cdv)) → sp vs H Q E →
      ∃ t, PSsT (cxOf CX0 P w K mg base N qual (defScope st) f cdv A outer s H E) (defBody st) t ∧ t { nx := fun _ H' => Q .non H', rt := Q } (L2.start N vs) H) : FnOk P w K mg base CX0 (k + 1) f fd ps sp := by
  obtain ⟨oc, od, kV, doc, pm, an, cdv, ct, osl, rfl, lk, hcd⟩ := F.ex
  exact fn_ofT lk hcd S nc one len fun A outer s H vs Q E hr hsp => hbody cdv A outer s H vs Q E hr hsp
theorem str_app_assoc (a b c : Str) : a ++ b ++ c = a ++ (b ++ c) := by
  show (⟨a.cps ++ b.cps ++ c.cps⟩ : Str) = ⟨a.cps ++ (b.cps ++ c.cps)⟩
  rw [Array.append_assoc]
theorem str_nil_app (a : Str) : Str.empty ++ a = a := by
  show (⟨#[] ++ a.cps⟩ : Str) = a
  rw [Array.empty_append]
theorem str_len (a b : Str) : (a ++ b).length = a.length + b.length := by
  show (a.cps ++ b.cps).size = _
  rw [Array.size_append]
  rfl
theorem quote_len {s : Str} (h : s.length ≤ 1000) : (quoteS s).length ≤ 27030 := by
  have l1 := TK.replace_len s "\\" "\\\\"
  have l2 := TK.replace_len (Txt.replace s "\\" "\\\\") "\"" "\\\""
  have l3 := TK.replace_len (Txt.replace (Txt.replace s "\\" "\\\\") "\"" "\\\"") "\n" "\\n"
  have e1 : ("\\\\" : Str).length = 2 := by decide +kernel
  have e2 : ("\\\"" : Str).length = 2 := by decide +kernel
  have e3 : ("\\n" : Str).length = 2 := by decide +kernel
  have e4 : ("\"" : Str).length = 1 := by decide +kernel
  rw [e1] at l1
  rw [e2] at l2
  rw [e3] at l3
  unfold quoteS
  rw [str_len, str_len, e4]
  omega
def spQuoted : Sp := fun vs H Q _ => ∃ s, vs = [.str s] ∧ s.length ≤ 1000 ∧ Q (.str (quoteS s)) H
theorem scQuoted : FnScope ["text", "marked"] ["text"] (defScope sQuoted) := ⟨rfl, rfl, rfl, by decide +kernel, rfl, by decide +kernel, by decide +kernel⟩
theorem ok_quoted {f : Addr} {fd : FuncData} (F : Fun K "_quoted" "_quoted" sQuoted f fd) : FnOk P w K mg base CX0 1 f fd ["text"] spQuoted := by
  refine funT_ok F scQuoted (by decide +kernel) (by decide) (fun vs H Q E h => ?_) (fun cdv A outer s H vs Q E hr h => ?_)
  · obtain ⟨z, rfl, _⟩ := h
    rfl
  · obtain ⟨z, rfl, hz, k⟩ := h
    refine ⟨_, psst_cons (pst_set (i := 1) scQuoted.nd rfl (Or.inl rfl) (pet_replT (pet_replT (pet_replC (pv 0)))))
      (psst_one (pst_ret (PET.of (pe_joined (.cons pe_str (.cons (pe_fmt (pv 1)) (.cons pe_str .nil))))))), ?_⟩
    have l1 := TK.replace_len z "\\" "\\\\"
    have l2 := TK.replace_len (Txt.replace z "\\" "\\\\") "\"" "\\\""
    have l3 := TK.replace_len (Txt.replace (Txt.replace z "\\" "\\\\") "\"" "\\\"") "\n" "\\n"
    have e1 : ("\\\\" : Str).length = 2 := by decide +kernel
    have e2 : ("\\\"" : Str).length = 2 := by decide +kernel
    have e3 : ("\\n" : Str).length = 2 := by decide +kernel
    have e4 : ("\"" : Str).length = 1 := by decide +kernel
    rw [e1] at l1
    rw [e2] at l2
    rw [e3] at l3
    have big : 100000 ≤ sizeLine := by decide
    refine ⟨_, rfl, z, rfl, by rw [e1]; omega, _, rfl, by rw [e2]; omega, _, rfl, by rw [e3]; omega, ?_⟩
    refine ⟨_, rfl, by rw [str_len, e4]; show 0 + 1 ≤ sizeLine; omega, _, rfl, .inl ⟨_, rfl, by omega, _, rfl, by rw [str_len, str_len, e4]; show 0 + 1 + _ ≤ sizeLine; omega, _, rfl, by rw [str_len, str_len, str_len, e4]; show 0 + 1 + _ + 1 ≤ sizeLine; omega, ?_⟩⟩
    rw [str_nil_app]
    exact k
end
end K3

namespace K3
open PySem L2
theorem saids_len : ∀ ts : List Tr, (saids ts).length = ts.length
  | [] => rfl
  | t :: ts => by
    show (said t :: saids ts).length = _
    rw [List.length_cons, List.length_cons, saids_len ts]
theorem sep_len : (", " : Str).length = 2 := by decide +kernel
/-- the length of a join, from above -/
def joinB (ts : List Tr) : Nat := ((saids ts).map (·.length)).sum + ts.length * 2
theorem join_len (ts : List Tr) : (Txt.join ", " (saids ts)).length ≤ joinB ts := by
  have h := PySem.size_glued ", " (saids ts)
  rw [sep_len, saids_len] at h
  show (Builtin.Str.glued ", " (saids ts)).length ≤ _
  rw [h]
  unfold joinB
  have : (ts.length - 1) * 2 ≤ ts.length * 2 := Nat.mul_le_mul_right _ (Nat.sub_le _ _)
  omega
def hasText : Tr → Bool
  | .vr .. => true
  | .nd .. => true
  | _ => false
/-- its text is short enough -/
def okTx : Tr → Prop
  | .tx s => s.length ≤ 1000
  | .row ts => (∀ t ∈ ts, hasText t = true) ∧ ts.length ≤ 1000 ∧ joinB ts ≤ 16000000
  | _ => True
structure Na5 (K : PySem.W.Frag) (C : Cl5) : Prop where
  na : ∀ a ∈ C.all, ∀ f ∈ ([("form" : Str), "parts", "children", "size", "levels", "text", "name"] : List Str), NoAttr K a f
theorem said_nd (lk : Bool) (f : Str) (ps : List Tr) : said (.nd lk f ps) = f ++ "(" ++ Txt.join ", " (saids ps) ++ ")" := by simp only [said]
theorem said_row (ts : List Tr) : said (.row ts) = "[" ++ Txt.join ", " (saids ts) ++ "]" := by simp only [said]
theorem said_tx (s : Str) : said (.tx s) = quoteS s := by simp only [said]
theorem text_of {K : PySem.W.Frag} {C : Cl5} {H : Hp} : ∀ {v : V} {t : Tr}, PtAt C H v t → hasText t = true → ∃ x A dx fs, v = .ref x ∧ H x = some (.ins A dx fs) ∧ A ∈ C.all ∧ fs.lookup ("text" : Str) = some (.str (said t))
  | _, .tx _, _, h => nomatch h
  | _, .row _, _, h => nomatch h
  | _, .vr k n, h, _ => by
    obtain ⟨x, dx, fs, h1, h2, h3, h4, _⟩ := h
    exact ⟨x, _, dx, fs, h1, h2, C.v_mem k, by rw [h4]; simp only [said]⟩
  | _, .nd lk f ps, h, _ => by
    obtain ⟨x, dx, fs, pa, xs, h1, h2, h3, h4, h5, h6, h7, h8, h9, _⟩ := h
    exact ⟨x, _, dx, fs, h1, h2, C.n_mem lk, by rw [h9, said_nd]⟩
section
variable {P : Program} {w : World} {K : PySem.W.Frag} {mg : Str → Option Value} {base : Heap}
def spPartText (C : Cl5) : Sp := fun vs H Q _ => ∃ v t, vs = [v] ∧ PtAt C H v t ∧ okTx t ∧ ∀ H', Same H H' → Q (.str (said t)) H'
def NPT : List Str := ["part", "inner", "item"]
theorem scPartText : FnScope NPT ["part"] (defScope sPartText) := ⟨rfl, rfl, rfl, by decide +kernel, rfl, by decide +kernel, by decide +kernel⟩
theorem ok_partText {C : Cl5} {f fQ : Addr} {fd fdQ : FuncData} (F : Fun K "part_text" "part_text" sPartText f fd) (T : TxtT mg C) (T5 : Ty5 K C) (N5 : Na5 K C) (GQ : FnOk P w K mg base CX0 1 fQ fdQ ["text"] spQuoted) (gQ : mg "_quoted" = some (.ref fQ)) (kQ : PySem.W.keepIn K (.ref fQ) = true) (bQ : Binds K fdQ ["text"] []) :
    FnOk P w K mg base CX0 2 f fd ["part"] (spPartText C) := by
  refine F.ok scPartText (fun vs H Q E h => ?_) (fun cdv A outer s H vs Q E hr h => ?_)
  · obtain ⟨v, t, rfl, _⟩ := h
    rfl
  · obtain ⟨v, t, rfl, hv, ho, k⟩ := h
    refine ⟨_, pss_cons (ps_if (pt_val (pe_callB call_isi (by rfl) T.isi PyProof.Rows.boot_isinstance (pa_cons (pv 0) (pa_cons (pe_bltn (v := .ty "str") rfl T.str PyProof.Rows.boot_str rfl) pa_nil)))) (pss_one (ps_ret (pe_call GQ hr rfl gQ kQ bQ .nil pass0 (pa_cons (pv 0) pa_nil)))) pss_nil)
      (pss_cons (ps_if (pt_val (pe_callB call_isi (by rfl) T.isi PyProof.Rows.boot_isinstance (pa_cons (pv 0) (pa_cons (pe_bltn (v := .ty "tuple") rfl T.tup PyProof.Rows.boot_tuple rfl) pa_nil))))
          (pss_cons (ps_set (i := 1) scPartText.nd rfl (Or.inl rfl) (pe_bm PySem.F.plainAttrs_str PySem.F.slot_str_join PySem.F.type_str_join mt_join pe_str (pa_cons (pe_lc (own := [("item", 2)]) (g := gName 2) (tt := tYes) (te := tFld K (tVar 2) "text") rfl scPartText.nd (pi_tup (pv 0))
            (blkOk_by (N := NPT) (sc := defScope sPartText) (by decide +kernel)) (fun _ _ _ _ _ => pg_name (i := 2) scPartText.nd rfl (Or.inl rfl)) (fun _ _ _ _ _ => pts_nil) (fun _ _ _ _ _ => pe_fld (pv 2) rfl)) pa_nil)))
          (pss_one (ps_ret (pe_joined (.cons pe_str (.cons (pe_fmt (pv 1)) (.cons pe_str .nil))))))) pss_nil)
      (pss_one (ps_ret (pe_fld (pv 0) rfl)))), ?_⟩
    have ty := PtAt.ty T5 hv
    have big : sizeLine ≥ 16777216 := by decide
    refine ⟨_, rfl, _, _, _, _, isTx t, rfl, .ty "str", ty, kit_str T5 t, _, rfl, ?_⟩
    have fld : hasText t = true → isTx t = false → isRow t = false → tFld K (tVar 0) "text" [some v, none, none] H Q := fun h1 _ _ => by
      obtain ⟨x, Ax, dx, fs, e1, e2, e3, e4⟩ := text_of (K := K) hv h1
      exact ⟨_, rfl, x, Ax, dx, fs, _, e1, e2, (T5.own _ e3).cl, N5.na _ e3 _ (by decide +kernel), e4, k _ (Same.refl H)⟩
    match t, hv, ho, k, ty, fld with
    | .tx z, hv, ho, k, ty, _ =>
      refine iteT ?_
      have ev : v = .str z := hv
      subst ev
      refine ⟨_, rfl, z, rfl, ho, ?_⟩
      rw [← said_tx]
      exact k _ (Same.refl H)
    | .row ts, hv, ho, k, ty, _ =>
      refine iteF ?_
      refine ⟨_, rfl, _, _, _, _, true, rfl, .ty "tuple", ty, kit_tup T5 (.row ts), _, rfl, ?_⟩
      refine iteT ?_
      obtain ⟨a, xs, ev, ha, hp⟩ := hv
      subst ev
      obtain ⟨o1, o2, o3⟩ := ho
      have xl := pts_len hp
      have pp := ptsAt_iff.mp hp
      refine ⟨rfl, _, rfl, a, rfl, ⟨_, SqT.of ha⟩, fun D hD => lc_tup (K := K) (a := a) (xs := xs) (fun i H' => Same H H' ∧ H' D = some (.lst (((saids ts).take i).map V.str))) ⟨same_upd (Same.refl H) hD, upd_same⟩ (fun i H' _ ⟨s', _⟩ => SqT.of (s' _ _ ha)) ?_ ?_⟩
      · rintro i x H1 hx ⟨s1, e1⟩
        obtain ⟨ti, et, hi⟩ := LiI.paired_get pp hx
        have il : i < xs.length := (List.getElem?_eq_some_iff.mp hx).1
        obtain ⟨y, Ay, dy, gs, q1, q2, q3, q4⟩ := text_of (K := K) (PtAt.kpo (KpO.same s1) ti hi) (o1 ti (List.mem_of_getElem? et))
        refine ⟨rfl, ?_⟩
        dsimp only [tYes]
        rw [if_pos rfl]
        refine ⟨_, rfl, y, Ay, dy, gs, _, q1, q2, (T5.own _ q3).cl, N5.na _ q3 _ (by decide +kernel), q4, _, e1, ?_, same_upd s1 hD, ?_⟩
        · rw [List.length_map]
          exact Nat.lt_of_le_of_lt (List.length_take_le _ _) (by omega)
        · have es : (saids ts)[i]? = some (said ti) := by rw [saids_map, List.getElem?_map, et]; rfl
          rw [upd_same, List.take_add_one, es]
          simp
      · rintro H1 ⟨s1, e1⟩
        rw [xl, ← saids_len ts, List.take_length] at e1
        have jl := join_len ts
        refine ⟨", ", D, saids ts, rfl, rfl, .inl (SqL.of e1), ?_, ?_⟩
        · rw [sep_len, saids_len]
          unfold joinB at o3
          omega
        have b1 : ("[" : Str).length = 1 := by decide +kernel
        have b2 : ("]" : Str).length = 1 := by decide +kernel
        refine ⟨_, rfl, by rw [str_len, b1]; show 0 + 1 ≤ sizeLine; omega, _, rfl, .inl ⟨_, rfl, by omega, _, rfl, by rw [str_len, str_len, b1]; show 0 + 1 + _ ≤ sizeLine; omega, _, rfl, by rw [str_len, str_len, str_len, b1, b2]; show 0 + 1 + _ + 1 ≤ sizeLine; omega, ?_⟩⟩
        rw [str_nil_app, ← said_row]
        exact k _ s1
    | .vr j n, hv, ho, k, ty, fld =>
      refine iteF ?_
      refine ⟨_, rfl, _, _, _, _, false, rfl, .ty "tuple", ty, kit_tup T5 (.vr j n), _, rfl, ?_⟩
      exact iteF (fld rfl rfl rfl)
    | .nd lk g ps, hv, ho, k, ty, fld =>
      refine iteF ?_
      refine ⟨_, rfl, _, _, _, _, false, rfl, .ty "tuple", ty, kit_tup T5 (.nd lk g ps), _, rfl, ?_⟩
      exact iteF (fld rfl rfl rfl)
end
end K3

namespace K3
open PySem L2
section
variable {P : Program} {w : World} {K : PySem.W.Frag} {mg : Str → Option Value} {base : Heap}
def spNodeText (C : Cl5) : Sp := fun vs H Q _ => ∃ (f : Str) (a : Addr) (xs : List V) (ps : List Tr), vs = [.str f, .ref a] ∧ H a = some (.tup xs) ∧ PtsAt C H xs ps ∧ (∀ p ∈ ps, okTx p) ∧ ps.length ≤ 1000 ∧ joinB ps ≤ 16000000 ∧ f.length ≤ 1000 ∧
  ∀ H', Same H H' → Q (.str (f ++ "(" ++ Txt.join ", " (saids ps) ++ ")")) H'
def NNT : List Str := ["form", "parts", "inner", "part"]
theorem scNodeText : FnScope NNT ["form", "parts"] (defScope sNodeText) := ⟨rfl, rfl, rfl, by decide +kernel, rfl, by decide +kernel, by decide +kernel⟩
theorem ok_nodeText {C : Cl5} {f fP : Addr} {fd fdP : FuncData} (F : Fun K "_node_text" "_node_text" sNodeText f fd) (GP : FnOk P w K mg base CX0 2 fP fdP ["part"] (spPartText C)) (gP : mg "part_text" = some (.ref fP)) (kP : PySem.W.keepIn K (.ref fP) = true) (bP : Binds K fdP ["part"] []) :
    FnOk P w K mg base CX0 3 f fd ["form", "parts"] (spNodeText C) := by
  refine F.ok scNodeText (fun vs H Q E h => ?_) (fun cdv A outer s H vs Q E hr h => ?_)
  · obtain ⟨g, a, xs, ps, rfl, _⟩ := h
    rfl
  · obtain ⟨g, a, xs, ps, rfl, ha, hp, ho, hl, hj, hg, k⟩ := h
    refine ⟨_, pss_cons (ps_set (i := 2) scNodeText.nd rfl (Or.inl rfl) (pe_bm PySem.F.plainAttrs_str PySem.F.slot_str_join PySem.F.type_str_join mt_join pe_str (pa_cons (pe_lc (own := [("part", 3)]) (g := gName 3) (tt := tYes) (te := tCall (spPartText C) [] E0 (tCons (tVar 3) tNil)) rfl scNodeText.nd (pi_tup (pv 1))
        (blkOk_by (N := NNT) (sc := defScope sNodeText) (by decide +kernel)) (fun _ _ _ _ _ => pg_name (i := 3) scNodeText.nd rfl (Or.inl rfl)) (fun _ _ _ _ _ => pts_nil) (fun _ _ _ _ _ => pe_call GP hr rfl gP kP bP .nil pass0 (pa_cons (pv 3) pa_nil))) pa_nil)))
      (pss_one (ps_ret (pe_joined (.cons (pe_fmt (pv 0)) (.cons pe_str (.cons (pe_fmt (pv 2)) (.cons pe_str .nil))))))), ?_⟩
    have big : sizeLine ≥ 16777216 := by decide
    have xl := pts_len hp
    have pp := ptsAt_iff.mp hp
    refine ⟨rfl, _, rfl, a, rfl, ⟨_, SqT.of ha⟩, fun D hD => lc_tup (K := K) (a := a) (xs := xs) (fun i H' => Same H H' ∧ H' D = some (.lst (((saids ps).take i).map V.str))) ⟨same_upd (Same.refl H) hD, upd_same⟩ (fun i H' _ ⟨s', _⟩ => SqT.of (s' _ _ ha)) ?_ ?_⟩
    · rintro i x H1 hx ⟨s1, e1⟩
      obtain ⟨ti, et, hi⟩ := LiI.paired_get pp hx
      have il : i < xs.length := (List.getElem?_eq_some_iff.mp hx).1
      refine ⟨rfl, ?_⟩
      dsimp only [tYes]
      rw [if_pos rfl]
      refine ⟨_, rfl, x, ti, rfl, PtAt.kpo (KpO.same s1) ti hi, ho ti (List.mem_of_getElem? et), fun H2 s2 => ⟨_, s2 _ _ e1, ?_, same_upd (s1.trans s2) hD, ?_⟩⟩
      · rw [List.length_map]
        exact Nat.lt_of_le_of_lt (List.length_take_le _ _) (by omega)
      · have es : (saids ps)[i]? = some (said ti) := by rw [saids_map, List.getElem?_map, et]; rfl
        rw [upd_same, List.take_add_one, es]
        simp
    · rintro H1 ⟨s1, e1⟩
      rw [xl, ← saids_len ps, List.take_length] at e1
      have jl := join_len ps
      refine ⟨", ", D, saids ps, rfl, rfl, .inl (SqL.of e1), ?_, ?_⟩
      · rw [sep_len, saids_len]
        unfold joinB at hj
        omega
      have b1 : ("(" : Str).length = 1 := by decide +kernel
      have b2 : (")" : Str).length = 1 := by decide +kernel
      refine ⟨_, rfl, .inl ⟨g, rfl, by omega, _, rfl, by rw [str_len]; show 0 + g.length ≤ sizeLine; omega, _, rfl, by rw [str_len, str_len, b1]; show 0 + g.length + 1 ≤ sizeLine; omega, _, rfl, .inl ⟨_, rfl, by omega, _, rfl, by rw [str_len, str_len, str_len, b1]; show 0 + g.length + 1 + _ ≤ sizeLine; omega, _, rfl, by rw [str_len, str_len, str_len, str_len, b1, b2]; show 0 + g.length + 1 + _ + 1 ≤ sizeLine; omega, ?_⟩⟩⟩
      rw [str_nil_app]
      exact k _ s1
/-! ### size and levels -/
theorem meas_of {C : Cl5} {H : Hp} : ∀ {v : V} {t : Tr}, PtAt C H v t → isN t = true → ∃ x A dx fs, v = .ref x ∧ H x = some (.ins A dx fs) ∧ A ∈ C.all ∧ fs.lookup ("size" : Str) = some (.int ((size t : Nat) : Int)) ∧ fs.lookup ("levels" : Str) = some (.int ((levels t : Nat) : Int))
  | _, .tx _, _, h => nomatch h
  | _, .row _, _, h => nomatch h
  | _, .vr 0 n, h, _ => by
    obtain ⟨x, dx, fs, h1, h2, h3, h4, h5⟩ := h
    obtain ⟨a, b⟩ := h5 rfl
    exact ⟨x, _, dx, fs, h1, h2, C.v_mem 0, a.trans (by simp only [size]; rfl), b.trans (by simp only [levels]; rfl)⟩
  | _, .vr (_ + 1) _, _, h => nomatch h
  | _, .nd lk f ps, h, _ => by
    obtain ⟨x, dx, fs, pa, xs, h1, h2, h3, h4, h5, h6, h7, h8, h9, _⟩ := h
    exact ⟨x, _, dx, fs, h1, h2, C.n_mem lk, h7.trans (by simp only [size]), h8.trans (by simp only [levels])⟩
theorem sizes_snoc : ∀ (ts : List Tr) (t : Tr), sizes (ts ++ [t]) = sizes ts + size t
  | [], t => by simp only [List.nil_append, sizes, Nat.add_zero, Nat.zero_add]
  | a :: ts, t => by simp only [List.cons_append, sizes, sizes_snoc ts t, Nat.add_assoc]
theorem levelss_snoc : ∀ (ts : List Tr) (t : Tr), levelss (ts ++ [t]) = max (levelss ts) (levels t)
  | [], t => by simp only [List.nil_append, levelss, Nat.max_zero, Nat.zero_max]
  | a :: ts, t => by simp only [List.cons_append, levelss, levelss_snoc ts t, Nat.max_assoc]
def spMeasures (C : Cl5) : Sp := fun vs H Q _ => ∃ (a : Addr) (xs : List V) (ts : List Tr), vs = [.ref a] ∧ H a = some (.tup xs) ∧ PtsAt C H xs ts ∧ (∀ t ∈ ts, isN t = true) ∧
  ∀ H' p, Same H H' → H p = none → H' p = some (.tup [.int ((1 + sizes ts : Nat) : Int), .int ((levelss ts + 1 : Nat) : Int)]) → Q (.ref p) H'
def NME : List Str := ["nodes", "size", "deepest", "node"]
theorem scMeasures : FnScope NME ["nodes"] (defScope sMeasures) := ⟨rfl, rfl, rfl, by decide +kernel, rfl, by decide +kernel, by decide +kernel⟩
theorem ok_measures {C : Cl5} {f : Addr} {fd : FuncData} (F : Fun K "_measures_above" "_measures_above" sMeasures f fd) (T5 : Ty5 K C) (N5 : Na5 K C) : FnOk P w K mg base CX0 1 f fd ["nodes"] (spMeasures C) := by
  refine F.ok scMeasures (fun vs H Q E h => ?_) (fun cdv A outer s H vs Q E hr h => ?_)
  · obtain ⟨a, xs, ts, rfl, _⟩ := h
    rfl
  · obtain ⟨a, xs, ts, rfl, ha, hp, hn, k⟩ := h
    refine ⟨_, pss_cons (ps_set (i := 1) scMeasures.nd rfl (Or.inl rfl) pe_int) (pss_cons (ps_set (i := 2) scMeasures.nd rfl (Or.inl rfl) pe_int)
      (pss_cons (ps_for PassesOwn.never rfl (pi_tup (pv 0)) (pg_name (i := 3) scMeasures.nd rfl (Or.inl rfl)) (pss_cons (ps_aug (i := 1) scMeasures.nd rfl (Or.inl rfl) (pe_fld (pv 3) rfl) iop_add)
        (pss_one (ps_if (pt_cmpR op_gt (pe_fld (pv 3) rfl) (pv 2) (nomark _)) (pss_one (ps_set (i := 2) scMeasures.nd rfl (Or.inl rfl) (pe_fld (pv 3) rfl))) pss_nil))))
      (pss_one (ps_ret (pe_tup (pa_cons (pv 1) (pa_cons (pe_op op_add (pv 2) pe_int) pa_nil))))))), ?_⟩
    have xl := pts_len hp
    have pp := ptsAt_iff.mp hp
    refine ⟨_, rfl, a, rfl, ⟨_, SqT.of ha⟩, for_tup (K := K) (a := a) (xs := xs) (fun i σ H' => ∃ v3 : Option V, σ = [some (.ref a), some (.int ((1 + sizes (ts.take i) : Nat) : Int)), some (.int ((levelss (ts.take i) : Nat) : Int)), v3] ∧ H' = H) ⟨_, rfl, rfl⟩ (fun i σ H' _ ⟨_, _, e⟩ => by rw [e]; exact SqT.of ha) ?_ ?_⟩
    · rintro i x σ H' hx ⟨v3, rfl, rfl⟩
      obtain ⟨ti, et, hi⟩ := LiI.paired_get pp hx
      obtain ⟨y, A_, dy, gs, rfl, q2, q3, q4, q5⟩ := meas_of hi (hn ti (List.mem_of_getElem? et))
      have cl := (T5.own _ q3).cl
      have sz : sizes (ts.take (i + 1)) = sizes (ts.take i) + size ti := by rw [List.take_add_one, et]; exact sizes_snoc _ _
      have lv : levelss (ts.take (i + 1)) = max (levelss (ts.take i)) (levels ti) := by rw [List.take_add_one, et]; exact levelss_snoc _ _
      refine ⟨_, rfl, _, rfl, y, A_, dy, gs, _, rfl, q2, cl, N5.na _ q3 _ (by decide +kernel), q4, _, _, rfl, rfl, ?_⟩
      refine ⟨_, rfl, y, A_, dy, gs, _, rfl, q2, cl, N5.na _ q3 _ (by decide +kernel), q5, _, rfl, _, _, rfl, rfl, _, rfl, ?_⟩
      have esz : (((1 + sizes (ts.take i) : Nat) : Int) + ((size ti : Nat) : Int)) = ((1 + sizes (ts.take (i + 1)) : Nat) : Int) := by rw [sz]; omega
      refine ite2 (fun h => ?_) (fun h => ?_)
      · have h := of_decide_eq_true h
        refine ⟨_, rfl, y, A_, dy, gs, _, rfl, q2, cl, N5.na _ q3 _ (by decide +kernel), q5, some (.ref y), ?_, rfl⟩
        rw [← esz, ← show levels ti = levelss (ts.take (i + 1)) by rw [lv]; omega]
        rfl
      · have h : ¬ ((levelss (ts.take i) : Nat) : Int) < ((levels ti : Nat) : Int) := fun q => h (decide_eq_true q)
        refine ⟨some (.ref y), ?_, rfl⟩
        rw [← esz, ← show levelss (ts.take i) = levelss (ts.take (i + 1)) by rw [lv]; omega]
        rfl
    · rintro σ H' ⟨v3, rfl, rfl⟩
      rw [xl, List.take_length]
      refine ⟨_, rfl, _, rfl, _, _, rfl, rfl, by show 2 ≤ sizeLine; decide, fun p hp2 => ?_⟩
      exact k _ p (same_upd (Same.refl _) hp2) hp2 upd_same
end
end K3

namespace K3
open PySem L2
/-! ### the nodes among parts -/
def kidOne (H : Hp) (x : V) (p : Tr) (ks : List V) : Prop := match p with
  | .row ts => ∃ a ys, x = .ref a ∧ H a = some (.tup ys) ∧ ys.length = ts.length ∧ ks = ((ys.zip ts).filter fun p => isN p.2).map Prod.fst
  | p => ks = if isN p = true then [x] else []
theorem kids_snoc {H : Hp} {x : V} {p : Tr} {ks : List V} (h1 : kidOne H x p ks) : ∀ {xs : List V} {ps : List Tr} {cs : List V}, KidsAt H xs ps cs → KidsAt H (xs ++ [x]) (ps ++ [p]) (cs ++ ks)
  | [], [], cs, h => by
    rw [show cs = [] from h]
    cases p with
    | row ts =>
      obtain ⟨a, ys, e1, e2, e3, e4⟩ := h1
      exact ⟨a, ys, [], e1, e2, e3, by rw [List.nil_append, e4, List.append_nil], rfl⟩
    | tx s => exact ⟨[], by rw [List.nil_append, List.append_nil]; exact h1, rfl⟩
    | vr k n => exact ⟨[], by rw [List.nil_append, List.append_nil]; exact h1, rfl⟩
    | nd lk f qs => exact ⟨[], by rw [List.nil_append, List.append_nil]; exact h1, rfl⟩
  | y :: xs, .row ts :: ps, cs, h => by
    obtain ⟨a, ys, r, e1, e2, e3, e4, e5⟩ := h
    exact ⟨a, ys, r ++ ks, e1, e2, e3, by rw [e4, List.append_assoc], kids_snoc h1 e5⟩
  | y :: xs, .tx s :: ps, cs, h => by obtain ⟨r, e1, e2⟩ := h; exact ⟨r ++ ks, by rw [e1, List.append_assoc], kids_snoc h1 e2⟩
  | y :: xs, .vr k n :: ps, cs, h => by obtain ⟨r, e1, e2⟩ := h; exact ⟨r ++ ks, by rw [e1, List.append_assoc], kids_snoc h1 e2⟩
  | y :: xs, .nd lk f qs :: ps, cs, h => by obtain ⟨r, e1, e2⟩ := h; exact ⟨r ++ ks, by rw [e1, List.append_assoc], kids_snoc h1 e2⟩
  | [], _ :: _, _, h => False.elim (by cases ‹Tr› <;> exact h)
  | _ :: _, [], _, h => False.elim h
theorem below_snoc : ∀ (ps : List Tr) (p : Tr), below (ps ++ [p]) = below ps ++ below [p]
  | [], p => by simp only [List.nil_append, below]
  | .row ts :: ps, p => by simp only [List.cons_append, below, below_snoc ps p, List.append_assoc]
  | .tx s :: ps, p => by simp only [List.cons_append, below, below_snoc ps p, List.append_assoc]
  | .vr k n :: ps, p => by simp only [List.cons_append, below, below_snoc ps p, List.append_assoc]
  | .nd lk f qs :: ps, p => by simp only [List.cons_append, below, below_snoc ps p, List.append_assoc]
theorem pts_app {C : Cl5} {H : Hp} : ∀ {xs ys : List V} {ts us : List Tr}, PtsAt C H xs ts → PtsAt C H ys us → PtsAt C H (xs ++ ys) (ts ++ us)
  | [], _, [], _, _, h => h
  | _ :: _, _, _ :: _, _, h, h2 => ⟨h.1, pts_app h.2 h2⟩
  | [], _, _ :: _, _, h, _ => False.elim h
  | _ :: _, _, [], _, h, _ => False.elim h
def picked (ys : List V) (us : List Tr) : List V := ((ys.zip us).filter fun p => isN p.2).map Prod.fst
theorem pts_picked {C : Cl5} {H : Hp} : ∀ {ys : List V} {us : List Tr}, PtsAt C H ys us → PtsAt C H (picked ys us) (us.filter isN)
  | [], [], h => h
  | y :: ys, u :: us, h => by
    have ih := pts_picked h.2
    unfold picked at ih ⊢
    rw [List.zip_cons_cons]
    cases e : isN u with
    | true =>
      rw [List.filter_cons_of_pos (by exact e), List.filter_cons_of_pos (by exact e), List.map_cons]
      exact ⟨h.1, ih⟩
    | false =>
      rw [List.filter_cons_of_neg (by rw [e]; exact Bool.false_ne_true), List.filter_cons_of_neg (by show ¬ isN u = true; rw [e]; exact Bool.false_ne_true)]
      exact ih
  | [], _ :: _, h => False.elim h
  | _ :: _, [], h => False.elim h
theorem picked_len (ys : List V) (us : List Tr) : (picked ys us).length ≤ us.length := by
  unfold picked
  rw [List.length_map]
  exact Nat.le_trans (List.length_filter_le _ _) (by rw [List.length_zip]; exact Nat.min_le_right _ _)
theorem picked_snoc {ys : List V} {us : List Tr} {j : Nat} {y : V} {u : Tr} (h1 : ys[j]? = some y) (h2 : us[j]? = some u) : picked (ys.take (j + 1)) (us.take (j + 1)) = picked (ys.take j) (us.take j) ++ (if isN u = true then [y] else []) := by
  have l1 : j < ys.length := (List.getElem?_eq_some_iff.mp h1).1
  have l2 : j < us.length := (List.getElem?_eq_some_iff.mp h2).1
  unfold picked
  rw [List.take_add_one, List.take_add_one, h1, h2]
  rw [List.zip_append (by rw [List.length_take, List.length_take]; omega), List.filter_append, List.map_append]
  congr 1
  cases e : isN u <;> simp [e]
section
variable {P : Program} {w : World} {K : PySem.W.Frag} {mg : Str → Option Value} {base : Heap}
def rowLen : Tr → Nat
  | .row ts => ts.length
  | _ => 0
def spNodes (C : Cl5) : Sp := fun vs H Q _ => ∃ (a : Addr) (xs : List V) (ps : List Tr), vs = [.ref a] ∧ H a = some (.tup xs) ∧ PtsAt C H xs ps ∧ ps.length ≤ 1000 ∧ (∀ p ∈ ps, rowLen p ≤ 1000) ∧
  ∀ H' p cs, Same H H' → H p = none → H' p = some (.tup cs) → KidsAt H' xs ps cs → PtsAt C H' cs (below ps) → Q (.ref p) H'
def NNA : List Str := ["parts", "nodes", "part", "row", "item"]
theorem scNodes : FnScope NNA ["parts"] (defScope sNodesAmong) := ⟨rfl, rfl, rfl, by decide +kernel, rfl, by decide +kernel, by decide +kernel⟩
theorem ok_nodes {C : Cl5} {f fN : Addr} {fd fdN : FuncData} (F : Fun K "nodes_among" "nodes_among" sNodesAmong f fd) (T : TxtT mg C) (T5 : Ty5 K C) (GN : FnOk P w K mg base CX0 1 fN fdN ["value"] (spIsNode C)) (gN : mg "is_node" = some (.ref fN)) (kN : PySem.W.keepIn K (.ref fN) = true) (bN : Binds K fdN ["value"] []) :
    FnOk P w K mg base CX0 2 f fd ["parts"] (spNodes C) := by
  refine F.ok scNodes (fun vs H Q E h => ?_) (fun cdv A outer s H vs Q E hr h => ?_)
  · obtain ⟨a, xs, ps, rfl, _⟩ := h
    rfl
  · obtain ⟨a, xs, ps, rfl, ha, hp, hl, hb, k⟩ := h
    refine ⟨_, pss_cons (ps_set (i := 1) scNodes.nd rfl (Or.inl rfl) (pe_lst pa_nil))
      (pss_cons (ps_for PassesOwn.never rfl (pi_tup (pv 0)) (pg_name (i := 2) scNodes.nd rfl (Or.inl rfl))
        (pss_cons (ps_set (i := 3) scNodes.nd rfl (Or.inl rfl) (pe_ifExp (pt_val (pe_callB call_isi (by rfl) T.isi PyProof.Rows.boot_isinstance (pa_cons (pv 2) (pa_cons (pe_bltn (v := .ty "tuple") rfl T.tup PyProof.Rows.boot_tuple rfl) pa_nil)))) (pv 2) (pe_tup (pa_cons (pv 2) pa_nil))))
        (pss_one (ps_expr (pe_bm PySem.F.plainAttrs_list PySem.F.slot_list_extend PySem.F.type_list_extend mt_extend (pv 1) (pa_cons (pe_lc (own := [("item", 4)]) (g := gName 4) (tt := tB (tCall (spIsNode C) [] E0 (tCons (tVar 4) tNil))) (te := tVar 4) rfl scNodes.nd (pi_tup (pv 3))
          (blkOk_by (N := NNA) (sc := defScope sNodesAmong) (by decide +kernel)) (fun _ _ _ _ _ => pg_name (i := 4) scNodes.nd rfl (Or.inl rfl)) (fun _ _ _ _ _ => pts_one (pt_val (pe_call GN hr rfl gN kN bN .nil pass0 (pa_cons (pv 4) pa_nil)))) (fun _ _ _ _ _ => pv 4)) pa_nil))))))
      (pss_one (ps_ret (pe_callTy call_tuple_of (by rfl) T.tup PyProof.Rows.boot_tuple (pa_cons (pv 1) pa_nil))))), ?_⟩
    have big : sizeLine ≥ 16777216 := by decide
    have xl := pts_len hp
    have pp := ptsAt_iff.mp hp
    refine ⟨Nat.zero_le _, fun nd hnd => ?_⟩
    refine ⟨_, rfl, a, rfl, ⟨_, SqT.of (same_upd (Same.refl H) hnd _ _ ha)⟩, for_tup (K := K) (a := a) (xs := xs) (fun i σ H' => ∃ (v2 v3 : Option V) (acc : List V), σ = [some (.ref a), some (.ref nd), v2, v3, none] ∧ Same H H' ∧ H' nd = some (.lst acc) ∧ acc.length ≤ 1000 * i ∧ KidsAt H' (xs.take i) (ps.take i) acc ∧ PtsAt C H' acc (below (ps.take i)))
      ⟨_, _, [], rfl, same_upd (Same.refl H) hnd, upd_same, Nat.zero_le _, rfl, True.intro⟩ (fun i σ H' _ ⟨_, _, _, _, s', _⟩ => SqT.of (s' _ _ ha)) ?_ ?_⟩
    · rintro i x σ H1 hx ⟨v2, v3, acc, rfl, s1, hN1, al, kd, pa⟩
      obtain ⟨p, ep, hi⟩ := LiI.paired_get pp hx
      have il : i < xs.length := (List.getElem?_eq_some_iff.mp hx).1
      have hi1 := PtAt.kpo (KpO.same s1) p hi
      have ty := PtAt.ty T5 hi1
      have rb := hb p (List.mem_of_getElem? ep)
      have ex : xs.take (i + 1) = xs.take i ++ [x] := by rw [List.take_add_one, hx]; rfl
      have eps : ps.take (i + 1) = ps.take i ++ [p] := by rw [List.take_add_one, ep]; rfl
      refine ⟨_, rfl, _, _, _, _, isRow p, rfl, .ty "tuple", ty, kit_tup T5 p, _, rfl, ?_⟩
      refine ite2 (fun hrow => ?r1) (fun hrow => ?r2)
      case' r1 =>
        obtain ⟨us, rfl⟩ : ∃ us, p = .row us := by cases p with
          | row us => exact ⟨us, rfl⟩
          | tx _ => cases hrow
          | vr _ _ => cases hrow
          | nd _ _ _ => cases hrow
        obtain ⟨ra, ys, erx, hra, hys⟩ := id hi1
        subst erx
        refine ⟨_, rfl, ?_⟩
        obtain ⟨H2, rfl⟩ : ∃ t, t = H1 := ⟨_, rfl⟩
        have s12 : Same H2 H2 := Same.refl H2
        have one : ∀ H', Same H2 H' → kidOne H' (.ref ra) (.row us) (picked ys us) ∧ below [Tr.row us] = us.filter isN := fun H' s' => ⟨⟨ra, ys, rfl, s' _ _ hra, pts_len hys, rfl⟩, by simp only [below, List.append_nil]⟩
        have ul : us.length ≤ 1000 := rb
        have hx2 : hx = hx := rfl
      case' r2 =>
        refine ⟨_, rfl, by show 1 ≤ sizeLine; omega, fun ra hra0 => ?_⟩
        generalize e2 : upd H1 ra _ = H2
        have s12 : Same H1 H2 := by rw [← e2]; exact same_upd (Same.refl H1) hra0
        have hra : H2 ra = some (.tup [x]) := by rw [← e2, upd_same]
        clear e2
        obtain ⟨ys, eys⟩ : ∃ ys, ys = [x] := ⟨_, rfl⟩
        obtain ⟨us, eus⟩ : ∃ us, us = [p] := ⟨_, rfl⟩
        rw [← eys] at hra
        have hys : PtsAt C H2 ys us := by rw [eys, eus]; exact ⟨PtAt.kpo (KpO.same s12) p hi1, True.intro⟩
        have one : ∀ H', Same H2 H' → kidOne H' x p (picked ys us) ∧ below [p] = us.filter isN := fun H' s' => by
          rw [eys, eus]
          cases p with
          | row us => exact absurd rfl hrow
          | tx z => exact ⟨rfl, rfl⟩
          | vr j n => cases j <;> exact ⟨rfl, rfl⟩
          | nd lk f qs => exact ⟨rfl, rfl⟩
        have ul : us.length ≤ 1000 := by rw [eus]; show 1 ≤ 1000; decide
        have hx2 : hx = hx := rfl
      all_goals
        have sH2 := s1.trans s12
        have yl := pts_len hys
        have pys := ptsAt_iff.mp hys
        have hN2 := s12 _ _ hN1
        refine ⟨_, rfl, .inl ⟨rfl, _, SqL.of hN2⟩, _, rfl, ra, rfl, ⟨_, SqT.of hra⟩, fun D hD => lc_tup (K := K) (a := ra) (xs := ys) (fun j H' => Same H2 H' ∧ H' D = some (.lst (picked (ys.take j) (us.take j)))) ⟨same_upd (Same.refl H2) hD, upd_same⟩ (fun j H' _ ⟨s', _⟩ => SqT.of (s' _ _ hra)) ?_ ?_⟩
        · rintro j y H3 hy ⟨s3, e3⟩
          obtain ⟨u, eu, hu⟩ := LiI.paired_get pys hy
          have jl : j < ys.length := (List.getElem?_eq_some_iff.mp hy).1
          have ps_ := picked_snoc hy eu
          refine ⟨rfl, ?_⟩
          refine ⟨_, rfl, y, u, rfl, PtAt.kpo (KpO.same s3) u hu, fun H4 s4 => ⟨_, rfl, ?_⟩⟩
          have s24 := s3.trans s4
          have e4 := s4 _ _ e3
          refine ite2 (fun hn => ?_) (fun hn => ?_)
          · rw [if_pos hn] at ps_
            refine ⟨_, rfl, _, e4, ?_, same_upd s24 hD, by rw [upd_same, ps_]⟩
            have := picked_len (ys.take j) (us.take j)
            rw [List.length_take] at this
            omega
          · rw [if_neg hn, List.append_nil] at ps_
            exact ⟨s24, by rw [ps_]; exact e4⟩
        · rintro H3 ⟨s3, e3⟩
          rw [List.take_length, yl, List.take_length] at e3
          have hN3 := s3 _ _ hN2
          have pl := picked_len ys us
          refine ⟨nd, D, acc, _, rfl, rfl, hN3, e3, by omega, ?_⟩
          have sF : Same H (upd H3 nd (.lst (acc ++ picked ys us))) := same_upd (sH2.trans s3) hnd
          have kp : KpO H3 (upd H3 nd (.lst (acc ++ picked ys us))) := fun b o hb' q => by
            have ne : b ≠ nd := fun z => by rw [z, hN3] at q; cases q; cases hb'
            rw [upd_ne ne]
            exact q
          have k13 : KpO H2 H3 := KpO.same s3
          obtain ⟨on, eb⟩ := one H3 s3
          refine ⟨_, _, _, rfl, sF, upd_same, by rw [List.length_append]; omega, ?_, ?_⟩
          · rw [ex, eps]
            exact KidsAt.kpo kp (kids_snoc on (KidsAt.kpo ((KpO.same s12).trans k13) kd))
          · rw [eps, below_snoc, eb]
            exact PtsAt.kpo kp _ (pts_app (PtsAt.kpo ((KpO.same s12).trans k13) _ pa) (PtsAt.kpo k13 _ (pts_picked hys)))
    · rintro σ H1 ⟨v2, v3, acc, rfl, s1, hN1, al, kd, pa⟩
      rw [xl] at kd
      rw [xl] at pa
      rw [← xl, List.take_length, xl, List.take_length] at kd
      rw [List.take_length] at pa
      refine ⟨_, rfl, nd, acc, rfl, .inl ⟨SqL.of hN1, fun p hp2 => ?_⟩⟩
      have s2 : Same H1 (upd H1 p (.tup acc)) := same_upd (Same.refl H1) hp2
      exact k _ p acc (s1.trans s2) (s1.free hp2) upd_same (KidsAt.kpo (KpO.same s2) kd) (PtsAt.kpo (KpO.same s2) _ pa)
end
end K3

namespace K3
open PySem L2 E0
/-! ### Tree's own making -/
def SameX (x : Addr) (H H' : Hp) : Prop := ∀ b o, b ≠ x → H b = some o → H' b = some o
theorem Same.x {x : Addr} {H H' : Hp} (s : Same H H') : SameX x H H' := fun b o _ e => s b o e
theorem SameX.trans {x : Addr} {H H1 H2 : Hp} (a : SameX x H H1) (b : SameX x H1 H2) : SameX x H H2 := fun c o n e => b c o n (a c o n e)
theorem SameX.upd {x : Addr} {H : Hp} {o : HO} : SameX x H (upd H x o) := fun b u n e => by rw [upd_ne n]; exact e
theorem lk_put3 {f g : Str} {v : V} {fs : List (Str × V)} (h : ¬ g = f) : (putF f v fs).lookup g = fs.lookup g := by rw [lookup_putF, if_neg h]
theorem lk_put1 {f : Str} {v : V} {fs : List (Str × V)} : (putF f v fs).lookup f = some v := by rw [lookup_putF, if_pos rfl]
theorem sizes_app : ∀ (a b : List Tr), sizes (a ++ b) = sizes a + sizes b
  | [], b => by simp only [List.nil_append, sizes, Nat.zero_add]
  | t :: a, b => by simp only [List.cons_append, sizes, sizes_app a b, Nat.add_assoc]
theorem levelss_app : ∀ (a b : List Tr), levelss (a ++ b) = max (levelss a) (levelss b)
  | [], b => by simp only [List.nil_append, levelss, Nat.zero_max]
  | t :: a, b => by simp only [List.cons_append, levelss, levelss_app a b, Nat.max_assoc]
theorem isT_isN {t : Tr} (h : isT t = true) : isN t = true := by
  match t, h with
  | .nd false _ _, _ => rfl
theorem below_ok : ∀ {ps : List Tr}, (∀ p ∈ ps, okP p = true) → sizes (below ps) = sizes ps ∧ levelss (below ps) = levelss ps ∧ ∀ t ∈ below ps, isN t = true
  | [], _ => ⟨rfl, rfl, fun t h => nomatch h⟩
  | p :: ps, h => by
    obtain ⟨a, b, c⟩ := below_ok (ps := ps) fun q hq => h q (List.mem_cons_of_mem _ hq)
    have hp := h p (List.mem_cons_self ..)
    match p, hp with
    | .tx s, _ =>
      refine ⟨?_, ?_, fun t ht => c t ht⟩
      · show sizes ([] ++ below ps) = size (.tx s) + sizes ps
        rw [List.nil_append, a]
        simp only [size, Nat.zero_add]
      · show levelss ([] ++ below ps) = max (levels (.tx s)) (levelss ps)
        rw [List.nil_append, b]
        simp only [levels, Nat.zero_max]
    | .row ts, hp =>
      have ht : ∀ t ∈ ts, isN t = true := fun t ht => isT_isN (List.all_eq_true.mp hp t ht)
      have e : below (.row ts :: ps) = ts ++ below ps := by
        show ts.filter isN ++ below ps = _
        rw [List.filter_eq_self.mpr ht]
      rw [e]
      refine ⟨?_, ?_, fun t hm => (List.mem_append.mp hm).elim (ht t) (c t)⟩
      · rw [sizes_app, a]
        simp only [sizes, size]
      · rw [levelss_app, b]
        simp only [levelss, levels]
    | .nd false f qs, _ =>
      refine ⟨?_, ?_, fun t hm => ?_⟩
      · show sizes ([.nd false f qs] ++ below ps) = _
        rw [sizes_app, a]
        simp only [sizes, Nat.add_zero]
      · show levelss ([.nd false f qs] ++ below ps) = _
        rw [levelss_app, b]
        simp only [levelss, Nat.max_zero]
      · rcases List.mem_append.mp (show t ∈ [Tr.nd false f qs] ++ below ps from hm) with q | q
        · rw [List.mem_singleton.mp q]; rfl
        · exact c t q
/-- a value among what a tree is asked to have -/
inductive PI where
  | good (t : Tr)
  | bad
def PIAt (K : PySem.W.Frag) (C : Cl5) (H : Hp) (v : V) : PI → Prop
  | .good t => PtAt C H v t ∧ okP t = true ∧ rowB t ≤ 1000 ∧ okTx t
  | .bad => BadT K C H v
theorem PIAt.same {K : PySem.W.Frag} {C : Cl5} {H H' : Hp} {v : V} (s : Same H H') : ∀ {i : PI}, PIAt K C H v i → PIAt K C H' v i
  | .good t, h => ⟨PtAt.kpo (KpO.same s) t h.1, h.2⟩
  | .bad, h => by
    rcases h with h | ⟨a, xs, bs, h1, h2, h3, h4, h5⟩ | ⟨t, h1, h2⟩
    · exact .inl h
    · exact .inr (.inl ⟨a, xs, bs, h1, s _ _ h2, h3, Paired.mapP h4 fun x b q => let ⟨t, q1, q2, q3⟩ := q; ⟨t, TyX.sm q1 s, q2, fun a e => let ⟨o, z⟩ := q3 a e; ⟨o, s _ _ z⟩⟩, h5⟩)
    · exact .inr (.inr ⟨t, TyX.sm h1 s, h2⟩)
def firstBad : Nat → List PI → Option Nat
  | _, [] => none
  | n, .bad :: _ => some n
  | n, .good _ :: r => firstBad (n + 1) r
def partsOf : List PI → List Tr
  | [] => []
  | .good t :: r => t :: partsOf r
  | .bad :: r => partsOf r
def treeDue (n : V) (pis : List PI) : Option V :=
  if nameV n = false then some (.str "form") else match firstBad 0 pis with
    | some i => some (.int ((i : Nat) : Int))
    | none => if 400 < 1 + sizes (partsOf pis) ∨ 100 < levelss (partsOf pis) + 1 then some (.str "size") else none
theorem good_all {K : PySem.W.Frag} {C : Cl5} {H : Hp} : ∀ {xs : List V} {pis : List PI} {n : Nat}, Paired (PIAt K C H) xs pis → firstBad n pis = none → PtsAt C H xs (partsOf pis) ∧ (∀ t ∈ partsOf pis, okP t = true ∧ rowB t ≤ 1000 ∧ okTx t) ∧ (partsOf pis).length = pis.length
  | _, _, _, .nil, _ => ⟨True.intro, (fun t h => nomatch h), rfl⟩
  | _, .bad :: _, _, .cons _ _, h => nomatch h
  | _, .good t :: _, _, .cons a r, h => by
    obtain ⟨h1, h2, h3⟩ := good_all r h
    refine ⟨⟨a.1, h1⟩, fun u hu => ?_, congrArg (· + 1) h3⟩
    rcases List.mem_cons.mp hu with q | q
    · rw [q]; exact a.2
    · exact h2 u q
/-! parts do not look at an instance that has nothing yet -/
theorem KidsAt.kx {H H' : Hp} {x dx A : Addr} {gs : List (Str × V)} (hx : H x = some (.ins A dx gs)) (e : SameX x H H') : ∀ {xs : List V} {ps : List Tr} {cs : List V}, KidsAt H xs ps cs → KidsAt H' xs ps cs
  | [], [], _, h => h
  | v :: xs, .row ts :: ps, cs, h => by
    obtain ⟨a, ys, r, h1, h2, h3, h4, h5⟩ := h
    exact ⟨a, ys, r, h1, e _ _ (fun q => by rw [q, hx] at h2; cases h2) h2, h3, h4, KidsAt.kx hx e h5⟩
  | v :: xs, .tx _ :: ps, cs, h => by obtain ⟨r, h1, h2⟩ := h; exact ⟨r, h1, KidsAt.kx hx e h2⟩
  | v :: xs, .vr _ _ :: ps, cs, h => by obtain ⟨r, h1, h2⟩ := h; exact ⟨r, h1, KidsAt.kx hx e h2⟩
  | v :: xs, .nd _ _ _ :: ps, cs, h => by obtain ⟨r, h1, h2⟩ := h; exact ⟨r, h1, KidsAt.kx hx e h2⟩
  | [], _ :: _, _, h => False.elim (by cases ‹Tr› <;> exact h)
  | _ :: _, [], _, h => False.elim h
mutual
theorem PtAt.kx {C : Cl5} {H H' : Hp} {x dx A : Addr} (hx : H x = some (.ins A dx [])) (e : SameX x H H') : ∀ {v : V} (t : Tr), PtAt C H v t → PtAt C H' v t
  | _, .tx _, h => h
  | _, .row ts, h => by
    obtain ⟨a, xs, h1, h2, h3⟩ := h
    exact ⟨a, xs, h1, e _ _ (fun q => by rw [q, hx] at h2; cases h2) h2, PtsAt.kx hx e ts h3⟩
  | _, .vr k n, h => by
    obtain ⟨y, dy, fs, h1, h2, h3, h4⟩ := h
    exact ⟨y, dy, fs, h1, e _ _ (fun q => by rw [q, hx] at h2; cases h2; cases h3) h2, h3, h4⟩
  | _, .nd lk f ps, h => by
    obtain ⟨y, dy, fs, pa, xs, h1, h2, h3, h4, h5, h6, h7, h8, h9, h10⟩ := h
    exact ⟨y, dy, fs, pa, xs, h1, e _ _ (fun q => by rw [q, hx] at h2; cases h2; cases h3) h2, h3, h4, e _ _ (fun q => by rw [q, hx] at h5; cases h5) h5, PtsAt.kx hx e ps h6, h7, h8, h9, fun z => let ⟨ca, cs, k1, k2, k3⟩ := h10 z; ⟨ca, cs, k1, e _ _ (fun q => by rw [q, hx] at k2; cases k2) k2, k3.kx hx e⟩⟩
theorem PtsAt.kx {C : Cl5} {H H' : Hp} {x dx A : Addr} (hx : H x = some (.ins A dx [])) (e : SameX x H H') : ∀ {xs : List V} (ts : List Tr), PtsAt C H xs ts → PtsAt C H' xs ts
  | [], [], h => h
  | v :: xs, t :: ts, h => ⟨PtAt.kx hx e t h.1, PtsAt.kx hx e ts h.2⟩
  | [], _ :: _, h => False.elim h
  | _ :: _, [], h => False.elim h
end
theorem at1 : ¬ ("form" : Str) = "parts" ∧ ¬ ("form" : Str) = "children" ∧ ¬ ("form" : Str) = "size" ∧ ¬ ("form" : Str) = "levels" ∧ ¬ ("form" : Str) = "text" := by decide +kernel
theorem at2 : ¬ ("parts" : Str) = "children" ∧ ¬ ("parts" : Str) = "size" ∧ ¬ ("parts" : Str) = "levels" ∧ ¬ ("parts" : Str) = "text" := by decide +kernel
theorem at3 : ¬ ("children" : Str) = "size" ∧ ¬ ("children" : Str) = "levels" ∧ ¬ ("children" : Str) = "text" := by decide +kernel
theorem at4 : ¬ ("size" : Str) = "levels" ∧ ¬ ("size" : Str) = "text" ∧ ¬ ("levels" : Str) = "text" := by decide +kernel
/-- its parts are just these values -/
def HasP (H : Hp) (x : Addr) (xs : List V) : Prop := ∃ A dx fs pa, H x = some (.ins A dx fs) ∧ fs.lookup ("parts" : Str) = some (.ref pa) ∧ H pa = some (.tup xs) ∧ fs.lookup ("each_path" : Str) = none ∧ fs.lookup ("put" : Str) = none
theorem HasP.kpo {H H' : Hp} {x : Addr} {xs : List V} (e : KpO H H') (h : HasP H x xs) : HasP H' x xs := by
  obtain ⟨A, dx, fs, pa, h1, h2, h3, h4⟩ := h
  exact ⟨A, dx, fs, pa, e _ _ rfl h1, h2, e _ _ rfl h3, h4⟩
theorem at6 : ¬ ("each_path" : Str) = "form" ∧ ¬ ("each_path" : Str) = "parts" ∧ ¬ ("each_path" : Str) = "children" ∧ ¬ ("each_path" : Str) = "size" ∧ ¬ ("each_path" : Str) = "levels" ∧ ¬ ("each_path" : Str) = "text" := by decide +kernel
theorem at7 : ¬ ("put" : Str) = "form" ∧ ¬ ("put" : Str) = "parts" ∧ ¬ ("put" : Str) = "children" ∧ ¬ ("put" : Str) = "size" ∧ ¬ ("put" : Str) = "levels" ∧ ¬ ("put" : Str) = "text" := by decide +kernel
def NTI : List Str := ["self", "form", "parts", "spot", "part", "children", "size", "levels"]
theorem scTreeInit : FnScope NTI ["self", "form", "parts"] (defScope sTreeInit) := ⟨rfl, rfl, rfl, by decide +kernel, rfl, by decide +kernel, by decide +kernel⟩
section
variable {P : Program} {w : World} {K : PySem.W.Frag} {mg : Str → Option Value} {base : Heap}
def spTreeInit (K : PySem.W.Frag) (C : Cl5) (CI : Addr) : Sp := fun vs H Q E => ∃ (x dx p : Addr) (n : V) (xs : List V) (pis : List PI), vs = [.ref x, n, .ref p] ∧ H x = some (.ins C.T dx []) ∧ H p = some (.tup xs) ∧ Val K H n ∧ Paired (PIAt K C H) xs pis ∧ pis.length ≤ 1000 ∧ joinB (partsOf pis) ≤ 16000000 ∧
  (match treeDue n pis with
   | some u => ∀ H' dd, Same H H' → H dd = none → H' dd = some (.xd [("part", u)]) → E (.ref CI) (some dd) H'
   | none => ∀ H' z, n = .str z → SameX x H H' → PtAt C H' (.ref x) (.nd false z (partsOf pis)) → HasP H' x xs → Q .non H')
structure TxtI (P : Program) (w : World) (K : PySem.W.Frag) (mg : Str → Option Value) (base : Heap) (C : Cl5) (CI fN fP fA fM fX : Addr) (fdN fdP fdA fdM fdX : FuncData) : Prop where
  er : ErrF P K mg CI
  enu : mg "enumerate" = none
  gT : mg "Tree" = some (.ref C.T)
  mx : ∃ mc t1 t2, ClX.CRead K C.T mc ∧ ClX.CVal K C.T mc "MAX_NODES" (.int 400) (.int 400 t1) ∧ ClX.CVal K C.T mc "MAX_LEVELS" (.int 100) (.int 100 t2)
  GN : FnOk P w K mg base CX0 1 fN fdN ["value"] (spName K)
  gN : mg "is_name" = some (.ref fN)
  kN : PySem.W.keepIn K (.ref fN) = true
  bN : Binds K fdN ["value"] []
  GP : FnOk P w K mg base CX0 1 fP fdP ["part"] (spTreePart K C)
  gP : mg "_is_tree_part" = some (.ref fP)
  kP : PySem.W.keepIn K (.ref fP) = true
  bP : Binds K fdP ["part"] []
  GA : FnOk P w K mg base CX0 2 fA fdA ["parts"] (spNodes C)
  gA : mg "nodes_among" = some (.ref fA)
  kA : PySem.W.keepIn K (.ref fA) = true
  bA : Binds K fdA ["parts"] []
  GM : FnOk P w K mg base CX0 1 fM fdM ["nodes"] (spMeasures C)
  gM : mg "_measures_above" = some (.ref fM)
  kM : PySem.W.keepIn K (.ref fM) = true
  bM : Binds K fdM ["nodes"] []
  GX : FnOk P w K mg base CX0 3 fX fdX ["form", "parts"] (spNodeText C)
  gX : mg "_node_text" = some (.ref fX)
  kX : PySem.W.keepIn K (.ref fX) = true
  bX : Binds K fdX ["form", "parts"] []
theorem body_treeInit {C : Cl5} {CI fN fP fA fM fX : Addr} {fdN fdP fdA fdM fdX : FuncData} (T : TxtI P w K mg base C CI fN fP fA fM fX fdN fdP fdA fdM fdX) (T5 : Ty5 K C) (N5 : Na5 K C)
    {f : Addr} {cdv : Value} {A : Around} {outer : List Env} {s : Shared} {H : Hp} {vs : List V} {Q : VK} {E : XK} (hr : Room 3 (A.deeper (PyProof.Rows.envOfC "Tree.__init__" (defScope sTreeInit) s.heap.objs.size f cdv))) (h : spTreeInit K C CI vs H Q E) :
    ∃ t, PSs (cxOf (L2.CX P w) P w K mg base NTI "Tree.__init__" (defScope sTreeInit) f cdv A outer s H E) (defBody sTreeInit) t ∧ t { nx := fun _ H' => Q .non H', rt := Q } (L2.start NTI vs) H := by
  obtain ⟨x, dx, p, n, xs, pis, rfl, hx, hp0, hn, hp, hl, hj, k⟩ := h
  have hr2 : Room 2 _ := hr.mono (by decide)
  have hr1 : Room 1 _ := hr.mono (by decide)
  obtain ⟨mc, t1, t2, cr, cv1, cv2⟩ := T.mx
  have tkE : Takes (cxOf (L2.CX P w) P w K mg base NTI "Tree.__init__" (defScope sTreeInit) f cdv A outer s H E) (fun cls dd _ H => E cls dd H) := takes_of rfl rfl rfl rfl
  refine ⟨_, pss_cons (ps_if (pt_not (pt_val (pe_call T.GN hr1 (by rfl) T.gN T.kN T.bN .nil pass0 (pa_cons (pv 1) pa_nil)))) (pss_one (ps_raise rfl tkE (pmk_form T.er hr2 rfl pe_str))) pss_nil)
    (pss_cons (ps_for (passes_of rfl) rfl (pi_enumT rfl T.enu (pa_cons (pv 2) pa_nil)) (pg_tup (by rfl) (pgs_cons (pg_name (i := 3) scTreeInit.nd rfl (.inl rfl)) (pgs_cons (pg_name (i := 4) scTreeInit.nd rfl (.inl rfl)) pgs_nil)))
      (pss_one (ps_if (pt_not (pt_val (pe_call T.GP hr1 (by rfl) T.gP T.kP T.bP .nil pass0 (pa_cons (pv 4) pa_nil)))) (pss_one (ps_raise rfl tkE (pmk_form T.er hr2 rfl (pv 3)))) pss_nil)))
    (pss_cons (ps_set (i := 5) scTreeInit.nd rfl (Or.inl rfl) (pe_call T.GA hr2 (by rfl) T.gA T.kA T.bA .nil pass0 (pa_cons (pv 2) pa_nil)))
    (pss_cons (ps_asg (pe_call T.GM hr1 (by rfl) T.gM T.kM T.bM .nil pass0 (pa_cons (pv 5) pa_nil)) (pg_tup (by rfl) (pgs_cons (pg_name (i := 6) scTreeInit.nd rfl (.inl rfl)) (pgs_cons (pg_name (i := 7) scTreeInit.nd rfl (.inl rfl)) pgs_nil))))
    (pss_cons (ps_if (PW.pt (pw_or (pt_cmpR op_gt (pv 6) (ClX.pe_cval (pe_glob (v := .ref C.T) rfl T.gT rfl)) (nomark _)) (pw_or1 (pt_cmpR op_gt (pv 7) (ClX.pe_cval (pe_glob (v := .ref C.T) rfl T.gT rfl)) (nomark _))))) (pss_one (ps_raise rfl tkE (pmk_form T.er hr2 rfl pe_str))) pss_nil)
    (pss_cons (ps_fld (pv 0) (pv 1) rfl) (pss_cons (ps_fld (pv 0) (pv 2) rfl) (pss_cons (ps_fld (pv 0) (pv 5) rfl) (pss_cons (ps_fld (pv 0) (pv 6) rfl) (pss_cons (ps_fld (pv 0) (pv 7) rfl)
    (pss_one (ps_fld (pv 0) (pe_call T.GX hr (by rfl) T.gX T.kX T.bX .nil pass0 (pa_cons (pv 1) (pa_cons (pv 2) pa_nil))) rfl))))))))))), ?_⟩
  have bad : ∀ (u : V) (H1 : Hp), treeDue n pis = some u → Same H H1 → ∀ dd, H1 dd = none → E (.ref CI) (some dd) (upd H1 dd (.xd [("part", u)])) := fun u H1 e s1 dd hdd => by
    rw [e] at k
    exact k _ dd (same_upd s1 (s1.free hdd)) (s1.free hdd) upd_same
  refine ⟨_, rfl, n, rfl, hn, fun H1 s1 => ⟨_, rfl, ?_⟩⟩
  cases hnv : nameV n with
  | false =>
    refine iteT ?_
    exact raise_ans fun dd hdd => bad _ _ (by unfold treeDue; rw [if_pos hnv]) s1 dd hdd
  | true =>
    refine iteF ?_
    obtain ⟨z, rfl⟩ : ∃ z, n = .str z := by
      cases n with
      | str z => exact ⟨z, rfl⟩
      | _ => cases hnv
    have e0 : treeDue (.str z) pis = match firstBad 0 pis with
      | some i => some (.int ((i : Nat) : Int))
      | none => if 400 < 1 + sizes (partsOf pis) ∨ 100 < levelss (partsOf pis) + 1 then some (.str "size") else none := by
      unfold treeDue
      rw [if_neg (by rw [hnv]; exact Bool.noConfusion)]
    refine ⟨_, rfl, p, xs, rfl, SqT.of (s1 _ _ hp0), for_it walk_enumT (fun i σ H' => ∃ v3 v4 : Option V, σ = [some (.ref x), some (.str z), some (.ref p), v3, v4, none, none, none] ∧ Same H H' ∧ firstBad 0 pis = firstBad i (pis.drop i))
      ⟨_, _, rfl, s1, rfl⟩ (fun i σ H' _ ⟨_, _, _, s', _⟩ => SqT.of (s' _ _ hp0)) ?_ ?_⟩
    · rintro i vv σ H2 H3 hi ⟨v3, v4, rfl, s2, fb⟩ ⟨Tp, y, u, rfl, hT, rfl, ey, ez⟩
      have ey : some (V.int (i : Nat)) = some y := ey
      cases ey
      have ez : xs[i]? = some u := ez
      obtain ⟨it, eit, hit⟩ := LiI.paired_get hp ez
      have hil : i < pis.length := (List.getElem?_eq_some_iff.mp eit).1
      have hdrop : pis.drop i = it :: pis.drop (i + 1) := by
        rw [List.drop_eq_getElem_cons hil]
        rw [List.getElem?_eq_getElem hil] at eit
        rw [Option.some.inj eit]
      have s3 : Same H (upd H2 Tp (.tup [.int (i : Nat), u])) := same_upd s2 (s2.free hT)
      refine ⟨Tp, _, rfl, .inl (.inl upd_same), rfl, _, _, rfl, ?_⟩
      refine ⟨_, _, rfl, rfl, ?_⟩
      have hit3 := hit.same s3
      generalize upd H2 Tp (.tup [.int (i : Nat), u]) = H3 at s3 hit3 ⊢
      cases it with
      | good t =>
        refine ⟨_, rfl, u, rfl, .inl ⟨t, hit3.1, hit3.2.2.1, fun H4 s4 => ⟨_, rfl, ?_⟩⟩⟩
        rw [hit3.2.1]
        refine iteF ?_
        exact ⟨_, _, rfl, s3.trans s4, by rw [fb, hdrop]; rfl⟩
      | bad =>
        refine ⟨_, rfl, u, rfl, .inr ⟨hit3, fun H4 s4 => ⟨_, rfl, ?_⟩⟩⟩
        refine iteT ?_
        refine ⟨_, rfl, ?_⟩
        exact raise_ans fun dd hdd => bad _ _ (by rw [e0, fb, hdrop]; rfl) (s3.trans s4) dd hdd
    · rintro σ H2 ⟨v3, v4, rfl, s2, fb⟩
      have xl := hp.length
      rw [xl, List.drop_length] at fb
      have fb : firstBad 0 pis = none := fb
      rw [fb] at e0
      dsimp only at e0
      obtain ⟨pts, okp, pl⟩ := good_all hp fb
      have hok : ∀ t ∈ partsOf pis, okP t = true := fun t ht => (okp t ht).1
      obtain ⟨b1, b2, b3⟩ := below_ok hok
      generalize partsOf pis = ps at e0 pts okp pl hok b1 b2 b3 hj k ⊢
      have pts2 := PtsAt.kpo (KpO.same s2) ps pts
      refine ⟨_, rfl, p, xs, ps, rfl, s2 _ _ hp0, pts2, by omega, fun t ht => by
        have q := (okp t ht).2.1
        cases t with
        | row ts => exact q
        | _ => exact Nat.zero_le _, fun H3 ca cs s3 nca hca kids bl => ?_⟩
      refine ⟨_, rfl, ca, cs, below ps, rfl, hca, bl, b3, fun H4 tp s4 ntp htp => ?_⟩
      refine ⟨tp, _, rfl, .inl (.inl htp), rfl, _, _, rfl, ?_⟩
      refine ⟨_, _, rfl, rfl, ?_⟩
      rw [b1, b2]
      have s34 := s2.trans s3
      have s04 := s34.trans s4
      refine ⟨_, rfl, C.T, mc, _, _, rfl, cr, cv1, _, _, rfl, rfl, _, rfl, ?_⟩
      refine ite2 (fun h1 => ?_) (fun h1 => ?_)
      · have h1 := of_decide_eq_true h1
        refine iteT ?_
        exact raise_ans fun dd hdd => bad _ _ (by rw [e0, if_pos (.inl (by omega))]) s04 dd hdd
      have h1 : ¬ (400 : Int) < ((1 + sizes ps : Nat) : Int) := fun q => h1 (decide_eq_true q)
      refine ⟨_, rfl, C.T, mc, _, _, rfl, cr, cv2, _, _, rfl, rfl, _, rfl, ?_⟩
      refine ite2 (fun h2 => ?_) (fun h2 => ?_)
      · have h2 := of_decide_eq_true h2
        exact raise_ans fun dd hdd => bad _ _ (by rw [e0, if_pos (.inr (by omega))]) s04 dd hdd
      have h2 : ¬ (100 : Int) < ((levelss ps + 1 : Nat) : Int) := fun q => h2 (decide_eq_true q)
      have e1 : treeDue (.str z) pis = none := by rw [e0, if_neg (fun q => q.elim (fun q => h1 (by omega)) (fun q => h2 (by omega)))]
      rw [e1] at k
      have k : ∀ H' z', V.str z = .str z' → SameX x H H' → PtAt C H' (.ref x) (.nd false z' ps) → HasP H' x xs → Q .non H' := k
      have mT : C.T ∈ C.all := C.n_mem false
      have cl := (T5.own _ mT).cl
      have hx4 := s04 _ _ hx
      have zl : z.length ≤ 20 := by
        have q : nameS z = true := hnv
        unfold nameS at q
        simp only [Bool.and_eq_true, decide_eq_true_eq] at q
        exact q.1.1.2
      refine ⟨_, rfl, _, rfl, x, C.T, dx, _, rfl, hx4, cl, N5.na _ mT _ (by decide +kernel), (by show 0 < 1000; decide), ?_⟩
      refine ⟨_, rfl, _, rfl, x, C.T, dx, _, rfl, upd_same, cl, N5.na _ mT _ (by decide +kernel), (by show 1 < 1000; decide), ?_⟩
      rw [upd_upd]
      refine ⟨_, rfl, _, rfl, x, C.T, dx, _, rfl, upd_same, cl, N5.na _ mT _ (by decide +kernel), (by show 2 < 1000; decide), ?_⟩
      rw [upd_upd]
      refine ⟨_, rfl, _, rfl, x, C.T, dx, _, rfl, upd_same, cl, N5.na _ mT _ (by decide +kernel), (by show 3 < 1000; decide), ?_⟩
      rw [upd_upd]
      refine ⟨_, rfl, _, rfl, x, C.T, dx, _, rfl, upd_same, cl, N5.na _ mT _ (by decide +kernel), (by show 4 < 1000; decide), ?_⟩
      rw [upd_upd]
      generalize eF : putF "levels" (V.int ((levelss ps + 1 : Nat) : Int)) _ = F5
      generalize e5 : upd H4 x (.ins C.T dx F5) = H5
      have X5 : SameX x H4 H5 := by rw [← e5]; exact SameX.upd
      have hx5 : H5 x = some (.ins C.T dx F5) := by rw [← e5, upd_same]
      have pts4 := PtsAt.kpo (KpO.same (s3.trans s4)) ps pts2
      have pts5 := PtsAt.kx hx4 X5 ps pts4
      have np : p ≠ x := fun q => by rw [q, hx] at hp0; cases hp0
      have nc : ca ≠ x := fun q => by rw [q, s34 _ _ hx] at hca; cases hca
      have hp5 := X5 _ _ np (s04 _ _ hp0)
      have hc5 := X5 _ _ nc (s4 _ _ hca)
      have kd5 := (KidsAt.kpo (KpO.same s4) kids).kx hx4 X5
      clear e5
      refine ⟨_, rfl, _, rfl, z, p, xs, ps, rfl, hp5, pts5, fun t ht => (okp t ht).2.2, by omega, hj, by omega, fun H6 s6 => ?_⟩
      refine ⟨_, rfl, x, C.T, dx, _, rfl, s6 _ _ hx5, cl, N5.na _ mT _ (by decide +kernel), ?_, ?_⟩
      · rw [← eF]
        show 5 < 1000
        decide
      have X6 : SameX x H5 (upd H6 x (.ins C.T dx (putF "text" (.str (z ++ "(" ++ Txt.join ", " (saids ps) ++ ")")) F5))) := SameX.trans (Same.x s6) SameX.upd
      have XX : SameX x H (upd H6 x (.ins C.T dx (putF "text" (.str (z ++ "(" ++ Txt.join ", " (saids ps) ++ ")")) F5))) := SameX.trans (Same.x s04) (SameX.trans X5 X6)
      have hpa : (putF "text" (.str (z ++ "(" ++ Txt.join ", " (saids ps) ++ ")")) F5).lookup ("parts" : Str) = some (.ref p) := by
        rw [lk_put3 at2.2.2.2, ← eF, lk_put3 at2.2.2.1, lk_put3 at2.2.1, lk_put3 at2.1, lk_put1]
      refine k _ z rfl XX ⟨x, dx, _, p, xs, rfl, upd_same, ?_, hpa, XX _ _ np hp0, PtsAt.kx hx XX ps pts, ?_, ?_, lk_put1, fun _ => ⟨ca, cs, ?_, X6 _ _ nc hc5, ?_⟩⟩ ⟨_, _, _, p, upd_same, hpa, XX _ _ np hp0, ?_, ?_⟩
      · rw [lk_put3 at1.2.2.2.2, ← eF, lk_put3 at1.2.2.2.1, lk_put3 at1.2.2.1, lk_put3 at1.2.1, lk_put3 at1.1, lk_put1]
      · rw [lk_put3 at4.2.1, ← eF, lk_put3 at4.1, lk_put1]
      · rw [lk_put3 at4.2.2, ← eF, lk_put1]
      · rw [lk_put3 at3.2.2, ← eF, lk_put3 at3.2.1, lk_put3 at3.1, lk_put1]
      · exact kd5.kx hx5 X6
      · rw [lk_put3 at6.2.2.2.2.2, ← eF, lk_put3 at6.2.2.2.2.1, lk_put3 at6.2.2.2.1, lk_put3 at6.2.2.1, lk_put3 at6.2.1, lk_put3 at6.1]
        rfl
      · rw [lk_put3 at7.2.2.2.2.2, ← eF, lk_put3 at7.2.2.2.2.1, lk_put3 at7.2.2.2.1, lk_put3 at7.2.2.1, lk_put3 at7.2.1, lk_put3 at7.1]
        rfl
end
end K3

namespace K3
open PySem L2 E0
def TreeRes (C : Cl5) (CI : Addr) (n : V) (xs : List V) (pis : List PI) (E : XK) (H : Hp) (Q : VK) : Prop := match treeDue n pis with
  | some u => ∀ H' dd, Same H H' → H dd = none → H' dd = some (.xd [("part", u)]) → E (.ref CI) (some dd) H'
  | none => ∀ H' x z, n = .str z → Same H H' → H x = none → PtAt C H' (.ref x) (.nd false z (partsOf pis)) → HasP H' x xs → Q (.ref x) H'
section
variable {P : Program} {w : World} {K : PySem.W.Frag} {mg : Str → Option Value} {base : Heap}
def spTreeNew (K : PySem.W.Frag) (C : Cl5) (CI : Addr) : Sp := fun vs H Q E => ∃ ws rest, vs = ws ++ rest ∧ ws.length = ([("self" : Str), ("form" : Str)] : List Str).length ∧ rest.length ≤ sizeLine ∧ ∀ p, H p = none → spTreeInit K C CI (ws ++ [V.ref p]) (upd H p (.tup rest)) Q E
theorem treeInit_fnR {C : Cl5} {CI fN fP fA fM fX f : Addr} {fd fdN fdP fdA fdM fdX : FuncData} (F : Fun K "__init__" "Tree.__init__" sTreeInit f fd) (T : TxtI P w K mg base C CI fN fP fA fM fX fdN fdP fdA fdM fdX) (T5 : Ty5 K C) (N5 : Na5 K C) : FnR P w K mg base (L2.CX P w) 4 f (spTreeNew K C CI) := by
  obtain ⟨oc, od, kV, doc, pm, an, cdv, ct, osl, rfl, lk, hcd⟩ := F.ex
  refine StX.fn_star (N := NTI) (ps := ["self", "form"]) (pv := "parts") lk hcd scTreeInit StX.cxUp ?_ fun A outer s H vs Q E hr h => body_treeInit T T5 N5 hr h
  intro us rest hl
  match us, hl with
  | [a, b], _ => cases rest <;> rfl
theorem tree_made {C : Cl5} {CI : Addr} {n : V} {xs : List V} {pis : List PI} {H : Hp} {Q : VK} {E : XK} (hn : Val K H n) (hp : Paired (PIAt K C H) xs pis) (hl : pis.length ≤ 1000) (hj : joinB (partsOf pis) ≤ 16000000) (k : TreeRes C CI n xs pis E H Q) {x dx : Addr} (nx : H x = none) (ndx : H dx = none) (ne : dx ≠ x) :
    spTreeNew K C CI (.ref x :: n :: xs) (upd (upd H dx (.own x)) x (.ins C.T dx [])) (fun v H2 => v = .non ∧ Q (.ref x) H2) E := by
  refine ⟨[.ref x, n], xs, rfl, rfl, by rw [hp.length]; exact Nat.le_trans hl (by decide), fun p np => ?_⟩
  have s1 : Same H (upd (upd H dx (.own x)) x (.ins C.T dx [])) := fun b o e => by
    rw [upd_ne (ne_of_none e nx), upd_ne (ne_of_none e ndx)]
    exact e
  have hx1 : (upd (upd H dx (.own x)) x (.ins C.T dx [])) x = some (.ins C.T dx []) := upd_same
  have s2 : Same H (upd (upd (upd H dx (.own x)) x (.ins C.T dx [])) p (.tup xs)) := same_upd s1 (s1.free np)
  have hx2 : (upd (upd (upd H dx (.own x)) x (.ins C.T dx [])) p (.tup xs)) x = some (.ins C.T dx []) := by rw [upd_ne (ne_of_none hx1 np)]; exact hx1
  refine ⟨x, dx, p, n, xs, pis, rfl, hx2, upd_same, hn.same s2, Paired.mapP hp fun a b q => q.same s2, hl, hj, ?_⟩
  unfold TreeRes at k
  cases e : treeDue n pis with
  | some u =>
    rw [e] at k
    exact fun H' dd s' nd hd => k H' dd (s2.trans s') (s2.free nd) hd
  | none =>
    rw [e] at k
    exact fun H' z ez sX at_ hpp => ⟨rfl, k H' x z ez (fun b o q => sX b o (ne_of_none q nx) (s2 b o q)) nx at_ hpp⟩
/-! ### ==: by the texts -/
def spTreeEq (K : PySem.W.Frag) (C : Cl5) : Sp := fun vs H Q _ => ∃ (v y : V) (t : Tr), vs = [v, y] ∧ PtAt C H v t ∧ isT t = true ∧
  ((∃ u, PtAt C H y u ∧ isT u = true ∧ Q (.bl (decide (said t = said u))) H) ∨ (∃ ty, TyX K H y ty ∧ PySem.W.kitOne K ty (.ref C.T) = some false ∧ Q (.bl false) H))
theorem scTreeEq : FnScope ["self", "other"] ["self", "other"] (defScope sTreeEq) := ⟨rfl, rfl, rfl, by decide +kernel, rfl, by decide +kernel, by decide +kernel⟩
theorem isT_text {t : Tr} (h : isT t = true) : hasText t = true := by
  match t, h with
  | .nd false _ _, _ => rfl
theorem ok_treeEq {C : Cl5} {f : Addr} {fd : FuncData} (F : Fun K "__eq__" "Tree.__eq__" sTreeEq f fd) (T : TxtT mg C) (T5 : Ty5 K C) (N5 : Na5 K C) : FnOk P w K mg base CX0 1 f fd ["self", "other"] (spTreeEq K C) := by
  refine F.ok scTreeEq (fun vs H Q E h => ?_) (fun cdv A outer s H vs Q E hr h => ?_)
  · obtain ⟨v, y, t, rfl, _⟩ := h
    rfl
  · obtain ⟨v, y, t, rfl, hv, ht, q⟩ := h
    refine ⟨_, pss_one (ps_ret (pe_and (pe_callB call_isi (by rfl) T.isi PyProof.Rows.boot_isinstance (pa_cons (pv 1) (pa_cons (pe_glob (v := .ref C.T) rfl T.gT rfl) pa_nil))) (pe_one (pe_cmpR op_eq (pe_fld (pv 0) rfl) (pe_fld (pv 1) rfl) (nomark _))))), ?_⟩
    rcases q with ⟨u, hu, hut, q⟩ | ⟨ty, hty, hk, q⟩
    · obtain ⟨x, A1, dx, fs, rfl, e2, e3, e4⟩ := text_of (K := K) hv (isT_text ht)
      obtain ⟨x2, A2, dx2, gs, rfl, g2, g3, g4⟩ := text_of (K := K) hu (isT_text hut)
      have hkT := kit_T T5 u
      rw [hut] at hkT
      refine ⟨_, rfl, _, _, _, _, true, rfl, .own C.T, PtAt.ty T5 hu, hkT, _, rfl, ?_⟩
      refine iteT ?_
      refine ⟨_, rfl, x, A1, dx, fs, _, rfl, e2, (T5.own _ e3).cl, N5.na _ e3 _ (by decide +kernel), e4, _, rfl, x2, A2, dx2, gs, _, rfl, g2, (T5.own _ g3).cl, N5.na _ g3 _ (by decide +kernel), g4, rfl, ?_⟩
      have e : decide (V.str (said t) = V.str (said u)) = decide (said t = said u) := decide_eq_decide.mpr ⟨fun q => V.str.inj q, fun q => by rw [q]⟩
      rw [e]
      exact q
    · refine ⟨_, rfl, _, _, _, _, false, rfl, .own C.T, hty, hk, _, rfl, ?_⟩
      exact iteF q
end
end K3

namespace K3
open PySem L2
theorem dpStrs {K : PySem.W.Frag} {H : Hp} : ∀ l : List Str, DpAll K H (l.map V.str) (l.map PyData.str)
  | [] => .nil
  | i :: l => .cons (.str i) (dpStrs l)
theorem shStrs (l : List Str) (h : ∀ x ∈ l, PyData.strOk x = true) : SeqAt.shaped (.list (l.map PyData.str)) = true := by
  have h1 : ∀ l : List Str, (∀ x ∈ l, PyData.strOk x = true) → PyData.canLayAll0 (l.map PyData.str) = true := fun l => by
    induction l with
    | nil => intro _; rfl
    | cons i l ih =>
      intro h
      simp [PyData.canLayAll0, PyData.canLay0, ih (fun x hx => h x (List.mem_cons_of_mem _ hx)), h i (List.mem_cons_self ..)]
  have h2 : ∀ l : List Str, PyData.depthAll (l.map PyData.str) = 0 := fun l => by
    induction l with
    | nil => rfl
    | cons i l ih => simp [PyData.depthAll, PyData.depth, ih]
  simp [SeqAt.shaped, PyData.canLay0, PyData.depth, h1 l h, h2]
theorem eqvNilS (l : List Str) : PyData.eqv (.list (l.map PyData.str)) (.list []) = l.isEmpty := by
  cases l <;> rfl
def sgn (c : Nat) : Str := ⟨#[c]⟩
theorem filt_all (l : List Nat) : ((l.filter fun c => !inS SIG c).map sgn).isEmpty = l.all (inS SIG) := by
  induction l with
  | nil => rfl
  | cons a l ih =>
    cases h : inS SIG a <;> simp [h, List.filter_cons] at ih ⊢
    exact ih
theorem str_ext {a b : Str} (h : a.cps.toList = b.cps.toList) : a = b := by
  cases a; cases b; simp at h; subst h; rfl
theorem len_toList (z : Str) : z.length = z.cps.toList.length := by simp [Str.length]
theorem mem_same {a b : Str} (h1 : (a.cps.toList.all fun x => decide (x ∈ b.cps.toList)) = true) (h2 : (b.cps.toList.all fun x => decide (x ∈ a.cps.toList)) = true) (c : Nat) : inS a c = inS b c := by
  have e : c ∈ a.cps.toList ↔ c ∈ b.cps.toList := by
    rw [List.all_eq_true] at h1 h2
    exact ⟨fun h => of_decide_eq_true (h1 c h), fun h => of_decide_eq_true (h2 c h)⟩
  unfold inS
  exact decide_eq_decide.mpr e
theorem let_same (c : Nat) : inS LLET c = inS LET c := mem_same (by decide +kernel) (by decide +kernel) c
def LSIG : Str := LLET ++ DIG
theorem sig_same (c : Nat) : inS LSIG c = inS SIG c := mem_same (by decide +kernel) (by decide +kernel) c
theorem ok_iff {z : Str} : PyData.strOk z = true ↔ ∀ c ∈ z.cps.toList, c < 0x110000 := by
  unfold PyData.strOk
  rw [← Array.all_toList, List.all_eq_true]
  simp
section
variable {P : Program} {w : World} {K : PySem.W.Frag} {mg : Str → Option Value} {base : Heap}
theorem scLName : FnScope ["_law_thing", "_law_letters", "_law_sign"] ["_law_thing"] (defScope sIsName) := ⟨rfl, rfl, rfl, by decide +kernel, rfl, by decide +kernel, by decide +kernel⟩
theorem ok_lName {f : Addr} {fd : FuncData} (F : Fun K "_law_is_name" "_law_is_name" sIsName f fd) (T : TxtN mg) : FnOk P w K mg base CX0 1 f fd ["_law_thing"] (spName K) := by
  refine F.ok scLName (fun vs H Q E h => ?_) (fun cdv A outer s H vs Q E hr h => ?_)
  · obtain ⟨v, rfl, _⟩ := h
    rfl
  · obtain ⟨v, rfl, hv, k⟩ := h
    refine ⟨_, pss_cons (ps_set (i := 1) scLName.nd rfl (Or.inr rfl) pe_str)
      (pss_cons (ps_if (PW.pt (pw_or (pt_not (pt_val (pe_callB call_isi (by rfl) T.isi PyProof.Rows.boot_isinstance (pa_cons (pv 0) (pa_cons (pe_bltn (v := .ty "str") rfl T.str PyProof.Rows.boot_str rfl) pa_nil)))))
          (pw_or (pt_cmpR op_eq (pv 0) pe_str (nomark _)) (pw_or (pt_cmpR op_gt (pe_callB call_len (by rfl) T.len PySem.boot_len (pa_cons (pv 0) pa_nil)) pe_int (nomark _))
            (pw_or1 (pt_cmpR op_notIn_sign (pe_ix ix_str (pv 0) pe_int (fun _ _ => rfl)) (pv 1) (by rfl)))))))
        (pss_one (ps_ret pe_bl)) pss_nil)
      (pss_one (ps_ret (pe_cmpR (op_eqD hr.units) (pe_lc (own := [("_law_sign", 2)]) (g := gName 2) (tt := tTest _) rfl scLName.nd (pi_str (pv 0)) (blkOk_by (N := ["_law_thing", "_law_letters", "_law_sign"]) (sc := defScope sIsName) (by decide +kernel))
          (fun _ _ _ _ _ => pg_name (i := 2) scLName.nd rfl (Or.inl rfl)) (fun _ _ _ _ _ => pts_one (pt_cmpR op_notIn_sign (pv 2) (pe_op op_add_str (pv 1) pe_str) (by rfl))) (fun _ _ _ _ _ => pv 2)) (pe_lst pa_nil) (nomark _))))), ?_⟩
    rcases hv with ⟨z, rfl, hz, ho⟩ | hv
    · refine ⟨_, rfl, _, _, _, _, true, rfl, .ty "str", .base (.str z), kit_ty (by decide +kernel), _, rfl, ?_⟩
      refine iteF ?_
      have no : nameS z = false → Q (.bl false) H := fun e => by
        have q := k H (Same.refl H)
        change Q (V.bl (nameS z)) H at q
        rw [e] at q
        exact q
      have hz' : z.length ≤ sizeLine := Nat.le_trans hz (by decide)
      have eL := len_toList z
      -- thing == ""
      refine ⟨_, rfl, rfl, _, rfl, ?_⟩
      refine ite2 (fun h => ?_) (fun h => ?_)
      · have e : z = "" := V.str.inj (of_decide_eq_true h)
        refine iteT (no ?_)
        rw [e]
        decide +kernel
      · have ne : ¬ z = "" := fun e => h (decide_eq_true (by rw [e]))
        obtain ⟨c, l, ec⟩ : ∃ c l, z.cps.toList = c :: l := by
          cases q : z.cps.toList with
          | nil => exact absurd (str_ext (q.trans (by decide +kernel))) ne
          | cons c l => exact ⟨c, l, rfl⟩
        have h1' : 1 ≤ z.length := by rw [eL, ec]; simp
        refine ⟨_, rfl, _, z.length, rfl, ⟨hz', rfl⟩, _, _, rfl, rfl, _, rfl, ?_⟩
        refine ite2 (fun h2 => ?_) (fun h2 => ?_)
        · refine iteT (no ?_)
          have : ¬ z.length ≤ 20 := by have := of_decide_eq_true h2; omega
          unfold nameS
          rw [decide_eq_false this]
          simp
        · have h2' : z.length ≤ 20 := by
            have : ¬ (20 : Int) < z.length := fun q => h2 (decide_eq_true q)
            omega
          have en : nameS z = (inS LET c && z.cps.toList.all (inS SIG)) := by
            unfold nameS
            rw [decide_eq_true h1', decide_eq_true h2', ec]
            rfl
          refine ⟨_, rfl, z, 0, c, rfl, rfl, hz', (atI_nat (j := 0) (by rw [ec]; rfl) : atI z.cps.toList ((0 : Nat) : Int) = some c), _, rfl, c, LLET, rfl, rfl, _, rfl, ?_⟩
          have el : decide (c ∈ LLET.cps.toList) = inS LET c := let_same c
          rw [el]
          cases h3 : inS LET c with
          | false =>
            refine iteT (no ?_)
            rw [en, h3]
            rfl
          | true =>
            refine iteF ?_
            refine ⟨_, rfl, z, rfl, fun D hD => lc_it walk_str (fun i H' => Same H H' ∧ H' D = some (.lst ((((z.cps.toList.take i).filter fun c => !inS SIG c).map sgn).map V.str))) ⟨same_upd (Same.refl H) hD, by rw [upd_same]; rfl⟩ (fun _ _ _ _ => True.intro) ?_ ?_⟩
            · rintro i x H1 H2 hi ⟨s1, e1⟩ ⟨rfl, y, hy, rfl⟩
              have hy' : z.cps.toList[i]? = some y := by simpa using hy
              refine ⟨rfl, ?_⟩
              refine ⟨_, rfl, _, rfl, _, _, rfl, rfl, (by decide +kernel), y, LSIG, rfl, rfl, _, rfl, ?_⟩
              have eg : decide (y ∈ LSIG.cps.toList) = inS SIG y := sig_same y
              rw [eg]
              have et : z.cps.toList.take (i + 1) = z.cps.toList.take i ++ [y] := by rw [List.take_add_one, hy']; rfl
              rw [et, List.filter_append, List.map_append, List.map_append]
              cases h4 : inS SIG y with
              | false =>
                refine iteT ?_
                refine ⟨_, rfl, _, e1, ?_, same_upd s1 hD, ?_⟩
                · rw [List.length_map, List.length_map]
                  refine Nat.lt_of_le_of_lt (List.length_filter_le _ _) (Nat.lt_of_le_of_lt (List.length_take_le _ _) ?_)
                  have : i < z.length := by rw [eL]; simpa using hi
                  exact Nat.lt_of_lt_of_le this hz'
                · rw [upd_same]
                  simp [h4, sgn]
              | true =>
                refine iteF ?_
                refine ⟨s1, ?_⟩
                rw [e1]
                simp [h4]
            · rintro H1 ⟨s1, e1⟩
              rw [show z.cps.size = z.cps.toList.length by simp, List.take_length] at e1
              refine ⟨by decide, fun l hl => ?_⟩
              have e2 : (upd H1 l (.lst [])) D = some (.lst (((z.cps.toList.filter fun c => !inS SIG c).map sgn).map V.str)) := by rw [upd_ne (ne_of_none e1 hl)]; exact e1
              refine ⟨_, _, .lst (SqL.of e2) (dpStrs _), .lst (xs := []) (SqL.of upd_same) .nil, shStrs _ (fun x hx => ?_), (by decide), ?_⟩
              · obtain ⟨c, hc, rfl⟩ := List.mem_map.mp hx
                have hc' := ok_iff.mp ho c (List.mem_filter.mp hc).1
                rw [ok_iff]
                intro d hd
                have e : d = c := by simpa [sgn] using hd
                rw [e]
                exact hc'
              rw [eqvNilS, filt_all]
              have q := k (upd H1 l (.lst [])) (same_upd s1 (s1.free hl))
              change Q (V.bl (nameS z)) _ at q
              rw [en, h3] at q
              exact q
    · obtain ⟨t, ht, hk⟩ := hv.2.2
      refine ⟨_, rfl, _, _, _, _, false, rfl, .ty "str", ht, hk, _, rfl, ?_⟩
      refine iteT (iteT ?_)
      have q := k H (Same.refl H)
      rw [hv.nameV] at q
      exact q
end
end K3

namespace K3
open PySem L2 E0
open LamX (ExtN Tabs TabS TabB)
section
variable {P : Program} {w : World} {K : PySem.W.Frag} {mg : Str → Option Value} {base : Heap}
def spDoubled : Sp := fun vs H Q _ => ∃ k : Nat, k < 2 ∧ vs = [.int (k : Int)] ∧ ∀ H' p xs, Same H H' → H p = none → H' p = some (if k = 0 then .tup xs else .lst xs) → (k = 0 → ∃ q ys, xs = [.ref q, .ref q] ∧ H' q = some (.tup ys)) → Q (.ref p) H'
theorem scDoubled : FnScope ["_law_kind_of", "_law_found", "_law_n"] ["_law_kind_of"] (defScope sDoubled) := ⟨rfl, rfl, rfl, by decide +kernel, rfl, by decide +kernel, by decide +kernel⟩
theorem ok_doubled {f : Addr} {fd : FuncData} (F : Fun K "_law_doubled" "_law_doubled" sDoubled f fd) (gR : mg "range" = none) : FnOk P w K mg base CX0 1 f fd ["_law_kind_of"] spDoubled := by
  refine F.ok scDoubled (fun vs H Q E h => ?_) (fun cdv A outer s H vs Q E hr h => ?_)
  · obtain ⟨k, _, rfl, _⟩ := h
    rfl
  · obtain ⟨k, hk, rfl, q⟩ := h
    refine ⟨_, pss_cons (ps_set (i := 1) scDoubled.nd rfl (Or.inl rfl) (pe_tup pa_nil))
      (pss_cons (ps_for PassesOwn.never rfl (pi_range1 rfl gR (pa_cons pe_int pa_nil)) (pg_name (i := 2) scDoubled.nd rfl (Or.inl rfl))
        (pss_one (ps_set (i := 1) scDoubled.nd rfl (Or.inl rfl) (pe_ix ix_list (pe_lst (pa_cons (pe_tup (pa_cons (pv 1) (pa_cons (pv 1) pa_nil))) (pa_cons (pe_lst (pa_cons (pv 1) (pa_cons (pv 1) pa_nil))) pa_nil))) (pv 0) (fun _ _ => rfl)))))
      (pss_one (ps_ret (pv 1)))), ?_⟩
    refine ⟨by decide, fun p0 hp0 => ?_⟩
    refine ⟨40, rfl, by decide, by decide, for_range (n := 40) (fun i σ H' => ∃ (v2 : Option V) (p : Addr), σ = [some (.int (k : Int)), some (.ref p), v2] ∧ Same H H' ∧ H p = none ∧ (k = 0 → ∃ ys, H' p = some (.tup ys)) ∧ (0 < i → ∃ xs, H' p = some (if k = 0 then .tup xs else .lst xs) ∧ (k = 0 → ∃ q ys, xs = [.ref q, .ref q] ∧ H' q = some (.tup ys))))
      ⟨_, p0, rfl, same_upd (Same.refl H) hp0, hp0, fun _ => ⟨_, upd_same⟩, fun h => by omega⟩ ?_ ?_⟩
    · rintro i σ H1 hi ⟨v2, p, rfl, s1, hp, h0, hx⟩
      refine ⟨_, rfl, _, rfl, (by show 2 ≤ sizeLine; decide), fun t ht => ?_⟩
      refine ⟨_, rfl, _, rfl, (by show 2 ≤ sizeLine; decide), fun l hl => ?_⟩
      refine ⟨by show 2 ≤ sizeLine; decide, fun r hr' => ?_⟩
      generalize eH4 : upd (upd (upd H1 t (.tup [.ref p, .ref p])) l (.lst [.ref p, .ref p])) r (.lst [.ref t, .ref l]) = H4
      have a1 : (upd H1 t (.tup [.ref p, .ref p])) t = some (.tup [.ref p, .ref p]) := upd_same
      have a2 : (upd (upd H1 t (.tup [.ref p, .ref p])) l (.lst [.ref p, .ref p])) t = some (.tup [.ref p, .ref p]) := by rw [upd_ne (ne_of_none a1 hl)]; exact a1
      have a3 : H4 t = some (.tup [.ref p, .ref p]) := by rw [← eH4, upd_ne (ne_of_none a2 hr')]; exact a2
      have b2 : (upd (upd H1 t (.tup [.ref p, .ref p])) l (.lst [.ref p, .ref p])) l = some (.lst [.ref p, .ref p]) := upd_same
      have b3 : H4 l = some (.lst [.ref p, .ref p]) := by rw [← eH4, upd_ne (ne_of_none b2 hr')]; exact b2
      have c3 : H4 r = some (.lst [.ref t, .ref l]) := by rw [← eH4, upd_same]
      have s2 : Same H1 (upd H1 t (.tup [.ref p, .ref p])) := same_upd (Same.refl H1) ht
      have s3 : Same H1 (upd (upd H1 t (.tup [.ref p, .ref p])) l (.lst [.ref p, .ref p])) := same_upd s2 (s2.free hl)
      have s4 : Same H1 H4 := by rw [← eH4]; exact same_upd s3 (s3.free hr')
      have nt : H t = none := s1.free ht
      have nl : H l = none := s1.free (s2.free hl)
      match k, hk with
      | 0, _ =>
        refine ⟨_, rfl, r, _, _, .ref t, rfl, rfl, SqL.of c3, atI_nat (j := 0) rfl, ?_⟩
        exact ⟨_, t, rfl, s1.trans s4, nt, fun _ => ⟨_, a3⟩, fun _ => ⟨_, a3, fun _ => let ⟨ys, hy⟩ := h0 rfl; ⟨p, ys, rfl, s4 _ _ hy⟩⟩⟩
      | 1, _ =>
        refine ⟨_, rfl, r, _, _, .ref l, rfl, rfl, SqL.of c3, atI_nat (j := 1) rfl, ?_⟩
        exact ⟨_, l, rfl, s1.trans s4, nl, fun z => (nomatch z), fun _ => ⟨_, b3, fun z => (nomatch z)⟩⟩
    · rintro σ H1 ⟨v2, p, rfl, s1, hp, _, hx⟩
      obtain ⟨xs, e, e2⟩ := hx (by decide)
      exact ⟨_, rfl, q _ p xs s1 hp e e2⟩
end

end K3

namespace K3
open PySem L2 E0
open LamX (ExtN Tabs TabS TabB LamS lamS_by lamSB)
/-! ### what _law_fault makes of a call -/
def TFault (CI : Addr) : (XK → Hp → VK → Prop) → Hp → VK → Prop := fun tl H Q => ∀ (E' : XK) (Q' : VK),
  (∀ (dd : Addr) (v : V) (H' : Hp), H' dd = some (.xd [("part", v)]) → (∀ H'' p, Same H' H'' → H' p = none → H'' p = some (.tup [.str "wrong", v]) → Q (.ref p) H'') → E' (.ref CI) (some dd) H') →
  (∀ v H', (∀ H'' p, Same H' H'' → H' p = none → H'' p = some (.tup []) → Q (.ref p) H'') → Q' v H') → tl E' H Q'
theorem scFault : FnScope ["_law_call", "_law_error", "e"] ["_law_call"] (defScope sFault) := ⟨rfl, rfl, rfl, by decide +kernel, rfl, by decide +kernel, by decide +kernel⟩
theorem fault_gives {X : Cx} {g CS CI : Addr} {cdg : Value} {q : Str} (hS : X.mg "RuleengineError" = some (.ref CS)) (hI : X.mg "InvalidPart" = some (.ref CI)) (hi : X.mg "isinstance" = none) (L : ExcL X.K CI) (nf : PySem.W.findIn X.K (.ref CI) "part" = some none)
    (hx : PySem.W.exmOne X.K (.ref CI) (.ref CS) = some true) (hk : PySem.W.kitOne X.K (.ref CI) (.ref CI) = some true) :
    LamX.GivesTo X ["_law_call", "_law_error", "e"] "_law_fault" (defScope sFault) g cdg (defBody sFault) "_law_call" q (TFault CI) := by
  intro f c' s H Q tl act hc h
  refine ⟨_, pss_cons (ps_set (i := 1) scFault.nd rfl (Or.inl rfl) pe_non)
    (pss_cons (ps_try_keep (i := 2) (j := 1) (c := .ref CS) (tb := fun W D σ H => ∃ Ech : XK, (∀ cls d σ' H', Ech cls d H' → W cls d σ' H') ∧ σ[0]? = some (some (.ref f)) ∧ H c' = some (LamX.CodeO c' q) ∧ tl Ech H (fun _ H' => D.nx σ H'))
        rfl rfl rfl scFault.nd rfl rfl rfl rfl (by decide) (Or.inr rfl) ⟨rfl, by decide, .inl hS⟩ (fun W pn xe tk _ => ?_) (by decide) (by decide) rfl)
    (pss_cons (ps_if (pt_cmpR op_isN (pv 1) pe_non (nomark _)) (pss_one (ps_ret (pe_tup pa_nil))) pss_nil)
    (pss_one (ps_ret (pe_ifExp (pt_val (pe_callB call_isK (by rfl) hi PyProof.Rows.boot_isinstance (pa_cons (pv 1) (pa_cons (pe_glob (v := .ref CI) rfl hI rfl) pa_nil)))) (pe_tup (pa_cons pe_str (pa_cons (pe_exk (pv 1)) pa_nil))) (pe_tup (pa_cons pe_str (pa_cons pe_non pa_nil)))))))), ?_⟩
  · refine ⟨fun pins s' σ H' D I h' => ?_⟩
    obtain ⟨Ech, hW, h1, h2, h3⟩ := h'
    exact (pss_one (ps_expr (act W pn xe Ech _ _ tk hW))).run pins s' σ H' D I ⟨h1, h2, h3⟩
  · have hKI : X.mg "InvalidPart" = some (.ref CI) := hI
    refine ⟨fun cls d H' => cls = .ref CI ∧ ∃ (dd : Addr) (v : V), d = some dd ∧ H' dd = some (.xd [("part", v)]) ∧ ∀ H'' p, Same H' H'' → H' p = none → H'' p = some (.tup [.str "wrong", v]) → Q (.ref p) H'', ?_, rfl, hc, ?_⟩
    · rintro cls d σ' H' ⟨rfl, dd, v, rfl, hd, k⟩
      refine ⟨hx, fun a na hlen => ?_⟩
      have hlen : σ'.length = 3 := hlen
      obtain ⟨s0, s1, s2, rfl⟩ : ∃ s0 s1 s2, σ' = [s0, s1, s2] := by
        match σ', hlen with
        | [s0, s1, s2], _ => exact ⟨s0, s1, s2, rfl⟩
      have nda : dd ≠ a := ne_of_none hd na
      have hd' : (upd H' a (ExK (.ref CI) (some dd) a)) dd = some (.xd [("part", v)]) := by rw [upd_ne nda]; exact hd
      refine ⟨_, rfl, rfl, _, rfl, ?_⟩
      refine iteF ?_
      refine ⟨_, rfl, a, CI, CI, dd, _, true, rfl, upd_same, hd', L, hk, _, rfl, ?_⟩
      refine iteT ?_
      refine ⟨_, rfl, a, CI, dd, _, v, rfl, upd_same, hd', L, nf, by simp [List.lookup], (by show 2 ≤ sizeLine; decide), fun p hp => ?_⟩
      have npa : p ≠ a := fun e => by
        rw [e, upd_same] at hp
        cases hp
      refine k _ p (same_upd (same_upd (Same.refl H') na) ?_) ?_ upd_same
      · rw [upd_ne npa] at hp
        exact hp
      · rw [upd_ne npa] at hp
        exact hp
    · refine h _ _ (fun dd v H' hd k => ⟨rfl, dd, v, rfl, hd, k⟩) (fun v H' k => ?_)
      refine ⟨_, rfl, rfl, _, rfl, ?_⟩
      refine iteT ?_
      exact ⟨by decide, fun p hp => k _ p (same_upd (Same.refl H') hp) hp upd_same⟩
/-- what a call of _law_fault asks of the text -/
structure TxtA (K : PySem.W.Frag) (mg : Str → Option Value) (CI CS fA : Addr) (fdA : FuncData) : Prop where
  F : Fun K "_law_fault" "_law_fault" sFault fA fdA
  b : Binds K fdA ["_law_call"] []
  g : mg "_law_fault" = some (.ref fA)
  gS : mg "RuleengineError" = some (.ref CS)
  gI : mg "InvalidPart" = some (.ref CI)
  isi : mg "isinstance" = none
  L : ExcL K CI
  nf : PySem.W.findIn K (.ref CI) "part" = some none
  hx : PySem.W.exmOne K (.ref CI) (.ref CS) = some true
  hk : PySem.W.kitOne K (.ref CI) (.ref CI) = some true
theorem pe_fault {X : Cx} {T : List (Addr × Str)} {CI CS fA c Pt : Addr} {fdA : FuncData} {k : Nat} {params : Arguments} {body : Expr} {scope : Scope} {t : XK → TE} {p lpos pos : Pos} (A : TxtA X.K X.mg CI CS fA fdA) (hg : Gl X "_law_fault")
    (TB : TabB X.base X.mg c Pt) (hcode : X.env.code = .ref c) (hmT : (Pt, X.env.qual ++ "<lambda>") ∈ T) (hu : ∀ p ∈ T, p.1 = Pt → p.2 = X.env.qual ++ "<lambda>") (hr : Room (k + 2) X.A) (L : LamS X.env.scope scope) (hdef : defaultsOf params X.env = ([], []))
    (hbind : ∀ (q : Str) (cl : List (Str × Addr)) (pm cv ctv : Value), bindArgs (PySem.W.kla_fn "<lambda>" q params body scope cl pm cv ctv) ⟨[], []⟩ = pure [])
    (hbody : ∀ (A : Around) (outer : List Env) (s : Shared) (H : Hp) (E : XK) (f c' : Addr), Room k (A.deeper (LamX.lamEnv X scope s.heap.objs.size f c')) → PE (LamX.lamCx X A outer s H E scope f c') body (t E)) :
    PE X (.Call (.Name "_law_fault" p) [.Lambda params body scope lpos] [] pos) (LamX.tLam T (TFault CI) t) := by
  obtain ⟨oc, od, kV, doc, pm, an, cdv, ct, osl, e, lk, hcd⟩ := A.F.ex
  subst e
  exact LamX.pe_lamcall (a := "_law_call") (Ng := ["_law_call", "_law_error", "e"]) hg A.g A.F.kp lk hcd A.b scFault rfl (Or.inl rfl) (fault_gives A.gS A.gI A.isi A.L A.nf A.hx A.hk) TB hcode hmT hu hr L hdef hbind hbody
end K3

namespace K3
open PySem PySem.Spec PyProof.Rows L2
open LamX (ExtN Tabs TabS TabB CodeO lamEnv lamCx codeO_ne)
open PySem.W (CodeHd tabObj)
/-! ### a lambda with one default that is a whole number, and with captured names -/
abbrev dfFn (q : Str) (params : Arguments) (body : Expr) (scope : Scope) (cl : List (Str × Addr)) (dV pm cdv ct : Value) : FuncData := { PySem.W.kla_fn "<lambda>" q params body scope cl pm cdv ct with defaults := dV }
abbrev dfObj (q : Str) (params : Arguments) (body : Expr) (scope : Scope) (cl : List (Str × Addr)) (dV pm cdv ct : Value) : Obj := { cls := .type "function", data := .func (dfFn q params body scope cl dV pm cdv ct) }
section
variable {M : Model} {A : Around} {E : Value → Shared → Prop} {s : Shared} {q : Str} {params : Arguments} {body : Expr} {scope : Scope} {env : Env} {c P : Addr} {ps : Array Value} {pos : Pos} {ln : Nat} {mg : Str → Option Value} {dV : Value} {Q : Value → Shared → Prop} {cl : List (Str × Addr)}
theorem tail_new (hcl : closureFor scope env = pure cl) (hge : env.globals = mainGlobals) (hg : s.heap.Ns mainGlobals mg) (hcode : env.code = .ref c) (C : CodeHd s.heap c P) (hP : s.heap.get? P = some (tabObj ps)) (ht : TriplesOk ps.toList) (hnf : codeAmong pos ps.toList = none) (hgP : mainGlobals ≠ P)
    (hb : s.heap.BuiltinsAt mg P)
    (h : ∀ c' ctv h' tk, Heap.ExtBut P s.heap h' → s.heap.objs.size ≤ c' → c' < h'.objs.size → h'.CodeRec (.ref c') q → h'.get? P = some (tabObj (ps ++ #[rawInt pos.line, rawInt pos.col, .ref c'])) →
      Q (.ref h'.objs.size) { s with heap := h'.push (dfObj q params body scope cl dV ((mg "__name__").getD .none) (.ref c') ctv), toks := tk }) :
    wpAny M A (makeTail "<lambda>" q params (.expr body) scope env dV .none none pos ln) Q E s := by
  obtain ⟨bm, ob, b1, b2, _, b3, b4, b5, b6, b7⟩ := hb
  unfold makeTail
  rw [hcl, hge]
  refine wpAny_bind (wpAny_pure ?_)
  cases cl with
  | nil =>
    simp only [List.isEmpty_nil, if_true]
    refine wpAny_bind (wpAny_pure ?_)
    refine wpAny_bind (wpAny_functionCodeX hcode (C.code hP ht) (C.tab hP) hnf fun c' h' tk hx h1 h2 _ hrec htb _ => ?_)
    have hg' := hg.extBut hx hgP
    refine wpAny_bind (wpAny_builtinsFor hg' b1 b2 (hx _ _ b3 b4) b5 b6 b7 ?_)
    refine wpAny_bind (wpAny_nsGet hg' ?_)
    exact wpAny_bind (wpAny_pure (wpAny_newObj_type (h c' .none h' tk hx h1 h2 hrec htb.2) (by size_fits)))
  | cons q r =>
    simp only [List.isEmpty_cons, Bool.false_eq_true, if_false]
    refine wpAny_bind (wpAny_newTextTuple ?_)
    refine wpAny_bind (wpAny_functionCodeX hcode ((C.keeps fun b o e => Heap.get?_push_of_some _ e).code (Heap.get?_push_of_some _ hP) ht) ((C.keeps fun b o e => Heap.get?_push_of_some _ e).tab (Heap.get?_push_of_some _ hP)) hnf fun c' h' tk hx hge hlt _ hrec htb _ => ?_)
    have hg' := (hg.push _).extBut hx hgP
    have hx' : Heap.ExtBut P s.heap h' := fun b o hb' e => hx b o hb' (Heap.get?_push_of_some _ e)
    have hge' : s.heap.objs.size ≤ c' := Nat.le_trans (by rw [Heap.size_push]; omega) hge
    refine wpAny_bind (wpAny_builtinsFor hg' b1 b2 (hx' _ _ b3 b4) b5 b6 b7 ?_)
    refine wpAny_bind (wpAny_nsGet hg' ?_)
    exact wpAny_bind (wpAny_pure (wpAny_newObj_type (h c' _ h' tk hx' hge' hlt hrec htb.2) (by size_fits)))
theorem tail_hit {cv : Value} (hcl : closureFor scope env = pure cl) (hge : env.globals = mainGlobals) (hg : s.heap.Ns mainGlobals mg) (hcode : env.code = .ref c) (C : CodeHd s.heap c P) (hP : s.heap.get? P = some (tabObj ps)) (ht : TriplesOk ps.toList) (hf : codeAmong pos ps.toList = some cv)
    (hb : s.heap.BuiltinsAt mg P)
    (h : ∀ (ctv : Value) (h' : Heap) (tk : Tok), (∀ b o, s.heap.get? b = some o → h'.get? b = some o) → s.heap.objs.size ≤ h'.objs.size →
      Q (.ref h'.objs.size) { s with heap := h'.push (dfObj q params body scope cl dV ((mg "__name__").getD .none) cv ctv), toks := tk }) :
    wpAny M A (makeTail "<lambda>" q params (.expr body) scope env dV .none none pos ln) Q E s := by
  obtain ⟨bm, ob, b1, b2, _, b3, b4, b5, b6, b7⟩ := hb
  unfold makeTail
  rw [hcl, hge]
  refine wpAny_bind (wpAny_pure ?_)
  cases cl with
  | nil =>
    simp only [List.isEmpty_nil, if_true]
    refine wpAny_bind (wpAny_pure ?_)
    refine wpAny_bind (wpAny_functionCode_hit hcode (C.code hP ht) hf ?_)
    refine wpAny_bind (wpAny_builtinsFor hg b1 b2 b4 b5 b6 b7 ?_)
    refine wpAny_bind (wpAny_nsGet hg ?_)
    exact wpAny_bind (wpAny_pure (wpAny_newObj_type (h .none s.heap s.toks (fun _ _ e => e) (Nat.le_refl _)) (by size_fits)))
  | cons q r =>
    simp only [List.isEmpty_cons, Bool.false_eq_true, if_false]
    refine wpAny_bind (wpAny_newTextTuple ?_)
    refine wpAny_bind (wpAny_functionCode_hit hcode ((C.keeps fun b o e => Heap.get?_push_of_some _ e).code (Heap.get?_push_of_some _ hP) ht) hf ?_)
    refine wpAny_bind (wpAny_builtinsFor (hg.push _) b1 b2 (Heap.get?_push_of_some _ b4) b5 b6 b7 ?_)
    refine wpAny_bind (wpAny_nsGet (hg.push _) ?_)
    have hsz : ∀ oT : Obj, s.heap.objs.size ≤ (s.heap.push oT).objs.size := fun oT => by rw [Heap.size_push]; omega
    exact wpAny_bind (wpAny_pure (wpAny_newObj_type (h _ _ s.toks (fun b o e => Heap.get?_push_of_some _ e) (hsz _)) (by size_fits)))
end
section
variable {X : Cx} {pins : List (Addr × Obj)} {σ : L2.St} {H : Hp} {s : Shared}
/-- what stands behind the making -/
structure MadeD (X : Cx) (T : List (Addr × Str)) (params : Arguments) (body : Expr) (scope : Scope) (i : Int) (H H1 : Hp) (f c' T0 : Addr) (pm ctv : Value) (t0 : Tok) (s' : Shared) : Prop where
  ext : ExtN H H1
  tabs : Tabs T H1
  at_ : s'.heap.get? f = some (dfObj (X.env.qual ++ "<lambda>") params body scope (cloFrom X.env.cells scope.names []) (.ref T0) pm (.ref c') ctv)
  fn : H1 f = none
  ff : f ∉ frs X.stack
  tup : s'.heap.get? T0 = some { cls := .type "tuple", data := .seq #[Value.int i t0] }
  tn : H1 T0 = none
  tf : T0 ∉ frs X.stack
  co : H1 c' = some (CodeO c' (X.env.qual ++ "<lambda>"))
theorem nofr (I : L2.Inv X pins σ H s) {f : Addr} (hf : s.heap.objs.size ≤ f) : f ∉ frs X.stack := fun z => by
  rcases List.mem_cons.mp (I.stkSub _ z) with e | e
  · have h1 := I.lt
    rw [← e] at h1
    exact Nat.lt_irrefl _ (Nat.lt_of_lt_of_le h1 hf)
  · exact I.nofs hf e
theorem lamD_make {T : List (Addr × Str)} {c P : Addr} {params : Arguments} {body : Expr} {scope : Scope} {pos pd : Pos} {i : Int} {j : Nat} {E : Value → Shared → Prop} {Q : Value → Shared → Prop} (I : L2.Inv X pins σ H s) (TB : TabB X.base X.mg c P) (hcode : X.env.code = .ref c)
    (hm : (P, X.env.qual ++ "<lambda>") ∈ T) (hu : ∀ p ∈ T, p.1 = P → p.2 = X.env.qual ++ "<lambda>") (hT : Tabs T H) (hdef : defaultsOf params X.env = ([eval (.Constant (.int i) j pd) X.env], [])) (hko : params.kwonlyargs = []) (hfree : ∀ y ∈ scope.names, y.2 = .free → ∃ c, X.env.cells.lookup y.1 = some c)
    (hE : E = X.xe)
    (h : ∀ (f c' T0 : Addr) (pm ctv : Value) (t0 : Tok) (H1 : Hp) (s' : Shared), L2.Inv X pins σ H1 s' → MadeD X T params body scope i H H1 f c' T0 pm ctv t0 s' → Q (.ref f) s') :
    wpAny (model X.prog X.w) X.A (eval (.Lambda params body scope pos) X.env) Q E s := by
  subst hE
  have hcl := closure_ok hfree
  obtain ⟨ps, hP, ht, ha⟩ := hT _ hm
  rw [arm_eval_Lambda, hdef]
  show wpAny _ X.A (do let dv ← evalAll [eval (.Constant (.int i) j pd) X.env]; let kdv ← holding dv (evalAllOpt []); makeFunction "<lambda>" (X.env.qual ++ "<lambda>") params (.expr body) scope X.env dv kdv [] pos pos.line) Q X.xe s
  refine wpAny_bind (wpAny_evalAll_cons (thn ((pe_int (X := X) (i := i)).run pins s σ H (fun v H1 => v = .int i ∧ H1 = H) I ⟨rfl, rfl⟩) fun u s1 ⟨v, H1, I1, r1, q1⟩ => ?_))
  obtain ⟨ev, eH⟩ := q1
  subst ev
  rw [eH] at I1
  obtain ⟨t0, rfl⟩ : ∃ t, u = Value.int i t := r1
  refine wpAny_evalAll_nil (wpAny_bind (wpAny_holding (wpAny_pure ?_)))
  rw [makeFunction_eq]
  simp only [hko, List.zip_nil_left, List.filterMap_nil, List.isEmpty_nil, List.isEmpty_cons, if_true, Bool.false_eq_true, if_false, pure_bind]
  refine wpAny_bind (wpAny_newTextTuple ?_)
  have kp2 : ∀ b o, s1.heap.get? b = some o → (s1.heap.push ({ cls := .type "tuple", data := .seq #[Value.int i t0] } : Obj)).get? b = some o := fun b o e => Heap.get?_push_of_some _ e
  have I2 : L2.Inv X pins σ H { s1 with heap := s1.heap.push ({ cls := .type "tuple", data := .seq #[Value.int i t0] } : Obj) } := I1.kept (t' := s1.toks) kp2
  have tup2 : (s1.heap.push ({ cls := .type "tuple", data := .seq #[Value.int i t0] } : Obj)).get? s1.heap.objs.size = some { cls := .type "tuple", data := .seq #[Value.int i t0] } := Heap.get?_push_size _ rfl
  have tn2 : H s1.heap.objs.size = none := I1.hok.fresh (Nat.le_refl _)
  have tf2 := nofr I1 (Nat.le_refl _)
  generalize eT : s1.heap.objs.size = T0 at tup2 tn2 tf2
  generalize eh : s1.heap.push ({ cls := .type "tuple", data := .seq #[Value.int i t0] } : Obj) = h2 at I2 tup2
  have goal2 : wpAny (model X.prog X.w) X.A (makeTail "<lambda>" (X.env.qual ++ "<lambda>") params (.expr body) scope X.env (.ref T0) .none none pos pos.line) Q X.xe { s1 with heap := h2 } := by
    have bP : h2.BuiltinsAt X.mg P := TB.bm.keeps I2.bk
    have hP' : h2.get? P = some { cls := .none, data := .fields ps } := I2.hok P _ hP
    have hg := I2.mod.glob.keeps I2.bk
    cases hc : codeAmong pos ps.toList with
    | none =>
      refine tail_new (s := { s1 with heap := h2 }) (mg := X.mg) (c := c) (P := P) (ps := ps) hcl I2.ok.glob hg hcode (TB.code.keeps I2.bk) hP' ht hc TB.gP bP fun c' ctv h' tk hx hge hlt hrec htb => ?_
      obtain ⟨c2, oc, vs, t, e2, hoc, hd, hv⟩ := hrec
      cases e2
      have hsz : h2.objs.size ≤ h'.objs.size := Nat.le_trans hge (Nat.le_of_lt hlt)
      have nC : H c' = none := I2.hok.fresh hge
      have I3 := LamX.inv_table (t' := tk) (more := #[rawInt pos.line, rawInt pos.col, .ref c']) (h' := h'.push (dfObj (X.env.qual ++ "<lambda>") params body scope (cloFrom X.env.cells scope.names []) (.ref T0) ((X.mg "__name__").getD .none) (.ref c') ctv)) I2 hP
        (fun b o hb e => Heap.get?_push_of_some _ (hx b o hb e)) (Heap.get?_push_of_some _ htb) hge ⟨oc, vs, t, Heap.get?_push_of_some _ hoc, hd, hv⟩
      have hE : ExtN H (upd (upd H P (.tbl (ps ++ #[rawInt pos.line, rawInt pos.col, .ref c']))) c' (CodeO c' (X.env.qual ++ "<lambda>"))) := fun b o e n => by
        rw [upd_ne (ne_of_none e nC), upd_ne (fun z => n ps (Option.some.inj (e.symm.trans (by rw [z]; exact hP))))]
        exact e
      have eL : (ps ++ #[rawInt pos.line, rawInt pos.col, .ref c']).toList = ps.toList ++ [rawInt pos.line, rawInt pos.col, .ref c'] := by simp
      have nPc : P ≠ c' := ne_of_none hP nC
      have nTP : T0 ≠ P := fun z => by rw [z, hP] at tn2; cases tn2
      have nTc : T0 ≠ c' := Nat.ne_of_lt (Nat.lt_of_lt_of_le (Heap.lt_size tup2) hge)
      refine h h'.objs.size c' T0 ((X.mg "__name__").getD .none) ctv t0 _ _ I3 ⟨hE, fun p hp => ?_, Heap.get?_push_size _ rfl, ?_, nofr I2 hsz, Heap.get?_push_of_some _ (hx _ _ nTP tup2), ?_, tf2, upd_same⟩
      · by_cases hb : p.1 = P
        · rw [hu p hp hb, hb]
          refine ⟨_, by rw [upd_ne nPc, upd_same], by rw [eL]; exact PySem.TriplesOk_snoc _ _ _ _ ht, fun p' cv hcv => ?_⟩
          rw [eL] at hcv
          rcases LamX.among_app _ ht hcv with z | z
          · obtain ⟨c0, e1, e2⟩ := ha p' cv z
            exact ⟨c0, e1, hE _ _ e2 codeO_ne⟩
          · exact ⟨c', z, upd_same⟩
        · obtain ⟨ps', a1, a2, a3⟩ := hT p hp
          refine ⟨ps', by rw [upd_ne (ne_of_none a1 nC), upd_ne hb]; exact a1, a2, fun p' cv hcv => ?_⟩
          obtain ⟨c0, e1, e2⟩ := a3 p' cv hcv
          exact ⟨c0, e1, hE _ _ e2 codeO_ne⟩
      · have n1 : h'.objs.size ≠ c' := Nat.ne_of_gt hlt
        have n2 : h'.objs.size ≠ P := Nat.ne_of_gt (Nat.lt_of_lt_of_le (Heap.lt_size hP') hsz)
        rw [upd_ne n1, upd_ne n2]
        exact I2.hok.fresh hsz
      · rw [upd_ne nTc, upd_ne nTP]
        exact tn2
    | some cv =>
      obtain ⟨c', e, hco⟩ := ha pos cv hc
      subst e
      refine tail_hit (s := { s1 with heap := h2 }) (mg := X.mg) (c := c) (P := P) (ps := ps) hcl I2.ok.glob hg hcode (TB.code.keeps I2.bk) hP' ht hc bP fun ctv h' tk hx hsz => ?_
      have I3 : L2.Inv X pins σ H { s1 with heap := h'.push (dfObj (X.env.qual ++ "<lambda>") params body scope (cloFrom X.env.cells scope.names []) (.ref T0) ((X.mg "__name__").getD .none) (.ref c') ctv), toks := tk } := I2.kept (t' := tk) fun b o e => Heap.get?_push_of_some _ (hx b o e)
      exact h h'.objs.size c' T0 ((X.mg "__name__").getD .none) ctv t0 H _ I3 ⟨ExtN.refl H, hT, Heap.get?_push_size _ rfl, I2.hok.fresh hsz, nofr I2 hsz, Heap.get?_push_of_some _ (hx _ _ tup2), tn2, tf2, hco⟩
  exact goal2
end
/-- the lambda's names: its parameter, captured names and globals -/
structure LamD (sc : Scope) (N : List Str) (scope : Scope) (y : Str) : Prop where
  kind : scope.kind = .function
  co : scope.isCoroutine = false
  gen : scope.isGenerator = false
  names : ∀ z ∈ scope.names, (z.2 = .local ∧ z.1 ∉ N) ∨ z.2 = .globalImplicit ∨ (z.2 = .free ∧ (sc.names.lookup z.1 = some .cell ∨ sc.names.lookup z.1 = some .free))
  par : scope.names.lookup y = some .local
def lamDB (sc : Scope) (N : List Str) (scope : Scope) (y : Str) : Bool := decide (scope.kind = .function) && !scope.isCoroutine && !scope.isGenerator && (scope.names.all fun z => (decide (z.2 = .local) && !decide (z.1 ∈ N)) || (decide (z.2 = .globalImplicit) || (decide (z.2 = .free) && (decide (sc.names.lookup z.1 = some .cell) || decide (sc.names.lookup z.1 = some .free))))) && decide (scope.names.lookup y = some .local)
theorem lamD_by {sc : Scope} {N : List Str} {scope : Scope} {y : Str} (h : lamDB sc N scope y = true) : LamD sc N scope y := by
  unfold lamDB at h
  simp only [Bool.and_eq_true, Bool.not_eq_true', decide_eq_true_eq] at h
  obtain ⟨⟨⟨⟨h1, h2⟩, h3⟩, h4⟩, h5⟩ := h
  refine ⟨h1, h2, h3, fun z hz => ?_, h5⟩
  have q := List.all_eq_true.mp h4 z hz
  simp only [Bool.or_eq_true, Bool.and_eq_true, Bool.not_eq_true', decide_eq_true_eq, decide_eq_false_iff_not] at q
  exact q
theorem LamD.noCell {sc : Scope} {N : List Str} {scope : Scope} {y : Str} (L : LamD sc N scope y) {z : Str} (h : scope.names.lookup z = some .cell) : False := by
  rcases L.names _ (PySem.mem_of_lookup h) with ⟨q, _⟩ | q | ⟨q, _⟩ <;> cases q
theorem LamD.has {X : Cx} {N : List Str} {scope : Scope} {y : Str} (L : LamD X.env.scope N scope y) (ok : X.Ok) : ∀ y ∈ scope.names, y.2 = .free → ∃ c, X.env.cells.lookup y.1 = some c := fun z hz e => by
  rcases L.names z hz with ⟨q, _⟩ | q | ⟨_, q⟩
  · rw [e] at q; cases q
  · rw [e] at q; cases q
  · exact ok.has _ q
section
variable {X : Cx} {pins : List (Addr × Obj)} {σ : L2.St} {H HZ : Hp} {s s1 : Shared}
theorem lamD_start {A : Around} {outer : List Env} {E : XK} {scope : Scope} {y : Str} {bs : List (Str × Value)} {f c' : Addr} {h₁ : Heap} {tk : Nat} (I : L2.Inv X pins σ H s) (L : LamD X.env.scope X.N scope y) (e0 : Env0 X.prog X.w X.K X.mg X.base A outer s1 HZ) (hd : A.handled = none)
    (un : Un (frs X.stack) [] H HZ s.heap s1.heap) (hns : h₁.Ns s1.heap.objs.size fun z => bs.reverse.lookup z) (kp : ∀ b o, s1.heap.get? b = some o → h₁.get? b = some o) :
    L2.Inv (lamCx X A outer s1 HZ E scope f c') [] σ HZ { s1 with heap := h₁, toks := tk } := by
  have hfree := L.has I.ok
  have cm : ∀ {y c}, (cloFrom X.env.cells scope.names []).lookup y = some c → X.env.cells.lookup y = some c := fun {y c} e => by
    rcases cloFrom_mem (PySem.mem_of_lookup e) with hm | ⟨h1, h2⟩
    · cases hm
    · obtain ⟨c1, hc⟩ := hfree _ h1 rfl
      have hc : X.env.cells.lookup y = some c1 := hc
      have e2 : c = c1 := by
        rw [h2, hc] <;> rfl
      rw [e2]
      exact hc
  have look : ∀ {y}, scope.names.lookup y = some .free → ∃ c, (cloFrom X.env.cells scope.names []).lookup y = some c := fun {y} hl => by
    have hy : (y, NameKind.free) ∈ scope.names := PySem.mem_of_lookup hl
    exact mem_lookup (cloFrom_has (cells := X.env.cells) (acc := []) hy)
  have cellK : ∀ {c : Addr} {v : Option Value}, H c = none → s.heap.IsCell c v → h₁.IsCell c v := fun {c v} n ⟨o, ho, hd⟩ => by
    obtain ⟨sl, q⟩ := un.any ho n (by simp)
    exact ⟨_, kp _ _ q, hd⟩
  have noA : ∀ b : Addr, b ∉ (lamCx X A outer s1 HZ E scope f c').ex := fun b z => absurd (show b ∈ ([] : List Addr) from z) (by simp)
  refine ⟨⟨e0.mod, L.kind, rfl, rfl, Nat.le_refl _, fun y z c e1 e2 => I.ok.inj y z c (cm e1) (cm e2), fun y hy => ?_, fun y c z _ => ?_, fun _ => hd, Around.frames_deeper e0.frames, .inr ⟨rfl, rfl⟩, fun b z => absurd z (noA b), e0.bs, e0.bsz, fun b _ _ => noA b,
      fun b z => absurd z (noA b), e0.funs, e0.frf⟩,
    rfl, e0.bare, Un.kept kp, ⟨_, hns, fun i y v e1 e2 e3 => ?_⟩, fun y c e => ?_, e0.hok.fresh (Nat.le_refl _), fun y c e => ?_, fun q hq => absurd (show q ∈ ([] : List (Addr × Obj)) ++ [] from hq) (by simp), e0.hok.kept kp, I.len⟩
  · have hy : scope.names.lookup y = some .cell ∨ scope.names.lookup y = some .free := hy
    rcases hy with hy | hy
    · exact (L.noCell hy).elim
    · exact look hy
  · have z : false = true := z
    cases z
  · have e3 : Vis scope y := e3
    rcases e3 with k | k | k
    · exfalso
      rcases L.names _ (PySem.mem_of_lookup k) with ⟨_, q⟩ | q | ⟨q, _⟩
      · exact q (List.mem_of_getElem? (show X.N[i]? = some y from e1))
      · cases q
      · cases q
    · exact (L.noCell k).elim
    · obtain ⟨m, hn, hl⟩ := I.loc
      have kk : X.env.scope.names.lookup y = some .cell ∨ X.env.scope.names.lookup y = some .free := by
        rcases L.names _ (PySem.mem_of_lookup k) with ⟨q, _⟩ | q | ⟨_, q⟩
        · cases q
        · cases q
        · exact q
      have hvis : Vis X.env.scope y := kk.elim (fun k => .inr (.inl k)) (fun k => .inr (.inr k))
      obtain ⟨w', r, q⟩ := hl i y v e1 e2 hvis
      obtain ⟨c2, h2⟩ := look k
      refine ⟨w', r, .inr ⟨.inr k, c2, h2, ?_⟩⟩
      have c1 := cm h2
      rcases q with ⟨k', _⟩ | ⟨_, c3, e', z⟩
      · have k' : X.env.scope.names.lookup y = some .local := k'
        rcases kk with k2 | k2 <;> rw [k2] at k' <;> cases k'
      · rw [c1] at e'
        cases e'
        exact cellK (I.freeC y _ c1) z
  · obtain ⟨w', z⟩ := I.cell y c (cm e)
    exact ⟨w', cellK (I.freeC y c (cm e)) z⟩
  · obtain ⟨v, o, ho, hd⟩ := I.cell y c (cm e)
    exact un.free c o ho (I.freeC y c (cm e)) (by simp)
/-- x(), in the def that got the lambda -/
theorem pe_actD {CXg : CXT} {Eg : XK} {Ng : List Str} {qg : Str} {sg : Scope} {g f c' T0 : Addr} {cdg pm ctv : Value} {params : Arguments} {body : Expr} {scope : Scope} {k i : Nat} {a y : Str} {n0 : Int} {t0 : Tok} {T : List (Addr × Str)} {H0 : Hp} {pn : List (Addr × Obj)} {xe : Value → Shared → Prop} {W : WX} {E : XK} {tb : TE} {p1 p2 : Pos}
    (I : L2.Inv X pins σ H s) (L : LamD X.env.scope X.N scope y) (MD : MadeD X T params body scope n0 H0 H f c' T0 pm ctv t0 s)
    (hbind : ∀ (q : Str) (cl : List (Str × Addr)) (D : Addr) (pm cv ct : Value) (v : Value), ∃ kk, bindArgs (dfFn q params body scope cl (.ref D) pm cv ct) ⟨[], []⟩ = seqItems? (.ref D) >>= kk ∧ kk (some #[v]) = pure [(y, v)])
    (tk : Takes ((cxOf CXg X.prog X.w X.K X.mg X.base Ng qg sg g cdg X.A X.stack s H Eg).tr pn xe) W) (hW : ∀ cls d σ' H', E cls d H' → W cls d σ' H') (hr : Room (k + 1) (X.A.deeper (envOfC qg sg s.heap.objs.size g cdg)))
    (hbody : ∀ (A : Around) (outer : List Env) (s : Shared) (H : Hp), Room k (A.deeper (lamEnv X scope s.heap.objs.size f c')) → PE (lamCx X A outer s H E scope f c') body tb)
    (hN : Ng[i]? = some a) (hv : Vis sg a) (hd : (a == ("__debug__" : Str)) = false := by decide) (hcd : (a == ("__classdict__" : Str)) = false := by decide) :
    PE ((cxOf CXg X.prog X.w X.K X.mg X.base Ng qg sg g cdg X.A X.stack s H Eg).tr pn xe) (.Call (.Name a p1) [] [] p2) (fun σZ HZ Q => σZ[i]? = some (some (.ref f)) ∧ HZ c' = some (CodeO c' (X.env.qual ++ "<lambda>")) ∧ tb σ HZ Q) := by
  refine ⟨fun pinsZ sZ σZ HZ Q IZ h => ?_⟩
  obtain ⟨hs, hc, ht⟩ := h
  refine wpAny_Call_Name_kw (thn ((pe_var (pos := p1) (i := i) hN hv hd hcd).run pinsZ sZ σZ HZ (fun v H1 => v = .ref f ∧ H1 = HZ) IZ ⟨.ref f, hs, rfl, rfl⟩) fun u s1 ⟨v, H1, I1, r1, q1⟩ => ?_)
  obtain ⟨ev, eH⟩ := q1
  subst ev
  rw [eH] at I1
  obtain rfl : u = Value.ref f := r1
  have of1 := I1.base.keep f _ MD.at_ MD.fn MD.ff (fun z => nomatch (show f ∈ ([] : List Addr) from z))
  have oT1 := I1.base.keep T0 _ MD.tup MD.tn MD.tf (fun z => nomatch (show T0 ∈ ([] : List Addr) from z))
  refine PySem.W.callWith_F0 ⟨_, _, _, _, of1⟩ ?_
  have un : Un (frs X.stack) [] H HZ s.heap s1.heap := I1.base
  obtain ⟨⟨oc, vs, t, hoc, hdc, hvc⟩, _, _⟩ := I1.hok c' _ hc
  have rc : codeAny (model X.prog X.w) (X.A.deeper (envOfC qg sg s.heap.objs.size g cdg)) (.call (.ref f) ⟨[], []⟩) (CR (L2.CX X.prog X.w) (envOfC qg sg s.heap.objs.size g cdg :: X.stack) X.prog X.w HZ s1 Q E) s1 := by
    refine PySem.W.kla_callFunE hr.depth of1 rfl L.co L.gen rfl ⟨c', oc, vs, t, rfl, hoc, hdc, hvc⟩ ?_
    obtain ⟨kk, e1, e2⟩ := hbind (X.env.qual ++ "<lambda>") (cloFrom X.env.cells scope.names []) T0 pm (.ref c') ctv (.int n0 t0)
    refine BindsTo.of_defaults (T := T0) (k := kk) rfl oT1 rfl e1 e2 _ _ _ _ ?_
    refine wpAny_newFunctionEnv (fun z hz q => ?_) (fun z hz => ?_) (fun h₁ hns hsb => ⟨I1.nolimit.fresh _ hsb, ?_⟩) L.kind
    · rcases L.names z hz with ⟨q2, _⟩ | q2 | ⟨q2, _⟩ <;> rw [q2] at q <;> cases q
    · rw [List.mem_singleton.mp hz]
      exact L.par
    · show codeAny _ _ (.expr body (lamEnv X scope s1.heap.objs.size f c')) _ _
      have kp : ∀ b o, s1.heap.get? b = some o → h₁.get? b = some o := fun b o e => hsb.extBut b o (Nat.ne_of_lt (Heap.lt_size e)) (Heap.get?_push_of_some _ e)
      have J : L2.Inv (lamCx X (X.A.deeper (envOfC qg sg s.heap.objs.size g cdg)) (envOfC qg sg s.heap.objs.size g cdg :: X.stack) s1 HZ E scope f c') [] σ HZ { s1 with heap := h₁, toks := s1.toks + ([(y, Value.int n0 t0)] : List (Str × Value)).length } :=
        lamD_start I L I1.env0 hr.hd un hns kp
      refine PySem.W.kla_codeExpr (wpAny_mono ((hbody _ _ s1 HZ (hr.deeper _)).run [] _ _ HZ Q J ht) (fun v s' hq => ?_) fun e s' hq => hq)
      obtain ⟨w', H', J', rv, q⟩ := hq
      exact ⟨w', H', J'.os, J'.bare, J'.base, J'.hok, rv, q⟩
  have hx : Passes (L2.CX X.prog X.w) ((cxOf CXg X.prog X.w X.K X.mg X.base Ng qg sg g cdg X.A X.stack s H Eg).tr pn xe) E := passes_call tk hW
  refine wpAny_call (codeAny_mono rc fun r s' hq => ?_)
  cases r with
  | error e => exact hx pinsZ σZ HZ s1 e s' I1 hq
  | ok fl =>
    cases fl with
    | ret u => exact I1.after hq
    | next => exact False.elim hq
    | brk => exact False.elim hq
    | cont => exact False.elim hq
end
section
variable {X : Cx}
/-- _law_fault(lambda y=n0: body) -/
theorem pe_faultD {T : List (Addr × Str)} {CI CS fA c Pt : Addr} {fdA : FuncData} {k : Nat} {params : Arguments} {body : Expr} {scope : Scope} {t : XK → TE} {y : Str} {n0 : Int} {j : Nat} {p lpos pos pd : Pos} (AA : TxtA X.K X.mg CI CS fA fdA) (hg : Gl X "_law_fault")
    (TB : TabB X.base X.mg c Pt) (hcode : X.env.code = .ref c) (hmT : (Pt, X.env.qual ++ "<lambda>") ∈ T) (hu : ∀ p ∈ T, p.1 = Pt → p.2 = X.env.qual ++ "<lambda>") (hr : Room (k + 2) X.A) (L : LamD X.env.scope X.N scope y) (hdef : defaultsOf params X.env = ([eval (.Constant (.int n0) j pd) X.env], [])) (hko : params.kwonlyargs = [])
    (hbind : ∀ (q : Str) (cl : List (Str × Addr)) (D : Addr) (pm cv ct : Value) (v : Value), ∃ kk, bindArgs (dfFn q params body scope cl (.ref D) pm cv ct) ⟨[], []⟩ = seqItems? (.ref D) >>= kk ∧ kk (some #[v]) = pure [(y, v)])
    (hbody : ∀ (A : Around) (outer : List Env) (s : Shared) (H : Hp) (E : XK) (f c' : Addr), Room k (A.deeper (lamEnv X scope s.heap.objs.size f c')) → PE (lamCx X A outer s H E scope f c') body (t E)) :
    PE X (.Call (.Name "_law_fault" p) [.Lambda params body scope lpos] [] pos) (LamX.tLam T (TFault CI) t) := by
  obtain ⟨oc, od, kV, doc, pm, an, cdv, ct, osl, e, lk, hcg⟩ := AA.F.ex
  subst e
  refine ⟨fun pins s σ H Q I h => ?_⟩
  obtain ⟨hT, h⟩ := h
  refine wpAny_Call_Name_kw (ld_glob I hg AA.g ?_ (by decide))
  refine PySem.W.callWith_K (h₀ := X.base) I.ok.mod.kin AA.F.kp ?_ (by rfl) (by rfl)
  show wpAny _ _ (spliced ((false, eval (.Lambda params body scope lpos) X.env) :: backTo pos (starEach [] X.env))) _ _ s
  refine Calls.spliced_cons (lamD_make I TB hcode hmT hu hT hdef hko (L.has I.ok) rfl fun f c' T0 pm' ctv t0 H1 s' I1 MD => ?_)
  refine Calls.spliced_nil ⟨I1.kIn, ?_⟩
  have rc : codeAny (model X.prog X.w) X.A (.call (.ref fA) ⟨[.ref f], []⟩) (CR C8.CX0 X.stack X.prog X.w H1 s' Q C8.E0) s' := by
    refine LamX.run_ofS (N := ["_law_call", "_law_error", "e"]) (ps := ["_law_call"]) (us := [.ref f]) (vs := [.ref f]) lk hcg scFault hr I1.env0 (AA.b s' [.ref f] I1.kIn rfl) (.cons rfl .nil) rfl fun hr' => ?_
    obtain ⟨t', ht', hq'⟩ := fault_gives (q := X.env.qual ++ "<lambda>") AA.gS AA.gI AA.isi AA.L AA.nf AA.hx AA.hk f c' s' H1 Q (fun E H' Q' => t E σ H' Q')
      (fun W pn xe E p1 p2 tk hW => pe_actD (i := 0) I1 L MD hbind tk hW hr' (fun A outer s H hr2 => hbody A outer s H E f c' hr2) rfl (Or.inl rfl)) MD.co (h H1 MD.ext MD.tabs)
    exact ⟨t', ht'.nox, hq'⟩
  refine wpAny_call (codeAny_mono rc fun r s2 hq => ?_)
  cases r with
  | error e => exact (show False from hq).elim
  | ok fl =>
    cases fl with
    | ret u => exact I1.after hq
    | next => exact False.elim hq
    | brk => exact False.elim hq
    | cont => exact False.elim hq
end
end K3

namespace K3
open PySem PySem.Spec PyProof.Rows PySem.SeqAt L2 E0
/-! ### a list compared with an empty one, whatever it holds; tuples of the same objects -/
section
variable {X : Cx}
def rEqNil : R2 := fun x y H Q => ∃ a b xs, x = .ref a ∧ y = .ref b ∧ H a = some (.lst xs) ∧ H b = some (.lst []) ∧ Q (.bl xs.isEmpty) H
def rNeNil : R2 := fun x y H Q => ∃ a b xs, x = .ref a ∧ y = .ref b ∧ H a = some (.lst xs) ∧ H b = some (.lst []) ∧ Q (.bl (!xs.isEmpty)) H
theorem op_eqNil (hu : X.A.units < cLine) : OpR X (compareOp .Eq) rEqNil := by
  intro pins s σ H x y v u Q I rx ry h
  obtain ⟨a, b, xs, rfl, rfl, ha, hb, q⟩ := h
  obtain rfl : v = Value.ref a := rx
  obtain rfl : u = Value.ref b := ry
  obtain ⟨its, r, pl, _⟩ := I.list (SqL.of ha)
  obtain ⟨its2, r2, pl2, _⟩ := I.list (SqL.of hb)
  cases r2
  cases r with
  | nil => exact eq_listAt (e := fun _ => true) pl.isList pl2.isList rfl hu (fun j h1 _ => nomatch h1) ⟨.bl true, H, I, rfl, q⟩
  | cons r t =>
    refine eq_list_lengthsAt pl.isList pl2.isList (by simp) hu ⟨.bl false, H, I, rfl, q⟩
theorem op_neNil (hu : X.A.units < cLine) : OpR X (compareOp .NotEq) rNeNil := by
  intro pins s σ H x y v u Q I rx ry h
  obtain ⟨a, b, xs, rfl, rfl, ha, hb, q⟩ := h
  obtain rfl : v = Value.ref a := rx
  obtain rfl : u = Value.ref b := ry
  obtain ⟨its, r, pl, _⟩ := I.list (SqL.of ha)
  obtain ⟨its2, r2, pl2, _⟩ := I.list (SqL.of hb)
  cases r2
  show wpAny (model X.prog X.w) X.A (richCompare .NotEq (.ref a) (.ref b)) (EP X pins σ Q) X.xe s
  cases r with
  | nil => exact RcNeAt.lists (e := fun _ => true) pl.isList pl2.isList rfl hu (fun j h1 _ => nomatch h1) _ _ _ _ ⟨.bl false, H, I, rfl, q⟩
  | cons r t => exact RcNeAt.lists_lengths pl.isList pl2.isList (by simp) hu _ _ _ _ ⟨.bl true, H, I, rfl, q⟩
end
theorem TreeRes.same {C : Cl5} {CI : Addr} {n : V} {xs : List V} {pis : List PI} {E : XK} {H H2 : Hp} {Q : VK} (k : TreeRes C CI n xs pis E H Q) (s : Same H H2) : TreeRes C CI n xs pis E H2 Q := by
  unfold TreeRes at k ⊢
  cases e : treeDue n pis with
  | some u =>
    rw [e] at k
    exact fun H' dd s' nd hd => k H' dd (s.trans s') (s.free nd) hd
  | none =>
    rw [e] at k
    exact fun H' x z ez s' nx at_ hpp => k H' x z ez (s.trans s') (s.free nx) at_ hpp
end K3

namespace K3
open PySem L2 E0
theorem ps_dead {X : Cx} {st : Stmt} : PS X st (fun _ _ _ => False) := ⟨fun _ _ _ _ _ _ h => h.elim⟩
theorem pe_dead {X : Cx} {e : Expr} : PE X e (fun _ _ _ => False) := ⟨fun _ _ _ _ _ _ h => h.elim⟩
/-- where a def stands -/
structure DefA (K : PySem.W.Frag) (mg : Str → Option Value) (x : Str) (ps : List Str) (f : Addr) (fd : FuncData) : Prop where
  g : mg x = some (.ref f)
  k : PySem.W.keepIn K (.ref f) = true
  b : Binds K fd ps []
theorem nameS_len {s : Str} (h : nameS s = true) : s.length ≤ 20 := by
  unfold nameS at h
  simp only [Bool.and_eq_true, decide_eq_true_eq] at h
  exact h.1.1.2
theorem val_nm {K : PySem.W.Frag} {H : Hp} {z : Str} (h : nameS z = true) (ho : PyData.strOk z = true) : Val K H (.str z) := .inl ⟨z, rfl, Nat.le_trans (nameS_len h) (by decide), ho⟩
/-! ### what is a part of a node of a pattern -/
def isRst : Tr → Bool
  | .vr (_ + 2) _ => true
  | _ => false
/-- of each item: whether it can stand for a node, and whether it is a Rest -/
abbrev Fl := Bool × Bool
def flT (t : Tr) : Fl := (isN t, isRst t)
/-- a row without the Rest behind it -/
def cutF (bs : List Fl) : List Fl := if (bs.getLast?.map Prod.snd) = some true then bs.dropLast else bs
def rowOk (bs : List Fl) : Bool := (cutF bs).all Prod.fst
def okLk : Tr → Bool
  | .tx s => decide (s.length ≤ 60)
  | .row ts => rowOk (ts.map flT)
  | .vr 0 _ => true
  | .vr 1 _ => true
  | .vr (_ + 2) _ => false
  | .nd .. => true
def FlAt (K : PySem.W.Frag) (C : Cl5) (H : Hp) (x : V) (b : Fl) : Prop := ∃ t, TyX K H x t ∧ PySem.W.kitAny K t [.ref C.L, .ref C.T, .ref C.V] = some b.1 ∧ PySem.W.kitOne K t (.ref C.R) = some b.2 ∧ ∀ a, x = .ref a → ∃ o, H a = some o
theorem FlAt.same {K : PySem.W.Frag} {C : Cl5} {H H' : Hp} {x : V} {b : Fl} (s : Same H H') (h : FlAt K C H x b) : FlAt K C H' x b := by
  obtain ⟨t, h1, h2, h3, h4⟩ := h
  exact ⟨t, TyX.keep h1 fun a o _ q => s a o q, h2, h3, fun a e => let ⟨o, q⟩ := h4 a e; ⟨o, s _ _ q⟩⟩
theorem kit_R {K : PySem.W.Frag} {C : Cl5} (T : Ty5 K C) (t : Tr) : PySem.W.kitOne K (tyT C t) (.ref C.R) = some (isRst t) := by
  have mR : C.R ∈ C.all := C.v_mem 2
  have nd := T.nd
  simp only [Cl5.all, List.nodup_cons, List.mem_cons, List.not_mem_nil, or_false, not_or] at nd
  obtain ⟨⟨_, _, _, a4⟩, ⟨_, _, b4⟩, ⟨_, c4⟩, d4, _⟩ := nd
  match t with
  | .tx _ => exact T.bs _ mR
  | .row _ => exact T.bt _ mR
  | .vr 0 _ => exact (T.kit _ (C.v_mem 0) _ mR).trans (congrArg some (decide_eq_false c4))
  | .vr 1 _ => exact (T.kit _ (C.v_mem 1) _ mR).trans (congrArg some (decide_eq_false d4))
  | .vr (n + 2) _ => exact (T.kit _ (C.v_mem (n + 2)) _ mR).trans (by show some (decide (C.R = C.R)) = some true; rw [decide_eq_true rfl])
  | .nd false _ _ => exact (T.kit _ (C.n_mem false) _ mR).trans (congrArg some (decide_eq_false a4))
  | .nd true _ _ => exact (T.kit _ (C.n_mem true) _ mR).trans (congrArg some (decide_eq_false b4))
def isWd : Tr → Bool
  | .vr 1 _ => true
  | _ => false
theorem kit_W {K : PySem.W.Frag} {C : Cl5} (T : Ty5 K C) (t : Tr) : PySem.W.kitOne K (tyT C t) (.ref C.W) = some (isWd t) := by
  have mW : C.W ∈ C.all := C.v_mem 1
  have nd := T.nd
  simp only [Cl5.all, List.nodup_cons, List.mem_cons, List.not_mem_nil, or_false, not_or] at nd
  obtain ⟨⟨_, _, a3, _⟩, ⟨_, b3, _⟩, ⟨c3, _⟩, d4, _⟩ := nd
  match t with
  | .tx _ => exact T.bs _ mW
  | .row _ => exact T.bt _ mW
  | .vr 0 _ => exact (T.kit _ (C.v_mem 0) _ mW).trans (congrArg some (decide_eq_false c3))
  | .vr 1 _ => exact (T.kit _ (C.v_mem 1) _ mW).trans (by show some (decide (C.W = C.W)) = some true; rw [decide_eq_true rfl])
  | .vr (n + 2) _ => exact (T.kit _ (C.v_mem (n + 2)) _ mW).trans (congrArg some (decide_eq_false (Ne.symm d4)))
  | .nd false _ _ => exact (T.kit _ (C.n_mem false) _ mW).trans (congrArg some (decide_eq_false a3))
  | .nd true _ _ => exact (T.kit _ (C.n_mem true) _ mW).trans (congrArg some (decide_eq_false b3))
theorem pt_obj {C : Cl5} {H : Hp} : ∀ {v : V} {t : Tr}, PtAt C H v t → ∀ a, v = .ref a → ∃ o, H a = some o
  | _, .tx s, h, a, e => by rw [show _ = V.str s from h] at e; cases e
  | _, .row ts, h, a, e => by obtain ⟨b, xs, h1, h2, _⟩ := h; rw [h1] at e; cases e; exact ⟨_, h2⟩
  | _, .vr k n, h, a, e => by obtain ⟨b, dx, fs, h1, h2, _⟩ := h; rw [h1] at e; cases e; exact ⟨_, h2⟩
  | _, .nd lk f ps, h, a, e => by obtain ⟨b, dx, fs, pa, xs, h1, h2, _⟩ := h; rw [h1] at e; cases e; exact ⟨_, h2⟩
theorem fl_pt {K : PySem.W.Frag} {C : Cl5} {H : Hp} (T5 : Ty5 K C) {v : V} {t : Tr} (h : PtAt C H v t) : FlAt K C H v (flT t) := ⟨_, PtAt.ty T5 h, kit_N T5 t, kit_R T5 t, pt_obj h⟩
theorem fl_pts {K : PySem.W.Frag} {C : Cl5} {H : Hp} (T5 : Ty5 K C) : ∀ {xs : List V} {ts : List Tr}, PtsAt C H xs ts → Paired (FlAt K C H) xs (ts.map flT)
  | [], [], _ => .nil
  | x :: xs, t :: ts, h => .cons (fl_pt T5 h.1) (fl_pts T5 h.2)
  | [], _ :: _, h => False.elim h
  | _ :: _, [], h => False.elim h
/-- a value that is no part of a node of a pattern -/
def BadL (K : PySem.W.Frag) (C : Cl5) (H : Hp) (v : V) : Prop :=
  (∃ s, v = .str s ∧ 60 < s.length ∧ s.length ≤ 1000) ∨
  (∃ a xs bs, v = .ref a ∧ H a = some (.tup xs) ∧ xs.length ≤ 1000 ∧ Paired (FlAt K C H) xs bs ∧ rowOk bs = false) ∨
  (∃ t, TyX K H v t ∧ PySem.W.kitOne K t (.type "str") = some false ∧ PySem.W.kitOne K t (.type "tuple") = some false ∧ PySem.W.kitOne K t (.ref C.W) = some false ∧ PySem.W.kitAny K t [.ref C.L, .ref C.T, .ref C.V] = some false ∧ ∀ a, v = .ref a → ∃ o, H a = some o)
theorem BadL.same {K : PySem.W.Frag} {C : Cl5} {H H' : Hp} {v : V} (s : Same H H') (h : BadL K C H v) : BadL K C H' v := by
  rcases h with h | ⟨a, xs, bs, h1, h2, h3, h4, h5⟩ | ⟨t, h1, h2, h3, h4, h5, h6⟩
  · exact .inl h
  · exact .inr (.inl ⟨a, xs, bs, h1, s _ _ h2, h3, Paired.mapP h4 fun x b q => q.same s, h5⟩)
  · exact .inr (.inr ⟨t, TyX.keep h1 fun a o _ q => s a o q, h2, h3, h4, h5, fun a e => let ⟨o, q⟩ := h6 a e; ⟨o, s _ _ q⟩⟩)
section
variable {P : Program} {w : World} {K : PySem.W.Frag} {mg : Str → Option Value} {base : Heap}
/-- is_node of a value whose type is known -/
def spIsNodeV (K : PySem.W.Frag) (C : Cl5) : Sp := fun vs H Q _ => ∃ v t b, vs = [v] ∧ TyX K H v t ∧ PySem.W.kitAny K t [.ref C.L, .ref C.T, .ref C.V] = some b ∧ ∀ H', Same H H' → Q (.bl b) H'
theorem ok_isNodeV {C : Cl5} {f : Addr} {fd : FuncData} (F : Fun K "is_node" "is_node" sIsNode f fd) (T : TxtT mg C) : FnOk P w K mg base CX0 1 f fd ["value"] (spIsNodeV K C) := by
  refine F.ok scIsNode (fun vs H Q E h => ?_) (fun cdv A outer s H vs Q E hr h => ?_)
  · obtain ⟨v, t, b, rfl, _⟩ := h
    rfl
  · obtain ⟨v, t, b, rfl, hv, hb, k⟩ := h
    refine ⟨_, pss_one (ps_ret (pe_callB call_isiT (by rfl) T.isi PyProof.Rows.boot_isinstance (pa_cons (pv 0) (pa_cons (pe_tup (pa_cons (pe_glob (v := .ref C.L) rfl T.gL rfl) (pa_cons (pe_glob (v := .ref C.T) rfl T.gT rfl) (pa_cons (pe_glob (v := .ref C.V) rfl T.gV rfl) pa_nil)))) pa_nil)))), ?_⟩
    refine ⟨_, rfl, by show 3 ≤ sizeLine; decide, fun p hp => ?_⟩
    have s1 : Same H (upd H p (.tup [.ref C.L, .ref C.T, .ref C.V])) := same_upd (Same.refl H) hp
    exact ⟨v, p, [.ref C.L, .ref C.T, .ref C.V], t, _, b, rfl, upd_same, .cons (.own _) (.cons (.own _) (.cons (.own _) .nil)), TyX.keep hv fun a o _ q => s1 a o q, hb, k _ s1⟩
/-- row_items -/
def spRowItems (K : PySem.W.Frag) (C : Cl5) : Sp := fun vs H Q _ => ∃ (a : Addr) (xs : List V) (bs : List Fl), vs = [.ref a] ∧ H a = some (.tup xs) ∧ xs.length ≤ 1000 ∧ Paired (FlAt K C H) xs bs ∧
  ∀ H' p ys, Same H H' → H' p = some (.tup ys) → Paired (FlAt K C H') ys (cutF bs) → Q (.ref p) H'
theorem scRowItems : FnScope ["row"] ["row"] (defScope sRowItems) := ⟨rfl, rfl, rfl, by decide +kernel, rfl, by decide +kernel, by decide +kernel⟩
theorem paired_concat {A B : Type} {R : A → B → Prop} {xs : List A} {x : A} {ys : List B} (h : Paired R (xs ++ [x]) ys) : ∃ yi y, ys = yi ++ [y] ∧ Paired R xs yi ∧ R x y := by
  induction xs generalizing ys with
  | nil =>
    cases h with
    | cons a t => cases t; exact ⟨[], _, rfl, .nil, a⟩
  | cons z zs ih =>
    cases h with
    | cons a t =>
      obtain ⟨yi, y, e, p, r⟩ := ih t
      exact ⟨_ :: yi, y, by rw [e]; rfl, .cons a p, r⟩
theorem ok_rowItems {C : Cl5} {f : Addr} {fd : FuncData} (F : Fun K "row_items" "row_items" sRowItems f fd) (T : TxtT mg C) : FnOk P w K mg base CX0 1 f fd ["row"] (spRowItems K C) := by
  refine F.ok scRowItems (fun vs H Q E h => ?_) (fun cdv A outer s H vs Q E hr h => ?_)
  · obtain ⟨a, xs, bs, rfl, _⟩ := h
    rfl
  · obtain ⟨a, xs, bs, rfl, ha, hl, hp, k⟩ := h
    refine ⟨_, pss_cons (ps_if (PW.pt (pw_and (pt_cmpR op_gt (pe_callB call_len_seq (by rfl) T.len PySem.boot_len (pa_cons (pv 0) pa_nil)) pe_int (nomark _)) (pw_and1 (pt_val (pe_callB call_isi (by rfl) T.isi PyProof.Rows.boot_isinstance (pa_cons (pe_ix ix_tup (pv 0) (pe_un un_neg pe_int) (fun _ _ => rfl)) (pa_cons (pe_glob (v := .ref C.R) rfl T.gR rfl) pa_nil)))))))
        (pss_one (ps_ret (pe_slice sl_tup (pv 0) po_none (po_some (pe_un un_neg pe_int))))) pss_nil)
      (pss_one (ps_ret (pv 0))), ?_⟩
    have hlen := hp.length
    refine ⟨_, rfl, a, _, rfl, .inr (SqT.of ha), _, _, rfl, rfl, _, rfl, ?_⟩
    rcases List.eq_nil_or_concat xs with rfl | ⟨xi, x, rfl⟩
    · cases hp
      refine iteF ?_
      refine iteF ?_
      exact ⟨_, rfl, k H a [] (Same.refl H) ha .nil⟩
    · rw [List.concat_eq_append] at *
      obtain ⟨bi, b, rfl, pi, hb⟩ := paired_concat hp
      have hb0 := hb
      obtain ⟨t, b1, b2, b3, b4⟩ := hb
      rw [decide_eq_true (show (0 : Int) < (((xi ++ [x]).length : Nat) : Int) by rw [List.length_append]; show (0 : Int) < ((xi.length + 1 : Nat) : Int); omega)]
      refine iteT ?_
      have at1 : atI (xi ++ [x]) (-1) = some x := by
        unfold atI ixN
        rw [if_neg (by decide), List.length_append]
        rw [if_pos (show -(((xi.length + [x].length : Nat)) : Int) ≤ -1 by show -((xi.length + 1 : Nat) : Int) ≤ -1; omega)]
        show (xi ++ [x])[((-1 : Int) + ((xi.length + 1 : Nat) : Int)).toNat]? = some x
        rw [show ((-1 : Int) + ((xi.length + 1 : Nat) : Int)).toNat = xi.length by omega]
        simp
      refine ⟨_, rfl, _, rfl, a, _, _, x, rfl, rfl, SqT.of ha, at1, _, _, _, _, b.2, rfl, .own _, b1, b3, _, rfl, ?_⟩
      have hlast : ((bi ++ [b]).getLast?.map Prod.snd) = some b.2 := by simp
      cases hb2 : b.2 with
      | true =>
        refine iteT ?_
        have ecut : cutF (bi ++ [b]) = bi := by
          unfold cutF
          rw [hlast, hb2, if_pos rfl, List.dropLast_concat]
        have hiX : HT.sIx (xi ++ [x]).length (xi ++ [x]).length (some (-1)) = xi.length := by
          show (if (-1 : Int) < 0 then ((-1 : Int) + (((xi ++ [x]).length : Nat) : Int)).toNat else min ((-1 : Int)).toNat (xi ++ [x]).length) = xi.length
          rw [if_pos (by decide), List.length_append]
          show ((-1 : Int) + ((xi.length + 1 : Nat) : Int)).toNat = xi.length
          omega
        refine ⟨_, rfl, _, rfl, _, rfl, a, _, rfl, SqT.of ha, ?_, fun p np => ?_⟩
        · rw [hiX, List.length_append]
          intro q
          have q := q.2
          have : xi.length = xi.length + 1 := q
          omega
        · have ec : cutV (xi ++ [x]) none (some (-1)) = xi := by
            unfold cutV
            rw [hiX, HT.sIx_none, List.drop_zero]
            simp
          have e2 : (-1 : Int) = -1 := rfl
          have s1 : Same H (upd H p (.tup xi)) := same_upd (Same.refl H) np
          show Q (.ref p) (upd H p (.tup (cutV (xi ++ [x]) none (some (-1)))))
          rw [ec]
          exact k _ p xi s1 upd_same (by rw [ecut]; exact Paired.mapP pi fun y c q => q.same s1)
      | false =>
        refine iteF ?_
        have ecut : cutF (bi ++ [b]) = bi ++ [b] := by
          unfold cutF
          rw [hlast, hb2, if_neg (by decide)]
        exact ⟨_, rfl, k H a _ (Same.refl H) ha (by rw [ecut]; exact hp)⟩
end
end K3

namespace K3
open PySem L2 E0
section
variable {P : Program} {w : World} {K : PySem.W.Frag} {mg : Str → Option Value} {base : Heap}
def spLikeRow (K : PySem.W.Frag) (C : Cl5) : Sp := fun vs H Q _ => ∃ (a : Addr) (xs : List V) (bs : List Fl), vs = [.ref a] ∧ H a = some (.tup xs) ∧ xs.length ≤ 1000 ∧ Paired (FlAt K C H) xs bs ∧ ∀ H', Same H H' → Q (.bl (rowOk bs)) H'
theorem scLikeRow : FnScope ["row", "item"] ["row"] (defScope sLikeRow) := ⟨rfl, rfl, rfl, by decide +kernel, rfl, by decide +kernel, by decide +kernel⟩
theorem cutF_len (bs : List Fl) : (cutF bs).length ≤ bs.length := by
  unfold cutF
  split
  · rw [List.length_dropLast]; omega
  · exact Nat.le_refl _
theorem ok_likeRow {C : Cl5} {f fR fN : Addr} {fd fdR fdN : FuncData} (F : Fun K "_is_like_row" "_is_like_row" sLikeRow f fd) (T : TxtT mg C) (GR : FnOk P w K mg base CX0 1 fR fdR ["row"] (spRowItems K C)) (AR : DefA K mg "row_items" ["row"] fR fdR) (GN : FnOk P w K mg base CX0 1 fN fdN ["value"] (spIsNodeV K C)) (AN : DefA K mg "is_node" ["value"] fN fdN) :
    FnOk P w K mg base CX0 2 f fd ["row"] (spLikeRow K C) := by
  refine F.ok scLikeRow (fun vs H Q E h => ?_) (fun cdv A outer s H vs Q E hr h => ?_)
  · obtain ⟨a, xs, bs, rfl, _⟩ := h
    rfl
  · obtain ⟨a, xs, bs, rfl, ha, hl, hp, k⟩ := h
    refine ⟨_, pss_one (ps_ret (pe_callB (cr_all rfl) (by rfl) T.all (show bootBuiltins "all" = some (.builtin "all") by decide +kernel) (pa_cons (pe_lc (own := [("item", 1)]) (g := gName 1) (tt := tYes) (te := tCall (spIsNodeV K C) [] E0 (tCons (tVar 1) tNil)) rfl scLikeRow.nd (pi_tup (pe_call GR hr rfl AR.g AR.k AR.b .nil pass0 (pa_cons (pv 0) pa_nil)))
            (blkOk_by (N := ["row", "item"]) (sc := defScope sLikeRow) (by decide +kernel)) (fun _ _ _ _ _ => pg_name (i := 1) scLikeRow.nd rfl (Or.inl rfl)) (fun _ _ _ _ _ => pts_nil)
            (fun _ _ _ _ _ => pe_call GN hr rfl AN.g AN.k AN.b .nil pass0 (pa_cons (pv 1) pa_nil))) pa_nil))), ?_⟩
    refine ⟨_, rfl, a, xs, bs, rfl, ha, hl, hp, fun H1 p ys s1 hp1 hys => ⟨p, rfl, ⟨_, SqT.of hp1⟩, fun D hD => lc_tup (K := K) (a := p) (xs := ys) (fun i H' => Same H1 H' ∧ H' D = some (.lst ((((cutF bs).map Prod.fst).take i).map V.bl))) ⟨same_upd (Same.refl H1) hD, upd_same⟩ (fun i H' _ ⟨s', _⟩ => SqT.of (s' _ _ hp1)) ?_ ?_⟩⟩
    · rintro i x H2 hx ⟨s2, e2⟩
      obtain ⟨b, eb, hb⟩ := LiI.paired_get hys hx
      have il : i < ys.length := (List.getElem?_eq_some_iff.mp hx).1
      obtain ⟨t, b1, b2, b3, b4⟩ := hb.same s2
      refine ⟨rfl, ?_⟩
      dsimp only [tYes]
      rw [if_pos rfl]
      refine ⟨_, rfl, x, t, b.1, rfl, b1, b2, fun H3 s3 => ⟨_, s3 _ _ e2, ?_, same_upd (s2.trans s3) hD, ?_⟩⟩
      · rw [List.length_map]
        refine Nat.lt_of_le_of_lt (List.length_take_le _ _) ?_
        have h1 := hys.length
        have h2 := cutF_len bs
        have h3 := hp.length
        have : sizeLine > 1000 := by decide
        omega
      · rw [upd_same, List.take_add_one, List.getElem?_map, eb]
        simp
    · rintro H2 ⟨s2, e2⟩
      rw [hys.length, ← List.length_map (f := Prod.fst), List.take_length] at e2
      refine ⟨D, (cutF bs).map Prod.fst, rfl, SqL.of e2, ?_⟩
      have e : ((cutF bs).map Prod.fst).all id = rowOk bs := by
        unfold rowOk
        rw [List.all_map]
        rfl
      rw [e]
      exact k H2 (s1.trans s2)
def spLikePart (K : PySem.W.Frag) (C : Cl5) : Sp := fun vs H Q _ => ∃ v, vs = [v] ∧ ((∃ t, PtAt C H v t ∧ rowB t ≤ 1000 ∧ ∀ H', Same H H' → Q (.bl (okLk t)) H') ∨ (BadL K C H v ∧ ∀ H', Same H H' → Q (.bl false) H'))
theorem scLikePart : FnScope ["part"] ["part"] (defScope sLikePart) := ⟨rfl, rfl, rfl, by decide +kernel, rfl, by decide +kernel, by decide +kernel⟩
theorem ok_likePart {C : Cl5} {f fR fN : Addr} {fd fdR fdN : FuncData} (F : Fun K "_is_like_part" "_is_like_part" sLikePart f fd) (T : TxtT mg C) (T5 : Ty5 K C) (GR : FnOk P w K mg base CX0 2 fR fdR ["row"] (spLikeRow K C)) (AR : DefA K mg "_is_like_row" ["row"] fR fdR) (GN : FnOk P w K mg base CX0 1 fN fdN ["value"] (spIsNodeV K C)) (AN : DefA K mg "is_node" ["value"] fN fdN) :
    FnOk P w K mg base CX0 3 f fd ["part"] (spLikePart K C) := by
  refine F.ok scLikePart (fun vs H Q E h => ?_) (fun cdv A outer s H vs Q E hr h => ?_)
  · obtain ⟨v, rfl, _⟩ := h
    rfl
  · obtain ⟨v, rfl, hv⟩ := h
    have hr1 : Room 1 _ := hr.mono (by decide)
    obtain ⟨tm, mx⟩ := T.mx
    refine ⟨_, pss_cons (ps_if (pt_val (pe_callB call_isi (by rfl) T.isi PyProof.Rows.boot_isinstance (pa_cons (pv 0) (pa_cons (pe_bltn (v := .ty "str") rfl T.str PyProof.Rows.boot_str rfl) pa_nil)))) (pss_one (ps_ret (pe_cmpR op_le (pe_callB call_len (by rfl) T.len PySem.boot_len (pa_cons (pv 0) pa_nil)) (pe_glob (v := .int 60) rfl mx ⟨_, rfl⟩) (nomark _)))) pss_nil)
      (pss_cons (ps_if (pt_val (pe_callB call_isi (by rfl) T.isi PyProof.Rows.boot_isinstance (pa_cons (pv 0) (pa_cons (pe_bltn (v := .ty "tuple") rfl T.tup PyProof.Rows.boot_tuple rfl) pa_nil)))) (pss_one (ps_ret (pe_call GR hr rfl AR.g AR.k AR.b .nil pass0 (pa_cons (pv 0) pa_nil)))) pss_nil)
      (pss_one (ps_ret (pe_or (pe_callB call_isi (by rfl) T.isi PyProof.Rows.boot_isinstance (pa_cons (pv 0) (pa_cons (pe_glob (v := .ref C.W) rfl T.gW rfl) pa_nil))) (pe_one (pe_call GN hr1 rfl AN.g AN.k AN.b .nil pass0 (pa_cons (pv 0) pa_nil))))))), ?_⟩
    rcases hv with ⟨t, ht, hb, k⟩ | ⟨hbad, k⟩
    · have ty := PtAt.ty T5 ht
      refine ⟨_, rfl, _, _, _, _, isTx t, rfl, .ty "str", ty, kit_str T5 t, _, rfl, ?_⟩
      match t, ht, hb, k, ty with
      | .tx z, ht, hb, k, ty =>
        refine iteT ?_
        have ev : v = .str z := ht
        subst ev
        have hb : z.length ≤ 1000 := hb
        have hz2 : z.length ≤ sizeLine := Nat.le_trans hb (by decide)
        have e : decide (((z.length : Nat) : Int) ≤ 60) = decide (z.length ≤ 60) := decide_eq_decide.mpr (by omega)
        have k2 : Q (.bl (decide (z.length ≤ 60))) H := k H (Same.refl H)
        rw [← e] at k2
        exact ⟨_, rfl, _, z.length, rfl, ⟨hz2, rfl⟩, _, _, rfl, rfl, k2⟩
      | .row us, ht, hb, k, ty =>
        refine iteF ?_
        refine ⟨_, rfl, _, _, _, _, true, rfl, .ty "tuple", ty, kit_tup T5 (.row us), _, rfl, ?_⟩
        refine iteT ?_
        obtain ⟨a, xs, rfl, ha, hx⟩ := ht
        exact ⟨_, rfl, a, xs, us.map flT, rfl, ha, by rw [pts_len hx]; exact hb, fl_pts T5 hx, k⟩
      | .vr 0 n, ht, hb, k, ty =>
        refine iteF ?_
        refine ⟨_, rfl, _, _, _, _, false, rfl, .ty "tuple", ty, kit_tup T5 (.vr 0 n), _, rfl, ?_⟩
        refine iteF ?_
        refine ⟨_, rfl, _, _, _, _, false, rfl, .own _, ty, kit_W T5 (.vr 0 n), _, rfl, ?_⟩
        refine iteF ?_
        exact ⟨_, rfl, v, _, true, rfl, ty, kit_N T5 (.vr 0 n), k⟩
      | .vr 1 n, ht, hb, k, ty =>
        refine iteF ?_
        refine ⟨_, rfl, _, _, _, _, false, rfl, .ty "tuple", ty, kit_tup T5 (.vr 1 n), _, rfl, ?_⟩
        refine iteF ?_
        refine ⟨_, rfl, _, _, _, _, true, rfl, .own _, ty, kit_W T5 (.vr 1 n), _, rfl, ?_⟩
        exact iteT (k H (Same.refl H))
      | .vr (j + 2) n, ht, hb, k, ty =>
        refine iteF ?_
        refine ⟨_, rfl, _, _, _, _, false, rfl, .ty "tuple", ty, kit_tup T5 (.vr (j + 2) n), _, rfl, ?_⟩
        refine iteF ?_
        refine ⟨_, rfl, _, _, _, _, false, rfl, .own _, ty, kit_W T5 (.vr (j + 2) n), _, rfl, ?_⟩
        refine iteF ?_
        exact ⟨_, rfl, v, _, false, rfl, ty, kit_N T5 (.vr (j + 2) n), k⟩
      | .nd lk g us, ht, hb, k, ty =>
        refine iteF ?_
        refine ⟨_, rfl, _, _, _, _, false, rfl, .ty "tuple", ty, kit_tup T5 (.nd lk g us), _, rfl, ?_⟩
        refine iteF ?_
        refine ⟨_, rfl, _, _, _, _, false, rfl, .own _, ty, kit_W T5 (.nd lk g us), _, rfl, ?_⟩
        refine iteF ?_
        exact ⟨_, rfl, v, _, true, rfl, ty, kit_N T5 (.nd lk g us), k⟩
    · rcases hbad with ⟨z, rfl, h60, hz⟩ | ⟨a, xs, bs, rfl, ha, hl, hp, hb⟩ | ⟨t, h1, h2, h3, h4, h5, h6⟩
      · refine ⟨_, rfl, _, _, _, _, true, rfl, .ty "str", .base (.str z), kit_ty (by decide +kernel), _, rfl, ?_⟩
        refine iteT ?_
        have hz2 : z.length ≤ sizeLine := Nat.le_trans hz (by decide)
        have e : decide (((z.length : Nat) : Int) ≤ 60) = false := decide_eq_false (by omega)
        have k2 := k H (Same.refl H)
        rw [← e] at k2
        exact ⟨_, rfl, _, z.length, rfl, ⟨hz2, rfl⟩, _, _, rfl, rfl, k2⟩
      · refine ⟨_, rfl, _, _, _, _, false, rfl, .ty "str", .base (.tup ha), kit_ty (by decide +kernel), _, rfl, ?_⟩
        refine iteF ?_
        refine ⟨_, rfl, _, _, _, _, true, rfl, .ty "tuple", .base (.tup ha), kit_ty (by decide +kernel), _, rfl, ?_⟩
        refine iteT ?_
        rw [← hb] at k
        exact ⟨_, rfl, a, xs, bs, rfl, ha, hl, hp, k⟩
      · refine ⟨_, rfl, _, _, _, _, false, rfl, .ty "str", h1, h2, _, rfl, ?_⟩
        refine iteF ?_
        refine ⟨_, rfl, _, _, _, _, false, rfl, .ty "tuple", h1, h3, _, rfl, ?_⟩
        refine iteF ?_
        refine ⟨_, rfl, _, _, _, _, false, rfl, .own _, h1, h4, _, rfl, ?_⟩
        refine iteF ?_
        exact ⟨_, rfl, v, t, false, rfl, h1, h5, k⟩
end
end K3

namespace K3
open PySem L2 E0
/-! ### nodes of patterns are made, or refused -/
theorem sizes_filter : ∀ {ts : List Tr}, (∀ t ∈ ts, isN t = true ∨ isRst t = true) → sizes (ts.filter isN) = sizes ts ∧ levelss (ts.filter isN) = levelss ts
  | [], _ => ⟨rfl, rfl⟩
  | t :: ts, h => by
    obtain ⟨a, b⟩ := sizes_filter (ts := ts) fun u m => h u (List.mem_cons_of_mem _ m)
    rcases h t (List.mem_cons_self ..) with q | q
    · rw [List.filter_cons, if_pos q]
      simp only [sizes, levelss, a, b]
      exact ⟨True.intro, True.intro⟩
    · match t, q with
      | .vr (k + 2) n, _ =>
        rw [List.filter_cons, if_neg (by intro q; cases q)]
        simp only [sizes, levelss, size, levels, a, b]
        omega
theorem sizes_app' : ∀ (a b : List Tr), sizes (a ++ b) = sizes a + sizes b ∧ levelss (a ++ b) = max (levelss a) (levelss b) := fun a b => ⟨sizes_app a b, levelss_app a b⟩
theorem rowOk_mem {ts : List Tr} (h : rowOk (ts.map flT) = true) : ∀ t ∈ ts, isN t = true ∨ isRst t = true := by
  intro t ht
  rcases List.eq_nil_or_concat ts with rfl | ⟨ti, u, rfl⟩
  · cases ht
  · rw [List.concat_eq_append] at h ht
    unfold rowOk cutF at h
    have hl : (((ti ++ [u]).map flT).getLast?.map Prod.snd) = some (isRst u) := by simp [flT]
    rw [hl] at h
    cases hu : isRst u with
    | true =>
      rw [hu, if_pos rfl, List.map_append, show [u].map flT = [flT u] from rfl, List.dropLast_concat] at h
      rcases List.mem_append.mp ht with q | q
      · exact .inl (List.all_eq_true.mp h _ (List.mem_map.mpr ⟨t, q, rfl⟩))
      · rw [List.mem_singleton.mp q]; exact .inr hu
    | false =>
      rw [hu, if_neg (by decide)] at h
      exact .inl (List.all_eq_true.mp h _ (List.mem_map.mpr ⟨t, ht, rfl⟩))
theorem below_okL : ∀ {ps : List Tr}, (∀ p ∈ ps, okLk p = true) → sizes (below ps) = sizes ps ∧ levelss (below ps) = levelss ps ∧ ∀ t ∈ below ps, isN t = true
  | [], _ => ⟨rfl, rfl, fun t h => nomatch h⟩
  | p :: ps, h => by
    obtain ⟨a, b, c⟩ := below_okL (ps := ps) fun q hq => h q (List.mem_cons_of_mem _ hq)
    have hp := h p (List.mem_cons_self ..)
    match p, hp with
    | .tx s, _ =>
      refine ⟨by simp only [sizes, size]; show sizes (below ps) = _; omega, by simp only [levelss, levels]; show levelss (below ps) = _; omega, c⟩
    | .row ts, hp =>
      have hm := rowOk_mem (ts := ts) hp
      obtain ⟨d, e⟩ := sizes_filter hm
      obtain ⟨f, g⟩ := sizes_app' (ts.filter isN) (below ps)
      refine ⟨?_, ?_, fun t ht => ?_⟩
      · show sizes (ts.filter isN ++ below ps) = size (.row ts) + sizes ps
        rw [f, d, a]; simp only [size]
      · show levelss (ts.filter isN ++ below ps) = max (levels (.row ts)) (levelss ps)
        rw [g, e, b]; simp only [levels]
      · rcases List.mem_append.mp (show t ∈ ts.filter isN ++ below ps from ht) with q | q
        · exact (List.mem_filter.mp q).2
        · exact c t q
    | .vr 0 n, _ =>
      refine ⟨by show sizes ([Tr.vr 0 n] ++ below ps) = _; rw [sizes_app]; simp only [sizes, size]; omega, by show levelss ([Tr.vr 0 n] ++ below ps) = _; rw [levelss_app]; simp only [levelss, levels]; omega, fun t ht => ?_⟩
      rcases List.mem_cons.mp (show t ∈ Tr.vr 0 n :: below ps from ht) with q | q
      · rw [q]; rfl
      · exact c t q
    | .vr 1 n, _ =>
      refine ⟨by simp only [sizes, size]; show sizes (below ps) = _; omega, by simp only [levelss, levels]; show levelss (below ps) = _; omega, c⟩
    | .nd lk f qs, _ =>
      refine ⟨by show sizes ([Tr.nd lk f qs] ++ below ps) = _; rw [sizes_app]; simp only [sizes]; omega, by show levelss ([Tr.nd lk f qs] ++ below ps) = _; rw [levelss_app]; simp only [levelss]; omega, fun t ht => ?_⟩
      rcases List.mem_cons.mp (show t ∈ Tr.nd lk f qs :: below ps from ht) with q | q
      · rw [q]; rfl
      · exact c t q
/-- a value among the parts that are asked for -/
def LIAt (K : PySem.W.Frag) (C : Cl5) (H : Hp) (v : V) : PI → Prop
  | .good t => PtAt C H v t ∧ okLk t = true ∧ rowB t ≤ 1000 ∧ okTx t
  | .bad => BadL K C H v
theorem LIAt.same {K : PySem.W.Frag} {C : Cl5} {H H' : Hp} {v : V} (s : Same H H') : ∀ {i : PI}, LIAt K C H v i → LIAt K C H' v i
  | .good t, h => ⟨PtAt.kpo (KpO.same s) t h.1, h.2⟩
  | .bad, h => BadL.same s h
def likeDue (n : V) (pis : List PI) : Option V :=
  if nameV n = false then some (.str "form") else match firstBad 0 pis with
    | some i => some (.int ((i : Nat) : Int))
    | none => if 60 < 1 + sizes (partsOf pis) ∨ 8 < levelss (partsOf pis) + 1 then some (.str "size") else none
theorem good_allL {K : PySem.W.Frag} {C : Cl5} {H : Hp} : ∀ {xs : List V} {pis : List PI} {n : Nat}, Paired (LIAt K C H) xs pis → firstBad n pis = none → PtsAt C H xs (partsOf pis) ∧ (∀ t ∈ partsOf pis, okLk t = true ∧ rowB t ≤ 1000 ∧ okTx t) ∧ (partsOf pis).length = pis.length
  | _, _, _, .nil, _ => ⟨True.intro, (fun t h => nomatch h), rfl⟩
  | _, .bad :: _, _, .cons _ _, h => nomatch h
  | _, .good t :: _, _, .cons a r, h => by
    obtain ⟨h1, h2, h3⟩ := good_allL r h
    refine ⟨⟨a.1, h1⟩, fun u hu => ?_, congrArg (· + 1) h3⟩
    rcases List.mem_cons.mp hu with q | q
    · rw [q]; exact a.2
    · exact h2 u q
/-- its parts are just these values -/
def HasQ (C : Cl5) (H : Hp) (x : Addr) (xs : List V) : Prop := ∃ dx fs pa, H x = some (.ins C.L dx fs) ∧ fs.lookup ("parts" : Str) = some (.ref pa) ∧ H pa = some (.tup xs)
theorem HasQ.kpo {C : Cl5} {H H' : Hp} {x : Addr} {xs : List V} (e : KpO H H') (h : HasQ C H x xs) : HasQ C H' x xs := by
  obtain ⟨dx, fs, pa, h1, h2, h3⟩ := h
  exact ⟨dx, fs, pa, e _ _ rfl h1, h2, e _ _ rfl h3⟩
section
variable {P : Program} {w : World} {K : PySem.W.Frag} {mg : Str → Option Value} {base : Heap}
def NLI : List Str := ["self", "form", "parts", "spot", "part", "size", "levels"]
theorem scLikeInit : FnScope NLI ["self", "form", "parts"] (defScope sLikeInit) := ⟨rfl, rfl, rfl, by decide +kernel, rfl, by decide +kernel, by decide +kernel⟩
def spLikeInit (K : PySem.W.Frag) (C : Cl5) (CI : Addr) : Sp := fun vs H Q E => ∃ (x dx p : Addr) (n : V) (xs : List V) (pis : List PI), vs = [.ref x, n, .ref p] ∧ H x = some (.ins C.L dx []) ∧ H p = some (.tup xs) ∧ Val K H n ∧ Paired (LIAt K C H) xs pis ∧ pis.length ≤ 1000 ∧ joinB (partsOf pis) ≤ 16000000 ∧
  (match likeDue n pis with
   | some u => ∀ H' dd, Same H H' → H dd = none → H' dd = some (.xd [("part", u)]) → E (.ref CI) (some dd) H'
   | none => ∀ H' z, n = .str z → SameX x H H' → PtAt C H' (.ref x) (.nd true z (partsOf pis)) → HasQ C H' x xs → Q .non H')
structure TxtL (P : Program) (w : World) (K : PySem.W.Frag) (mg : Str → Option Value) (base : Heap) (C : Cl5) (CI fN fP fA fM fX : Addr) (fdN fdP fdA fdM fdX : FuncData) : Prop where
  er : ErrP P K mg CI
  enu : mg "enumerate" = none
  gL : mg "Like" = some (.ref C.L)
  mx : ∃ mc t1 t2, ClX.CRead K C.L mc ∧ ClX.CVal K C.L mc "MAX_SIZE" (.int 60) (.int 60 t1) ∧ ClX.CVal K C.L mc "MAX_LEVELS" (.int 8) (.int 8 t2)
  GN : FnOk P w K mg base CX0 1 fN fdN ["value"] (spName K)
  AN : DefA K mg "is_name" ["value"] fN fdN
  GP : FnOk P w K mg base CX0 3 fP fdP ["part"] (spLikePart K C)
  AP : DefA K mg "_is_like_part" ["part"] fP fdP
  GA : FnOk P w K mg base CX0 2 fA fdA ["parts"] (spNodes C)
  AA : DefA K mg "nodes_among" ["parts"] fA fdA
  GM : FnOk P w K mg base CX0 1 fM fdM ["nodes"] (spMeasures C)
  AM : DefA K mg "_measures_above" ["nodes"] fM fdM
  GX : FnOk P w K mg base CX0 3 fX fdX ["form", "parts"] (spNodeText C)
  AX : DefA K mg "_node_text" ["form", "parts"] fX fdX
theorem body_likeInit {C : Cl5} {CI fN fP fA fM fX : Addr} {fdN fdP fdA fdM fdX : FuncData} (T : TxtL P w K mg base C CI fN fP fA fM fX fdN fdP fdA fdM fdX) (T5 : Ty5 K C) (N5 : Na5 K C)
    {f : Addr} {cdv : Value} {A : Around} {outer : List Env} {s : Shared} {H : Hp} {vs : List V} {Q : VK} {E : XK} (hr : Room 3 (A.deeper (PyProof.Rows.envOfC "Like.__init__" (defScope sLikeInit) s.heap.objs.size f cdv))) (h : spLikeInit K C CI vs H Q E) :
    ∃ t, PSs (cxOf (L2.CX P w) P w K mg base NLI "Like.__init__" (defScope sLikeInit) f cdv A outer s H E) (defBody sLikeInit) t ∧ t { nx := fun _ H' => Q .non H', rt := Q } (L2.start NLI vs) H := by
  obtain ⟨x, dx, p, n, xs, pis, rfl, hx, hp0, hn, hp, hl, hj, k⟩ := h
  have hr2 : Room 2 _ := hr.mono (by decide)
  have hr1 : Room 1 _ := hr.mono (by decide)
  obtain ⟨mc, t1, t2, cr, cv1, cv2⟩ := T.mx
  have tkE : Takes (cxOf (L2.CX P w) P w K mg base NLI "Like.__init__" (defScope sLikeInit) f cdv A outer s H E) (fun cls dd _ H => E cls dd H) := takes_of rfl rfl rfl rfl
  refine ⟨_, pss_cons (ps_if (pt_not (pt_val (pe_call T.GN hr1 (by rfl) T.AN.g T.AN.k T.AN.b .nil pass0 (pa_cons (pv 1) pa_nil)))) (pss_one (ps_raise rfl tkE (pmk_part T.er hr2 rfl pe_str))) pss_nil)
    (pss_cons (ps_for (passes_of rfl) rfl (pi_enumT rfl T.enu (pa_cons (pv 2) pa_nil)) (pg_tup (by rfl) (pgs_cons (pg_name (i := 3) scLikeInit.nd rfl (.inl rfl)) (pgs_cons (pg_name (i := 4) scLikeInit.nd rfl (.inl rfl)) pgs_nil)))
      (pss_one (ps_if (pt_not (pt_val (pe_call T.GP hr (by rfl) T.AP.g T.AP.k T.AP.b .nil pass0 (pa_cons (pv 4) pa_nil)))) (pss_one (ps_raise rfl tkE (pmk_part T.er hr2 rfl (pv 3)))) pss_nil)))
    (pss_cons (ps_asg (pe_call T.GM hr1 (by rfl) T.AM.g T.AM.k T.AM.b .nil pass0 (pa_cons (pe_call T.GA hr2 (by rfl) T.AA.g T.AA.k T.AA.b .nil pass0 (pa_cons (pv 2) pa_nil)) pa_nil)) (pg_tup (by rfl) (pgs_cons (pg_name (i := 5) scLikeInit.nd rfl (.inl rfl)) (pgs_cons (pg_name (i := 6) scLikeInit.nd rfl (.inl rfl)) pgs_nil))))
    (pss_cons (ps_if (PW.pt (pw_or (pt_cmpR op_gt (pv 5) (ClX.pe_cval (pe_glob (v := .ref C.L) rfl T.gL rfl)) (nomark _)) (pw_or1 (pt_cmpR op_gt (pv 6) (ClX.pe_cval (pe_glob (v := .ref C.L) rfl T.gL rfl)) (nomark _))))) (pss_one (ps_raise rfl tkE (pmk_part T.er hr2 rfl pe_str))) pss_nil)
    (pss_cons (ps_fld (pv 0) (pv 1) rfl) (pss_cons (ps_fld (pv 0) (pv 2) rfl) (pss_cons (ps_fld (pv 0) (pv 5) rfl) (pss_cons (ps_fld (pv 0) (pv 6) rfl)
    (pss_one (ps_fld (pv 0) (pe_call T.GX hr (by rfl) T.AX.g T.AX.k T.AX.b .nil pass0 (pa_cons (pv 1) (pa_cons (pv 2) pa_nil))) rfl))))))))), ?_⟩
  have bad : ∀ (u : V) (H1 : Hp), likeDue n pis = some u → Same H H1 → ∀ dd, H1 dd = none → E (.ref CI) (some dd) (upd H1 dd (.xd [("part", u)])) := fun u H1 e s1 dd hdd => by
    rw [e] at k
    exact k _ dd (same_upd s1 (s1.free hdd)) (s1.free hdd) upd_same
  refine ⟨_, rfl, n, rfl, hn, fun H1 s1 => ⟨_, rfl, ?_⟩⟩
  cases hnv : nameV n with
  | false =>
    refine iteT ?_
    exact raise_ans fun dd hdd => bad _ _ (by unfold likeDue; rw [if_pos hnv]) s1 dd hdd
  | true =>
    refine iteF ?_
    obtain ⟨z, rfl⟩ : ∃ z, n = .str z := by
      cases n with
      | str z => exact ⟨z, rfl⟩
      | _ => cases hnv
    have e0 : likeDue (.str z) pis = match firstBad 0 pis with
      | some i => some (.int ((i : Nat) : Int))
      | none => if 60 < 1 + sizes (partsOf pis) ∨ 8 < levelss (partsOf pis) + 1 then some (.str "size") else none := by
      unfold likeDue
      rw [if_neg (by rw [hnv]; exact Bool.noConfusion)]
    refine ⟨_, rfl, p, xs, rfl, SqT.of (s1 _ _ hp0), for_it walk_enumT (fun i σ H' => ∃ v3 v4 : Option V, σ = [some (.ref x), some (.str z), some (.ref p), v3, v4, none, none] ∧ Same H H' ∧ firstBad 0 pis = firstBad i (pis.drop i))
      ⟨_, _, rfl, s1, rfl⟩ (fun i σ H' _ ⟨_, _, _, s', _⟩ => SqT.of (s' _ _ hp0)) ?_ ?_⟩
    · rintro i vv σ H2 H3 hi ⟨v3, v4, rfl, s2, fb⟩ ⟨Tp, y, u, rfl, hT, rfl, ey, ez⟩
      have ey : some (V.int (i : Nat)) = some y := ey
      cases ey
      have ez : xs[i]? = some u := ez
      obtain ⟨it, eit, hit⟩ := LiI.paired_get hp ez
      have hil : i < pis.length := (List.getElem?_eq_some_iff.mp eit).1
      have hdrop : pis.drop i = it :: pis.drop (i + 1) := by
        rw [List.drop_eq_getElem_cons hil]
        rw [List.getElem?_eq_getElem hil] at eit
        rw [Option.some.inj eit]
      have s3 : Same H (upd H2 Tp (.tup [.int (i : Nat), u])) := same_upd s2 (s2.free hT)
      refine ⟨Tp, _, rfl, .inl (.inl upd_same), rfl, _, _, rfl, ?_⟩
      refine ⟨_, _, rfl, rfl, ?_⟩
      have hit3 := hit.same s3
      generalize upd H2 Tp (.tup [.int (i : Nat), u]) = H3 at s3 hit3 ⊢
      cases it with
      | good t =>
        refine ⟨_, rfl, u, rfl, .inl ⟨t, hit3.1, hit3.2.2.1, fun H4 s4 => ⟨_, rfl, ?_⟩⟩⟩
        rw [hit3.2.1]
        refine iteF ?_
        exact ⟨_, _, rfl, s3.trans s4, by rw [fb, hdrop]; rfl⟩
      | bad =>
        refine ⟨_, rfl, u, rfl, .inr ⟨hit3, fun H4 s4 => ⟨_, rfl, ?_⟩⟩⟩
        refine iteT ?_
        refine ⟨_, rfl, ?_⟩
        exact raise_ans fun dd hdd => bad _ _ (by rw [e0, fb, hdrop]; rfl) (s3.trans s4) dd hdd
    · rintro σ H2 ⟨v3, v4, rfl, s2, fb⟩
      have xl := hp.length
      rw [xl, List.drop_length] at fb
      have fb : firstBad 0 pis = none := fb
      rw [fb] at e0
      dsimp only at e0
      obtain ⟨pts, okp, pl⟩ := good_allL hp fb
      obtain ⟨b1, b2, b3⟩ := below_okL fun t ht => (okp t ht).1
      generalize partsOf pis = ps at e0 pts okp pl b1 b2 b3 hj k ⊢
      have pts2 := PtsAt.kpo (KpO.same s2) ps pts
      refine ⟨_, rfl, p, xs, ps, rfl, s2 _ _ hp0, pts2, by omega, fun t ht => by
        have q := (okp t ht).2.1
        cases t with
        | row ts => exact q
        | _ => exact Nat.zero_le _, fun H3 ca cs s3 nca hca kids bl => ?_⟩
      refine ⟨ca, cs, below ps, rfl, hca, bl, b3, fun H4 tp s4 ntp htp => ?_⟩
      refine ⟨tp, _, rfl, .inl (.inl htp), rfl, _, _, rfl, ?_⟩
      refine ⟨_, _, rfl, rfl, ?_⟩
      rw [b1, b2]
      have s34 := s2.trans s3
      have s04 := s34.trans s4
      refine ⟨_, rfl, C.L, mc, _, _, rfl, cr, cv1, _, _, rfl, rfl, _, rfl, ?_⟩
      refine ite2 (fun h1 => ?_) (fun h1 => ?_)
      · have h1 := of_decide_eq_true h1
        refine iteT ?_
        exact raise_ans fun dd hdd => bad _ _ (by rw [e0, if_pos (.inl (by omega))]) s04 dd hdd
      have h1 : ¬ (60 : Int) < ((1 + sizes ps : Nat) : Int) := fun q => h1 (decide_eq_true q)
      refine ⟨_, rfl, C.L, mc, _, _, rfl, cr, cv2, _, _, rfl, rfl, _, rfl, ?_⟩
      refine ite2 (fun h2 => ?_) (fun h2 => ?_)
      · have h2 := of_decide_eq_true h2
        exact raise_ans fun dd hdd => bad _ _ (by rw [e0, if_pos (.inr (by omega))]) s04 dd hdd
      have h2 : ¬ (8 : Int) < ((levelss ps + 1 : Nat) : Int) := fun q => h2 (decide_eq_true q)
      have e1 : likeDue (.str z) pis = none := by rw [e0, if_neg (fun q => q.elim (fun q => h1 (by omega)) (fun q => h2 (by omega)))]
      rw [e1] at k
      have k : ∀ H' z', V.str z = .str z' → SameX x H H' → PtAt C H' (.ref x) (.nd true z' ps) → HasQ C H' x xs → Q .non H' := k
      have mL : C.L ∈ C.all := C.n_mem true
      have cl := (T5.own _ mL).cl
      have hx4 := s04 _ _ hx
      have zl : z.length ≤ 20 := nameS_len hnv
      refine ⟨_, rfl, _, rfl, x, C.L, dx, _, rfl, hx4, cl, N5.na _ mL _ (by decide +kernel), (by show 0 < 1000; decide), ?_⟩
      refine ⟨_, rfl, _, rfl, x, C.L, dx, _, rfl, upd_same, cl, N5.na _ mL _ (by decide +kernel), (by show 1 < 1000; decide), ?_⟩
      rw [upd_upd]
      refine ⟨_, rfl, _, rfl, x, C.L, dx, _, rfl, upd_same, cl, N5.na _ mL _ (by decide +kernel), (by show 2 < 1000; decide), ?_⟩
      rw [upd_upd]
      refine ⟨_, rfl, _, rfl, x, C.L, dx, _, rfl, upd_same, cl, N5.na _ mL _ (by decide +kernel), (by show 3 < 1000; decide), ?_⟩
      rw [upd_upd]
      generalize eF : putF "levels" (V.int ((levelss ps + 1 : Nat) : Int)) _ = F5
      generalize e5 : upd H4 x (.ins C.L dx F5) = H5
      have X5 : SameX x H4 H5 := by rw [← e5]; exact SameX.upd
      have hx5 : H5 x = some (.ins C.L dx F5) := by rw [← e5, upd_same]
      have pts4 := PtsAt.kpo (KpO.same (s3.trans s4)) ps pts2
      have pts5 := PtsAt.kx hx4 X5 ps pts4
      have np : p ≠ x := fun q => by rw [q, hx] at hp0; cases hp0
      have hp5 := X5 _ _ np (s04 _ _ hp0)
      clear e5
      refine ⟨_, rfl, _, rfl, z, p, xs, ps, rfl, hp5, pts5, fun t ht => (okp t ht).2.2, by omega, hj, by omega, fun H6 s6 => ?_⟩
      refine ⟨_, rfl, x, C.L, dx, _, rfl, s6 _ _ hx5, cl, N5.na _ mL _ (by decide +kernel), ?_, ?_⟩
      · rw [← eF]
        show 4 < 1000
        decide
      have X6 : SameX x H5 (upd H6 x (.ins C.L dx (putF "text" (.str (z ++ "(" ++ Txt.join ", " (saids ps) ++ ")")) F5))) := SameX.trans (Same.x s6) SameX.upd
      have XX : SameX x H (upd H6 x (.ins C.L dx (putF "text" (.str (z ++ "(" ++ Txt.join ", " (saids ps) ++ ")")) F5))) := SameX.trans (Same.x s04) (SameX.trans X5 X6)
      have lkP : (putF "text" (V.str (z ++ "(" ++ Txt.join ", " (saids ps) ++ ")")) F5).lookup ("parts" : Str) = some (.ref p) := by rw [lk_put3 at2.2.2.2, ← eF, lk_put3 at2.2.2.1, lk_put3 at2.2.1, lk_put1]
      refine k _ z rfl XX ⟨x, dx, _, p, xs, rfl, upd_same, ?_, lkP, XX _ _ np hp0, PtsAt.kx hx XX ps pts, ?_, ?_, lk_put1, fun z => nomatch z⟩ ⟨dx, _, p, upd_same, lkP, XX _ _ np hp0⟩
      · rw [lk_put3 at1.2.2.2.2, ← eF, lk_put3 at1.2.2.2.1, lk_put3 at1.2.2.1, lk_put3 at1.1, lk_put1]
      · rw [lk_put3 at4.2.1, ← eF, lk_put3 at4.1, lk_put1]
      · rw [lk_put3 at4.2.2, ← eF, lk_put1]
def spLikeNew (K : PySem.W.Frag) (C : Cl5) (CI : Addr) : Sp := fun vs H Q E => ∃ ws rest, vs = ws ++ rest ∧ ws.length = ([("self" : Str), ("form" : Str)] : List Str).length ∧ rest.length ≤ sizeLine ∧ ∀ p, H p = none → spLikeInit K C CI (ws ++ [V.ref p]) (upd H p (.tup rest)) Q E
theorem likeInit_fnR {C : Cl5} {CI fN fP fA fM fX f : Addr} {fd fdN fdP fdA fdM fdX : FuncData} (F : Fun K "__init__" "Like.__init__" sLikeInit f fd) (T : TxtL P w K mg base C CI fN fP fA fM fX fdN fdP fdA fdM fdX) (T5 : Ty5 K C) (N5 : Na5 K C) : FnR P w K mg base (L2.CX P w) 4 f (spLikeNew K C CI) := by
  obtain ⟨oc, od, kV, doc, pm, an, cdv, ct, osl, rfl, lk, hcd⟩ := F.ex
  refine StX.fn_star (N := NLI) (ps := ["self", "form"]) (pv := "parts") lk hcd scLikeInit StX.cxUp ?_ fun A outer s H vs Q E hr h => body_likeInit T T5 N5 hr h
  intro us rest hl
  match us, hl with
  | [a, b], _ => cases rest <;> rfl
def LikeRes (C : Cl5) (CI : Addr) (n : V) (xs : List V) (pis : List PI) (E : XK) (H : Hp) (Q : VK) : Prop := match likeDue n pis with
  | some u => ∀ H' dd, Same H H' → H dd = none → H' dd = some (.xd [("part", u)]) → E (.ref CI) (some dd) H'
  | none => ∀ H' x z, n = .str z → Same H H' → H x = none → PtAt C H' (.ref x) (.nd true z (partsOf pis)) → HasQ C H' x xs → Q (.ref x) H'
theorem LikeRes.same {C : Cl5} {CI : Addr} {n : V} {xs : List V} {pis : List PI} {E : XK} {H H2 : Hp} {Q : VK} (k : LikeRes C CI n xs pis E H Q) (s : Same H H2) : LikeRes C CI n xs pis E H2 Q := by
  unfold LikeRes at k ⊢
  cases e : likeDue n pis with
  | some u =>
    rw [e] at k
    exact fun H' dd s' nd hd => k H' dd (s.trans s') (s.free nd) hd
  | none =>
    rw [e] at k
    exact fun H' x z ez s' nx at_ hpp => k H' x z ez (s.trans s') (s.free nx) at_ hpp
theorem like_made {C : Cl5} {CI : Addr} {n : V} {xs : List V} {pis : List PI} {H : Hp} {Q : VK} {E : XK} (hn : Val K H n) (hp : Paired (LIAt K C H) xs pis) (hl : pis.length ≤ 1000) (hj : joinB (partsOf pis) ≤ 16000000) (k : LikeRes C CI n xs pis E H Q) {x dx : Addr} (nx : H x = none) (ndx : H dx = none) :
    spLikeNew K C CI (.ref x :: n :: xs) (upd (upd H dx (.own x)) x (.ins C.L dx [])) (fun v H2 => v = .non ∧ Q (.ref x) H2) E := by
  refine ⟨[.ref x, n], xs, rfl, rfl, by rw [hp.length]; exact Nat.le_trans hl (by decide), fun p np => ?_⟩
  have s1 : Same H (upd (upd H dx (.own x)) x (.ins C.L dx [])) := fun b o e => by
    rw [upd_ne (ne_of_none e nx), upd_ne (ne_of_none e ndx)]
    exact e
  have hx1 : (upd (upd H dx (.own x)) x (.ins C.L dx [])) x = some (.ins C.L dx []) := upd_same
  have s2 : Same H (upd (upd (upd H dx (.own x)) x (.ins C.L dx [])) p (.tup xs)) := same_upd s1 (s1.free np)
  have hx2 : (upd (upd (upd H dx (.own x)) x (.ins C.L dx [])) p (.tup xs)) x = some (.ins C.L dx []) := by rw [upd_ne (ne_of_none hx1 np)]; exact hx1
  refine ⟨x, dx, p, n, xs, pis, rfl, hx2, upd_same, hn.same s2, Paired.mapP hp fun a b q => q.same s2, hl, hj, ?_⟩
  unfold LikeRes at k
  cases e : likeDue n pis with
  | some u =>
    rw [e] at k
    exact fun H' dd s' nd hd => k H' dd (s2.trans s') (s2.free nd) hd
  | none =>
    rw [e] at k
    exact fun H' z ez sX at_ hpp => ⟨rfl, k H' x z ez (fun b o q => sX b o (ne_of_none q nx) (s2 b o q)) nx at_ hpp⟩
end
end K3

namespace K3
open PySem PySem.Spec PyProof.Rows L2 E0
/-- a promise by positional values and keywords -/
def FnRK (P : Program) (w : World) (K : PySem.W.Frag) (mg : Str → Option Value) (base : Heap) (k : Nat) (f : Addr) (ks : List Str) (sp : List V → Sp) : Prop :=
  ∀ (A : Around) (outer : List Env) (s : Shared) (H : Hp) (us ws : List Value) (vs zs : List V) (Q : VK) (E : XK), Room k A → Env0 P w K mg base A outer s H → Vals vs us → Vals zs ws → sp vs zs H Q E →
    codeAny (model P w) A (.call (.ref f) ⟨us, ks.zip ws⟩) (CR (L2.CX P w) outer P w H s Q E) s
/-- no positional argument: an instance from keywords -/
def tMakeK (C : Addr) (sp : List V → Sp) (E : XK) (tk : TA) : TE := fun σ H Q => tk σ H fun zs H2 => ∀ x dx, H2 x = none → H2 dx = none → dx ≠ x → sp [.ref x] zs (upd (upd H2 dx (.own x)) x (.ins C dx [])) (fun v H3 => v = .non ∧ Q (.ref x) H3) E
section
variable {X : Cx} {k : Nat} {f C : Addr} {ks : List Str} {sp : List V → Sp} {E : XK} {x : Str} {p pos : Pos} {kws : List Keyword} {tk : TA}
theorem run_makeK {pins : List (Addr × Obj)} {σ : L2.St} {H : Hp} {s : Shared} {Q : VK} {ws : List Value} {zs : List V} (M : Mk X.K C f) (F : FnRK X.prog X.w X.K X.mg X.base k f ks sp) (hr : Room (k + 1) X.A) (hx : Passes (L2.CX X.prog X.w) X E) (I : L2.Inv X pins σ H s) (rz : Vals zs ws)
    (h : ∀ x dx, H x = none → H dx = none → dx ≠ x → sp [.ref x] zs (upd (upd H dx (.own x)) x (.ins C dx [])) (fun v H2 => v = .non ∧ Q (.ref x) H2) E) : wpAny (model X.prog X.w) X.A (call (.ref C) [] (ks.zip ws)) (EP X pins σ Q) X.xe s := by
  have hq := h (s.heap.objs.size + 1) s.heap.objs.size (I.hok.fresh (Nat.le_succ _)) (I.hok.fresh (Nat.le_refl _)) (Nat.ne_of_lt (Nat.lt_succ_self _))
  have I2 := Inv.made (C := C) I
  have run := F _ X.stack _ _ [Value.ref (s.heap.objs.size + 1)] ws [V.ref (s.heap.objs.size + 1)] zs _ E (hr.make C [] (ks.zip ws)) (I2.env0.make C [] (ks.zip ws)) (.cons rfl .nil) rz hq
  refine wpAny_call (make_map (f := f) I.kIn M.makes M.init (beq_iff_eq.mp M.fn) (codeAny_mono run fun r s' z => ?_))
  match r, z with
  | .error e, z => exact hx pins σ _ _ e s' I2 z
  | .ok (.ret u), z =>
    obtain ⟨v, H', I3, rv, ev, q3⟩ := I2.after z
    subst ev
    exact ⟨rv, ⟨V.ref (s.heap.objs.size + 1), H', I3, rfl, q3⟩⟩
theorem pe_makeK (M : Mk X.K C f) (F : FnRK X.prog X.w X.K X.mg X.base k f ks sp) (hr : Room (k + 1) X.A) (hg : Gl X x) (hm : X.mg x = some (.ref C)) (hx : Passes (L2.CX X.prog X.w) X E) (hkw : PK X kws tk)
    (hall : (backToKw pos (keywordEach kws X.env)).all (·.1.isSome) = true := by rfl) (hks : (backToKw pos (keywordEach kws X.env)).filterMap (·.1) = ks := by rfl) (hdb : (x == ("__debug__" : Str)) = false := by decide)
    (hpl : ((backTo pos (starEach [] X.env)).any (·.1) || (backToKw pos (keywordEach kws X.env)).any (·.1.isNone)) = false := by rfl) : PE X (.Call (.Name x p) [] kws pos) (tMakeK C sp E tk) := by
  refine ⟨fun pins s σ H Q I h => ?_⟩
  refine wpAny_Call_Name_kw (ld_glob I hg hm ?_ hdb)
  refine PySem.W.callWith_KW0 (h₀ := X.base) I.ok.mod.kin M.kp hall (thn (hkw.run pos pins s σ H _ I h) fun ws s2 ⟨zs, H2, I2, rz, q2⟩ => ⟨I2.kIn, ?_⟩) hpl
  rw [hks]
  exact run_makeK M F hr hx I2 rz q2
end
/-! ### variables are made, or refused -/
section
variable {P : Program} {w : World} {K : PySem.W.Frag} {mg : Str → Option Value} {base : Heap}
def spVarE (K : PySem.W.Frag) (C : Cl5) (CI : Addr) (j : Nat) : Sp := fun vs H Q E => ∃ (x dx : Addr) (n : V), vs = [.ref x, n] ∧ H x = some (.ins (C.v j) dx []) ∧ Val K H n ∧
  (match nameV n with
   | false => ∀ H' dd, Same H H' → H dd = none → H' dd = some (.xd [("part", .str "name")]) → E (.ref CI) (some dd) H'
   | true => ∀ H' z, n = .str z → SameX x H H' → PtAt C H' (.ref x) (.vr j z) → Q .non H')
def spVarK (K : PySem.W.Frag) (C : Cl5) (CI : Addr) (j : Nat) : List V → Sp := fun vs zs H Q E => ∃ x z, vs = [x] ∧ zs = [z] ∧ spVarE K C CI j [x, z] H Q E
def VarRes (C : Cl5) (CI : Addr) (j : Nat) (n : V) (E : XK) (H : Hp) (Q : VK) : Prop := match nameV n with
  | false => ∀ H' dd, Same H H' → H dd = none → H' dd = some (.xd [("part", .str "name")]) → E (.ref CI) (some dd) H'
  | true => ∀ H' x z, n = .str z → Same H H' → H x = none → PtAt C H' (.ref x) (.vr j z) → Q (.ref x) H'
theorem var_made {C : Cl5} {CI : Addr} {j : Nat} {n : V} {H : Hp} {Q : VK} {E : XK} (hn : Val K H n) (k : VarRes C CI j n E H Q) {x dx : Addr} (nx : H x = none) (ndx : H dx = none) :
    spVarE K C CI j [.ref x, n] (upd (upd H dx (.own x)) x (.ins (C.v j) dx [])) (fun v H2 => v = .non ∧ Q (.ref x) H2) E := by
  have s1 : Same H (upd (upd H dx (.own x)) x (.ins (C.v j) dx [])) := fun b o e => by
    rw [upd_ne (ne_of_none e nx), upd_ne (ne_of_none e ndx)]
    exact e
  refine ⟨x, dx, n, rfl, upd_same, hn.same s1, ?_⟩
  unfold VarRes at k
  cases e : nameV n with
  | false =>
    rw [e] at k
    exact fun H' dd s' nd hd => k H' dd (s1.trans s') (s1.free nd) hd
  | true =>
    rw [e] at k
    exact fun H' z ez sX at_ => ⟨rfl, k H' x z ez (fun b o q => sX b o (ne_of_none q nx) (s1 b o q)) nx at_⟩
def NVI : List Str := ["self", "name"]
theorem at5 : ¬ ("name" : Str) = "text" ∧ ¬ ("name" : Str) = "size" ∧ ¬ ("name" : Str) = "levels" ∧ ¬ ("text" : Str) = "size" ∧ ¬ ("text" : Str) = "levels" := by decide +kernel
theorem scVarInit : FnScope NVI ["self", "name"] (defScope sVarInit) := ⟨rfl, rfl, rfl, by decide +kernel, rfl, by decide +kernel, by decide +kernel⟩
theorem body_varInit {C : Cl5} {CI fN : Addr} {fdN : FuncData} (er : ErrP P K mg CI) (GN : FnOk P w K mg base CX0 1 fN fdN ["value"] (spName K)) (AN : DefA K mg "is_name" ["value"] fN fdN) (T5 : Ty5 K C) (N5 : Na5 K C)
    {f : Addr} {cdv : Value} {A : Around} {outer : List Env} {s : Shared} {H : Hp} {vs : List V} {Q : VK} {E : XK} (hr : Room 2 (A.deeper (PyProof.Rows.envOfC "Var.__init__" (defScope sVarInit) s.heap.objs.size f cdv))) (h : spVarE K C CI 0 vs H Q E) :
    ∃ t, PSs (cxOf (L2.CX P w) P w K mg base NVI "Var.__init__" (defScope sVarInit) f cdv A outer s H E) (defBody sVarInit) t ∧ t { nx := fun _ H' => Q .non H', rt := Q } (L2.start NVI vs) H := by
  obtain ⟨x, dx, n, rfl, hx, hn, k⟩ := h
  have hr1 : Room 1 _ := hr.mono (by decide)
  have tkE : Takes (cxOf (L2.CX P w) P w K mg base NVI "Var.__init__" (defScope sVarInit) f cdv A outer s H E) (fun cls dd _ H => E cls dd H) := takes_of rfl rfl rfl rfl
  refine ⟨_, pss_cons (ps_if (pt_not (pt_val (pe_call GN hr1 (by rfl) AN.g AN.k AN.b .nil pass0 (pa_cons (pv 1) pa_nil)))) (pss_one (ps_raise rfl tkE (pmk_part er hr rfl pe_str))) pss_nil)
      (pss_cons (ps_fld (pv 0) (pv 1) rfl) (pss_cons (ps_fld (pv 0) (pv 1) rfl) (pss_cons (ps_fld (pv 0) pe_int rfl) (pss_one (ps_fld (pv 0) pe_int rfl))))), ?_⟩
  have mV := C.v_mem 0
  have cl := (T5.own _ mV).cl
  refine ⟨_, rfl, n, rfl, hn, fun H1 s1 => ⟨_, rfl, ?_⟩⟩
  have big : (1000 : Nat) < sizeLine := by decide
  cases hnv : nameV n with
  | false =>
    rw [hnv] at k
    refine iteT ?_
    exact raise_ans fun dd hdd => k _ dd (same_upd s1 (s1.free hdd)) (s1.free hdd) upd_same
  | true =>
    rw [hnv] at k
    refine iteF ?_
    obtain ⟨z, rfl⟩ : ∃ z, n = .str z := by
      cases n with
      | str z => exact ⟨z, rfl⟩
      | _ => cases hnv
    have nl := nameS_len (show nameS z = true from hnv)
    have k : ∀ H' z', V.str z = .str z' → SameX x H H' → PtAt C H' (.ref x) (.vr 0 z') → Q .non H' := k
    refine ⟨_, rfl, _, rfl, x, C.V, dx, _, rfl, s1 _ _ hx, cl, N5.na _ mV _ (by decide +kernel), (by show 0 < 1000; decide), ?_⟩
    refine ⟨_, rfl, _, rfl, x, C.V, dx, _, rfl, upd_same, cl, N5.na _ mV _ (by decide +kernel), (by show 1 < 1000; decide), ?_⟩
    rw [upd_upd]
    refine ⟨_, rfl, x, C.V, dx, _, rfl, upd_same, cl, N5.na _ mV _ (by decide +kernel), (by show 2 < 1000; decide), ?_⟩
    rw [upd_upd]
    refine ⟨_, rfl, x, C.V, dx, _, rfl, upd_same, cl, N5.na _ mV _ (by decide +kernel), (by show 3 < 1000; decide), ?_⟩
    rw [upd_upd]
    refine k _ z rfl (SameX.trans (Same.x s1) SameX.upd) ⟨x, dx, _, rfl, upd_same, ?_, ?_, fun _ => ⟨?_, ?_⟩⟩
    · rw [lk_put3 at5.2.2.1, lk_put3 at5.2.1, lk_put3 at5.1, lk_put1]
    · rw [lk_put3 at5.2.2.2.2, lk_put3 at5.2.2.2.1, lk_put1]
      rfl
    · rw [lk_put3 at4.1, lk_put1]
    · rw [lk_put1]
theorem ok_varInit {C : Cl5} {CI f fN : Addr} {fd fdN : FuncData} (F : Fun K "__init__" "Var.__init__" sVarInit f fd) (er : ErrP P K mg CI) (GN : FnOk P w K mg base CX0 1 fN fdN ["value"] (spName K)) (AN : DefA K mg "is_name" ["value"] fN fdN) (T5 : Ty5 K C) (N5 : Na5 K C) : FnOk P w K mg base (L2.CX P w) 3 f fd ["self", "name"] (spVarE K C CI 0) := by
  refine F.okX scVarInit (fun vs H Q E h => ?_) (fun cdv A outer s H vs Q E hr h => body_varInit er GN AN T5 N5 hr h)
  obtain ⟨x, dx, n, rfl, _⟩ := h
  rfl
open StX in
theorem varInit_kw {C : Cl5} {CI f fN : Addr} {fd fdN : FuncData} (F : Fun K "__init__" "Var.__init__" sVarInit f fd) (er : ErrP P K mg CI) (GN : FnOk P w K mg base CX0 1 fN fdN ["value"] (spName K)) (AN : DefA K mg "is_name" ["value"] fN fdN) (T5 : Ty5 K C) (N5 : Na5 K C) : FnRK P w K mg base 3 f ["name"] (spVarK K C CI 0) := by
  obtain ⟨oc, od, kV, doc, pm, an, cdv, ct, osl, rfl, lk, hcd⟩ := F.ex
  intro A outer s H us ws vs zs Q E hr e0 r rz hsp
  obtain ⟨x, z, rfl, rfl, hq⟩ := hsp
  obtain ⟨u, rfl, ru⟩ := vals1 r
  obtain ⟨v, rfl, rv⟩ := vals1 rz
  refine run_bnd lk hcd scVarInit hr e0 (G := fun xs H2 => xs = [x, z] ∧ H2 = H) (fun A' Ex Q' h => ?_) fun s2 H2 xs ⟨ex, eH⟩ hr' => ?_
  · have eb : bindArgs (PySem.W.fnOf "__init__" "Var.__init__" (defArgs sVarInit) (defBody sVarInit) (defScope sVarInit) .none kV doc pm an cdv ct) ⟨[u], [(("name" : Str), v)]⟩ = pure [(("self" : Str), u), (("name" : Str), v)] := rfl
    rw [show (["name"] : List Str).zip [v] = [(("name" : Str), v)] from rfl, eb]
    refine wpAny_pure ?_
    exact h s H [x, z] [u, v] e0 Un.refl rfl (fun e s' => cxUp outer s H _ _ E e s' Un.refl (fun b o q => q) rfl) (.cons ru (.cons rv .nil)) rfl ⟨rfl, rfl⟩
  · subst ex eH
    exact body_varInit er GN AN T5 N5 hr' hq
theorem scWordInit : FnScope NVI ["self", "name"] (defScope sWordInit) := ⟨rfl, rfl, rfl, by decide +kernel, rfl, by decide +kernel, by decide +kernel⟩
theorem body_wordInit {C : Cl5} {CI fN : Addr} {fdN : FuncData} (er : ErrP P K mg CI) (GN : FnOk P w K mg base CX0 1 fN fdN ["value"] (spName K)) (AN : DefA K mg "is_name" ["value"] fN fdN) (T5 : Ty5 K C) (N5 : Na5 K C)
    {f : Addr} {cdv : Value} {A : Around} {outer : List Env} {s : Shared} {H : Hp} {vs : List V} {Q : VK} {E : XK} (hr : Room 2 (A.deeper (PyProof.Rows.envOfC "Word.__init__" (defScope sWordInit) s.heap.objs.size f cdv))) (h : spVarE K C CI 1 vs H Q E) :
    ∃ t, PSs (cxOf (L2.CX P w) P w K mg base NVI "Word.__init__" (defScope sWordInit) f cdv A outer s H E) (defBody sWordInit) t ∧ t { nx := fun _ H' => Q .non H', rt := Q } (L2.start NVI vs) H := by
  obtain ⟨x, dx, n, rfl, hx, hn, k⟩ := h
  have hr1 : Room 1 _ := hr.mono (by decide)
  have tkE : Takes (cxOf (L2.CX P w) P w K mg base NVI "Word.__init__" (defScope sWordInit) f cdv A outer s H E) (fun cls dd _ H => E cls dd H) := takes_of rfl rfl rfl rfl
  refine ⟨_, pss_cons (ps_if (pt_not (pt_val (pe_call GN hr1 (by rfl) AN.g AN.k AN.b .nil pass0 (pa_cons (pv 1) pa_nil)))) (pss_one (ps_raise rfl tkE (pmk_part er hr rfl pe_str))) pss_nil)
      (pss_cons (ps_fld (pv 0) (pv 1) rfl) (pss_one (ps_fld (pv 0) (pe_op op_add_str pe_str (pv 1)) rfl))), ?_⟩
  have mV := C.v_mem 1
  have cl := (T5.own _ mV).cl
  refine ⟨_, rfl, n, rfl, hn, fun H1 s1 => ⟨_, rfl, ?_⟩⟩
  have big : (1000 : Nat) < sizeLine := by decide
  cases hnv : nameV n with
  | false =>
    rw [hnv] at k
    refine iteT ?_
    exact raise_ans fun dd hdd => k _ dd (same_upd s1 (s1.free hdd)) (s1.free hdd) upd_same
  | true =>
    rw [hnv] at k
    refine iteF ?_
    obtain ⟨z, rfl⟩ : ∃ z, n = .str z := by
      cases n with
      | str z => exact ⟨z, rfl⟩
      | _ => cases hnv
    have nl := nameS_len (show nameS z = true from hnv)
    have k : ∀ H' z', V.str z = .str z' → SameX x H H' → PtAt C H' (.ref x) (.vr 1 z') → Q .non H' := k
    have e1 : ("$" : Str).length = 1 := by decide +kernel
    refine ⟨_, rfl, _, rfl, x, C.W, dx, _, rfl, s1 _ _ hx, cl, N5.na _ mV _ (by decide +kernel), (by show 0 < 1000; decide), ?_⟩
    refine ⟨_, rfl, _, _, rfl, rfl, by rw [e1]; omega, _, rfl, x, C.W, dx, _, rfl, upd_same, cl, N5.na _ mV _ (by decide +kernel), (by show 1 < 1000; decide), ?_⟩
    rw [upd_upd]
    refine k _ z rfl (SameX.trans (Same.x s1) SameX.upd) ⟨x, dx, _, rfl, upd_same, ?_, ?_, fun z => nomatch z⟩
    · rw [lk_put3 at5.1, lk_put1]
    · rw [lk_put1]
      rfl
theorem ok_wordInit {C : Cl5} {CI f fN : Addr} {fd fdN : FuncData} (F : Fun K "__init__" "Word.__init__" sWordInit f fd) (er : ErrP P K mg CI) (GN : FnOk P w K mg base CX0 1 fN fdN ["value"] (spName K)) (AN : DefA K mg "is_name" ["value"] fN fdN) (T5 : Ty5 K C) (N5 : Na5 K C) : FnOk P w K mg base (L2.CX P w) 3 f fd ["self", "name"] (spVarE K C CI 1) := by
  refine F.okX scWordInit (fun vs H Q E h => ?_) (fun cdv A outer s H vs Q E hr h => body_wordInit er GN AN T5 N5 hr h)
  obtain ⟨x, dx, n, rfl, _⟩ := h
  rfl
open StX in
theorem wordInit_kw {C : Cl5} {CI f fN : Addr} {fd fdN : FuncData} (F : Fun K "__init__" "Word.__init__" sWordInit f fd) (er : ErrP P K mg CI) (GN : FnOk P w K mg base CX0 1 fN fdN ["value"] (spName K)) (AN : DefA K mg "is_name" ["value"] fN fdN) (T5 : Ty5 K C) (N5 : Na5 K C) : FnRK P w K mg base 3 f ["name"] (spVarK K C CI 1) := by
  obtain ⟨oc, od, kV, doc, pm, an, cdv, ct, osl, rfl, lk, hcd⟩ := F.ex
  intro A outer s H us ws vs zs Q E hr e0 r rz hsp
  obtain ⟨x, z, rfl, rfl, hq⟩ := hsp
  obtain ⟨u, rfl, ru⟩ := vals1 r
  obtain ⟨v, rfl, rv⟩ := vals1 rz
  refine run_bnd lk hcd scWordInit hr e0 (G := fun xs H2 => xs = [x, z] ∧ H2 = H) (fun A' Ex Q' h => ?_) fun s2 H2 xs ⟨ex, eH⟩ hr' => ?_
  · have eb : bindArgs (PySem.W.fnOf "__init__" "Word.__init__" (defArgs sWordInit) (defBody sWordInit) (defScope sWordInit) .none kV doc pm an cdv ct) ⟨[u], [(("name" : Str), v)]⟩ = pure [(("self" : Str), u), (("name" : Str), v)] := rfl
    rw [show (["name"] : List Str).zip [v] = [(("name" : Str), v)] from rfl, eb]
    refine wpAny_pure ?_
    exact h s H [x, z] [u, v] e0 Un.refl rfl (fun e s' => cxUp outer s H _ _ E e s' Un.refl (fun b o q => q) rfl) (.cons ru (.cons rv .nil)) rfl ⟨rfl, rfl⟩
  · subst ex eH
    exact body_wordInit er GN AN T5 N5 hr' hq
theorem scRestInit : FnScope NVI ["self", "name"] (defScope sRestInit) := ⟨rfl, rfl, rfl, by decide +kernel, rfl, by decide +kernel, by decide +kernel⟩
theorem body_restInit {C : Cl5} {CI fN : Addr} {fdN : FuncData} (er : ErrP P K mg CI) (GN : FnOk P w K mg base CX0 1 fN fdN ["value"] (spName K)) (AN : DefA K mg "is_name" ["value"] fN fdN) (T5 : Ty5 K C) (N5 : Na5 K C)
    {f : Addr} {cdv : Value} {A : Around} {outer : List Env} {s : Shared} {H : Hp} {vs : List V} {Q : VK} {E : XK} (hr : Room 2 (A.deeper (PyProof.Rows.envOfC "Rest.__init__" (defScope sRestInit) s.heap.objs.size f cdv))) (h : spVarE K C CI 2 vs H Q E) :
    ∃ t, PSs (cxOf (L2.CX P w) P w K mg base NVI "Rest.__init__" (defScope sRestInit) f cdv A outer s H E) (defBody sRestInit) t ∧ t { nx := fun _ H' => Q .non H', rt := Q } (L2.start NVI vs) H := by
  obtain ⟨x, dx, n, rfl, hx, hn, k⟩ := h
  have hr1 : Room 1 _ := hr.mono (by decide)
  have tkE : Takes (cxOf (L2.CX P w) P w K mg base NVI "Rest.__init__" (defScope sRestInit) f cdv A outer s H E) (fun cls dd _ H => E cls dd H) := takes_of rfl rfl rfl rfl
  refine ⟨_, pss_cons (ps_if (pt_not (pt_val (pe_call GN hr1 (by rfl) AN.g AN.k AN.b .nil pass0 (pa_cons (pv 1) pa_nil)))) (pss_one (ps_raise rfl tkE (pmk_part er hr rfl pe_str))) pss_nil)
      (pss_cons (ps_fld (pv 0) (pv 1) rfl) (pss_one (ps_fld (pv 0) (pe_op op_add_str pe_str (pv 1)) rfl))), ?_⟩
  have mV := C.v_mem 2
  have cl := (T5.own _ mV).cl
  refine ⟨_, rfl, n, rfl, hn, fun H1 s1 => ⟨_, rfl, ?_⟩⟩
  have big : (1000 : Nat) < sizeLine := by decide
  cases hnv : nameV n with
  | false =>
    rw [hnv] at k
    refine iteT ?_
    exact raise_ans fun dd hdd => k _ dd (same_upd s1 (s1.free hdd)) (s1.free hdd) upd_same
  | true =>
    rw [hnv] at k
    refine iteF ?_
    obtain ⟨z, rfl⟩ : ∃ z, n = .str z := by
      cases n with
      | str z => exact ⟨z, rfl⟩
      | _ => cases hnv
    have nl := nameS_len (show nameS z = true from hnv)
    have k : ∀ H' z', V.str z = .str z' → SameX x H H' → PtAt C H' (.ref x) (.vr 2 z') → Q .non H' := k
    have e1 : ("*" : Str).length = 1 := by decide +kernel
    refine ⟨_, rfl, _, rfl, x, C.R, dx, _, rfl, s1 _ _ hx, cl, N5.na _ mV _ (by decide +kernel), (by show 0 < 1000; decide), ?_⟩
    refine ⟨_, rfl, _, _, rfl, rfl, by rw [e1]; omega, _, rfl, x, C.R, dx, _, rfl, upd_same, cl, N5.na _ mV _ (by decide +kernel), (by show 1 < 1000; decide), ?_⟩
    rw [upd_upd]
    refine k _ z rfl (SameX.trans (Same.x s1) SameX.upd) ⟨x, dx, _, rfl, upd_same, ?_, ?_, fun z => nomatch z⟩
    · rw [lk_put3 at5.1, lk_put1]
    · rw [lk_put1]
      rfl
theorem ok_restInit {C : Cl5} {CI f fN : Addr} {fd fdN : FuncData} (F : Fun K "__init__" "Rest.__init__" sRestInit f fd) (er : ErrP P K mg CI) (GN : FnOk P w K mg base CX0 1 fN fdN ["value"] (spName K)) (AN : DefA K mg "is_name" ["value"] fN fdN) (T5 : Ty5 K C) (N5 : Na5 K C) : FnOk P w K mg base (L2.CX P w) 3 f fd ["self", "name"] (spVarE K C CI 2) := by
  refine F.okX scRestInit (fun vs H Q E h => ?_) (fun cdv A outer s H vs Q E hr h => body_restInit er GN AN T5 N5 hr h)
  obtain ⟨x, dx, n, rfl, _⟩ := h
  rfl
open StX in
theorem restInit_kw {C : Cl5} {CI f fN : Addr} {fd fdN : FuncData} (F : Fun K "__init__" "Rest.__init__" sRestInit f fd) (er : ErrP P K mg CI) (GN : FnOk P w K mg base CX0 1 fN fdN ["value"] (spName K)) (AN : DefA K mg "is_name" ["value"] fN fdN) (T5 : Ty5 K C) (N5 : Na5 K C) : FnRK P w K mg base 3 f ["name"] (spVarK K C CI 2) := by
  obtain ⟨oc, od, kV, doc, pm, an, cdv, ct, osl, rfl, lk, hcd⟩ := F.ex
  intro A outer s H us ws vs zs Q E hr e0 r rz hsp
  obtain ⟨x, z, rfl, rfl, hq⟩ := hsp
  obtain ⟨u, rfl, ru⟩ := vals1 r
  obtain ⟨v, rfl, rv⟩ := vals1 rz
  refine run_bnd lk hcd scRestInit hr e0 (G := fun xs H2 => xs = [x, z] ∧ H2 = H) (fun A' Ex Q' h => ?_) fun s2 H2 xs ⟨ex, eH⟩ hr' => ?_
  · have eb : bindArgs (PySem.W.fnOf "__init__" "Rest.__init__" (defArgs sRestInit) (defBody sRestInit) (defScope sRestInit) .none kV doc pm an cdv ct) ⟨[u], [(("name" : Str), v)]⟩ = pure [(("self" : Str), u), (("name" : Str), v)] := rfl
    rw [show (["name"] : List Str).zip [v] = [(("name" : Str), v)] from rfl, eb]
    refine wpAny_pure ?_
    exact h s H [x, z] [u, v] e0 Un.refl rfl (fun e s' => cxUp outer s H _ _ E e s' Un.refl (fun b o q => q) rfl) (.cons ru (.cons rv .nil)) rfl ⟨rfl, rfl⟩
  · subst ex eH
    exact body_restInit er GN AN T5 N5 hr' hq
def spLikeNewK (K : PySem.W.Frag) (C : Cl5) (CI : Addr) : List V → Sp := fun vs zs H Q E => ∃ x z, vs = [x] ∧ zs = [z] ∧ ∀ p, H p = none → spLikeInit K C CI [x, z, .ref p] (upd H p (.tup [])) Q E
open StX in
theorem likeInit_kw {C : Cl5} {CI fN fP fA fM fX f : Addr} {fd fdN fdP fdA fdM fdX : FuncData} (F : Fun K "__init__" "Like.__init__" sLikeInit f fd) (T : TxtL P w K mg base C CI fN fP fA fM fX fdN fdP fdA fdM fdX) (T5 : Ty5 K C) (N5 : Na5 K C) :
    FnRK P w K mg base 4 f ["form"] (spLikeNewK K C CI) := by
  obtain ⟨oc, od, kV, doc, pm, an, cdv, ct, osl, rfl, lk, hcd⟩ := F.ex
  intro A outer s H us ws vs zs Q E hr e0 r rz hsp
  obtain ⟨x, z, rfl, rfl, hq⟩ := hsp
  obtain ⟨u, rfl, ru⟩ := vals1 r
  obtain ⟨v, rfl, rv⟩ := vals1 rz
  have hn : H s.heap.objs.size = Option.none := e0.hok.fresh (Nat.le_refl _)
  refine run_bnd lk hcd scLikeInit hr e0 (G := fun xs H2 => ∃ p, H p = Option.none ∧ xs = [x, z, V.ref p] ∧ H2 = upd H p (.tup [])) (fun A' Ex Q' h => ?_) fun s2 H2 xs ⟨p, hp, ex, eH⟩ hr' => ?_
  · have eb : bindArgs (PySem.W.fnOf "__init__" "Like.__init__" (defArgs sLikeInit) (defBody sLikeInit) (defScope sLikeInit) .none kV doc pm an cdv ct) ⟨[u], [(("form" : Str), v)]⟩ = (newTuple [] >>= fun t => pure [(("self" : Str), u), (("form" : Str), v), (("parts" : Str), t)]) := rfl
    rw [show (["form"] : List Str).zip [v] = [(("form" : Str), v)] from rfl, eb]
    refine wpAny_bind (wpAny_newTuple (wpAny_pure ?_) (Nat.zero_le _))
    have new : ObjOk P w (upd H s.heap.objs.size (.tup [])) (s.heap.push ({ cls := .type "tuple", data := .seq #[] } : Obj)) s.heap.objs.size (.tup []) := ⟨Nat.zero_le _, [], .nil, ⟨_, Heap.get?_push_size _ rfl, rfl, _, rfl⟩⟩
    have un := un_laid (fs := frs outer) (s := s) (o := ({ cls := .type "tuple", data := .seq #[] } : Obj)) (u := .tup []) hn
    exact h _ _ [x, z, V.ref s.heap.objs.size] [u, v, Value.ref s.heap.objs.size] (env0_laid e0 new) un rfl (fun e s' => cxUp outer s H _ _ E e s' un (fun b o q => Heap.get?_push_of_some _ q) rfl) (.cons ru (.cons rv (.cons rfl .nil))) rfl ⟨_, hn, rfl, rfl⟩
  · subst ex eH
    exact body_likeInit T T5 N5 hr' (hq p hp)
theorem likeK_made {C : Cl5} {CI : Addr} {n : V} {H : Hp} {Q : VK} {E : XK} (hn : Val K H n) (k : LikeRes C CI n [] [] E H Q) {x dx : Addr} (nx : H x = none) (ndx : H dx = none) :
    spLikeNewK K C CI [.ref x] [n] (upd (upd H dx (.own x)) x (.ins C.L dx [])) (fun v H2 => v = .non ∧ Q (.ref x) H2) E := by
  obtain ⟨ws, rest, e, hl, _, h⟩ := like_made (K := K) (C := C) (CI := CI) (xs := []) (pis := []) hn .nil (by decide) (by decide) k nx ndx
  match ws, hl with
  | [a, b], _ =>
    cases rest with
    | nil =>
      cases e
      exact ⟨_, _, rfl, rfl, h⟩
    | cons _ _ => cases e
theorem varK_made {C : Cl5} {CI : Addr} {j : Nat} {n : V} {H : Hp} {Q : VK} {E : XK} (hn : Val K H n) (k : VarRes C CI j n E H Q) {x dx : Addr} (nx : H x = none) (ndx : H dx = none) :
    spVarK K C CI j [.ref x] [n] (upd (upd H dx (.own x)) x (.ins (C.v j) dx [])) (fun v H2 => v = .non ∧ Q (.ref x) H2) E := ⟨_, _, rfl, rfl, var_made hn k nx ndx⟩
end
end K3

namespace K3
open PySem PySem.Spec PyProof.Rows L2 E0
theorem parts_good : ∀ ts : List Tr, partsOf (ts.map PI.good) = ts
  | [] => rfl
  | t :: ts => by
    show t :: partsOf (ts.map PI.good) = _
    rw [parts_good ts]
theorem first_good : ∀ (ts : List Tr) (n : Nat), firstBad n (ts.map PI.good) = none
  | [], _ => rfl
  | _ :: ts, n => first_good ts (n + 1)
theorem tree_none {z : Str} {ts : List Tr} (hz : nameS z = true) (h1 : 1 + sizes ts ≤ 400) (h2 : levelss ts + 1 ≤ 100) : treeDue (.str z) (ts.map PI.good) = none := by
  unfold treeDue
  rw [if_neg (by show ¬ nameS z = false; rw [hz]; exact Bool.noConfusion), first_good, parts_good]
  show (if _ then _ else _) = _
  rw [if_neg (by omega)]
theorem like_none {z : Str} {ts : List Tr} (hz : nameS z = true) (h1 : 1 + sizes ts ≤ 60) (h2 : levelss ts + 1 ≤ 8) : likeDue (.str z) (ts.map PI.good) = none := by
  unfold likeDue
  rw [if_neg (by show ¬ nameS z = false; rw [hz]; exact Bool.noConfusion), first_good, parts_good]
  show (if _ then _ else _) = _
  rw [if_neg (by omega)]
/-! ### what a call of a class asks for -/
def MkT (K : PySem.W.Frag) (C : Cl5) (CI : Addr) (vs : List V) (H : Hp) (Q : VK) (E : XK) : Prop := ∃ (n : V) (xs : List V) (pis : List PI), vs = n :: xs ∧ Val K H n ∧ Paired (PIAt K C H) xs pis ∧ pis.length ≤ 1000 ∧ joinB (partsOf pis) ≤ 16000000 ∧ TreeRes C CI n xs pis E H Q
def MkL (K : PySem.W.Frag) (C : Cl5) (CI : Addr) (vs : List V) (H : Hp) (Q : VK) (E : XK) : Prop := ∃ (n : V) (xs : List V) (pis : List PI), vs = n :: xs ∧ Val K H n ∧ Paired (LIAt K C H) xs pis ∧ pis.length ≤ 1000 ∧ joinB (partsOf pis) ≤ 16000000 ∧ LikeRes C CI n xs pis E H Q
def MkV (K : PySem.W.Frag) (C : Cl5) (CI : Addr) (j : Nat) (vs : List V) (H : Hp) (Q : VK) (E : XK) : Prop := ∃ n : V, vs = [n] ∧ Val K H n ∧ VarRes C CI j n E H Q
def MkLK (K : PySem.W.Frag) (C : Cl5) (CI : Addr) (vs : List V) (H : Hp) (Q : VK) (E : XK) : Prop := ∃ n : V, vs = [n] ∧ Val K H n ∧ LikeRes C CI n [] [] E H Q
def tMkT (K : PySem.W.Frag) (C : Cl5) (CI : Addr) (E : XK) (t : TA) : TE := fun σ H Q => t σ H fun vs H1 => MkT K C CI vs H1 Q E
def tMkL (K : PySem.W.Frag) (C : Cl5) (CI : Addr) (E : XK) (t : TA) : TE := fun σ H Q => t σ H fun vs H1 => MkL K C CI vs H1 Q E
def tMkLK (K : PySem.W.Frag) (C : Cl5) (CI : Addr) (E : XK) (t : TA) : TE := fun σ H Q => t σ H fun vs H1 => MkLK K C CI vs H1 Q E
def tMkV (K : PySem.W.Frag) (C : Cl5) (CI : Addr) (j : Nat) (E : XK) (t : TA) : TE := fun σ H Q => t σ H fun vs H1 => MkV K C CI j vs H1 Q E
section
variable {X : Cx} {CX : CXT} {k : Nat} {f : Addr} {E : XK} {x : Str} {p pos : Pos} {e : Expr} {es : List Expr} {t : TA} {C : Cl5} {CI : Addr}
theorem pe_mkT (M : Mk X.K C.T f) (F : FnR X.prog X.w X.K X.mg X.base CX k f (spTreeNew X.K C CI)) (hr : Room (k + 1) X.A) (hg : Gl X x) (hm : X.mg x = some (.ref C.T)) (hx : Passes CX X E) (ha : PA X (e :: es) t) (hdb : (x == ("__debug__" : Str)) = false := by decide)
    (he : starEach (e :: es) X.env = (false, eval e X.env) :: starEach es X.env := by rfl) (hpl : (backTo pos (starEach es X.env)).any (·.1) = false := by rfl) : PE X (.Call (.Name x p) (e :: es) [] pos) (tMkT X.K C CI E t) := by
  refine ⟨fun pins s σ H Q I h => ?_⟩
  refine wpAny_Call_Name_kw (ld_glob I hg hm ?_ hdb)
  refine PySem.W.callWith_K (h₀ := X.base) I.ok.mod.kin M.kp (thn (ha.run pos pins s σ H _ I h) fun us s1 ⟨vs, H1, I1, r, q⟩ => ⟨I1.kIn, ?_⟩) he hpl
  obtain ⟨n, xs, pis, rfl, q1, q2, q3, q4, q5⟩ := q
  exact StX.run_makeR M F hr hx I1 r fun y dx ny ndy ne => tree_made q1 q2 q3 q4 q5 ny ndy ne
theorem pe_mkL (M : Mk X.K C.L f) (F : FnR X.prog X.w X.K X.mg X.base CX k f (spLikeNew X.K C CI)) (hr : Room (k + 1) X.A) (hg : Gl X x) (hm : X.mg x = some (.ref C.L)) (hx : Passes CX X E) (ha : PA X (e :: es) t) (hdb : (x == ("__debug__" : Str)) = false := by decide)
    (he : starEach (e :: es) X.env = (false, eval e X.env) :: starEach es X.env := by rfl) (hpl : (backTo pos (starEach es X.env)).any (·.1) = false := by rfl) : PE X (.Call (.Name x p) (e :: es) [] pos) (tMkL X.K C CI E t) := by
  refine ⟨fun pins s σ H Q I h => ?_⟩
  refine wpAny_Call_Name_kw (ld_glob I hg hm ?_ hdb)
  refine PySem.W.callWith_K (h₀ := X.base) I.ok.mod.kin M.kp (thn (ha.run pos pins s σ H _ I h) fun us s1 ⟨vs, H1, I1, r, q⟩ => ⟨I1.kIn, ?_⟩) he hpl
  obtain ⟨n, xs, pis, rfl, q1, q2, q3, q4, q5⟩ := q
  exact StX.run_makeR M F hr hx I1 r fun y dx ny ndy ne => like_made q1 q2 q3 q4 q5 ny ndy
theorem pe_mkV {fd : FuncData} {j : Nat} (M : Mk X.K (C.v j) f) (F : FnOk X.prog X.w X.K X.mg X.base CX k f fd ["self", "name"] (spVarE X.K C CI j)) (hr : Room (k + 1) X.A) (hg : Gl X x) (hm : X.mg x = some (.ref (C.v j))) (hb : Binds X.K fd ["self", "name"] []) (hx : Passes CX X E) (ha : PA X (e :: es) t) (hdb : (x == ("__debug__" : Str)) = false := by decide)
    (he : starEach (e :: es) X.env = (false, eval e X.env) :: starEach es X.env := by rfl) (hpl : (backTo pos (starEach es X.env)).any (·.1) = false := by rfl) : PE X (.Call (.Name x p) (e :: es) [] pos) (tMkV X.K C CI j E t) := by
  refine ⟨fun pins s σ H Q I h => ?_⟩
  refine wpAny_Call_Name_kw (ld_glob I hg hm ?_ hdb)
  refine PySem.W.callWith_K (h₀ := X.base) I.ok.mod.kin M.kp (thn (ha.run pos pins s σ H _ I h) fun us s1 ⟨vs, H1, I1, r, q⟩ => ⟨I1.kIn, ?_⟩) he hpl
  obtain ⟨n, rfl, q1, q2⟩ := q
  exact run_make M F hr hb .nil hx I1 r fun y dx ny ndy ne => var_made q1 q2 ny ndy
end
/-! ### by keyword -/
section
variable {X : Cx} {k : Nat} {f : Addr} {E : XK} {x : Str} {p pos : Pos} {kws : List Keyword} {tk : TA} {C : Cl5} {CI : Addr}
theorem pe_mkVK {j : Nat} (M : Mk X.K (C.v j) f) (F : FnRK X.prog X.w X.K X.mg X.base k f (["name"] : List Str) (spVarK X.K C CI j)) (hr : Room (k + 1) X.A) (hg : Gl X x) (hm : X.mg x = some (.ref (C.v j))) (hx : Passes (L2.CX X.prog X.w) X E) (hkw : PK X kws tk)
    (hall : (backToKw pos (keywordEach kws X.env)).all (·.1.isSome) = true := by rfl) (hks : (backToKw pos (keywordEach kws X.env)).filterMap (·.1) = (["name"] : List Str) := by rfl) (hdb : (x == ("__debug__" : Str)) = false := by decide)
    (hpl : ((backTo pos (starEach [] X.env)).any (·.1) || (backToKw pos (keywordEach kws X.env)).any (·.1.isNone)) = false := by rfl) : PE X (.Call (.Name x p) [] kws pos) (tMkV X.K C CI j E tk) := by
  refine ⟨fun pins s σ H Q I h => ?_⟩
  refine wpAny_Call_Name_kw (ld_glob I hg hm ?_ hdb)
  refine PySem.W.callWith_KW0 (h₀ := X.base) I.ok.mod.kin M.kp hall (thn (hkw.run pos pins s σ H _ I h) fun ws s2 ⟨zs, H2, I2, rz, q2⟩ => ⟨I2.kIn, ?_⟩) hpl
  rw [hks]
  obtain ⟨n, rfl, q1, q2⟩ := q2
  exact run_makeK (E := E) M F hr hx I2 rz fun y dx ny ndy ne => varK_made q1 q2 ny ndy
theorem pe_mkLK (M : Mk X.K C.L f) (F : FnRK X.prog X.w X.K X.mg X.base k f (["form"] : List Str) (spLikeNewK X.K C CI)) (hr : Room (k + 1) X.A) (hg : Gl X x) (hm : X.mg x = some (.ref C.L)) (hx : Passes (L2.CX X.prog X.w) X E) (hkw : PK X kws tk)
    (hall : (backToKw pos (keywordEach kws X.env)).all (·.1.isSome) = true := by rfl) (hks : (backToKw pos (keywordEach kws X.env)).filterMap (·.1) = (["form"] : List Str) := by rfl) (hdb : (x == ("__debug__" : Str)) = false := by decide)
    (hpl : ((backTo pos (starEach [] X.env)).any (·.1) || (backToKw pos (keywordEach kws X.env)).any (·.1.isNone)) = false := by rfl) : PE X (.Call (.Name x p) [] kws pos) (tMkLK X.K C CI E tk) := by
  refine ⟨fun pins s σ H Q I h => ?_⟩
  refine wpAny_Call_Name_kw (ld_glob I hg hm ?_ hdb)
  refine PySem.W.callWith_KW0 (h₀ := X.base) I.ok.mod.kin M.kp hall (thn (hkw.run pos pins s σ H _ I h) fun ws s2 ⟨zs, H2, I2, rz, q2⟩ => ⟨I2.kIn, ?_⟩) hpl
  rw [hks]
  obtain ⟨n, rfl, q1, q2⟩ := q2
  exact run_makeK (E := E) M F hr hx I2 rz fun y dx ny ndy ne => likeK_made q1 q2 ny ndy
end
/-! ### what is right is made -/
theorem pi_good {K : PySem.W.Frag} {C : Cl5} {H : Hp} : ∀ {xs : List V} {ts : List Tr}, PtsAt C H xs ts → (∀ t ∈ ts, okP t = true ∧ rowB t ≤ 1000 ∧ okTx t) → Paired (PIAt K C H) xs (ts.map PI.good)
  | [], [], _, _ => .nil
  | x :: xs, t :: ts, h, g => .cons ⟨h.1, g t (List.mem_cons_self ..)⟩ (pi_good h.2 fun u m => g u (List.mem_cons_of_mem _ m))
  | [], _ :: _, h, _ => False.elim h
  | _ :: _, [], h, _ => False.elim h
theorem li_good {K : PySem.W.Frag} {C : Cl5} {H : Hp} : ∀ {xs : List V} {ts : List Tr}, PtsAt C H xs ts → (∀ t ∈ ts, okLk t = true ∧ rowB t ≤ 1000 ∧ okTx t) → Paired (LIAt K C H) xs (ts.map PI.good)
  | [], [], _, _ => .nil
  | x :: xs, t :: ts, h, g => .cons ⟨h.1, g t (List.mem_cons_self ..)⟩ (li_good h.2 fun u m => g u (List.mem_cons_of_mem _ m))
  | [], _ :: _, h, _ => False.elim h
  | _ :: _, [], h, _ => False.elim h
theorem mkT_good {K : PySem.W.Frag} {C : Cl5} {CI : Addr} {z : Str} {xs : List V} {ts : List Tr} {H : Hp} {Q : VK} {E : XK} (hz : nameS z = true) (ho : PyData.strOk z = true) (hp : PtsAt C H xs ts) (hg : ∀ t ∈ ts, okP t = true ∧ rowB t ≤ 1000 ∧ okTx t) (hl : ts.length ≤ 1000) (hj : joinB ts ≤ 16000000) (h1 : 1 + sizes ts ≤ 400) (h2 : levelss ts + 1 ≤ 100)
    (k : ∀ H' x, Same H H' → H x = none → PtAt C H' (.ref x) (.nd false z ts) → HasP H' x xs → Q (.ref x) H') : MkT K C CI (.str z :: xs) H Q E := by
  refine ⟨.str z, xs, ts.map PI.good, rfl, val_nm hz ho, pi_good hp hg, by rw [List.length_map]; exact hl, by rw [parts_good]; exact hj, ?_⟩
  unfold TreeRes
  rw [tree_none hz h1 h2, parts_good]
  intro H' x z' e s n p hpp
  cases e
  exact k H' x s n p hpp
theorem mkL_good {K : PySem.W.Frag} {C : Cl5} {CI : Addr} {z : Str} {xs : List V} {ts : List Tr} {H : Hp} {Q : VK} {E : XK} (hz : nameS z = true) (ho : PyData.strOk z = true) (hp : PtsAt C H xs ts) (hg : ∀ t ∈ ts, okLk t = true ∧ rowB t ≤ 1000 ∧ okTx t) (hl : ts.length ≤ 1000) (hj : joinB ts ≤ 16000000) (h1 : 1 + sizes ts ≤ 60) (h2 : levelss ts + 1 ≤ 8)
    (k : ∀ H' x, Same H H' → H x = none → PtAt C H' (.ref x) (.nd true z ts) → HasQ C H' x xs → Q (.ref x) H') : MkL K C CI (.str z :: xs) H Q E := by
  refine ⟨.str z, xs, ts.map PI.good, rfl, val_nm hz ho, li_good hp hg, by rw [List.length_map]; exact hl, by rw [parts_good]; exact hj, ?_⟩
  unfold LikeRes
  rw [like_none hz h1 h2, parts_good]
  intro H' x z' e s n p hpp
  cases e
  exact k H' x s n p hpp
theorem mkV_good {K : PySem.W.Frag} {C : Cl5} {CI : Addr} {j : Nat} {z : Str} {H : Hp} {Q : VK} {E : XK} (hz : nameS z = true) (ho : PyData.strOk z = true) (k : ∀ H' x, Same H H' → H x = none → PtAt C H' (.ref x) (.vr j z) → Q (.ref x) H') : MkV K C CI j [.str z] H Q E := by
  refine ⟨.str z, rfl, val_nm hz ho, ?_⟩
  unfold VarRes
  rw [show nameV (.str z) = true from hz]
  intro H' x z' e s n p
  cases e
  exact k H' x s n p
end K3

namespace K3
open PySem PySem.Spec PyProof.Rows PySem.SeqAt L2 E0
section
variable {prog : Program} {w : World} {A : Around} {E : Value → Shared → Prop} {s : Shared} {K : PySem.W.Frag} {x y C : Addr} {ox oy : Obj} {od oe : Option Obj} {u : Value}
theorem ifB_ne {M : Model} {args : List Value} {Q : Option Value → Shared → Prop} (X : K.In s.heap) (I : PySem.W.InstAt s.heap x ox C od) (hs : PySem.W.findIn K (.ref C) "__ne__" = some (some (.builtin "object.__ne__")))
    (h : wpAny M A (call (.builtin "object.__ne__") (.ref x :: args)) (fun v => Q (some v)) E s) : wpAny M A (callSpecialIfBound? (.ref x) "__ne__" args) Q E s := by
  simp only [callSpecialIfBound?, bindSpecialIfBound?]
  refine wpAny_holding (wpAny_bind (wpAny_bind (wpAny_bind (I.type.here ((PySem.W.looks_findIn X hs).here ?_)))))
  refine wpAny_bind (wpAny_askSetting (wpAny_ite ?_))
  have fin : wpAny M A (call (.builtin "object.__ne__") ([.ref x] ++ args) >>= fun v => pure (some v)) Q E s := wpAny_bind (wpAny_mono h (fun v s' h' => wpAny_pure h') fun _ _ h' => h')
  split
  · exact wpAny_bind (wpAny_of_eq (F.cmp_object.ne.bind _) (wpAny_pure (by exact fin)))
  · exact wpAny_tryCatch (wpAny_bind (wpAny_of_eq (F.cmp_object.ne.bind _) (wpAny_pure (by exact fin))))
end
/-! ### own ==, != (by the own ==), in, [ ] of an instance -/
structure OwnC (K : PySem.W.Frag) (C : Addr) (m : Str) (f : Addr) : Prop where
  fi : PySem.W.findIn K (.ref C) m = some (some (.ref f))
  fn : PySem.W.isFn K (.ref f) = true
  ff : PySem.W.fnIn K f = true
def rEqO (K : PySem.W.Frag) (C : Addr) (sp : Sp) (E : XK) : R2 := fun x y H Q => ∃ a dx fs t, x = .ref a ∧ H a = some (.ins C dx fs) ∧ TyX K H y t ∧ PySem.W.notFirst K C t = true ∧ sp [x, y] H (fun v H' => ∃ b, v = .bl b ∧ Q (.bl b) H') E
def rNeO (K : PySem.W.Frag) (C : Addr) (sp : Sp) (E : XK) : R2 := fun x y H Q => ∃ a dx fs t, x = .ref a ∧ H a = some (.ins C dx fs) ∧ TyX K H y t ∧ PySem.W.notFirst K C t = true ∧ sp [x, y] H (fun v H' => ∃ b, v = .bl b ∧ Q (.bl (!b)) H') E
def rInO (C : Addr) (sp : Sp) (E : XK) : R2 := fun x y H Q => ∃ a dx fs, y = .ref a ∧ H a = some (.ins C dx fs) ∧ sp [y, x] H (fun v H' => ∃ b, v = .bl b ∧ Q (.bl b) H') E
def rNinO (C : Addr) (sp : Sp) (E : XK) : R2 := fun x y H Q => ∃ a dx fs, y = .ref a ∧ H a = some (.ins C dx fs) ∧ sp [y, x] H (fun v H' => ∃ b, v = .bl b ∧ Q (.bl (!b)) H') E
def rIxO (C : Addr) (sp : Sp) (E : XK) : R2 := fun x y H Q => ∃ a dx fs, x = .ref a ∧ H a = some (.ins C dx fs) ∧ sp [x, y] H Q E
section
variable {X : Cx} {CX : CXT} {k : Nat} {f C : Addr} {sp : Sp} {E : XK}
theorem own_call {A : Around} {pins : List (Addr × Obj)} {s : Shared} {σ : L2.St} {H : Hp} {vs : List V} {us : List Value} {Q : VK} (F : FnR X.prog X.w X.K X.mg X.base CX k f sp) (hr : Room k A) (hfr : A.frames = X.A.frames) (hx : Passes CX X E) (I : L2.Inv X pins σ H s) (r : Vals vs us) (h : sp vs H Q E) :
    wpAny (model X.prog X.w) A (call (.ref f) us) (EP X pins σ Q) X.xe s := by
  have e0 : Env0 X.prog X.w X.K X.mg X.base A X.stack s H := by
    have e := I.env0
    exact ⟨by rw [hfr]; exact e.frames, e.mod, e.bs, e.bsz, e.funs, e.frf, e.hok, e.bare⟩
  refine wpAny_call (codeAny_mono (F A X.stack s H us vs Q E hr e0 r h) fun r s' hq => ?_)
  cases r with
  | error e => exact hx pins σ H s e s' I hq
  | ok fl =>
    cases fl with
    | ret u => exact I.after hq
    | next => exact False.elim hq
    | brk => exact False.elim hq
    | cont => exact False.elim hq
theorem op_eqO (O : OwnC X.K C "__eq__" f) (F : FnR X.prog X.w X.K X.mg X.base CX k f sp) (hr : Room k X.A) (hx : Passes CX X E) : OpR X (compareOp .Eq) (rEqO X.K C sp E) := by
  intro pins s σ H x y v u Q I rx ry h
  obtain ⟨a, dx, fs, t, rfl, ha, ht, hn, q⟩ := h
  obtain rfl : v = Value.ref a := rx
  obtain ⟨mA, J, _⟩ := ins_get I.hok ha
  obtain ⟨od, J, _⟩ := J.look
  obtain ⟨m, hF⟩ := I.fr
  obtain ⟨Pk, Z, hP, _⟩ := kit_of I ry ht
  show wpAny (model X.prog X.w) X.A (richCompare .Eq (.ref a) u) (EP X pins σ Q) X.xe s
  refine PySem.W.cmp_K (op := .Eq) (tb := t) hr.units0 hF I.ok.mod.kin J (Z.ty _ _ I.kIn hP) hn O.fi O.fn ?_
  refine wpAny_mono (own_call (vs := [V.ref a, y]) F hr rfl hx I (.cons rfl (.cons ry .nil)) q) (fun r s' hq => ?_) fun _ _ x => x
  obtain ⟨z, H', I', rz, b, ez, qq⟩ := hq
  subst ez
  obtain rfl : r = Value.bool b := rz
  exact ⟨.bl b, H', I', rfl, qq⟩
theorem entry_neO {A : Around} {M : Model} {E : Value → Shared → Prop} {s : Shared} {K : PySem.W.Frag} {x : Addr} {ox : Obj} {od : Option Obj} {u : Value} {Q : Fin → Shared → Prop} (X : K.In s.heap) (I : PySem.W.InstAt s.heap x ox C od) (O : OwnC K C "__eq__" f) (hu : A.units < cLine)
    (h : wpAny M A (call (.ref f) [.ref x, u]) (fun v s' => ∃ b, v = .bool b ∧ Q (.done (.ret (.bool (!b)))) s') E s) : wpAny M A (Builtin.«object.__ne__» ⟨[.ref x, u], []⟩) Q E s := by
  have h' : wpAny M A (callSpecialIfBound? (.ref x) "__eq__" [u]) (fun r s' => ∃ b, r = some (.bool b) ∧ Q (.done (.ret (.bool (!b)))) s') E s := PySem.W.ifBound_K X I O.fi O.fn (wpAny_mono h (fun v s' hv => by
    obtain ⟨b, rfl, q⟩ := hv
    exact ⟨b, rfl, q⟩) fun _ _ x => x)
  unfold Builtin.«object.__ne__»
  repeat (first | with_reducible refine wpAny_cRoomFor hu ?_ | (with_reducible refine wpAny_mono h' (fun r s' hv => ?fin) fun _ _ x => x) | wp_step)
  case fin =>
    obtain ⟨b, rfl, q⟩ := hv
    repeat (first | exact q | with_reducible refine wpAny_truthy_bool ?_ | wp_step)
structure NeObj (K : PySem.W.Frag) (C : Addr) : Prop where
  mo : PySem.W.mroIn K C (.type "object") = some true
  ne : PySem.W.findIn K (.ref C) "__ne__" = some (some (.builtin "object.__ne__"))
theorem op_neO (O : OwnC X.K C "__eq__" f) (N : NeObj X.K C) (FF : FnR X.prog X.w X.K X.mg X.base CX k f sp) (hr : Room (k + 2) X.A) (hx : Passes CX X E) : OpR X (compareOp .NotEq) (rNeO X.K C sp E) := by
  intro pins s σ H x y v u Q I rx ry h
  obtain ⟨a, dx, fs, t, rfl, ha, ht, hn, q⟩ := h
  obtain rfl : v = Value.ref a := rx
  obtain ⟨mA, J, _⟩ := ins_get I.hok ha
  obtain ⟨od, J, _⟩ := J.look
  obtain ⟨m, hF⟩ := I.fr
  obtain ⟨Pk, Z, hP, _⟩ := kit_of I ry ht
  have hb := Z.ty (model X.prog X.w) _ I.kIn hP
  have one : wpAny (model X.prog X.w) X.A (tryCompare (.ref a) "__ne__" u) (fun r s' => ∃ v, r = some v ∧ EP X pins σ Q v s') X.xe s := by
    unfold tryCompare
    refine wpAny_bind (ifB_ne I.kIn J N.ne (wpAny_call (codeAny_call_builtin F.cmp_object.ne.plain F.cmpEntry_ne (PySem.W.check_slot F.cmpKind_ne F.cmpSplit_ne (J.type.andThen (PySem.W.looks_mroIn I.kIn N.mo)) (F.cmpArgs_ne _ _) (entry_neO (A := X.A.in1) I.kIn J O (Nat.lt_of_le_of_lt (show X.A.units + 1 ≤ X.A.units + 64 by omega) hr.units) ?_)))))
    refine wpAny_mono (own_call (vs := [V.ref a, y]) FF (A := X.A.in1) ((hr.mono (by omega) : Room (k + 1) X.A).in1) rfl hx I (.cons rfl (.cons ry .nil)) q) (fun r s' hq => ?_) fun _ _ x => x
    obtain ⟨z, H', I', rz, b, ez, qq⟩ := hq
    subst ez
    obtain rfl : r = Value.bool b := rz
    exact ⟨b, rfl, wpAny_pure ⟨_, rfl, .bl (!b), H', I', rfl, qq⟩⟩
  show wpAny (model X.prog X.w) X.A (richCompare .NotEq (.ref a) u) (EP X pins σ Q) X.xe s
  unfold richCompare
  simp only [oneThing_ref]
  refine wpAny_holding (wpAny_bind (wpAny_cRoomFor hr.units0 ?_))
  refine wpAny_bind (J.type.here (wpAny_bind (hb.here ?_)))
  split
  · rename_i q
    have e : PySem.W.subIn X.K t (.ref C) = some false := by
      rcases Bool.or_eq_true_iff.mp hn with e | e
      · rw [beq_iff_eq.mp e] at q; simp at q
      · exact beq_iff_eq.mp e
    refine wpAny_bind ((PySem.W.looks_subIn I.kIn e).here ?_)
    simp only [Bool.false_eq_true, if_false]
    refine wpAny_bind (wpAny_mono one (fun r s' z => ?_) fun _ _ e => e)
    obtain ⟨v, rfl, hq⟩ := z
    exact wpAny_pure hq
  · refine wpAny_bind (wpAny_pure ?_)
    simp only [Bool.false_eq_true, if_false]
    refine wpAny_bind (wpAny_mono one (fun r s' z => ?_) fun _ _ e => e)
    obtain ⟨v, rfl, hq⟩ := z
    exact wpAny_pure hq
theorem op_inO (O : OwnC X.K C "__contains__" f) (F : FnR X.prog X.w X.K X.mg X.base CX k f sp) (hr : Room k X.A) (hx : Passes CX X E) : OpR X (compareOp .In) (rInO C sp E) := by
  intro pins s σ H x y v u Q I rx ry h
  obtain ⟨a, dx, fs, rfl, ha, q⟩ := h
  obtain rfl : u = Value.ref a := ry
  obtain ⟨mA, J, _⟩ := ins_get I.hok ha
  obtain ⟨od, J, _⟩ := J.look
  obtain ⟨m, hF⟩ := I.fr
  refine PySem.W.in_K hF I.ok.mod.kin J O.fi O.fn ?_
  refine wpAny_mono (own_call (vs := [V.ref a, x]) F hr rfl hx I (.cons rfl (.cons rx .nil)) q) (fun r s' hq => ?_) fun _ _ x => x
  obtain ⟨z, H', I', rz, b, ez, qq⟩ := hq
  subst ez
  obtain rfl : r = Value.bool b := rz
  exact wpAny_truthy_bool ⟨.bl b, H', I', rfl, qq⟩
theorem op_notInO (O : OwnC X.K C "__contains__" f) (F : FnR X.prog X.w X.K X.mg X.base CX k f sp) (hr : Room k X.A) (hx : Passes CX X E) : OpR X (compareOp .NotIn) (rNinO C sp E) := by
  intro pins s σ H x y v u Q I rx ry h
  obtain ⟨a, dx, fs, rfl, ha, q⟩ := h
  obtain rfl : u = Value.ref a := ry
  obtain ⟨mA, J, _⟩ := ins_get I.hok ha
  obtain ⟨od, J, _⟩ := J.look
  obtain ⟨m, hF⟩ := I.fr
  refine PySem.W.notIn_K hF I.ok.mod.kin J O.fi O.fn ?_
  refine wpAny_mono (own_call (vs := [V.ref a, x]) F hr rfl hx I (.cons rfl (.cons rx .nil)) q) (fun r s' hq => ?_) fun _ _ x => x
  obtain ⟨z, H', I', rz, b, ez, qq⟩ := hq
  subst ez
  obtain rfl : r = Value.bool b := rz
  exact wpAny_truthy_bool ⟨.bl (!b), H', I', rfl, qq⟩
theorem pe_ixO {a b : Expr} {ta tb : TE} {pos : Pos} (O : OwnC X.K C "__getitem__" f) (F : FnR X.prog X.w X.K X.mg X.base CX k f sp) (hr : Room (k + 1) X.A) (hx : Passes CX X E) (ha : PE X a ta) (hb : PE X b tb)
    (hsl : ∀ x i, subscripted b true (.ref x) i = runValue (.builtin "lifetime.subscript" ⟨[.ref x, i], []⟩) := by intro _ _; with_unfolding_all rfl) : PE X (.Subscript a b pos) (tOp (rIxO C sp E) ta tb) := by
  refine ⟨fun pins s σ H Q I h => ?_⟩
  refine Subscript_ (binT ha hb I h fun v u s2 x y H2 I2 rx ry q => ?_)
  obtain ⟨a', dx, fs, rfl, ha', q⟩ := q
  obtain rfl : v = Value.ref a' := rx
  obtain ⟨mA, J, _⟩ := ins_get I2.hok ha'
  obtain ⟨od, J, _⟩ := J.look
  obtain ⟨m, hF⟩ := I2.fr
  refine PySem.W.sub_K hF I2.ok.mod.kin J O.fi O.ff O.fn ?_ (hsl _ _)
  exact own_call (vs := [V.ref a', y]) F (A := X.A.in1) hr.in1 rfl hx I2 (.cons rfl (.cons ry .nil)) q
/-- len(o) of an own __len__ -/
theorem call_lenO (O : OwnC X.K C "__len__" f) (F : FnR X.prog X.w X.K X.mg X.base CX k f sp) (hr : Room (k + 1) X.A) (hx : Passes CX X E) :
    CallR X (.builtin "len") (fun xs H Q => ∃ a dx fs, xs = [V.ref a] ∧ H a = some (.ins C dx fs) ∧ sp [.ref a] H (fun v H' => ∃ n : Int, v = .int n ∧ 0 ≤ n ∧ n < 2 ^ 63 ∧ Q (.int n) H') E) := by
  intro pins s σ H xs us Q I r h
  obtain ⟨a, dx, fs, rfl, ha, q⟩ := h
  obtain ⟨u, rfl, rx⟩ := vals1 r
  obtain rfl : u = Value.ref a := rx
  obtain ⟨mA, J, _⟩ := ins_get I.hok ha
  obtain ⟨od, J, _⟩ := J.look
  obtain ⟨m, hF⟩ := I.fr
  refine PySem.W.len_K hF I.ok.mod.kin J O.fi O.fn ?_
  refine wpAny_mono (own_call (vs := [V.ref a]) (A := X.A.in1) F hr.in1 rfl hx I (.cons rfl .nil) q) (fun r s' hq => ?_) fun _ _ x => x
  obtain ⟨z, H', I', rz, n, ez, n0, n1, qq⟩ := hq
  subst ez
  obtain ⟨t, rfl⟩ := rz
  exact ⟨⟨n0, n1⟩, .int n, H', I'.tok _, ⟨_, rfl⟩, qq⟩
end
/-! ### range(n) as a value, and its length -/
section
variable {X : Cx}
theorem cr_range1 : CallR X (.type "range") (fun vs H Q => ∃ j, vs = [V.int j] ∧ ∀ p, H p = none → Q (.ref p) (upd H p (.rng 0 j))) := by
  intro pins s σ H vs us Q I r h
  obtain ⟨j, rfl, q⟩ := h
  obtain ⟨u1, rfl, ri⟩ := vals1 r
  obtain ⟨t, rfl⟩ := ri
  refine call_range_1 ⟨.ref s.heap.objs.size, upd H s.heap.objs.size (.rng 0 j), I.laid (t' := s.toks + 1 + 1) (fun b o e => Heap.get?_push_of_some _ e) (Nat.le_refl _) ?_, rfl, q _ (I.hok.fresh (Nat.le_refl _))⟩
  exact ⟨s.toks, t, s.toks + 1, Heap.get?_push_size _ rfl⟩
theorem call_lenRng : CallR X (.builtin "len") (fun xs H Q => ∃ (p : Addr) (n : Nat), xs = [.ref p] ∧ H p = some (.rng 0 (n : Int)) ∧ n < 2 ^ 40 ∧ Q (.int n) H) := by
  intro pins s σ H xs us Q I r h
  obtain ⟨p, n, rfl, hp, hn, q⟩ := h
  obtain ⟨u, rfl, rx⟩ := vals1 r
  obtain rfl : u = Value.ref p := rx
  obtain ⟨t1, t2, t3, ho⟩ := I.hok p _ hp
  refine call_len_range (n := n) ho ?_ (by omega) ⟨.int n, H, I.tok _, ⟨_, rfl⟩, q⟩
  unfold Builtin.Range.rangeSize
  rw [if_pos (by decide)]
  by_cases h : (0 : Int) < n
  · rw [if_pos h]
    simp
  · rw [if_neg h]
    omega
end
section
variable {P : Program} {w : World} {K : PySem.W.Frag} {mg : Str → Option Value} {base : Heap}
def spTreeLen (C : Cl5) : Sp := fun vs H Q _ => ∃ (v : V) (t : Tr), vs = [v] ∧ PtAt C H v t ∧ isT t = true ∧ size t < 2 ^ 40 ∧ ∀ H', Same H H' → Q (.int ((size t : Nat) : Int)) H'
theorem scTreeLen : FnScope ["self"] ["self"] (defScope sTreeLen) := ⟨rfl, rfl, rfl, by decide +kernel, rfl, by decide +kernel, by decide +kernel⟩
theorem ok_treeLen {C : Cl5} {f : Addr} {fd : FuncData} (F : Fun K "__len__" "Tree.__len__" sTreeLen f fd) (gR : mg "range" = none) (gL : mg "len" = none) (T5 : Ty5 K C) (N5 : Na5 K C) : FnOk P w K mg base CX0 1 f fd ["self"] (spTreeLen C) := by
  refine F.ok scTreeLen (fun vs H Q E h => ?_) (fun cdv A outer s H vs Q E hr h => ?_)
  · obtain ⟨v, t, rfl, _⟩ := h
    rfl
  · obtain ⟨v, t, rfl, hv, ht, hs, k⟩ := h
    refine ⟨_, pss_one (ps_ret (pe_callB call_lenRng (by rfl) gL PySem.boot_len (pa_cons (pe_callTy cr_range1 (by rfl) gR boot_range (pa_cons (pe_fld (pv 0) rfl) pa_nil)) pa_nil))), ?_⟩
    obtain ⟨x, A1, dx, fs, rfl, e2, e3, e4, _⟩ := meas_of hv (isT_isN ht)
    refine ⟨_, rfl, x, A1, dx, fs, _, rfl, e2, (T5.own _ e3).cl, N5.na _ e3 _ (by decide +kernel), e4, _, rfl, fun p np => ?_⟩
    exact ⟨p, size t, rfl, upd_same, hs, k _ (same_upd (Same.refl H) np)⟩
end
end K3

namespace ZipL
open PySem PySem.Spec
section
variable {prog : Program} {w : World} {A : Around} {E : Value → Shared → Prop} {s : Shared} {z TI TO T i1 i2 : Addr} {f : Bool} {oT : Obj} {fp1 fp2 : List Addr} {n1 n2 i : Nat} {P1 P2 : Nat → Value → Prop} {St1 St2 : Nat → Heap → Prop}
/-- the next pair of a zip whose last pair is still held -/
theorem held_item {Q : Value → Shared → Prop} (S : ZipSep2 z TI TO i1 i2 fp1 fp2) (D1 : Draws prog w A i1 fp1 n1 P1 St1) (D2 : Draws prog w A i2 fp2 n2 P2 St2)
    (gz : IsZipHeld s.heap z TI TO T f) (gT : s.heap.get? T = some oT) (gI : IsTupOf2 s.heap TI (.ref i1) (.ref i2)) (t1 : St1 i s.heap) (t2 : St2 i s.heap) (l1 : i < n1) (l2 : i < n2)
    (k : ∀ x y h' tk, P1 i x → P2 i y → IsZipHeld h' z TI TO T true → St1 (i + 1) h' → St2 (i + 1) h' → IsTupOf2 h' s.heap.objs.size x y → h'.objs.size = s.heap.objs.size + 1 →
      (∀ c o, c ≠ z → c ≠ i1 → c ≠ i2 → s.heap.get? c = some o → h'.get? c = some o) → Q (.ref s.heap.objs.size) { s with heap := h', toks := tk }) :
    wpAny (model prog w) A (Builtin.«zip.__next__» ⟨[.ref z], []⟩) (fun fin s' => ∃ v, fin = .done (.ret v) ∧ Q v s') E s := by
  obtain ⟨hp, g, d, tk0, os⟩ := s
  show wpAny _ _ (field (.ref z) 2 >>= _) _ _ _
  refine wpAny_bind (wpAny_field gz rfl (x := .bool false) rfl ?_)
  show wpAny _ _ (field (.ref z) 3 >>= _) _ _ _
  refine wpAny_bind (wpAny_field gz rfl (x := .ref TI) rfl ?_)
  refine wpAny_bind (wpAny_seqItems gI rfl ?_)
  show wpAny _ _ (Builtin.SmallTypes.ownedTupleIsFree (.ref z) >>= _) _ _ _
  refine wpAny_bind (wpAny_tupleHeld_zip gz gT fun u0 gz0 e0 => ?_)
  replace e0 : Heap.SameBut z hp u0 := e0
  simp only [Bool.false_eq_true, if_false]
  refine wpAny_bind ?_
  rw [← Array.forIn_toList]
  simp only [List.forIn_cons, List.forIn_nil]
  refine wpAny_bind (wpAny_bind (wpAny_holding ?_))
  show wpAny _ _ (Builtin.SmallTypes.nextOf (.ref i1) >>= _) _ _ ⟨u0, g, d, tk0, os⟩
  refine wpAny_bind (D1.item i _ _ _ l1 (D1.over t1 e0 S.zf1) fun x u1 k1 hx n1' e1 => wpAny_pure ?_)
  replace e1 : Heap.SameBut i1 u0 u1 := e1
  refine wpAny_pure ?_
  refine wpAny_bind (wpAny_bind (wpAny_holding ?_))
  show wpAny _ _ (Builtin.SmallTypes.nextOf (.ref i2) >>= _) _ _ ⟨u1, g, d, k1, os⟩
  refine wpAny_bind (D2.item i _ _ _ l2 (D2.over (D2.over t2 e0 S.zf2) e1 S.sep1_2) fun y u2 k2 hy n2' e2 => wpAny_pure ?_)
  replace e2 : Heap.SameBut i2 u1 u2 := e2
  refine wpAny_pure (wpAny_pure ?_)
  show wpAny _ _ (newTuple [x, y] >>= _) _ _ ⟨u2, g, d, k2, os⟩
  refine wpAny_bind (wpAny_newTuple ?_)
  have sz : u2.objs.size = hp.objs.size := by rw [e2.1, e1.1, e0.1]
  have gz2 : IsZipHeld u2 z TI TO T true := e2.extBut _ _ S.zi2 (e1.extBut _ _ S.zi1 gz0)
  have kk : ∀ c o, c ≠ z → c ≠ i1 → c ≠ i2 → hp.get? c = some o → u2.get? c = some o := fun c o a b b' q => e2.extBut _ _ b' (e1.extBut _ _ b (e0.extBut _ _ a q))
  have m1 : St1 (i + 1) u2 := D1.over n1' e2 S.sep2_1
  have pr : IsTupOf2 (u2.push { cls := .type "tuple", data := .seq #[x, y] }) u2.objs.size x y := Heap.get?_push_size _ rfl
  have sz2 : (u2.push { cls := .type "tuple", data := .seq #[x, y] }).objs.size = u2.objs.size + 1 := Heap.size_push ..
  refine wpAny_pure ⟨_, rfl, ?_⟩
  show Q (.ref u2.objs.size) ⟨u2.push { cls := .type "tuple", data := .seq #[x, y] }, g, d, k2, os⟩
  rw [sz] at pr sz2 ⊢
  exact k x y _ k2 hx hy (Heap.get?_push_of_some _ gz2) (D1.frame _ _ _ m1 fun b _ o q => Heap.get?_push_of_some _ q) (D2.frame _ _ _ n2' fun b _ o q => Heap.get?_push_of_some _ q) pr sz2 fun c o a b b' q => Heap.get?_push_of_some _ (kk c o a b b' q)
theorem held_end {Q : Fin → Shared → Prop} (S : ZipSep2 z TI TO i1 i2 fp1 fp2) (D1 : Draws prog w A i1 fp1 n1 P1 St1)
    (gz : IsZipHeld s.heap z TI TO T f) (gT : s.heap.get? T = some oT) (gI : IsTupOf2 s.heap TI (.ref i1) (.ref i2)) (t1 : St1 n1 s.heap)
    (k : ∀ h' e, (∀ c o, c ≠ z → c ≠ i1 → s.heap.get? c = some o → h'.get? c = some o) → (∃ o, h'.get? e = some o ∧ o.cls = .type "StopIteration") → E (.ref e) { s with heap := h' }) :
    wpAny (model prog w) A (Builtin.«zip.__next__» ⟨[.ref z], []⟩) Q E s := by
  obtain ⟨hp, g, d, tk0, os⟩ := s
  show wpAny _ _ (field (.ref z) 2 >>= _) _ _ _
  refine wpAny_bind (wpAny_field gz rfl (x := .bool false) rfl ?_)
  show wpAny _ _ (field (.ref z) 3 >>= _) _ _ _
  refine wpAny_bind (wpAny_field gz rfl (x := .ref TI) rfl ?_)
  refine wpAny_bind (wpAny_seqItems gI rfl ?_)
  show wpAny _ _ (Builtin.SmallTypes.ownedTupleIsFree (.ref z) >>= _) _ _ _
  refine wpAny_bind (wpAny_tupleHeld_zip gz gT fun u0 gz0 e0 => ?_)
  replace e0 : Heap.SameBut z hp u0 := e0
  simp only [Bool.false_eq_true, if_false]
  refine wpAny_bind ?_
  rw [← Array.forIn_toList]
  simp only [List.forIn_cons, List.forIn_nil]
  refine wpAny_bind (wpAny_bind (wpAny_holding ?_))
  show wpAny _ _ (Builtin.SmallTypes.nextOf (.ref i1) >>= _) _ _ ⟨u0, g, d, tk0, os⟩
  refine wpAny_bind (D1.done ⟨u0, g, d, tk0, os⟩ _ _ (D1.over t1 e0 S.zf1) fun u1 e e1 he => ?_)
  exact k u1 e (fun c o a b q => e1 _ _ b (e0.extBut _ _ a q)) he
theorem next_item {Q : Option Value → Shared → Prop} (S : ZipSep2 z TI TO i1 i2 fp1 fp2) (D1 : Draws prog w A.in1 i1 fp1 n1 P1 St1) (D2 : Draws prog w A.in1 i2 fp2 n2 P2 St2)
    (gz : IsZipHeld s.heap z TI TO T f) (gT : s.heap.get? T = some oT) (gI : IsTupOf2 s.heap TI (.ref i1) (.ref i2)) (t1 : St1 i s.heap) (t2 : St2 i s.heap) (l1 : i < n1) (l2 : i < n2)
    (k : ∀ x y h' tk, P1 i x → P2 i y → IsZipHeld h' z TI TO T true → St1 (i + 1) h' → St2 (i + 1) h' → IsTupOf2 h' s.heap.objs.size x y → h'.objs.size = s.heap.objs.size + 1 →
      (∀ c o, c ≠ z → c ≠ i1 → c ≠ i2 → s.heap.get? c = some o → h'.get? c = some o) → Q (some (.ref s.heap.objs.size)) { s with heap := h', toks := tk }) :
    wpAny (model prog w) A (pyNext (.ref z)) Q E s := by
  have ty : s.TypeIs (.ref z) "zip" := ⟨_, gz, rfl⟩
  unfold pyNext
  exact wpAny_bind (wpAny_attempt (wpAny_callSpecial?_slot (name := Str.ofString "__next__") ty F.slot_zip_next
    (wpAny_call_entry F.slot_zip_next ty F.entry_zip_next (held_item S D1 D2 gz gT gI t1 t2 l1 l2 fun x y h' tk a b c d e q r m => wpAny_pure (k x y h' tk a b c d e q r m)) (F.args_zip_next_1 _))))
theorem next_end {Q : Option Value → Shared → Prop} (S : ZipSep2 z TI TO i1 i2 fp1 fp2) (D1 : Draws prog w A.in1 i1 fp1 n1 P1 St1)
    (gz : IsZipHeld s.heap z TI TO T f) (gT : s.heap.get? T = some oT) (gI : IsTupOf2 s.heap TI (.ref i1) (.ref i2)) (t1 : St1 n1 s.heap)
    (k : ∀ h', (∀ c o, c ≠ z → c ≠ i1 → s.heap.get? c = some o → h'.get? c = some o) → Q none { s with heap := h' }) : wpAny (model prog w) A (pyNext (.ref z)) Q E s := by
  have ty : s.TypeIs (.ref z) "zip" := ⟨_, gz, rfl⟩
  unfold pyNext
  refine wpAny_bind (wpAny_attempt (wpAny_callSpecial?_slot (name := Str.ofString "__next__") ty F.slot_zip_next
    (wpAny_call_entry F.slot_zip_next ty F.entry_zip_next (held_end S D1 gz gT gI t1 fun h' e hk he => ?_) (F.args_zip_next_1 _))))
  obtain ⟨o, ho, hc⟩ := he
  refine wpAny_bind (wpAny_isInstance (T := "StopIteration") (b := true) ⟨o, ho, hc⟩ isSubtype_stop ?_)
  exact wpAny_pure (k _ hk)
end
theorem zip_no_len : typeLookup (.type "zip") "__len__" = pure none := by rw [typeLookup_type, builtinLookup_eq_fast]; kernel_rfl
theorem zip_no_hint : typeLookup (.type "zip") "__length_hint__" = pure none := by rw [typeLookup_type, builtinLookup_eq_fast]; kernel_rfl
end ZipL

namespace ZipL
open PySem PySem.Spec
/-- how the zip stands after i pairs -/
def ZL (h : Heap) (z TI TO i1 i2 S : Addr) (i : Nat) : Prop :=
  (i = 0 ∧ IsZip h z TI TO .none ∧ ∃ a b, IsTupOf2 h TO a b) ∨ ∃ T f oT, IsZipHeld h z TI TO T f ∧ h.get? T = some oT ∧ T ≠ z ∧ T ≠ i1 ∧ T ≠ i2 ∧ T ≠ S
/-- the pairs made so far -/
structure ZG (P1 P2 : Nat → Value → Prop) (lo : Addr) (h : Heap) (as : List Addr) : Prop where
  rise : as.Pairwise (· < ·)
  above : ∀ a ∈ as, lo < a
  pairs : ∀ (j : Nat) (a : Addr), as[j]? = some a → ∃ x y, P1 j x ∧ P2 j y ∧ IsTupOf2 h a x y
theorem ZG.there {P1 P2 : Nat → Value → Prop} {lo : Addr} {h : Heap} {as : List Addr} (g : ZG P1 P2 lo h as) {a : Addr} (ha : a ∈ as) : a < h.objs.size := by
  obtain ⟨j, hj⟩ := List.mem_iff_getElem?.mp ha
  obtain ⟨_, _, _, _, e⟩ := g.pairs j a hj
  exact Heap.lt_size e
theorem ZL.keep {h h' : Heap} {z TI TO i1 i2 S : Addr} {i : Nat} (x : ZL h z TI TO i1 i2 S i) (k : ∀ b o, b ≠ S → h.get? b = some o → h'.get? b = some o) (hz : z ≠ S) (hT : TO ≠ S) : ZL h' z TI TO i1 i2 S i := by
  rcases x with ⟨e, a, b, c, d⟩ | ⟨T, f, oT, a, b, c⟩
  · exact .inl ⟨e, k _ _ hz a, b, c, k _ _ hT d⟩
  · exact .inr ⟨T, f, oT, k _ _ hz a, k _ _ c.2.2.2 b, c⟩
section
variable {prog : Program} {w : World} {A : Around} {s : Shared} {R : Result → Shared → Prop} {z TI TO i1 i2 : Addr} {fp1 fp2 : List Addr} {n : Nat} {P1 P2 : Nat → Value → Prop} {St1 St2 : Nat → Heap → Prop}
/-- one pair from either state -/
theorem zl_item {A : Around} {E : Value → Shared → Prop} {S : Addr} {i : Nat} {Q : Option Value → Shared → Prop} (Sp : ZipSep2 z TI TO i1 i2 fp1 fp2) (D1 : Draws prog w A.in1 i1 fp1 n P1 St1) (D2 : Draws prog w A.in1 i2 fp2 n P2 St2)
    (x : ZL s.heap z TI TO i1 i2 S i) (gI : IsTupOf2 s.heap TI (.ref i1) (.ref i2)) (t1 : St1 i s.heap) (t2 : St2 i s.heap) (l : i < n) (hS : S < s.heap.objs.size)
    (k : ∀ a b h' tk, P1 i a → P2 i b → ZL h' z TI TO i1 i2 S (i + 1) → IsTupOf2 h' TI (.ref i1) (.ref i2) → St1 (i + 1) h' → St2 (i + 1) h' → IsTupOf2 h' s.heap.objs.size a b → h'.objs.size = s.heap.objs.size + 1 →
      (∀ c o, c ≠ z → c ≠ TO → c ≠ i1 → c ≠ i2 → s.heap.get? c = some o → h'.get? c = some o) → Q (some (.ref s.heap.objs.size)) { s with heap := h', toks := tk }) :
    wpAny (model prog w) A (pyNext (.ref z)) Q E s := by
  have lt : ∀ {c o}, s.heap.get? c = some o → s.heap.objs.size ≠ c := fun e => Nat.ne_of_gt (Heap.lt_size e)
  have q1 : s.heap.objs.size ≠ i1 := by obtain ⟨_, e⟩ := D1.live _ _ t1; exact lt e
  have q2 : s.heap.objs.size ≠ i2 := by obtain ⟨_, e⟩ := D2.live _ _ t2; exact lt e
  rcases x with ⟨rfl, gz, a0, b0, gO⟩ | ⟨T, f, oT, gz, gT, c1, c2, c3, c4⟩
  · refine wpAny_pyNext_zipD2_item Sp D1 D2 gz gI gO t1 t2 l l fun a b h' tk p1 p2 g1 g2 m1 m2 g3 sz kk => ?_
    exact k a b h' tk p1 p2 (.inr ⟨_, false, _, g1, g3, lt gz, q1, q2, Nat.ne_of_gt hS⟩) (kk _ _ Sp.TIz Sp.TITO Sp.TIi1 Sp.TIi2 gI) m1 m2 g3 sz kk
  · refine next_item Sp D1 D2 gz gT gI t1 t2 l l fun a b h' tk p1 p2 g1 m1 m2 g3 sz kk => ?_
    exact k a b h' tk p1 p2 (.inr ⟨T, true, oT, g1, kk _ _ c1 c2 c3 gT, c1, c2, c3, c4⟩) (kk _ _ Sp.TIz Sp.TIi1 Sp.TIi2 gI) m1 m2 g3 sz fun c o a _ b d => kk c o a b d
theorem zl_done {A : Around} {E : Value → Shared → Prop} {S : Addr} {Q : Option Value → Shared → Prop} (Sp : ZipSep2 z TI TO i1 i2 fp1 fp2) (D1 : Draws prog w A.in1 i1 fp1 n P1 St1) (D2 : Draws prog w A.in1 i2 fp2 n P2 St2)
    (x : ZL s.heap z TI TO i1 i2 S n) (gI : IsTupOf2 s.heap TI (.ref i1) (.ref i2)) (t1 : St1 n s.heap) (t2 : St2 n s.heap)
    (k : ∀ h' tk, (∀ c o, c ≠ z → c ≠ TO → c ≠ i1 → c ≠ i2 → s.heap.get? c = some o → h'.get? c = some o) → Q none { s with heap := h', toks := tk }) : wpAny (model prog w) A (pyNext (.ref z)) Q E s := by
  rcases x with ⟨e, gz, a0, b0, gO⟩ | ⟨T, f, oT, gz, gT, c1, c2, c3, c4⟩
  · exact wpAny_pyNext_zipD2_end Sp D1 D2 gz gI gO t1 t2 (Nat.le_refl _) (Nat.le_refl _) (.inl rfl) k
  · exact next_end Sp D1 gz gT gI t1 fun h' kk => k h' s.toks fun c o a _ b _ => kk c o a b
/-- all five cells and what is drawn from lie off the new list -/
structure Off (z TI TO i1 i2 S : Addr) (fp1 fp2 : List Addr) : Prop where
  z : z ≠ S
  TI : TI ≠ S
  TO : TO ≠ S
  i1 : i1 ≠ S
  i2 : i2 ≠ S
  f1 : S ∉ fp1
  f2 : S ∉ fp2
theorem zl_loop {S : Addr} (Sp : ZipSep2 z TI TO i1 i2 fp1 fp2) (D1 : Draws prog w A.in1.in1 i1 fp1 n P1 St1) (D2 : Draws prog w A.in1.in1 i2 fp2 n P2 St2) (O : Off z TI TO i1 i2 S fp1 fp2) (low : z < S ∧ TO < S ∧ i1 < S ∧ i2 < S) (hn : n ≤ sizeLine) (res : Value) {h₁ : Heap}
    (hR : ∀ h' tk acc c as, (∀ b o, b ≠ S → b ≠ z → b ≠ TO → b ≠ i1 → b ≠ i2 → h₁.get? b = some o → h'.get? b = some o) → h'.get? S = some { cls := .type "list", dict := none, data := .seq acc c, slots := #[] } → as.length = n → ZG P1 P2 S h' as →
      acc.toList = as.map Value.ref → R (.ok (.ret res)) { s with heap := h', toks := tk }) :
    ∀ (k i : Nat) (h : Heap) (tk c : Nat) (acc : Array Value) (as : List Addr), n - i = k → i ≤ n → ZL h z TI TO i1 i2 S i → IsTupOf2 h TI (.ref i1) (.ref i2) → St1 i h → St2 i h → (∀ b o, b ≠ S → b ≠ z → b ≠ TO → b ≠ i1 → b ≠ i2 → h₁.get? b = some o → h.get? b = some o) →
      h.get? S = some { cls := .type "list", dict := none, data := .seq acc c, slots := #[] } → acc.toList = as.map Value.ref → as.length = i → ZG P1 P2 S h as →
      codeAny (model prog w) A (.builtin "list.extend.loop" ⟨[.ref S, .ref z, res], []⟩) R { s with heap := h, toks := tk } := by
  intro k
  induction k with
  | zero =>
    intro i h tk c acc as hk hi x gI t1 t2 kp gS ea el G
    have en : i = n := by omega
    subst en
    refine codeAny_builtin PySem.F.entry_extend_loop ?_
    rw [Around.under_plainId PySem.F.plain_extend_loop _]
    show wpAny _ A.in1 (pyNext (.ref z) >>= _) _ _ _
    refine wpAny_bind (zl_done (s := { s with heap := h, toks := tk }) (A := A.in1) Sp D1 D2 x gI t1 t2 fun h' tk' he => ?_)
    refine wpAny_pure (hR h' tk' acc c as (fun b o a1 a2 a3 a4 a5 e => he b o a2 a3 a4 a5 (kp b o a1 a2 a3 a4 a5 e)) (he S _ O.z.symm O.TO.symm O.i1.symm O.i2.symm gS) el ⟨G.rise, G.above, fun j a hj => ?_⟩ ea)
    obtain ⟨u, v, e1, e2, e3⟩ := G.pairs j a hj
    have ab := G.above a (List.mem_of_getElem? hj)
    obtain ⟨w1, w2, w3, w4⟩ := low
    exact ⟨u, v, e1, e2, he a _ (Nat.ne_of_gt (Nat.lt_trans w1 ab)) (Nat.ne_of_gt (Nat.lt_trans w2 ab)) (Nat.ne_of_gt (Nat.lt_trans w3 ab)) (Nat.ne_of_gt (Nat.lt_trans w4 ab)) e3⟩
  | succ k ih =>
    intro i h tk c acc as hk hi x gI t1 t2 kp gS ea el G
    have l : i < n := by omega
    have hsz : acc.size = i := by rw [← Array.length_toList, ea, List.length_map, el]
    have lS : S < h.objs.size := Heap.lt_size gS
    refine codeAny_builtin PySem.F.entry_extend_loop ?_
    rw [Around.under_plainId PySem.F.plain_extend_loop _]
    show wpAny _ A.in1 (pyNext (.ref z) >>= _) _ _ _
    refine wpAny_bind (zl_item (s := { s with heap := h, toks := tk }) (A := A.in1) Sp D1 D2 x gI t1 t2 l lS fun a b h' tk' p1 p2 x' gI' m1 m2 g3 sz kk => ?_)
    dsimp only at g3 sz kk ⊢
    have gS' := kk S _ O.z.symm O.TO.symm O.i1.symm O.i2.symm gS
    have up : ∀ b o, b ≠ S → h'.get? b = some o → (h'.update S (Obj.mapSeq (·.push (Value.ref h.objs.size)))).get? b = some o := fun b o hb e => (Heap.get?_update_other _ _ (Ne.symm hb)).trans e
    show wpAny _ A.in1 (updateSeq S (·.push (Value.ref h.objs.size)) >>= _) _ _ _
    refine wpAny_bind ?_
    obtain ⟨w1, w2, w3, w4⟩ := low
    refine wpAny_updateSeq gS' rfl (wpAny_pure ⟨plainId_quiet PySem.F.plain_extend_loop _, ih (i + 1) _ tk' _ (acc.push (Value.ref h.objs.size)) (as ++ [h.objs.size]) (by omega) l (x'.keep up O.z O.TO) (up _ _ O.TI gI')
      (D1.frame _ _ _ m1 fun b hb o e => up b o (fun q => O.f1 (q ▸ hb)) e) (D2.frame _ _ _ m2 fun b hb o e => up b o (fun q => O.f2 (q ▸ hb)) e)
      (fun b o a1 a2 a3 a4 a5 e => up b o a1 (kk b o a2 a3 a4 a5 (kp b o a1 a2 a3 a4 a5 e))) (Heap.get?_update_self _ gS' rfl) (by rw [Array.toList_push, ea, List.map_append]; rfl) (by rw [List.length_append, el]; rfl) ⟨?_, ?_, ?_⟩⟩) (by rw [hsz]; omega) (by show (acc.push (Value.ref h.objs.size)).size ≤ sizeLine + 1; rw [Array.size_push, hsz]; omega)
    · refine List.pairwise_append.mpr ⟨G.rise, List.pairwise_singleton _ _, fun a ha b hb => ?_⟩
      rw [List.mem_singleton.mp hb]
      exact G.there ha
    · intro a ha
      rcases List.mem_append.mp ha with ha | ha
      · exact G.above a ha
      · rw [List.mem_singleton.mp ha]; exact lS
    · intro j b' hj
      rcases Nat.lt_trichotomy j as.length with q | q | q
      · rw [List.getElem?_append_left q] at hj
        obtain ⟨u, v, e1, e2, e3⟩ := G.pairs j b' hj
        have ab := G.above b' (List.mem_of_getElem? hj)
        exact ⟨u, v, e1, e2, up _ _ (Nat.ne_of_gt ab) (kk _ _ (Nat.ne_of_gt (Nat.lt_trans w1 ab)) (Nat.ne_of_gt (Nat.lt_trans w2 ab)) (Nat.ne_of_gt (Nat.lt_trans w3 ab)) (Nat.ne_of_gt (Nat.lt_trans w4 ab)) e3)⟩
      · subst q
        have hb : h.objs.size = b' := by simpa using hj
        subst hb
        rw [el]
        exact ⟨a, b, p1, p2, up _ _ (Nat.ne_of_gt lS) g3⟩
      · rw [List.getElem?_eq_none (by rw [List.length_append, List.length_singleton]; omega)] at hj
        cases hj
theorem ZG.low {lo lo' : Addr} {h : Heap} {as : List Addr} (g : ZG P1 P2 lo h as) (hl : lo' ≤ lo) : ZG P1 P2 lo' h as := ⟨g.rise, fun a ha => Nat.lt_of_le_of_lt hl (g.above a ha), g.pairs⟩
theorem zl_extend {S : Addr} (Sp : ZipSep2 z TI TO i1 i2 fp1 fp2) (D1 : Draws prog w A.in1.in1 i1 fp1 n P1 St1) (D2 : Draws prog w A.in1.in1 i2 fp2 n P2 St2) (O : Off z TI TO i1 i2 S fp1 fp2) (low : z < S ∧ TO < S ∧ i1 < S ∧ i2 < S) (hn : n ≤ sizeLine) (res : Value) (c₀ : Nat)
    {a0 b0 : Value} (gz : IsZip s.heap z TI TO .none) (gO : IsTupOf2 s.heap TO a0 b0) (gI : IsTupOf2 s.heap TI (.ref i1) (.ref i2)) (t1 : St1 0 s.heap) (t2 : St2 0 s.heap) (gS : s.heap.get? S = some { cls := .type "list", data := .seq #[] c₀ })
    (hR : ∀ h' tk acc c as, (∀ b o, b ≠ S → b ≠ z → b ≠ TO → b ≠ i1 → b ≠ i2 → s.heap.get? b = some o → h'.get? b = some o) → h'.get? S = some { cls := .type "list", dict := none, data := .seq acc c, slots := #[] } → as.length = n → ZG P1 P2 S h' as →
      acc.toList = as.map Value.ref → R (.ok (.ret res)) { s with heap := h', toks := tk }) :
    wpAny (model prog w) A.in1 (Builtin.List.listExtendWith (.ref S) (.ref z) res)
      (fun fin s' => match fin with | .done f => R (.ok f) s' | .again c' => c'.quiet = true ∧ codeAny (model prog w) A c' R s') (fun e s' => R (.error e) s') s := by
  unfold Builtin.List.listExtendWith
  have gZ : s.TypeIs (.ref z) "zip" := ⟨_, gz, rfl⟩
  refine wpAny_bind (wpAny_typeOf (T := "zip") gZ ?_)
  have q1 : Builtin.List.listSameRef (.ref S) (.ref z) = false := by simp [Builtin.List.listSameRef, O.z.symm]
  have q2 : (Value.type "zip" == Value.type "list") = false := by decide
  have q3 : (Value.type "zip" == Value.type "tuple") = false := by decide
  simp only [q1, q2, q3, Bool.or_false, Bool.false_eq_true, if_false]
  refine wpAny_bind (wpAny_pyIter_zip gz ?_)
  refine wpAny_bind (wpAny_holding ?_)
  unfold Builtin.List.listLengthHint
  refine wpAny_bind (wpAny_specialOf gZ zip_no_len ?_)
  show wpAny _ A.in1 (specialOf (Value.ref z) (Str.ofString "__length_hint__") >>= _) _ _ s
  refine wpAny_bind (wpAny_specialOf gZ zip_no_hint ?_)
  refine wpAny_pure ?_
  show wpAny _ A.in1 (rule "list.extend.makes-room" >>= fun _ => Builtin.List.listTouch (.ref S) >>= fun _ => again (.builtin "list.extend.loop" ⟨[.ref S, .ref z, res], []⟩)) _ _ s
  refine wpAny_bind (wpAny_rule ?_)
  refine wpAny_bind ?_
  show wpAny _ A.in1 (updateSeq S (·.push .none) >>= fun _ => updateSeq S (·.pop)) _ _ s
  refine wpAny_bind (wpAny_updateSeq gS rfl ?_)
  have gS2 := Heap.get?_update_self (Obj.mapSeq (·.push Value.none)) gS rfl
  refine wpAny_updateSeq (hz := by seq_fits) gS2 rfl ?_
  have gS3 := Heap.get?_update_self (Obj.mapSeq (·.pop)) gS2 rfl
  have oth : ∀ b o, b ≠ S → s.heap.get? b = some o → ((s.heap.update S (Obj.mapSeq (·.push Value.none))).update S (Obj.mapSeq (·.pop))).get? b = some o :=
    fun b o hb e => (Heap.get?_update_other _ _ (Ne.symm hb)).trans ((Heap.get?_update_other _ _ (Ne.symm hb)).trans e)
  refine wpAny_pure ⟨plainId_quiet F.plain_extend_loop _, zl_loop (s := s) (h₁ := s.heap) Sp D1 D2 O low hn res hR n 0 _ _ _ _ [] (Nat.sub_zero _) (Nat.zero_le _) (.inl ⟨rfl, oth _ _ O.z gz, _, _, oth _ _ O.TO gO⟩) (oth _ _ O.TI gI)
    (D1.frame _ _ _ t1 fun b hb o e => oth b o (fun q => O.f1 (q ▸ hb)) e) (D2.frame _ _ _ t2 fun b hb o e => oth b o (fun q => O.f2 (q ▸ hb)) e) (fun b o a1 _ _ _ _ e => oth b o a1 e) gS3 rfl rfl ⟨List.Pairwise.nil, (fun _ ha => nomatch ha), fun j a hj => by simp at hj⟩⟩
theorem zl_init {S : Addr} (Sp : ZipSep2 z TI TO i1 i2 fp1 fp2) (D1 : Draws prog w A.in1.in1 i1 fp1 n P1 St1) (D2 : Draws prog w A.in1.in1 i2 fp2 n P2 St2) (O : Off z TI TO i1 i2 S fp1 fp2) (low : z < S ∧ TO < S ∧ i1 < S ∧ i2 < S) (hn : n ≤ sizeLine)
    {a0 b0 : Value} (gz : IsZip s.heap z TI TO .none) (gO : IsTupOf2 s.heap TO a0 b0) (gI : IsTupOf2 s.heap TI (.ref i1) (.ref i2)) (t1 : St1 0 s.heap) (t2 : St2 0 s.heap) (gS : s.heap.get? S = some { cls := .type "list", data := .seq #[] })
    (hR : ∀ h' tk acc c as, (∀ b o, b ≠ S → b ≠ z → b ≠ TO → b ≠ i1 → b ≠ i2 → s.heap.get? b = some o → h'.get? b = some o) → h'.get? S = some { cls := .type "list", dict := none, data := .seq acc c, slots := #[] } → as.length = n → ZG P1 P2 S h' as →
      acc.toList = as.map Value.ref → R (.ok (.ret .none)) { s with heap := h', toks := tk }) :
    wpAny (model prog w) A.in1 (Builtin.«list.__init__» ⟨[.ref S, .ref z], []⟩)
      (fun fin s' => match fin with | .done f => R (.ok f) s' | .again c' => c'.quiet = true ∧ codeAny (model prog w) A c' R s') (fun e s' => R (.error e) s') s := by
  show wpAny _ A.in1 (do let old ← Builtin.List.listItems (.ref S); Builtin.List.listUpdate (.ref S) (fun _ => #[]); letGo old.toList.reverse; Builtin.List.listExtendWith (.ref S) (.ref z) .none) _ _ s
  refine wpAny_bind ?_
  unfold Builtin.List.listItems
  refine wpAny_bind (wpAny_seqItems gS rfl (wpAny_pure ?_))
  show wpAny _ A.in1 (updateSeq S (fun _ => #[]) >>= fun _ => letGo (#[] : Array Value).toList.reverse >>= fun _ => Builtin.List.listExtendWith (.ref S) (.ref z) .none) _ _ s
  refine wpAny_bind (wpAny_updateSeq gS rfl ?_)
  have gS2 := Heap.get?_update_self (Obj.mapSeq (fun _ => (#[] : Array Value))) gS rfl
  have oth : ∀ b o, b ≠ S → s.heap.get? b = some o → (s.heap.update S (Obj.mapSeq (fun _ => (#[] : Array Value)))).get? b = some o := fun b o hb e => (Heap.get?_update_other _ _ (Ne.symm hb)).trans e
  refine wpAny_bind (wpAny_letGo ?_)
  refine zl_extend Sp D1 D2 O low hn .none _ (oth _ _ O.z gz) (oth _ _ O.TO gO) (oth _ _ O.TI gI) (D1.frame _ _ _ t1 fun b hb o e => oth b o (fun q => O.f1 (q ▸ hb)) e) (D2.frame _ _ _ t2 fun b hb o e => oth b o (fun q => O.f2 (q ▸ hb)) e) gS2 fun h' tk acc c as hk q1 q2 q3 q4 => ?_
  exact hR h' tk acc c as (fun b o a1 a2 a3 a4 a5 e => hk b o a1 a2 a3 a4 a5 (oth b o a1 e)) q1 q2 q3 q4
end
section
variable {prog : Program} {w : World} {A : Around} {E : Value → Shared → Prop} {s : Shared} {z TI TO i1 i2 : Addr} {fp1 fp2 : List Addr} {n : Nat} {P1 P2 : Nat → Value → Prop} {St1 St2 : Nat → Heap → Prop}
/-- list(a zip that has just been made) -/
theorem call_list_zip {Q : Value → Shared → Prop} (Sp : ZipSep2 z TI TO i1 i2 fp1 fp2) (D1 : Draws prog w A.in1.in1.in1 i1 fp1 n P1 St1) (D2 : Draws prog w A.in1.in1.in1 i2 fp2 n P2 St2) (hn : n ≤ sizeLine) (b1 : ∀ b ∈ fp1, b < s.heap.objs.size) (b2 : ∀ b ∈ fp2, b < s.heap.objs.size)
    {a0 b0 : Value} (gz : IsZip s.heap z TI TO .none) (gO : IsTupOf2 s.heap TO a0 b0) (gI : IsTupOf2 s.heap TI (.ref i1) (.ref i2)) (t1 : St1 0 s.heap) (t2 : St2 0 s.heap)
    (k : ∀ h' tk acc c as, (∀ b o, b ≠ z → b ≠ TO → b ≠ i1 → b ≠ i2 → s.heap.get? b = some o → h'.get? b = some o) → h'.get? s.heap.objs.size = some { cls := .type "list", dict := none, data := .seq acc c, slots := #[] } → as.length = n → ZG P1 P2 s.heap.objs.size h' as →
      acc.toList = as.map Value.ref → Q (.ref s.heap.objs.size) { s with heap := h', toks := tk }) :
    wpAny (model prog w) A (call (.type "list") [.ref z]) Q E s := by
  have lz := Heap.lt_size gz
  have lO := Heap.lt_size gO
  have lI := Heap.lt_size gI
  have li1 := b1 _ Sp.mem1
  have li2 := b2 _ Sp.mem2
  refine callType_codes (Q₁ := fun obj s₁ => obj = .ref s.heap.objs.size ∧ s₁ = { s with heap := s.heap.push { cls := .type "list", data := .seq #[] } }) F.called_list (F.typeCall_list_1 _) F.entry_list_init (code_list_new _ ⟨rfl, rfl⟩) fun obj s₁ h₁ => ?_
  obtain ⟨rfl, rfl⟩ := h₁
  have gS : (s.heap.push { cls := .type "list", data := .seq #[] }).get? s.heap.objs.size = some { cls := .type "list", data := .seq #[] } := Heap.get?_push_size _ rfl
  have up : ∀ b o, s.heap.get? b = some o → (s.heap.push { cls := .type "list", data := .seq #[] }).get? b = some o := fun b o e => Heap.get?_push_of_some _ e
  refine ⟨⟨_, gS, rfl⟩, F.args_list_init_2 _ _, zl_init (s := { s with heap := s.heap.push { cls := .type "list", data := .seq #[] } }) Sp D1 D2 ⟨Nat.ne_of_lt lz, Nat.ne_of_lt lI, Nat.ne_of_lt lO, Nat.ne_of_lt li1, Nat.ne_of_lt li2, fun q => Nat.lt_irrefl _ (b1 _ q), fun q => Nat.lt_irrefl _ (b2 _ q)⟩ ⟨lz, lO, li1, li2⟩ hn
    (up _ _ gz) (up _ _ gO) (up _ _ gI) (D1.frame _ _ _ t1 fun b _ o e => up b o e) (D2.frame _ _ _ t2 fun b _ o e => up b o e) gS fun h' tk acc c as hk q1 q2 q3 q4 => ?_⟩
  exact ⟨rfl, k h' tk acc c as (fun b o a2 a3 a4 a5 e => hk b o (Nat.ne_of_lt (Heap.lt_size e)) a2 a3 a4 a5 (up b o e)) q1 q2 q3 q4⟩
end
end ZipL

namespace ZipL
open PySem PySem.Spec PyProof.Rows L2
/-- the pairs put at their places -/
def putP : Hp → List Addr → List (V × V) → Hp
  | H, t :: ts, q :: qs => putP (upd H t (.tup [q.1, q.2])) ts qs
  | H, _, _ => H
theorem putP_off {b : Addr} : ∀ (ts : List Addr) (qs : List (V × V)) (H : Hp), b ∉ ts → putP H ts qs b = H b
  | [], _, _, _ => rfl
  | _ :: _, [], _, _ => rfl
  | t :: ts, q :: qs, H, h => by
    show putP (upd H t (.tup [q.1, q.2])) ts qs b = H b
    rw [putP_off ts qs _ (fun z => h (List.mem_cons_of_mem _ z)), upd_ne (fun z => h (by rw [z]; exact List.mem_cons_self))]
theorem putP_at : ∀ (ts : List Addr) (qs : List (V × V)) (H : Hp), ts.length = qs.length → ts.Nodup → Paired (fun (t : Addr) (q : V × V) => putP H ts qs t = some (.tup [q.1, q.2])) ts qs
  | [], [], _, _, _ => .nil
  | [], _ :: _, _, h, _ => by cases h
  | _ :: _, [], _, h, _ => by cases h
  | t :: ts, q :: qs, H, h, hn => by
    have hn' := List.nodup_cons.mp hn
    refine .cons ?_ (putP_at ts qs (upd H t (.tup [q.1, q.2])) (Nat.succ.inj h) hn'.2)
    show putP (upd H t (.tup [q.1, q.2])) ts qs t = some (.tup [q.1, q.2])
    rw [putP_off ts qs _ hn'.1, upd_same]
def tListZip (K : PySem.W.Frag) (ta : TA) : TE := fun σ H Q => ta σ H fun vs H1 => ∃ (a b : Addr) (xs ys : List V), vs = [.ref a, .ref b] ∧ SqL K H1 a xs ∧ SqT K H1 b ys ∧ xs.length = ys.length ∧
  ∀ (H' : Hp) (p : Addr) (ts : List Addr), Same H1 H' → H1 p = none → (∀ t ∈ ts, H1 t = none) → p ∉ ts → H' p = some (.lst (ts.map V.ref)) → Paired (fun (t : Addr) (q : V × V) => H' t = some (.tup [q.1, q.2])) ts (xs.zip ys) → Q (.ref p) H'
section
variable {X : Cx} {e1 e2 : Expr} {ta : TA} {p p2 pos pos2 : Pos}
theorem zip_laid {pins : List (Addr × Obj)} {σ : L2.St} {H : Hp} {s : Shared} {h' : Heap} {tk : Nat} {xs ys : List V} {us vs : List Value} {acc : Array Value} {c : Nat} {as : List Addr} (I : Inv X pins σ H s) (hz : xs.length ≤ sizeLine) (el : xs.length = ys.length) (rx : Vals xs us) (ry : Vals ys vs)
    {L : Addr} (hL : s.heap.objs.size ≤ L) (hk : ∀ b o, s.heap.get? b = some o → h'.get? b = some o) (gS : h'.get? L = some { cls := .type "list", dict := none, data := .seq acc c, slots := #[] }) (hl : as.length = xs.length)
    (G : ZG (fun i v => us.toArray[i]? = some v) (fun i v => vs.toArray[i]? = some v) L h' as) (ea : acc.toList = as.map Value.ref) :
    ∃ H' : Hp, Same H H' ∧ H L = none ∧ (∀ t ∈ as, H t = none) ∧ L ∉ as ∧ H' L = some (.lst (as.map V.ref)) ∧ Paired (fun (t : Addr) (q : V × V) => H' t = some (.tup [q.1, q.2])) as (xs.zip ys) ∧ Inv X pins σ H' { s with heap := h', toks := tk } := by
  have zl : (xs.zip ys).length = xs.length := by rw [List.length_zip, ← el, Nat.min_self]
  have sn : L ∉ as := fun z => Nat.lt_irrefl _ (G.above _ z)
  have nd : as.Nodup := List.Pairwise.imp (fun {a b} (h : a < b) => Nat.ne_of_lt h) G.rise
  have new : ∀ t ∈ as, H t = none := fun t ht => I.hok.fresh (Nat.le_trans hL (Nat.le_of_lt (G.above t ht)))
  have newS : H L = none := I.hok.fresh hL
  have atP := putP_at as (xs.zip ys) (upd H L (.lst (as.map V.ref))) (by omega) nd
  have off : ∀ b, b ∉ as → b ≠ L → putP (upd H L (.lst (as.map V.ref))) as (xs.zip ys) b = H b := fun b h1 h2 => by rw [putP_off as _ _ h1, upd_ne h2]
  have low : ∀ b o, s.heap.get? b = some o → b ∉ as ∧ b ≠ L := fun b o e => ⟨fun z => absurd (Heap.lt_size e) (Nat.not_lt.mpr (Nat.le_trans hL (Nat.le_of_lt (G.above b z)))), Nat.ne_of_lt (Nat.lt_of_lt_of_le (Heap.lt_size e) hL)⟩
  have kp : ∀ b u, H b = some u → (putP (upd H L (.lst (as.map V.ref))) as (xs.zip ys)) b = some u := fun b u e => by
    rw [off b (fun z => by rw [new b z] at e; cases e) (fun z => by rw [z, newS] at e; cases e)]
    exact e
  have eS : putP (upd H L (.lst (as.map V.ref))) as (xs.zip ys) L = some (.lst (as.map V.ref)) := by rw [putP_off as _ _ sn, upd_same]
  refine ⟨putP (upd H L (.lst (as.map V.ref))) as (xs.zip ys), kp, newS, new, sn, eS, atP, ?_⟩
  refine I.call' (ch := []) rfl ⟨fun b o q _ _ _ => hk b o q, fun b o q _ _ _ => ⟨o.slots, hk b o q⟩, fun b o q n _ => ?_, fun b o q _ => ⟨o, hk b o q⟩, fun b xs q => kp b _ q, fun b o u q => kp b _ q, fun b ps q => ⟨#[], by rw [kp b _ q]; simp⟩⟩ (fun b u q => ?_) I.bare fun b z => by simp at z
  · obtain ⟨z1, z2⟩ := low b o q
    rw [off b z1 z2]
    exact n
  · by_cases hb : b ∈ as
    · obtain ⟨j, pk, e1, e2, e3⟩ := LiI.paired_ix atP hb
      rw [e3] at q
      cases q
      obtain ⟨x, y, f1, f2, f3⟩ := G.pairs j b e1
      obtain ⟨g1, g2⟩ := List.getElem?_zip_eq_some.mp e2
      obtain ⟨x', hx', r1⟩ := rx.get g1
      obtain ⟨y', hy', r2⟩ := ry.get g2
      have f1 : us.toArray[j]? = some x := f1
      have f2 : vs.toArray[j]? = some y := f2
      rw [List.getElem?_toArray, hx'] at f1
      rw [List.getElem?_toArray, hy'] at f2
      cases f1
      cases f2
      exact ⟨by show 2 ≤ sizeLine; decide, [x, y], .cons r1 (.cons r2 .nil), ⟨_, f3, rfl, _, rfl⟩⟩
    · by_cases hb2 : b = L
      · rw [hb2] at q ⊢
        rw [eS] at q
        cases q
        refine ⟨by rw [List.length_map]; omega, acc.toList, c, by rw [ea]; exact LiI.vals_refs as, ?_⟩
        rw [Array.toArray_toList]
        exact gS
      · rw [off b hb hb2] at q
        exact (I.hok b u q).stay (fun d v _ y => hk d v y) (fun d y => kp d _ y) fun d xs y => kp d _ y
/-- list(zip(a list, a tuple)) -/
theorem pe_listZip (hc : X.calm = true) (ha : PA X [e1, e2] ta) (hg : Gl X "list") (hm : X.mg "list" = none) (hv : bootBuiltins "list" = some (.type "list")) (hg2 : Gl X "zip") (hm2 : X.mg "zip" = none)
    (hs : starEach [.Call (.Name "zip" p2) [e1, e2] [] pos2] X.env = (false, eval (.Call (.Name "zip" p2) [e1, e2] [] pos2) X.env) :: starEach [] X.env := by rfl)
    (hs2 : starEach [e1, e2] X.env = (false, eval e1 X.env) :: starEach [e2] X.env := by rfl) (hpl : (backTo pos2 (starEach [e2] X.env)).any (·.1) = false := by rfl) :
    PE X (.Call (.Name "list" p) [.Call (.Name "zip" p2) [e1, e2] [] pos2] [] pos) (tListZip X.K ta) := by
  refine ⟨fun pins s σ H Q I hq => ?_⟩
  refine wpAny_Call_Name_kw (ld_blt I hg hm hv ?_)
  refine PyProof.Rows.callWith_type1 ?_ hs rfl
  rw [hs]
  show wpAny _ _ (spliced ((false, eval (.Call (.Name "zip" p2) [e1, e2] [] pos2) X.env) :: backTo pos (starEach [] X.env))) _ _ s
  refine Calls.spliced_cons ?_
  refine Call_ (ld_blt I hg2 hm2 PyProof.Rows.boot_zip (PyProof.Rows.callWith_type1 (thn (ha.run pos2 pins s σ H _ I hq) fun us s1 ⟨vs, H1, I1, r1, q1⟩ => ?_) hs2 hpl))
  obtain ⟨a, b, xs, ys, ex, hx, hy, el, q⟩ := q1
  subst ex
  cases r1 with
  | cons r rr =>
    cases rr with
    | cons r' rr =>
      cases rr
      cases r
      cases r'
      obtain ⟨its, rv, p1, z1⟩ := I1.list hx
      obtain ⟨its2, rv2, p2', z2⟩ := I1.tuple hy
      have L1 : s1.heap.IsList a its.toArray := p1.isList
      have L2' : s1.heap.IsTuple b its2.toArray := p2'
      refine zip_begins2 (begins_list a its.toArray) (begins_tuple b its2.toArray) L1 L2' fun h1 gz gI gO g1 g2 sz kk => ?_
      have I2 : Inv X pins σ H1 { s1 with heap := h1 } := I1.kept (t' := s1.toks) kk
      have hh := I1.ok.hd hc
      have la : a < s1.heap.objs.size := p1.lt
      have lb : b < s1.heap.objs.size := let ⟨_, e, _⟩ := L2'; Heap.lt_size e
      refine Calls.spliced_nil ?_
      have D1 := Draws.list (prog := X.prog) (w := X.w) (A := X.A.in1.in1.in1) hh s1.heap.objs.size a (Nat.ne_of_lt la) its.toArray
      have D2 := Draws.tuple (prog := X.prog) (w := X.w) (A := X.A.in1.in1.in1) hh (s1.heap.objs.size + 1) b (Nat.ne_of_lt (Nat.lt_succ_of_lt lb)) its2.toArray
      have lxs := rv.length
      have lys := rv2.length
      have e12 : its2.toArray.size = its.toArray.size := by rw [List.size_toArray, List.size_toArray]; omega
      rw [e12] at D2
      have lt5 : ∀ c, c < s1.heap.objs.size + 5 → c < h1.objs.size := fun c hc => by rw [sz]; exact hc
      refine call_list_zip (s := { s1 with heap := h1 }) (zip_sep2 (N := s1.heap.objs.size) (fp1 := [a]) (fp2 := [b]) (fun c hc => by rw [List.mem_singleton.mp hc]; exact la) (fun c hc => by rw [List.mem_singleton.mp hc]; exact lb)) D1 D2 (by rw [List.size_toArray]; omega) (fun c hc => ?_) (fun c hc => ?_) gz gO gI ⟨⟨_, g1, rfl, rfl⟩, L1.at fun o e => kk a o e⟩ ⟨⟨_, g2, rfl, rfl⟩, ?_⟩ fun h2 tk acc c as kk2 gS el2 G ea => ?_
      · rcases List.mem_cons.mp hc with z | z
        · rw [z]; exact lt5 _ (Nat.lt_add_of_pos_right (by decide))
        · rw [List.mem_singleton.mp z]; exact lt5 _ (Nat.lt_of_lt_of_le la (Nat.le_add_right _ _))
      · rcases List.mem_cons.mp hc with z | z
        · rw [z]; exact lt5 _ (Nat.add_lt_add_left (by decide) _)
        · rw [List.mem_singleton.mp z]; exact lt5 _ (Nat.lt_of_lt_of_le lb (Nat.le_add_right _ _))
      · obtain ⟨o, w1, w2, w3⟩ := L2'
        exact ⟨o, kk b o w1, w2, w3⟩
      · have low : ∀ {c o} (k : Nat), s1.heap.get? c = some o → c ≠ s1.heap.objs.size + k := fun k e => Nat.ne_of_lt (Nat.lt_of_lt_of_le (Heap.lt_size e) (Nat.le_add_right _ _))
        obtain ⟨H', q1, q2, q3, q4, q5, q6, J⟩ := zip_laid (tk := tk) (L := h1.objs.size) I1 z1 el rv rv2 (by rw [sz]; exact Nat.le_add_right _ _) (fun c o e => kk2 c o (low 4 e) (low 3 e) (low 0 e) (low 1 e) (kk c o e)) gS (by rw [el2, List.size_toArray]; omega) G ea
        exact ⟨.ref _, H', J, rfl, q H' _ as q1 q2 q3 q4 q5 q6⟩
end
end ZipL

namespace K3
open PySem PySem.Spec PyProof.Rows L2 E0
/-! ### another tree put in place of the root -/
section
variable {P : Program} {w : World} {K : PySem.W.Frag} {mg : Str → Option Value} {base : Heap}
def spNodeAt0 : Sp := fun vs H Q _ => ∃ (v : V) (p : Addr), vs = [v, .ref p] ∧ H p = some (.tup []) ∧ Q v H
def NNO : List Str := ["tree", "path", "node", "number"]
theorem scNodeAt : FnScope NNO ["tree", "path"] (defScope sNodeAt) := ⟨rfl, rfl, rfl, by decide +kernel, rfl, by decide +kernel, by decide +kernel⟩
theorem ok_nodeAt {C : Cl5} {f : Addr} {fd : FuncData} (F : Fun K "_node_at" "_node_at" sNodeAt f fd) (T : TxtT mg C) : FnOk P w K mg base CX0 1 f fd ["tree", "path"] spNodeAt0 := by
  refine F.ok scNodeAt (fun vs H Q E h => ?_) (fun cdv A outer s H vs Q E hr h => ?_)
  · obtain ⟨v, p, rfl, _⟩ := h
    rfl
  · obtain ⟨v, p, rfl, hp, k⟩ := h
    refine ⟨_, pss_cons (ps_if (pt_not (pt_val (pe_callB call_isi (by rfl) T.isi PyProof.Rows.boot_isinstance (pa_cons (pv 1) (pa_cons (pe_bltn (v := .ty "tuple") rfl T.tup PyProof.Rows.boot_tuple rfl) pa_nil))))) (pss_one ps_dead) pss_nil)
      (pss_cons (ps_set (i := 2) scNodeAt.nd rfl (.inl rfl) (pv 0))
      (pss_cons (ps_for PassesOwn.never rfl (pi_tup (pv 1)) (pg_name (i := 3) scNodeAt.nd rfl (.inl rfl)) (pss_cons ps_dead (pss_one ps_dead)))
      (pss_one (ps_ret (pv 2))))), ?_⟩
    refine ⟨_, rfl, _, _, _, _, true, rfl, .ty "tuple", .base (.tup hp), kit_ty (by decide +kernel), _, rfl, ?_⟩
    refine iteF ?_
    refine ⟨_, rfl, _, rfl, p, rfl, ⟨_, SqT.of hp⟩, for_tup (K := K) (a := p) (xs := []) (fun i σ H' => H' = H ∧ σ = [some v, some (.ref p), some v, none]) ⟨rfl, rfl⟩ (fun i σ H' _ ⟨e, _⟩ => by rw [e]; exact SqT.of hp) (fun i x σ H' hx _ => by simp at hx) (fun σ H2 ⟨e1, e2⟩ => ?_)⟩
    subst e1 e2
    exact ⟨_, rfl, k⟩
def spHas0 (C : Cl5) : Sp := fun vs H Q _ => ∃ (a p : Addr), vs = [.ref a, .ref p] ∧ H p = some (.tup []) ∧ Q (.bl true) H
theorem scTreeHas : FnScope ["self", "x"] ["self", "x"] (defScope sTreeHas) := ⟨rfl, rfl, rfl, by decide +kernel, rfl, by decide +kernel, by decide +kernel⟩
theorem ok_treeHas {C : Cl5} {f fN : Addr} {fd fdN : FuncData} (F : Fun K "__contains__" "Tree.__contains__" sTreeHas f fd) (GN : FnOk P w K mg base CX0 1 fN fdN ["tree", "path"] spNodeAt0) (AN : DefA K mg "_node_at" ["tree", "path"] fN fdN) : FnOk P w K mg base CX0 2 f fd ["self", "x"] (spHas0 C) := by
  refine F.ok scTreeHas (fun vs H Q E h => ?_) (fun cdv A outer s H vs Q E hr h => ?_)
  · obtain ⟨v, p, rfl, _⟩ := h
    rfl
  · obtain ⟨a, p, rfl, hp, k⟩ := h
    refine ⟨_, pss_one (ps_ret (pe_cmpR op_notN (pe_call GN hr rfl AN.g AN.k AN.b .nil pass0 (pa_cons (pv 0) (pa_cons (pv 1) pa_nil))) pe_non (nomark _))), ?_⟩
    exact ⟨_, rfl, _, rfl, _, p, rfl, hp, rfl, k⟩
def spPut0 (C : Cl5) : Sp := fun vs H Q _ => ∃ (a p : Addr) (dx : Addr) (fs : List (Str × V)) (v : V), vs = [.ref a, .ref p, v] ∧ H a = some (.ins C.T dx fs) ∧ H p = some (.tup []) ∧ ∀ H', Same H H' → Q v H'
def NPUT : List Str := ["self", "path", "other", "uppers", "node", "number", "upper", "children", "parts"]
theorem scPut : FnScope NPUT ["self", "path", "other"] (defScope sPut) := ⟨rfl, rfl, rfl, by decide +kernel, rfl, by decide +kernel, by decide +kernel⟩
theorem ok_put {C : Cl5} {f fH : Addr} {fd fdH : FuncData} (F : Fun K "put" "Tree.put" sPut f fd) (O : OwnC K C.T "__contains__" fH) (GH : FnR P w K mg base CX0 2 fH (spHas0 C)) (gRev : mg "reversed" = none) (gLi : mg "list" = none) (gZ : mg "zip" = none) : FnOk P w K mg base CX0 3 f fd ["self", "path", "other"] (spPut0 C) := by
  refine F.ok scPut (fun vs H Q E h => ?_) (fun cdv A outer s H vs Q E hr h => ?_)
  · obtain ⟨a, p, dx, fs, v, rfl, _⟩ := h
    rfl
  · obtain ⟨a, p, dx, fs, v, rfl, ha, hp, k⟩ := h
    refine ⟨_, pss_cons (ps_if (pt_cmpR (op_notInO (E := E0) O GH hr pass0) (pv 1) (pv 0) (by with_unfolding_all rfl)) (pss_one ps_dead) pss_nil)
      (pss_cons (ps_set (i := 3) scPut.nd rfl (.inl rfl) (pe_lst pa_nil))
      (pss_cons (ps_set (i := 4) scPut.nd rfl (.inr rfl) (pv 0))
      (pss_cons (ps_for PassesOwn.never rfl (pi_tup (pv 1)) (pg_name (i := 5) scPut.nd rfl (.inr rfl)) (pss_cons ps_dead (pss_one ps_dead)))
      (pss_cons (ps_set (i := 4) scPut.nd rfl (.inr rfl) (pv 2))
      (pss_cons (ps_for PassesOwn.never rfl (RT.pi_revA rfl gRev (ZipL.pe_listZip rfl (pa_cons (pv 3) (pa_cons (pv 1) pa_nil)) rfl gLi (by decide +kernel) rfl gZ)) (pg_tup (by rfl) (pgs_cons (pg_name (i := 6) scPut.nd rfl (.inl rfl)) (pgs_cons (pg_name (i := 5) scPut.nd rfl (.inr rfl)) pgs_nil))) (pss_cons ps_dead (pss_cons ps_dead (pss_one ps_dead))))
      (pss_one (ps_ret (pv 4)))))))), ?_⟩
    refine ⟨_, rfl, _, rfl, a, dx, fs, rfl, ha, a, p, rfl, hp, true, rfl, _, rfl, ?_⟩
    refine iteF ?_
    refine ⟨by decide, fun l0 hl0 => ?_⟩
    have s0 : Same H (upd H l0 (.lst [])) := same_upd (Same.refl H) hl0
    have v0 : (upd H l0 (.lst [])) l0 = some (.lst []) := upd_same
    generalize upd H l0 (.lst []) = H0 at s0 v0 ⊢
    refine ⟨_, rfl, _, rfl, p, rfl, ⟨_, SqT.of (s0 _ _ hp)⟩, for_tup (K := K) (a := p) (xs := []) (fun i σ H' => σ = [some (.ref a), some (.ref p), some v, some (.ref l0), some (.ref a), none, none, none, none] ∧ H' = H0) ⟨rfl, rfl⟩ (fun i σ H' _ e => by rw [e.2]; exact SqT.of (s0 _ _ hp)) (fun i x σ H' hx => by cases hx) (fun σ H1 e => ?_)⟩
    obtain ⟨e1, e2⟩ := e
    subst e1 e2
    refine ⟨_, rfl, _, rfl, _, rfl, l0, p, [], [], rfl, SqL.of v0, SqT.of (s0 _ _ hp), rfl, fun H2 lp ts s1 n1 n2 n3 hl hp2 => ?_⟩
    cases hp2
    refine ⟨lp, [], rfl, .inl ⟨SqL.of hl, for_it walk_rev (fun i σ H' => H' = H2 ∧ σ = [some (.ref a), some (.ref p), some v, some (.ref l0), some v, none, none, none, none]) ⟨rfl, rfl⟩ (fun i σ H' _ e => by rw [e.1]; exact SqL.of hl) (fun i x σ H' H3 hi => absurd hi (Nat.not_lt_zero _)) (fun σ H3 e => ?_)⟩⟩
    obtain ⟨e1, e2⟩ := e
    subst e1 e2
    exact ⟨_, rfl, k _ (s0.trans s1)⟩
end
end K3

namespace K3
open PySem PySem.Spec PyProof.Rows L2 E0

/-! ### what a list of parts must fulfil, told by a Bool -/
def okTxB : Tr → Bool
  | .tx s => decide (s.length ≤ 1000)
  | .row ts => ts.all hasText && decide (ts.length ≤ 1000) && decide (joinB ts ≤ 16000000)
  | _ => true
theorem okTxB_ok {t : Tr} (h : okTxB t = true) : okTx t := by
  cases t with
  | tx s =>
    have h : decide (s.length ≤ 1000) = true := h
    show s.length ≤ 1000
    exact of_decide_eq_true h
  | row ts =>
    have h : (ts.all hasText && decide (ts.length ≤ 1000) && decide (joinB ts ≤ 16000000)) = true := h
    simp only [Bool.and_eq_true, decide_eq_true_eq] at h
    exact ⟨fun t ht => List.all_eq_true.mp h.1.1 t ht, h.1.2, h.2⟩
  | _ => exact True.intro
def okAB (t : Tr) : Bool := okTxB t && decide (rowB t ≤ 1000)
def okLB (t : Tr) : Bool := okLk t && okAB t
def okPB (t : Tr) : Bool := okP t && okAB t
theorem okA_all {ts : List Tr} {f : Tr → Bool} (h : (ts.all fun t => f t && okAB t) = true) : ∀ t ∈ ts, f t = true ∧ rowB t ≤ 1000 ∧ okTx t := fun t ht => by
  have q := List.all_eq_true.mp h t ht
  unfold okAB at q
  simp only [Bool.and_eq_true, decide_eq_true_eq] at q
  exact ⟨q.1, q.2.2, okTxB_ok q.2.1⟩
/-- a node of a pattern can be made of them -/
def mkLB (z : Str) (ts : List Tr) : Bool := nameS z && PyData.strOk z && ts.all okLB && decide (ts.length ≤ 1000) && decide (joinB ts ≤ 16000000) && decide (1 + sizes ts ≤ 60) && decide (levelss ts + 1 ≤ 8)
def mkTB (z : Str) (ts : List Tr) : Bool := nameS z && PyData.strOk z && ts.all okPB && decide (ts.length ≤ 1000) && decide (joinB ts ≤ 16000000) && decide (1 + sizes ts ≤ 400) && decide (levelss ts + 1 ≤ 100)
section
variable {K : PySem.W.Frag} {C : Cl5} {CI : Addr} {z : Str} {xs : List V} {H : Hp} {Q : VK} {E : XK}
theorem mkL_c (ts : List Tr) (h : mkLB z ts = true) (hp : PtsAt C H xs ts) (k : ∀ H' x, Same H H' → H x = none → PtAt C H' (.ref x) (.nd true z ts) → Q (.ref x) H') : MkL K C CI (.str z :: xs) H Q E := by
  unfold mkLB at h
  simp only [Bool.and_eq_true, decide_eq_true_eq] at h
  obtain ⟨⟨⟨⟨⟨⟨a, b⟩, c⟩, d⟩, e⟩, f⟩, g⟩ := h
  exact mkL_good a b hp (okA_all c) d e f g fun H' x s n p _ => k H' x s n p
theorem mkT_c (ts : List Tr) (h : mkTB z ts = true) (hp : PtsAt C H xs ts) (k : ∀ H' x, Same H H' → H x = none → PtAt C H' (.ref x) (.nd false z ts) → HasP H' x xs → Q (.ref x) H') : MkT K C CI (.str z :: xs) H Q E := by
  unfold mkTB at h
  simp only [Bool.and_eq_true, decide_eq_true_eq] at h
  obtain ⟨⟨⟨⟨⟨⟨a, b⟩, c⟩, d⟩, e⟩, f⟩, g⟩ := h
  exact mkT_good a b hp (okA_all c) d e f g k
theorem mkV_c {j : Nat} (h : (nameS z && PyData.strOk z) = true) (k : ∀ H' x, Same H H' → H x = none → PtAt C H' (.ref x) (.vr j z) → Q (.ref x) H') : MkV K C CI j [.str z] H Q E := by
  simp only [Bool.and_eq_true] at h
  exact mkV_good h.1 h.2 k
/-- an instance of the class, without a field put -/
theorem put_of {H : Hp} {x : Addr} {f : Str} {ps : List Tr} {xs : List V} (p : PtAt C H (.ref x) (.nd false f ps)) (q : HasP H x xs) : ∃ dx fs, H x = some (.ins C.T dx fs) ∧ fs.lookup ("put" : Str) = none := by
  obtain ⟨b, dx, fs, pa, ys, h1, h2, _⟩ := p
  cases h1
  obtain ⟨A, dx2, fs2, pa2, g1, g2, g3, g4, g5⟩ := q
  rw [h2] at g1
  cases g1
  exact ⟨_, _, h2, g5⟩
end
theorem paired_app {A B : Type} {R : A → B → Prop} : ∀ {xs ys : List A} {us vs : List B}, Paired R xs us → Paired R ys vs → Paired R (xs ++ ys) (us ++ vs)
  | _, _, _, _, .nil, h => h
  | _, _, _, _, .cons a r, h => .cons a (paired_app r h)
def leafT : Tr := .nd false "Num" [.tx "1"]
def deepT : Tr := .nd true "Neg" [.nd true "Num" [.vr 1 "w"]]
def goodsT : List Tr := [.tx "a", .tx "", .vr 1 "w", .vr 0 "x", leafT, deepT, .row [], .row [leafT], .row [.vr 0 "x", leafT], .row [.vr 2 "r"], .row [deepT, .vr 0 "y", .vr 2 "r"], .tx (timesS "x" 60), .nd false "A" [.row [leafT, leafT]], .nd true "Num" [.tx "1"]]
/-- the pairs as they stand: a part, and its text -/
def GdAt (C : Cl5) (H : Hp) (a : Addr) (t : Tr) : Prop := ∃ v, H a = some (.tup [v, .str (said t)]) ∧ PtAt C H v t
theorem GdAt.kpo {C : Cl5} {H H' : Hp} {a : Addr} {t : Tr} (k : KpO H H') (h : GdAt C H a t) : GdAt C H' a t := by
  obtain ⟨v, h1, h2⟩ := h
  exact ⟨v, k _ _ rfl h1, h2.kpo k⟩
structure AdG where
  (fT fL fV fW fR fPt : Addr)
  (fdV fdW fdR fdPt : FuncData)
structure TxtG (P : Program) (w : World) (K : PySem.W.Frag) (mg : Str → Option Value) (base : Heap) (C : Cl5) (CI : Addr) (CP : Addr) (a : AdG) : Prop where
  T : TxtT mg C
  T5 : Ty5 K C
  N5 : Na5 K C
  MT : Mk K C.T a.fT
  GT : FnR P w K mg base (L2.CX P w) 4 a.fT (spTreeNew K C CI)
  gT : mg "Tree" = some (.ref C.T)
  ML : Mk K C.L a.fL
  GL : FnR P w K mg base (L2.CX P w) 4 a.fL (spLikeNew K C CP)
  gL : mg "Like" = some (.ref C.L)
  MV : Mk K C.V a.fV
  GV : FnOk P w K mg base (L2.CX P w) 3 a.fV a.fdV ["self", "name"] (spVarE K C CP 0)
  BV : Binds K a.fdV ["self", "name"] []
  gV : mg "Var" = some (.ref C.V)
  MW : Mk K C.W a.fW
  GWo : FnOk P w K mg base (L2.CX P w) 3 a.fW a.fdW ["self", "name"] (spVarE K C CP 1)
  BW : Binds K a.fdW ["self", "name"] []
  gW : mg "Word" = some (.ref C.W)
  MR : Mk K C.R a.fR
  GR : FnOk P w K mg base (L2.CX P w) 3 a.fR a.fdR ["self", "name"] (spVarE K C CP 2)
  BR : Binds K a.fdR ["self", "name"] []
  gRe : mg "Rest" = some (.ref C.R)
  cT : Cls K C.T
  mP : Meth K C.T "put" a.fPt
  GP : FnOk P w K mg base CX0 3 a.fPt a.fdPt ["self", "path", "other"] (spPut0 C)
  BP : Binds K a.fdPt ["self", "path", "other"] []
def NGO : List Str := ["_law_leaf", "_law_deep", "_law_found"]
theorem scGo : FnScope NGO [] (defScope sGoods) := ⟨rfl, rfl, rfl, by decide +kernel, rfl, by decide +kernel, by decide +kernel⟩
def stGo (i : Nat) : Stmt := (defBody sGoods).getD i (.Pass ⟨0, 0, 0, 0⟩)
section
variable {P : Program} {w : World} {K : PySem.W.Frag} {mg : Str → Option Value} {base : Heap} {C : Cl5} {CI CP f : Addr} {cdv : Value} {a : AdG} {A : Around} {outer : List Env} {s : Shared} {H0 : Hp} {E : XK}
theorem go1 (TR : TxtG P w K mg base C CI CP a) (hr : Room 5 (A.deeper (PyProof.Rows.envOfC "_law_goods" (defScope sGoods) s.heap.objs.size f cdv))) :
    ∃ t : TS, PS (cxOf CX0 P w K mg base NGO "_law_goods" (defScope sGoods) f cdv A outer s H0 E).nox (stGo 0) t ∧ ∀ (Z : Ends) (H : Hp), (∀ (H' : Hp) (lf dp : Addr), Same H H' → PtAt C H' (.ref lf) leafT → PtAt C H' (.ref dp) deepT → Z.nx [some (.ref lf), some (.ref dp), none] H') → t Z [none, none, none] H := by
  have hr5 : Room 5 _ := hr
  have hr4 : Room 4 _ := hr.mono (by decide)
  have hr3 : Room 3 _ := hr.mono (by decide)
  have big : (1000000 : Nat) < sizeLine := by decide
  refine ⟨_, (ps_par (i := 0) (j := 1) (by rfl) scGo.nd rfl rfl (by decide) rfl rfl (pa_cons (pe_meth (E := E0) (pe_mkT (E := E0) TR.MT TR.GT hr5 rfl TR.gT passL (pa_cons pe_str (pa_cons pe_str pa_nil))) TR.cT TR.mP TR.GP hr3 TR.BP .nil pass0 (pa_cons (pe_tup pa_nil) (pa_cons (pe_mkT (E := E0) TR.MT TR.GT hr5 rfl TR.gT passL (pa_cons pe_str (pa_cons pe_str pa_nil))) pa_nil))) (pa_cons (pe_mkL (E := E0) TR.ML TR.GL hr5 rfl TR.gL passL (pa_cons pe_str (pa_cons (pe_mkL (E := E0) TR.ML TR.GL hr5 rfl TR.gL passL (pa_cons pe_str (pa_cons (pe_mkV (E := E0) (j := 1) TR.MW TR.GWo hr4 rfl TR.gW TR.BW passL (pa_cons pe_str pa_nil)) pa_nil))) pa_nil))) pa_nil)) (by rfl)), ?_⟩
  rintro Z H k
  refine mkT_c [.tx "2"] (by decide +kernel) ⟨rfl, True.intro⟩ fun H1 x1 s1 n1 p1 q1 => ?_
  obtain ⟨dx, fs, h1, h2⟩ := put_of p1 q1
  refine ⟨x1, dx, fs, rfl, h1, h2, ?_⟩
  refine ⟨by show 0 ≤ sizeLine; omega, fun p np => ?_⟩
  have s2 : Same H1 (upd H1 p (.tup [])) := same_upd (Same.refl H1) np
  have v2 : (upd H1 p (.tup [])) p = some (.tup []) := upd_same
  generalize upd H1 p (.tup []) = H2 at s2 v2 ⊢
  refine mkT_c [.tx "1"] (by decide +kernel) ⟨rfl, True.intro⟩ fun H3 lf s3 n3 p3 q3 => ?_
  refine ⟨x1, p, dx, fs, .ref lf, rfl, s3 _ _ (s2 _ _ h1), s3 _ _ v2, fun H3b s3b => ?_⟩
  refine mkV_c (by decide +kernel) fun H4 b4 s4 n4 p4 => ?_
  refine mkL_c [.vr 1 "w"] (by decide +kernel) ⟨p4, True.intro⟩ fun H5 b5 s5 n5 p5 => ?_
  refine mkL_c [.nd true "Num" [.vr 1 "w"]] (by decide +kernel) ⟨p5, True.intro⟩ fun H6 b6 s6 n6 p6 => ?_
  exact ⟨_, _, rfl, k H6 lf b6 (s1.trans (s2.trans (s3.trans (s3b.trans (s4.trans (s5.trans s6)))))) (PtAt.kpo (KpO.same (s3b.trans (s4.trans (s5.trans s6)))) _ p3) p6⟩
theorem go2 (TR : TxtG P w K mg base C CI CP a) (hr : Room 5 (A.deeper (PyProof.Rows.envOfC "_law_goods" (defScope sGoods) s.heap.objs.size f cdv))) :
    ∃ t : TS, PS (cxOf CX0 P w K mg base NGO "_law_goods" (defScope sGoods) f cdv A outer s H0 E).nox (stGo 1) t ∧ ∀ (Z : Ends) (H : Hp) (lf dp : Addr), PtAt C H (.ref lf) leafT → PtAt C H (.ref dp) deepT → (∀ (H' : Hp) (D : Addr) (as : List Addr), Same H H' → H' D = some (.lst (as.map V.ref)) → Paired (GdAt C H') as (goodsT.take 6) → Z.nx [some (.ref lf), some (.ref dp), some (.ref D)] H') → t Z [some (.ref lf), some (.ref dp), none] H := by
  have hr5 : Room 5 _ := hr
  have hr4 : Room 4 _ := hr.mono (by decide)
  have hr3 : Room 3 _ := hr.mono (by decide)
  have big : (1000000 : Nat) < sizeLine := by decide
  refine ⟨_, (ps_set (i := 2) scGo.nd rfl (Or.inl rfl) (pe_lst (pa_cons (pe_tup (pa_cons pe_str (pa_cons pe_str pa_nil))) (pa_cons (pe_tup (pa_cons pe_str (pa_cons pe_str pa_nil))) (pa_cons (pe_tup (pa_cons (pe_mkV (E := E0) (j := 1) TR.MW TR.GWo hr4 rfl TR.gW TR.BW passL (pa_cons pe_str pa_nil)) (pa_cons pe_str pa_nil))) (pa_cons (pe_tup (pa_cons (pe_mkV (E := E0) (j := 0) TR.MV TR.GV hr4 rfl TR.gV TR.BV passL (pa_cons pe_str pa_nil)) (pa_cons pe_str pa_nil))) (pa_cons (pe_tup (pa_cons (pv 0) (pa_cons pe_str pa_nil))) (pa_cons (pe_tup (pa_cons (pv 1) (pa_cons pe_str pa_nil))) pa_nil)))))))), ?_⟩
  rintro Z H lf dp plf pdp k
  refine ⟨by show 2 ≤ sizeLine; omega, fun b1 nb1 => ?_⟩
  have sG1 : Same H (upd H b1 (.tup [.str "a", .str "\"a\""])) := same_upd (Same.refl H) nb1
  have vb1 : (upd H b1 (.tup [.str "a", .str "\"a\""])) b1 = some (.tup [.str "a", .str "\"a\""]) := upd_same
  generalize upd H b1 (.tup [.str "a", .str "\"a\""]) = G1 at sG1 vb1 ⊢
  refine ⟨by show 2 ≤ sizeLine; omega, fun b2 nb2 => ?_⟩
  have sG2 : Same G1 (upd G1 b2 (.tup [.str "", .str "\"\""])) := same_upd (Same.refl G1) nb2
  have vb2 : (upd G1 b2 (.tup [.str "", .str "\"\""])) b2 = some (.tup [.str "", .str "\"\""]) := upd_same
  generalize upd G1 b2 (.tup [.str "", .str "\"\""]) = G2 at sG2 vb2 ⊢
  refine mkV_c (by decide +kernel) fun G3 b3w sG3 nb3w pb3w => ?_
  refine ⟨by show 2 ≤ sizeLine; omega, fun b3 nb3 => ?_⟩
  have sG4 : Same G3 (upd G3 b3 (.tup [.ref b3w, .str "$w"])) := same_upd (Same.refl G3) nb3
  have vb3 : (upd G3 b3 (.tup [.ref b3w, .str "$w"])) b3 = some (.tup [.ref b3w, .str "$w"]) := upd_same
  generalize upd G3 b3 (.tup [.ref b3w, .str "$w"]) = G4 at sG4 vb3 ⊢
  refine mkV_c (by decide +kernel) fun G5 b4w sG5 nb4w pb4w => ?_
  refine ⟨by show 2 ≤ sizeLine; omega, fun b4 nb4 => ?_⟩
  have sG6 : Same G5 (upd G5 b4 (.tup [.ref b4w, .str "x"])) := same_upd (Same.refl G5) nb4
  have vb4 : (upd G5 b4 (.tup [.ref b4w, .str "x"])) b4 = some (.tup [.ref b4w, .str "x"]) := upd_same
  generalize upd G5 b4 (.tup [.ref b4w, .str "x"]) = G6 at sG6 vb4 ⊢
  refine ⟨_, rfl, ?_⟩
  refine ⟨by show 2 ≤ sizeLine; omega, fun b5 nb5 => ?_⟩
  have sG7 : Same G6 (upd G6 b5 (.tup [.ref lf, .str "Num(\"1\")"])) := same_upd (Same.refl G6) nb5
  have vb5 : (upd G6 b5 (.tup [.ref lf, .str "Num(\"1\")"])) b5 = some (.tup [.ref lf, .str "Num(\"1\")"]) := upd_same
  generalize upd G6 b5 (.tup [.ref lf, .str "Num(\"1\")"]) = G7 at sG7 vb5 ⊢
  refine ⟨_, rfl, ?_⟩
  refine ⟨by show 2 ≤ sizeLine; omega, fun b6 nb6 => ?_⟩
  have sG8 : Same G7 (upd G7 b6 (.tup [.ref dp, .str "Neg(Num($w))"])) := same_upd (Same.refl G7) nb6
  have vb6 : (upd G7 b6 (.tup [.ref dp, .str "Neg(Num($w))"])) b6 = some (.tup [.ref dp, .str "Neg(Num($w))"]) := upd_same
  generalize upd G7 b6 (.tup [.ref dp, .str "Neg(Num($w))"]) = G8 at sG8 vb6 ⊢
  refine ⟨by show 6 ≤ sizeLine; omega, fun D nD => ?_⟩
  have sG9 : Same G8 (upd G8 D (.lst [.ref b1, .ref b2, .ref b3, .ref b4, .ref b5, .ref b6])) := same_upd (Same.refl G8) nD
  have vD : (upd G8 D (.lst [.ref b1, .ref b2, .ref b3, .ref b4, .ref b5, .ref b6])) D = some (.lst [.ref b1, .ref b2, .ref b3, .ref b4, .ref b5, .ref b6]) := upd_same
  generalize upd G8 D (.lst [.ref b1, .ref b2, .ref b3, .ref b4, .ref b5, .ref b6]) = G9 at sG9 vD ⊢
  refine k _ D [b1, b2, b3, b4, b5, b6] (sG1.trans (sG2.trans (sG3.trans (sG4.trans (sG5.trans (sG6.trans (sG7.trans (sG8.trans sG9)))))))) vD ?_
  exact (.cons ⟨.str "a", by rw [← (congrArg V.str (show ("\"a\"" : Str) = said (.tx "a") by decide +kernel))]; exact (sG2.trans (sG3.trans (sG4.trans (sG5.trans (sG6.trans (sG7.trans (sG8.trans sG9))))))) _ _ vb1, rfl⟩ (.cons ⟨.str "", by rw [← (congrArg V.str (show ("\"\"" : Str) = said (.tx "") by decide +kernel))]; exact (sG3.trans (sG4.trans (sG5.trans (sG6.trans (sG7.trans (sG8.trans sG9)))))) _ _ vb2, rfl⟩ (.cons ⟨.ref b3w, by rw [← (congrArg V.str (show ("$w" : Str) = said (.vr 1 "w") by decide +kernel))]; exact (sG5.trans (sG6.trans (sG7.trans (sG8.trans sG9)))) _ _ vb3, PtAt.kpo (KpO.same (sG4.trans (sG5.trans (sG6.trans (sG7.trans (sG8.trans sG9)))))) _ pb3w⟩ (.cons ⟨.ref b4w, by rw [← (congrArg V.str (show ("x" : Str) = said (.vr 0 "x") by decide +kernel))]; exact (sG7.trans (sG8.trans sG9)) _ _ vb4, PtAt.kpo (KpO.same (sG6.trans (sG7.trans (sG8.trans sG9)))) _ pb4w⟩ (.cons ⟨.ref lf, by rw [← (congrArg V.str (show ("Num(\"1\")" : Str) = said (leafT) by decide +kernel))]; exact (sG8.trans sG9) _ _ vb5, PtAt.kpo (KpO.same (sG1.trans (sG2.trans (sG3.trans (sG4.trans (sG5.trans (sG6.trans (sG7.trans (sG8.trans sG9))))))))) _ plf⟩ (.cons ⟨.ref dp, by rw [← (congrArg V.str (show ("Neg(Num($w))" : Str) = said (deepT) by decide +kernel))]; exact sG9 _ _ vb6, PtAt.kpo (KpO.same (sG1.trans (sG2.trans (sG3.trans (sG4.trans (sG5.trans (sG6.trans (sG7.trans (sG8.trans sG9))))))))) _ pdp⟩ .nil))))))
theorem go3 (TR : TxtG P w K mg base C CI CP a) (hr : Room 5 (A.deeper (PyProof.Rows.envOfC "_law_goods" (defScope sGoods) s.heap.objs.size f cdv))) :
    ∃ t : TS, PS (cxOf CX0 P w K mg base NGO "_law_goods" (defScope sGoods) f cdv A outer s H0 E).nox (stGo 2) t ∧ ∀ (Z : Ends) (H : Hp) (lf dp D0 : Addr) (as : List Addr), PtAt C H (.ref lf) leafT → PtAt C H (.ref dp) deepT → H D0 = some (.lst (as.map V.ref)) → Paired (GdAt C H) as (goodsT.take 6) → (∀ (H' : Hp) (D : Addr) (as : List Addr), Same H H' → H D = none → H' D = some (.lst (as.map V.ref)) → Paired (GdAt C H') as (goodsT.take 10) → Z.nx [some (.ref lf), some (.ref dp), some (.ref D)] H') → t Z [some (.ref lf), some (.ref dp), some (.ref D0)] H := by
  have hr5 : Room 5 _ := hr
  have hr4 : Room 4 _ := hr.mono (by decide)
  have hr3 : Room 3 _ := hr.mono (by decide)
  have big : (1000000 : Nat) < sizeLine := by decide
  refine ⟨_, (ps_set (i := 2) scGo.nd rfl (Or.inl rfl) (pe_op op_cat (pv 2) (pe_lst (pa_cons (pe_tup (pa_cons (pe_tup pa_nil) (pa_cons pe_str pa_nil))) (pa_cons (pe_tup (pa_cons (pe_tup (pa_cons (pv 0) pa_nil)) (pa_cons pe_str pa_nil))) (pa_cons (pe_tup (pa_cons (pe_tup (pa_cons (pe_mkV (E := E0) (j := 0) TR.MV TR.GV hr4 rfl TR.gV TR.BV passL (pa_cons pe_str pa_nil)) (pa_cons (pv 0) pa_nil))) (pa_cons pe_str pa_nil))) (pa_cons (pe_tup (pa_cons (pe_tup (pa_cons (pe_mkV (E := E0) (j := 2) TR.MR TR.GR hr4 rfl TR.gRe TR.BR passL (pa_cons pe_str pa_nil)) pa_nil)) (pa_cons pe_str pa_nil))) pa_nil))))))), ?_⟩
  rintro Z H lf dp D0 as plf pdp hD pd k
  have al := pd.length
  refine ⟨_, rfl, ?_⟩
  refine ⟨by show 0 ≤ sizeLine; omega, fun c1a nc1a => ?_⟩
  have sG1 : Same H (upd H c1a (.tup [])) := same_upd (Same.refl H) nc1a
  have vc1a : (upd H c1a (.tup [])) c1a = some (.tup []) := upd_same
  generalize upd H c1a (.tup []) = G1 at sG1 vc1a ⊢
  refine ⟨by show 2 ≤ sizeLine; omega, fun c1 nc1 => ?_⟩
  have sG2 : Same G1 (upd G1 c1 (.tup [.ref c1a, .str "[]"])) := same_upd (Same.refl G1) nc1
  have vc1 : (upd G1 c1 (.tup [.ref c1a, .str "[]"])) c1 = some (.tup [.ref c1a, .str "[]"]) := upd_same
  generalize upd G1 c1 (.tup [.ref c1a, .str "[]"]) = G2 at sG2 vc1 ⊢
  refine ⟨_, rfl, ?_⟩
  refine ⟨by show 1 ≤ sizeLine; omega, fun c2a nc2a => ?_⟩
  have sG3 : Same G2 (upd G2 c2a (.tup [.ref lf])) := same_upd (Same.refl G2) nc2a
  have vc2a : (upd G2 c2a (.tup [.ref lf])) c2a = some (.tup [.ref lf]) := upd_same
  generalize upd G2 c2a (.tup [.ref lf]) = G3 at sG3 vc2a ⊢
  refine ⟨by show 2 ≤ sizeLine; omega, fun c2 nc2 => ?_⟩
  have sG4 : Same G3 (upd G3 c2 (.tup [.ref c2a, .str "[Num(\"1\")]"])) := same_upd (Same.refl G3) nc2
  have vc2 : (upd G3 c2 (.tup [.ref c2a, .str "[Num(\"1\")]"])) c2 = some (.tup [.ref c2a, .str "[Num(\"1\")]"]) := upd_same
  generalize upd G3 c2 (.tup [.ref c2a, .str "[Num(\"1\")]"]) = G4 at sG4 vc2 ⊢
  refine mkV_c (by decide +kernel) fun G5 c3x sG5 nc3x pc3x => ?_
  refine ⟨_, rfl, ?_⟩
  refine ⟨by show 2 ≤ sizeLine; omega, fun c3a nc3a => ?_⟩
  have sG6 : Same G5 (upd G5 c3a (.tup [.ref c3x, .ref lf])) := same_upd (Same.refl G5) nc3a
  have vc3a : (upd G5 c3a (.tup [.ref c3x, .ref lf])) c3a = some (.tup [.ref c3x, .ref lf]) := upd_same
  generalize upd G5 c3a (.tup [.ref c3x, .ref lf]) = G6 at sG6 vc3a ⊢
  refine ⟨by show 2 ≤ sizeLine; omega, fun c3 nc3 => ?_⟩
  have sG7 : Same G6 (upd G6 c3 (.tup [.ref c3a, .str "[x, Num(\"1\")]"])) := same_upd (Same.refl G6) nc3
  have vc3 : (upd G6 c3 (.tup [.ref c3a, .str "[x, Num(\"1\")]"])) c3 = some (.tup [.ref c3a, .str "[x, Num(\"1\")]"]) := upd_same
  generalize upd G6 c3 (.tup [.ref c3a, .str "[x, Num(\"1\")]"]) = G7 at sG7 vc3 ⊢
  refine mkV_c (by decide +kernel) fun G8 c4x sG8 nc4x pc4x => ?_
  refine ⟨by show 1 ≤ sizeLine; omega, fun c4a nc4a => ?_⟩
  have sG9 : Same G8 (upd G8 c4a (.tup [.ref c4x])) := same_upd (Same.refl G8) nc4a
  have vc4a : (upd G8 c4a (.tup [.ref c4x])) c4a = some (.tup [.ref c4x]) := upd_same
  generalize upd G8 c4a (.tup [.ref c4x]) = G9 at sG9 vc4a ⊢
  refine ⟨by show 2 ≤ sizeLine; omega, fun c4 nc4 => ?_⟩
  have sG10 : Same G9 (upd G9 c4 (.tup [.ref c4a, .str "[*r]"])) := same_upd (Same.refl G9) nc4
  have vc4 : (upd G9 c4 (.tup [.ref c4a, .str "[*r]"])) c4 = some (.tup [.ref c4a, .str "[*r]"]) := upd_same
  generalize upd G9 c4 (.tup [.ref c4a, .str "[*r]"]) = G10 at sG10 vc4 ⊢
  refine ⟨by show 4 ≤ sizeLine; omega, fun D1 nD1 => ?_⟩
  have sG11 : Same G10 (upd G10 D1 (.lst [.ref c1, .ref c2, .ref c3, .ref c4])) := same_upd (Same.refl G10) nD1
  have vD1 : (upd G10 D1 (.lst [.ref c1, .ref c2, .ref c3, .ref c4])) D1 = some (.lst [.ref c1, .ref c2, .ref c3, .ref c4]) := upd_same
  generalize upd G10 D1 (.lst [.ref c1, .ref c2, .ref c3, .ref c4]) = G11 at sG11 vD1 ⊢
  refine ⟨D0, D1, _, _, rfl, rfl, (sG1.trans (sG2.trans (sG3.trans (sG4.trans (sG5.trans (sG6.trans (sG7.trans (sG8.trans (sG9.trans (sG10.trans sG11)))))))))) _ _ hD, vD1, by rw [List.length_map, al]; show 6 + 4 ≤ sizeLine; omega, fun D nD => ?_⟩
  have sGZ : Same G11 (upd G11 D (.lst (as.map V.ref ++ [.ref c1, .ref c2, .ref c3, .ref c4]))) := same_upd (Same.refl G11) nD
  have vD : (upd G11 D (.lst (as.map V.ref ++ [.ref c1, .ref c2, .ref c3, .ref c4]))) D = some (.lst (as.map V.ref ++ [.ref c1, .ref c2, .ref c3, .ref c4])) := upd_same
  generalize upd G11 D (.lst (as.map V.ref ++ [.ref c1, .ref c2, .ref c3, .ref c4])) = GZ at sGZ vD ⊢
  refine k _ D (as ++ [c1, c2, c3, c4]) (sG1.trans (sG2.trans (sG3.trans (sG4.trans (sG5.trans (sG6.trans (sG7.trans (sG8.trans (sG9.trans (sG10.trans (sG11.trans sGZ))))))))))) (Same.free (sG1.trans (sG2.trans (sG3.trans (sG4.trans (sG5.trans (sG6.trans (sG7.trans (sG8.trans (sG9.trans (sG10.trans sG11)))))))))) nD) (by rw [List.map_append]; exact vD) ?_
  have pd2 := Paired.mapP pd fun x y z => GdAt.kpo (KpO.same (sG1.trans (sG2.trans (sG3.trans (sG4.trans (sG5.trans (sG6.trans (sG7.trans (sG8.trans (sG9.trans (sG10.trans (sG11.trans sGZ)))))))))))) z
  exact paired_app pd2 (.cons ⟨.ref c1a, by rw [← (congrArg V.str (show ("[]" : Str) = said (.row []) by decide +kernel))]; exact (sG3.trans (sG4.trans (sG5.trans (sG6.trans (sG7.trans (sG8.trans (sG9.trans (sG10.trans (sG11.trans sGZ))))))))) _ _ vc1, ⟨c1a, [], rfl, (sG2.trans (sG3.trans (sG4.trans (sG5.trans (sG6.trans (sG7.trans (sG8.trans (sG9.trans (sG10.trans (sG11.trans sGZ)))))))))) _ _ vc1a, True.intro⟩⟩ (.cons ⟨.ref c2a, by rw [← (congrArg V.str (show ("[Num(\"1\")]" : Str) = said (.row [leafT]) by decide +kernel))]; exact (sG5.trans (sG6.trans (sG7.trans (sG8.trans (sG9.trans (sG10.trans (sG11.trans sGZ))))))) _ _ vc2, ⟨c2a, [.ref lf], rfl, (sG4.trans (sG5.trans (sG6.trans (sG7.trans (sG8.trans (sG9.trans (sG10.trans (sG11.trans sGZ)))))))) _ _ vc2a, PtAt.kpo (KpO.same (sG1.trans (sG2.trans (sG3.trans (sG4.trans (sG5.trans (sG6.trans (sG7.trans (sG8.trans (sG9.trans (sG10.trans (sG11.trans sGZ)))))))))))) _ plf, True.intro⟩⟩ (.cons ⟨.ref c3a, by rw [← (congrArg V.str (show ("[x, Num(\"1\")]" : Str) = said (.row [.vr 0 "x", leafT]) by decide +kernel))]; exact (sG8.trans (sG9.trans (sG10.trans (sG11.trans sGZ)))) _ _ vc3, ⟨c3a, [.ref c3x, .ref lf], rfl, (sG7.trans (sG8.trans (sG9.trans (sG10.trans (sG11.trans sGZ))))) _ _ vc3a, PtAt.kpo (KpO.same (sG6.trans (sG7.trans (sG8.trans (sG9.trans (sG10.trans (sG11.trans sGZ))))))) _ pc3x, PtAt.kpo (KpO.same (sG1.trans (sG2.trans (sG3.trans (sG4.trans (sG5.trans (sG6.trans (sG7.trans (sG8.trans (sG9.trans (sG10.trans (sG11.trans sGZ)))))))))))) _ plf, True.intro⟩⟩ (.cons ⟨.ref c4a, by rw [← (congrArg V.str (show ("[*r]" : Str) = said (.row [.vr 2 "r"]) by decide +kernel))]; exact (sG11.trans sGZ) _ _ vc4, ⟨c4a, [.ref c4x], rfl, (sG10.trans (sG11.trans sGZ)) _ _ vc4a, PtAt.kpo (KpO.same (sG9.trans (sG10.trans (sG11.trans sGZ)))) _ pc4x, True.intro⟩⟩ .nil))))
theorem go4 (TR : TxtG P w K mg base C CI CP a) (hr : Room 5 (A.deeper (PyProof.Rows.envOfC "_law_goods" (defScope sGoods) s.heap.objs.size f cdv))) :
    ∃ t : TS, PS (cxOf CX0 P w K mg base NGO "_law_goods" (defScope sGoods) f cdv A outer s H0 E).nox (stGo 3) t ∧ ∀ (Z : Ends) (H : Hp) (lf dp D0 : Addr) (as : List Addr), PtAt C H (.ref lf) leafT → PtAt C H (.ref dp) deepT → H D0 = some (.lst (as.map V.ref)) → Paired (GdAt C H) as (goodsT.take 10) → (∀ (H' : Hp) (D : Addr) (as : List Addr), Same H H' → H D = none → H' D = some (.lst (as.map V.ref)) → Paired (GdAt C H') as (goodsT.take 12) → Z.nx [some (.ref lf), some (.ref dp), some (.ref D)] H') → t Z [some (.ref lf), some (.ref dp), some (.ref D0)] H := by
  have hr5 : Room 5 _ := hr
  have hr4 : Room 4 _ := hr.mono (by decide)
  have hr3 : Room 3 _ := hr.mono (by decide)
  have big : (1000000 : Nat) < sizeLine := by decide
  refine ⟨_, (ps_set (i := 2) scGo.nd rfl (Or.inl rfl) (pe_op op_cat (pv 2) (pe_lst (pa_cons (pe_tup (pa_cons (pe_tup (pa_cons (pv 1) (pa_cons (pe_mkV (E := E0) (j := 0) TR.MV TR.GV hr4 rfl TR.gV TR.BV passL (pa_cons pe_str pa_nil)) (pa_cons (pe_mkV (E := E0) (j := 2) TR.MR TR.GR hr4 rfl TR.gRe TR.BR passL (pa_cons pe_str pa_nil)) pa_nil)))) (pa_cons pe_str pa_nil))) (pa_cons (pe_tup (pa_cons (pe_op op_mul_str pe_str pe_int) (pa_cons (pe_op op_add_str (pe_op op_add_str pe_str (pe_op op_mul_str pe_str pe_int)) pe_str) pa_nil))) pa_nil))))), ?_⟩
  rintro Z H lf dp D0 as plf pdp hD pd k
  have al := pd.length
  refine ⟨_, rfl, ?_⟩
  refine ⟨_, rfl, ?_⟩
  refine mkV_c (by decide +kernel) fun G1 c1y sG1 nc1y pc1y => ?_
  refine mkV_c (by decide +kernel) fun G2 c1r sG2 nc1r pc1r => ?_
  refine ⟨by show 3 ≤ sizeLine; omega, fun c1a nc1a => ?_⟩
  have sG3 : Same G2 (upd G2 c1a (.tup [.ref dp, .ref c1y, .ref c1r])) := same_upd (Same.refl G2) nc1a
  have vc1a : (upd G2 c1a (.tup [.ref dp, .ref c1y, .ref c1r])) c1a = some (.tup [.ref dp, .ref c1y, .ref c1r]) := upd_same
  generalize upd G2 c1a (.tup [.ref dp, .ref c1y, .ref c1r]) = G3 at sG3 vc1a ⊢
  refine ⟨by show 2 ≤ sizeLine; omega, fun c1 nc1 => ?_⟩
  have sG4 : Same G3 (upd G3 c1 (.tup [.ref c1a, .str "[Neg(Num($w)), y, *r]"])) := same_upd (Same.refl G3) nc1
  have vc1 : (upd G3 c1 (.tup [.ref c1a, .str "[Neg(Num($w)), y, *r]"])) c1 = some (.tup [.ref c1a, .str "[Neg(Num($w)), y, *r]"]) := upd_same
  generalize upd G3 c1 (.tup [.ref c1a, .str "[Neg(Num($w)), y, *r]"]) = G4 at sG4 vc1 ⊢
  refine ⟨"x", 60, rfl, rfl, by decide, by decide, by decide +kernel, by decide +kernel, by decide +kernel, ?_⟩
  refine ⟨"x", 60, rfl, rfl, by decide, by decide, by decide +kernel, by decide +kernel, by decide +kernel, ?_⟩
  refine ⟨_, _, rfl, rfl, Nat.le_trans (show ("\"" : Str).length + (timesS "x" 60).length ≤ 1000 by decide +kernel) (by omega), ?_⟩
  refine ⟨_, _, rfl, rfl, Nat.le_trans (show (("\"" : Str) ++ timesS "x" 60).length + ("\"" : Str).length ≤ 1000 by decide +kernel) (by omega), ?_⟩
  refine ⟨by show 2 ≤ sizeLine; omega, fun c2 nc2 => ?_⟩
  have sG5 : Same G4 (upd G4 c2 (.tup [.str (timesS "x" 60), .str (("\"" : Str) ++ timesS "x" 60 ++ "\"")])) := same_upd (Same.refl G4) nc2
  have vc2 : (upd G4 c2 (.tup [.str (timesS "x" 60), .str (("\"" : Str) ++ timesS "x" 60 ++ "\"")])) c2 = some (.tup [.str (timesS "x" 60), .str (("\"" : Str) ++ timesS "x" 60 ++ "\"")]) := upd_same
  generalize upd G4 c2 (.tup [.str (timesS "x" 60), .str (("\"" : Str) ++ timesS "x" 60 ++ "\"")]) = G5 at sG5 vc2 ⊢
  refine ⟨by show 2 ≤ sizeLine; omega, fun D1 nD1 => ?_⟩
  have sG6 : Same G5 (upd G5 D1 (.lst [.ref c1, .ref c2])) := same_upd (Same.refl G5) nD1
  have vD1 : (upd G5 D1 (.lst [.ref c1, .ref c2])) D1 = some (.lst [.ref c1, .ref c2]) := upd_same
  generalize upd G5 D1 (.lst [.ref c1, .ref c2]) = G6 at sG6 vD1 ⊢
  refine ⟨D0, D1, _, _, rfl, rfl, (sG1.trans (sG2.trans (sG3.trans (sG4.trans (sG5.trans sG6))))) _ _ hD, vD1, by rw [List.length_map, al]; show 10 + 2 ≤ sizeLine; omega, fun D nD => ?_⟩
  have sGZ : Same G6 (upd G6 D (.lst (as.map V.ref ++ [.ref c1, .ref c2]))) := same_upd (Same.refl G6) nD
  have vD : (upd G6 D (.lst (as.map V.ref ++ [.ref c1, .ref c2]))) D = some (.lst (as.map V.ref ++ [.ref c1, .ref c2])) := upd_same
  generalize upd G6 D (.lst (as.map V.ref ++ [.ref c1, .ref c2])) = GZ at sGZ vD ⊢
  refine k _ D (as ++ [c1, c2]) (sG1.trans (sG2.trans (sG3.trans (sG4.trans (sG5.trans (sG6.trans sGZ)))))) (Same.free (sG1.trans (sG2.trans (sG3.trans (sG4.trans (sG5.trans sG6))))) nD) (by rw [List.map_append]; exact vD) ?_
  have pd2 := Paired.mapP pd fun x y z => GdAt.kpo (KpO.same (sG1.trans (sG2.trans (sG3.trans (sG4.trans (sG5.trans (sG6.trans sGZ))))))) z
  exact paired_app pd2 (.cons ⟨.ref c1a, by rw [← (congrArg V.str (show ("[Neg(Num($w)), y, *r]" : Str) = said (.row [deepT, .vr 0 "y", .vr 2 "r"]) by decide +kernel))]; exact (sG5.trans (sG6.trans sGZ)) _ _ vc1, ⟨c1a, [.ref dp, .ref c1y, .ref c1r], rfl, (sG4.trans (sG5.trans (sG6.trans sGZ))) _ _ vc1a, PtAt.kpo (KpO.same (sG1.trans (sG2.trans (sG3.trans (sG4.trans (sG5.trans (sG6.trans sGZ))))))) _ pdp, PtAt.kpo (KpO.same (sG2.trans (sG3.trans (sG4.trans (sG5.trans (sG6.trans sGZ)))))) _ pc1y, PtAt.kpo (KpO.same (sG3.trans (sG4.trans (sG5.trans (sG6.trans sGZ))))) _ pc1r, True.intro⟩⟩ (.cons ⟨.str (timesS "x" 60), by rw [← (congrArg V.str (show ((("\"" : Str) ++ timesS "x" 60 ++ "\"") : Str) = said (.tx (timesS "x" 60)) by decide +kernel))]; exact (sG6.trans sGZ) _ _ vc2, rfl⟩ .nil))
theorem go5 (TR : TxtG P w K mg base C CI CP a) (hr : Room 5 (A.deeper (PyProof.Rows.envOfC "_law_goods" (defScope sGoods) s.heap.objs.size f cdv))) :
    ∃ t : TS, PS (cxOf CX0 P w K mg base NGO "_law_goods" (defScope sGoods) f cdv A outer s H0 E).nox (stGo 4) t ∧ ∀ (Z : Ends) (H : Hp) (lf dp D0 : Addr) (as : List Addr), PtAt C H (.ref lf) leafT → PtAt C H (.ref dp) deepT → H D0 = some (.lst (as.map V.ref)) → Paired (GdAt C H) as (goodsT.take 12) → (∀ (H' : Hp) (D : Addr) (as : List Addr), Same H H' → H D = none → H' D = some (.lst (as.map V.ref)) → Paired (GdAt C H') as (goodsT.take 14) → Z.rt (.ref D) H') → t Z [some (.ref lf), some (.ref dp), some (.ref D0)] H := by
  have hr5 : Room 5 _ := hr
  have hr4 : Room 4 _ := hr.mono (by decide)
  have hr3 : Room 3 _ := hr.mono (by decide)
  have big : (1000000 : Nat) < sizeLine := by decide
  refine ⟨_, (ps_ret (pe_op op_cat (pv 2) (pe_lst (pa_cons (pe_tup (pa_cons (pe_mkT (E := E0) TR.MT TR.GT hr5 rfl TR.gT passL (pa_cons pe_str (pa_cons (pe_tup (pa_cons (pv 0) (pa_cons (pv 0) pa_nil))) pa_nil))) (pa_cons pe_str pa_nil))) (pa_cons (pe_tup (pa_cons (pe_mkL (E := E0) TR.ML TR.GL hr5 rfl TR.gL passL (pa_cons pe_str (pa_cons pe_str pa_nil))) (pa_cons pe_str pa_nil))) pa_nil))))), ?_⟩
  rintro Z H lf dp D0 as plf pdp hD pd k
  have al := pd.length
  refine ⟨_, rfl, ?_⟩
  refine ⟨_, rfl, ?_⟩
  refine ⟨_, rfl, ?_⟩
  refine ⟨by show 2 ≤ sizeLine; omega, fun c1a nc1a => ?_⟩
  have sG1 : Same H (upd H c1a (.tup [.ref lf, .ref lf])) := same_upd (Same.refl H) nc1a
  have vc1a : (upd H c1a (.tup [.ref lf, .ref lf])) c1a = some (.tup [.ref lf, .ref lf]) := upd_same
  generalize upd H c1a (.tup [.ref lf, .ref lf]) = G1 at sG1 vc1a ⊢
  refine mkT_c [.row [leafT, leafT]] (by decide +kernel) ⟨⟨c1a, [.ref lf, .ref lf], rfl, vc1a, PtAt.kpo (KpO.same sG1) _ plf, PtAt.kpo (KpO.same sG1) _ plf, True.intro⟩, True.intro⟩ fun G2 c1t sG2 nc1t pc1t _ => ?_
  refine ⟨by show 2 ≤ sizeLine; omega, fun c1 nc1 => ?_⟩
  have sG3 : Same G2 (upd G2 c1 (.tup [.ref c1t, .str "A([Num(\"1\"), Num(\"1\")])"])) := same_upd (Same.refl G2) nc1
  have vc1 : (upd G2 c1 (.tup [.ref c1t, .str "A([Num(\"1\"), Num(\"1\")])"])) c1 = some (.tup [.ref c1t, .str "A([Num(\"1\"), Num(\"1\")])"]) := upd_same
  generalize upd G2 c1 (.tup [.ref c1t, .str "A([Num(\"1\"), Num(\"1\")])"]) = G3 at sG3 vc1 ⊢
  refine mkL_c [.tx "1"] (by decide +kernel) ⟨rfl, True.intro⟩ fun G4 c2t sG4 nc2t pc2t => ?_
  refine ⟨by show 2 ≤ sizeLine; omega, fun c2 nc2 => ?_⟩
  have sG5 : Same G4 (upd G4 c2 (.tup [.ref c2t, .str "Num(\"1\")"])) := same_upd (Same.refl G4) nc2
  have vc2 : (upd G4 c2 (.tup [.ref c2t, .str "Num(\"1\")"])) c2 = some (.tup [.ref c2t, .str "Num(\"1\")"]) := upd_same
  generalize upd G4 c2 (.tup [.ref c2t, .str "Num(\"1\")"]) = G5 at sG5 vc2 ⊢
  refine ⟨by show 2 ≤ sizeLine; omega, fun D1 nD1 => ?_⟩
  have sG6 : Same G5 (upd G5 D1 (.lst [.ref c1, .ref c2])) := same_upd (Same.refl G5) nD1
  have vD1 : (upd G5 D1 (.lst [.ref c1, .ref c2])) D1 = some (.lst [.ref c1, .ref c2]) := upd_same
  generalize upd G5 D1 (.lst [.ref c1, .ref c2]) = G6 at sG6 vD1 ⊢
  refine ⟨D0, D1, _, _, rfl, rfl, (sG1.trans (sG2.trans (sG3.trans (sG4.trans (sG5.trans sG6))))) _ _ hD, vD1, by rw [List.length_map, al]; show 12 + 2 ≤ sizeLine; omega, fun D nD => ?_⟩
  have sGZ : Same G6 (upd G6 D (.lst (as.map V.ref ++ [.ref c1, .ref c2]))) := same_upd (Same.refl G6) nD
  have vD : (upd G6 D (.lst (as.map V.ref ++ [.ref c1, .ref c2]))) D = some (.lst (as.map V.ref ++ [.ref c1, .ref c2])) := upd_same
  generalize upd G6 D (.lst (as.map V.ref ++ [.ref c1, .ref c2])) = GZ at sGZ vD ⊢
  refine k _ D (as ++ [c1, c2]) (sG1.trans (sG2.trans (sG3.trans (sG4.trans (sG5.trans (sG6.trans sGZ)))))) (Same.free (sG1.trans (sG2.trans (sG3.trans (sG4.trans (sG5.trans sG6))))) nD) (by rw [List.map_append]; exact vD) ?_
  have pd2 := Paired.mapP pd fun x y z => GdAt.kpo (KpO.same (sG1.trans (sG2.trans (sG3.trans (sG4.trans (sG5.trans (sG6.trans sGZ))))))) z
  exact paired_app pd2 (.cons ⟨.ref c1t, by rw [← (congrArg V.str (show ("A([Num(\"1\"), Num(\"1\")])" : Str) = said (.nd false "A" [.row [leafT, leafT]]) by decide +kernel))]; exact (sG4.trans (sG5.trans (sG6.trans sGZ))) _ _ vc1, PtAt.kpo (KpO.same (sG3.trans (sG4.trans (sG5.trans (sG6.trans sGZ))))) _ pc1t⟩ (.cons ⟨.ref c2t, by rw [← (congrArg V.str (show ("Num(\"1\")" : Str) = said (.nd true "Num" [.tx "1"]) by decide +kernel))]; exact (sG6.trans sGZ) _ _ vc2, PtAt.kpo (KpO.same (sG5.trans (sG6.trans sGZ))) _ pc2t⟩ .nil))
end
section
variable {P : Program} {w : World} {K : PySem.W.Frag} {mg : Str → Option Value} {base : Heap}
def spGoods (C : Cl5) : Sp := fun vs H Q _ => vs = [] ∧ ∀ (H' : Hp) (D : Addr) (as : List Addr), Same H H' → H D = none → H' D = some (.lst (as.map V.ref)) → Paired (GdAt C H') as goodsT → Q (.ref D) H'
theorem ok_goods {C : Cl5} {CI CP f : Addr} {fd : FuncData} {a : AdG} (F : Fun K "_law_goods" "_law_goods" sGoods f fd) (TR : TxtG P w K mg base C CI CP a) : FnOk P w K mg base CX0 6 f fd [] (spGoods C) := by
  refine F.ok scGo (fun vs H Q E h => ?_) (fun cdv A outer s H vs Q E hr h => ?_)
  · obtain ⟨rfl, _⟩ := h
    rfl
  · obtain ⟨rfl, k⟩ := h
    obtain ⟨t1, p1, q1⟩ := go1 (H0 := H) (E := E) (outer := outer) TR hr
    obtain ⟨t2, p2, q2⟩ := go2 (H0 := H) (E := E) (outer := outer) TR hr
    obtain ⟨t3, p3, q3⟩ := go3 (H0 := H) (E := E) (outer := outer) TR hr
    obtain ⟨t4, p4, q4⟩ := go4 (H0 := H) (E := E) (outer := outer) TR hr
    obtain ⟨t5, p5, q5⟩ := go5 (H0 := H) (E := E) (outer := outer) TR hr
    refine ⟨_, pss_cons p1 (pss_cons p2 (pss_cons p3 (pss_cons p4 (pss_one p5)))), ?_⟩
    refine q1 _ _ fun H1 lf dp s1 plf pdp => ?_
    refine q2 _ _ lf dp plf pdp fun H2 D2 as2 s2 d2 g2 => ?_
    refine q3 _ _ lf dp D2 as2 (plf.kpo (KpO.same s2)) (pdp.kpo (KpO.same s2)) d2 g2 fun H3 D3 as3 s3 n3 d3 g3 => ?_
    have t3' := s2.trans s3
    refine q4 _ _ lf dp D3 as3 (plf.kpo (KpO.same t3')) (pdp.kpo (KpO.same t3')) d3 g3 fun H4 D4 as4 s4 n4 d4 g4 => ?_
    have t4' := t3'.trans s4
    refine q5 _ _ lf dp D4 as4 (plf.kpo (KpO.same t4')) (pdp.kpo (KpO.same t4')) d4 g4 fun H5 D5 as5 s5 n5 d5 g5 => ?_
    exact k H5 D5 as5 (s1.trans (t4'.trans s5)) ((s1.trans t4').free n5) d5 g5
end
end K3

namespace K3
open PySem PySem.Spec PyProof.Rows L2 E0
open LamX (ExtN)
/-! ### odd values stand -/
/-- what N names stands -/
def KpN (N : Addr → Prop) (H H' : Hp) : Prop := ∀ b o, N b → H b = some o → (∀ ps, o ≠ .tbl ps) → H' b = some o
theorem KpN.same {N : Addr → Prop} {H H' : Hp} (e : Same H H') : KpN N H H' := fun b o _ q _ => e b o q
theorem KpN.ext {N : Addr → Prop} {H H' : Hp} (e : ExtN H H') : KpN N H H' := fun b o _ q t => e b o q t
theorem KpN.trans {N : Addr → Prop} {H H1 H2 : Hp} (a : KpN N H H1) (b : KpN N H1 H2) : KpN N H H2 := fun c o n q t => b c o n (a c o n q t) t
/-- what is not there in a heap -/
def New (H : Hp) : Addr → Prop := fun b => H b = none
theorem kpN_upd {N : Addr → Prop} {H : Hp} {D : Addr} {o : HO} (h : ¬ N D) : KpN N H (upd H D o) := fun b u nb q _ => by
  rw [upd_ne (fun z => h (by rw [← z]; exact nb))]
  exact q
theorem kpO_upd {H : Hp} {D : Addr} {o : HO} {xs : List V} (h : H D = some (.lst xs)) : KpO H (upd H D o) := fun b u hb q => by
  rw [upd_ne (fun z => (by rw [z, h] at q; cases q; cases hb))]
  exact q
/-- its own object stands under KpN, KpO -/
def Stands (N : Addr → Prop) (H : Hp) (v : V) : Prop := ∀ a, v = .ref a → ∃ o, H a = some o ∧ (tiO o = true ∨ (N a ∧ ∀ ps, o ≠ .tbl ps))
theorem Stands.get {N : Addr → Prop} {H H' : Hp} {v : V} (kN : KpN N H H') (kO : KpO H H') (h : Stands N H v) {a : Addr} {o : HO} (e : v = .ref a) (q : H a = some o) : H' a = some o := by
  obtain ⟨o', q', h⟩ := h a e
  rw [q] at q'
  cases q'
  rcases h with h | ⟨h1, h2⟩
  · exact kO a o h q
  · exact kN a o h1 q h2
theorem Stands.kp {N : Addr → Prop} {H H' : Hp} {v : V} (kN : KpN N H H') (kO : KpO H H') (h : Stands N H v) : Stands N H' v := fun a e => by
  obtain ⟨o, q, z⟩ := h a e
  exact ⟨o, h.get kN kO e q, z⟩
theorem Stands.mono {N N' : Addr → Prop} {H : Hp} {v : V} (e : ∀ b, N b → N' b) (h : Stands N H v) : Stands N' H v := fun a q => by
  obtain ⟨o, h1, h2⟩ := h a q
  exact ⟨o, h1, h2.elim .inl fun ⟨y, z⟩ => .inr ⟨e a y, z⟩⟩
structure BadN (K : PySem.W.Frag) (N : Addr → Prop) (C : Cl5) (H : Hp) (v : V) : Prop where
  bad : BadL K C H v
  st : Stands N H v
  its : ∀ a xs, v = .ref a → H a = some (.tup xs) → ∀ x ∈ xs, Stands N H x
theorem BadN.mono {K : PySem.W.Frag} {N N' : Addr → Prop} {C : Cl5} {H : Hp} {v : V} (e : ∀ b, N b → N' b) (h : BadN K N C H v) : BadN K N' C H v := ⟨h.bad, h.st.mono e, fun a xs q z x hx => (h.its a xs q z x hx).mono e⟩
theorem BadN.kp {K : PySem.W.Frag} {N : Addr → Prop} {C : Cl5} {H H' : Hp} {v : V} (kN : KpN N H H') (kO : KpO H H') (h : BadN K N C H v) : BadN K N C H' v := by
  refine ⟨?_, h.st.kp kN kO, fun a xs e q x hx => ?_⟩
  · rcases h.bad with z | ⟨a, xs, bs, e, ha, hl, hp, hb⟩ | ⟨t, ht, q1, q2, q3, q4, q5⟩
    · exact .inl z
    · have its := h.its a xs e ha
      refine .inr (.inl ⟨a, xs, bs, e, kO _ _ rfl ha, hl, ?_, hb⟩)
      have go : ∀ {xs : List V} {bs : List Fl}, (∀ x ∈ xs, Stands N H x) → Paired (FlAt K C H) xs bs → Paired (FlAt K C H') xs bs := fun {xs} => by
        induction xs with
        | nil => intro bs _ p; cases p; exact .nil
        | cons x xs ih =>
          intro bs hs p
          cases p with
          | cons p1 p2 =>
            obtain ⟨t, h1, h2, h3, h4⟩ := p1
            have sx := hs x (List.mem_cons_self ..)
            exact .cons ⟨t, TyX.keep h1 fun a o e q => sx.get kN kO e q, h2, h3, fun a e => let ⟨o, q⟩ := h4 a e; ⟨o, sx.get kN kO e q⟩⟩ (ih (fun y hy => hs y (List.mem_cons_of_mem _ hy)) p2)
      exact go its hp
    · exact .inr (.inr ⟨t, TyX.keep ht fun a o e q => h.st.get kN kO e q, q1, q2, q3, q4, fun a e => let ⟨o, q⟩ := q5 a e; ⟨o, h.st.get kN kO e q⟩⟩)
  · obtain ⟨o, q1, _⟩ := h.st a e
    have q2 := h.st.get kN kO e q1
    rw [q] at q2
    cases q2
    exact (h.its a xs e q1 x hx).kp kN kO
theorem BadN.same {K : PySem.W.Frag} {N : Addr → Prop} {C : Cl5} {H H' : Hp} {v : V} (s : Same H H') (h : BadN K N C H v) : BadN K N C H' v := h.kp (KpN.same s) (KpO.same s)
theorem stands_val {N : Addr → Prop} {H : Hp} {v : V} (h : ∀ a, v ≠ .ref a) : Stands N H v := fun a e => absurd e (h a)
theorem stands_ti {N : Addr → Prop} {H : Hp} {a : Addr} {o : HO} (h : tiO o = true) (e : H a = some o) : Stands N H (.ref a) := fun b q => by
  cases q
  exact ⟨o, e, .inl h⟩
theorem stands_N {N : Addr → Prop} {H : Hp} {a : Addr} {o : HO} (h : N a) (n : ∀ ps, o ≠ .tbl ps) (e : H a = some o) : Stands N H (.ref a) := fun b q => by
  cases q
  exact ⟨o, e, .inr ⟨h, n⟩⟩
theorem stands_pt {N : Addr → Prop} {C : Cl5} {H : Hp} : ∀ {v : V} {t : Tr}, PtAt C H v t → Stands N H v
  | _, .tx s, h => by
    rw [show _ = V.str s from h]
    exact stands_val fun _ => nofun
  | _, .row ts, h => by
    obtain ⟨a, xs, h1, h2, _⟩ := h
    rw [h1]
    exact stands_ti rfl h2
  | _, .vr k n, h => by
    obtain ⟨x, dx, fs, h1, h2, _⟩ := h
    rw [h1]
    exact stands_ti rfl h2
  | _, .nd lk f ps, h => by
    obtain ⟨x, dx, fs, pa, xs, h1, h2, _⟩ := h
    rw [h1]
    exact stands_ti rfl h2
theorem stands_pts {N : Addr → Prop} {C : Cl5} {H : Hp} : ∀ {xs : List V} {ts : List Tr}, PtsAt C H xs ts → ∀ x ∈ xs, Stands N H x
  | [], [], _, x, hx => nomatch hx
  | y :: ys, t :: ts, h, x, hx => by
    rcases List.mem_cons.mp hx with q | q
    · rw [q]; exact stands_pt h.1
    · exact stands_pts h.2 x q
  | [], _ :: _, h, _, _ => False.elim h
  | _ :: _, [], h, _, _ => False.elim h
/-! the kinds of odd values -/
section
variable {K : PySem.W.Frag} {N : Addr → Prop} {C : Cl5} {H : Hp}
/-- what the types of other things say against the classes of a pattern -/
structure NoL (K : PySem.W.Frag) (C : Cl5) : Prop where
  no : ∀ s ∈ (["NoneType", "bool", "int", "list", "dict", "tuple"] : List String), PySem.W.kitOne K (.type s) (.ref C.W) = some false ∧ PySem.W.kitOne K (.type s) (.ref C.R) = some false ∧ PySem.W.kitAny K (.type s) [.ref C.L, .ref C.T, .ref C.V] = some false
theorem no3 (n : NoL K C) (s : String) (h : s ∈ (["NoneType", "bool", "int", "list", "dict", "tuple"] : List String) := by decide) : PySem.W.kitOne K (.type s) (.ref C.W) = some false ∧ PySem.W.kitAny K (.type s) [.ref C.L, .ref C.T, .ref C.V] = some false := ⟨(n.no s h).1, (n.no s h).2.2⟩
theorem bad_non (n : NoL K C) : BadN K N C H .non := ⟨.inr (.inr ⟨_, .base .non, kit_ty (by decide +kernel), kit_ty (by decide +kernel), (no3 n "NoneType").1, (no3 n "NoneType").2, fun _ => nofun⟩), stands_val fun _ => nofun, fun _ _ e => nomatch e⟩
theorem bad_bl (n : NoL K C) {b : Bool} : BadN K N C H (.bl b) := ⟨.inr (.inr ⟨_, .base (.bl b), kit_ty (by decide +kernel), kit_ty (by decide +kernel), (no3 n "bool").1, (no3 n "bool").2, fun _ => nofun⟩), stands_val fun _ => nofun, fun _ _ e => nomatch e⟩
theorem bad_int (n : NoL K C) {i : Int} : BadN K N C H (.int i) := ⟨.inr (.inr ⟨_, .base (.int i), kit_ty (by decide +kernel), kit_ty (by decide +kernel), (no3 n "int").1, (no3 n "int").2, fun _ => nofun⟩), stands_val fun _ => nofun, fun _ _ e => nomatch e⟩
theorem bad_str {s : Str} (h : 60 < s.length) (h2 : s.length ≤ 1000) : BadN K N C H (.str s) := ⟨.inl ⟨s, rfl, h, h2⟩, stands_val fun _ => nofun, fun _ _ e => nomatch e⟩
theorem bad_lst (n : NoL K C) {a : Addr} {xs : List V} (ha : H a = some (.lst xs)) (hN : N a) : BadN K N C H (.ref a) :=
  ⟨.inr (.inr ⟨_, .base (.lst ha), kit_ty (by decide +kernel), kit_ty (by decide +kernel), (no3 n "list").1, (no3 n "list").2, fun b e => by cases e; exact ⟨_, ha⟩⟩), stands_N (o := .lst xs) hN (fun _ => nofun) ha, fun b ys e q => by cases e; rw [ha] at q; cases q⟩
theorem bad_dK (n : NoL K C) {a : Addr} {kvs : List (Key × V)} (ha : H a = some (.dK kvs)) (hN : N a) : BadN K N C H (.ref a) :=
  ⟨.inr (.inr ⟨_, .base (.dK ha), kit_ty (by decide +kernel), kit_ty (by decide +kernel), (no3 n "dict").1, (no3 n "dict").2, fun b e => by cases e; exact ⟨_, ha⟩⟩), stands_N (o := .dK kvs) hN (fun _ => nofun) ha, fun b ys e q => by cases e; rw [ha] at q; cases q⟩
/-- a tuple whose items are told -/
theorem bad_fl {a : Addr} {xs : List V} {bs : List Fl} (ha : H a = some (.tup xs)) (hl : xs.length ≤ 1000) (hp : Paired (FlAt K C H) xs bs) (hb : rowOk bs = false) (hs : ∀ x ∈ xs, Stands N H x) : BadN K N C H (.ref a) :=
  ⟨.inr (.inl ⟨a, xs, bs, rfl, ha, hl, hp, hb⟩), stands_ti rfl ha, fun b ys e q x hx => by cases e; rw [ha] at q; cases q; exact hs x hx⟩
theorem bad_tup (T5 : Ty5 K C) {a : Addr} {xs : List V} {ts : List Tr} (ha : H a = some (.tup xs)) (hp : PtsAt C H xs ts) (hl : ts.length ≤ 1000) (hb : rowOk (ts.map flT) = false) : BadN K N C H (.ref a) :=
  bad_fl ha (by rw [pts_len hp]; exact hl) (fl_pts T5 hp) hb (stands_pts hp)
theorem bad_rest (T5 : Ty5 K C) {v : V} {n : Str} (h : PtAt C H v (.vr 2 n)) : BadN K N C H v := by
  refine ⟨.inr (.inr ⟨_, PtAt.ty T5 h, kit_str T5 (.vr 2 n), kit_tup T5 (.vr 2 n), kit_W T5 (.vr 2 n), kit_N T5 (.vr 2 n), pt_obj h⟩), stands_pt h, fun a xs e q x hx => ?_⟩
  obtain ⟨y, dx, fs, e1, e2, _⟩ := h
  rw [e] at e1
  cases e1
  rw [q] at e2
  cases e2
/-- of nothing, and of a tuple -/
theorem fl_non (n : NoL K C) : FlAt K C H .non (false, false) := ⟨_, .base .non, (n.no "NoneType" (by decide)).2.2, (n.no "NoneType" (by decide)).2.1, fun _ => nofun⟩
theorem fl_tup (n : NoL K C) {a : Addr} {xs : List V} (ha : H a = some (.tup xs)) : FlAt K C H (.ref a) (false, false) := ⟨_, .base (.tup ha), (n.no "tuple" (by decide)).2.2, (n.no "tuple" (by decide)).2.1, fun b e => by cases e; exact ⟨_, ha⟩⟩
end
structure TxtO (P : Program) (w : World) (K : PySem.W.Frag) (mg : Str → Option Value) (base : Heap) (C : Cl5) (fDb : Addr) (fdDb : FuncData) : Prop where
  no : NoL K C
  GDb : FnOk P w K mg base CX0 1 fDb fdDb ["_law_kind_of"] spDoubled
  ADb : DefA K mg "_law_doubled" ["_law_kind_of"] fDb fdDb
def NOD : List Str := ["_law_leaf", "_law_found"]
theorem scOd : FnScope NOD [] (defScope sOdds) := ⟨rfl, rfl, rfl, by decide +kernel, rfl, by decide +kernel, by decide +kernel⟩
def stOd (i : Nat) : Stmt := (defBody sOdds).getD i (.Pass ⟨0, 0, 0, 0⟩)
section
variable {P : Program} {w : World} {K : PySem.W.Frag} {mg : Str → Option Value} {base : Heap} {C : Cl5} {CI CP f : Addr} {cdv : Value} {a : AdG} {fDb : Addr} {fdDb : FuncData} {A : Around} {outer : List Env} {s : Shared} {H0 : Hp} {E : XK}
theorem od1 (TR : TxtG P w K mg base C CI CP a) (TO : TxtO P w K mg base C fDb fdDb) (hr : Room 5 (A.deeper (PyProof.Rows.envOfC "_law_odds" (defScope sOdds) s.heap.objs.size f cdv))) :
    ∃ t : TS, PS (cxOf CX0 P w K mg base NOD "_law_odds" (defScope sOdds) f cdv A outer s H0 E).nox (stOd 0) t ∧ ∀ (Z : Ends) (H : Hp), (∀ (H' : Hp) (lf : Addr), Same H H' → PtAt C H' (.ref lf) leafT → Z.nx [some (.ref lf), none] H') → t Z [none, none] H := by
  have hr5 : Room 5 _ := hr
  have hr4 : Room 4 _ := hr.mono (by decide)
  have hr3 : Room 3 _ := hr.mono (by decide)
  have hr1 : Room 1 _ := hr.mono (by decide)
  have big : (1000000 : Nat) < sizeLine := by decide
  refine ⟨_, (ps_set (i := 0) scOd.nd rfl (Or.inl rfl) (pe_mkT (E := E0) TR.MT TR.GT hr5 rfl TR.gT passL (pa_cons pe_str (pa_cons pe_str pa_nil)))), ?_⟩
  rintro Z H k
  exact mkT_c [.tx "1"] (by decide +kernel) ⟨rfl, True.intro⟩ fun H1 x1 s1 n1 p1 q1 => k H1 x1 s1 p1
theorem od2 (TR : TxtG P w K mg base C CI CP a) (TO : TxtO P w K mg base C fDb fdDb) (hr : Room 5 (A.deeper (PyProof.Rows.envOfC "_law_odds" (defScope sOdds) s.heap.objs.size f cdv))) :
    ∃ t : TS, PS (cxOf CX0 P w K mg base NOD "_law_odds" (defScope sOdds) f cdv A outer s H0 E).nox (stOd 1) t ∧ ∀ (Z : Ends) (H : Hp) (lf : Addr), PtAt C H (.ref lf) leafT → (∀ (H' : Hp) (D : Addr) (ovs : List V), Same H H' → H D = none → H' D = some (.lst ovs) → ovs.length = 10 → (∀ v ∈ ovs, BadN K (New H) C H' v) → Z.nx [some (.ref lf), some (.ref D)] H') → t Z [some (.ref lf), none] H := by
  have hr5 : Room 5 _ := hr
  have hr4 : Room 4 _ := hr.mono (by decide)
  have hr3 : Room 3 _ := hr.mono (by decide)
  have hr1 : Room 1 _ := hr.mono (by decide)
  have big : (1000000 : Nat) < sizeLine := by decide
  refine ⟨_, (ps_set (i := 1) scOd.nd rfl (Or.inl rfl) (pe_lst (pa_cons pe_non (pa_cons pe_bl (pa_cons pe_int (pa_cons (pe_op op_mul_str pe_str pe_int) (pa_cons (pe_lst (pa_cons (pv 0) pa_nil)) (pa_cons pe_dnewK (pa_cons (pe_tup (pa_cons (pv 0) (pa_cons pe_str pa_nil))) (pa_cons (pe_tup (pa_cons (pe_mkV (E := E0) (j := 1) TR.MW TR.GWo hr4 rfl TR.gW TR.BW passL (pa_cons pe_str pa_nil)) pa_nil)) (pa_cons (pe_tup (pa_cons (pe_mkV (E := E0) (j := 2) TR.MR TR.GR hr4 rfl TR.gRe TR.BR passL (pa_cons pe_str pa_nil)) (pa_cons (pv 0) pa_nil))) (pa_cons (pe_tup (pa_cons (pe_mkV (E := E0) (j := 2) TR.MR TR.GR hr4 rfl TR.gRe TR.BR passL (pa_cons pe_str pa_nil)) (pa_cons (pe_mkV (E := E0) (j := 2) TR.MR TR.GR hr4 rfl TR.gRe TR.BR passL (pa_cons pe_str pa_nil)) pa_nil))) pa_nil)))))))))))), ?_⟩
  rintro Z H lf plf k
  refine ⟨"x", 61, rfl, rfl, by decide, by decide, by decide +kernel, by decide +kernel, by decide +kernel, ?_⟩
  refine ⟨_, rfl, ?_⟩
  refine ⟨by show 1 ≤ sizeLine; omega, fun b4 nb4 => ?_⟩
  have sG1 : Same H (upd H b4 (.lst [.ref lf])) := same_upd (Same.refl H) nb4
  have vb4 : (upd H b4 (.lst [.ref lf])) b4 = some (.lst [.ref lf]) := upd_same
  generalize upd H b4 (.lst [.ref lf]) = G1 at sG1 vb4 ⊢
  refine fun b5 nb5 => ?_
  have sG2 : Same G1 (upd G1 b5 (.dK [])) := same_upd (Same.refl G1) nb5
  have vb5 : (upd G1 b5 (.dK [])) b5 = some (.dK []) := upd_same
  generalize upd G1 b5 (.dK []) = G2 at sG2 vb5 ⊢
  refine ⟨_, rfl, ?_⟩
  refine ⟨by show 2 ≤ sizeLine; omega, fun b6 nb6 => ?_⟩
  have sG3 : Same G2 (upd G2 b6 (.tup [.ref lf, .str "a"])) := same_upd (Same.refl G2) nb6
  have vb6 : (upd G2 b6 (.tup [.ref lf, .str "a"])) b6 = some (.tup [.ref lf, .str "a"]) := upd_same
  generalize upd G2 b6 (.tup [.ref lf, .str "a"]) = G3 at sG3 vb6 ⊢
  refine mkV_c (by decide +kernel) fun G4 b7w sG4 nb7w pb7w => ?_
  refine ⟨by show 1 ≤ sizeLine; omega, fun b7 nb7 => ?_⟩
  have sG5 : Same G4 (upd G4 b7 (.tup [.ref b7w])) := same_upd (Same.refl G4) nb7
  have vb7 : (upd G4 b7 (.tup [.ref b7w])) b7 = some (.tup [.ref b7w]) := upd_same
  generalize upd G4 b7 (.tup [.ref b7w]) = G5 at sG5 vb7 ⊢
  refine mkV_c (by decide +kernel) fun G6 b8r sG6 nb8r pb8r => ?_
  refine ⟨_, rfl, ?_⟩
  refine ⟨by show 2 ≤ sizeLine; omega, fun b8 nb8 => ?_⟩
  have sG7 : Same G6 (upd G6 b8 (.tup [.ref b8r, .ref lf])) := same_upd (Same.refl G6) nb8
  have vb8 : (upd G6 b8 (.tup [.ref b8r, .ref lf])) b8 = some (.tup [.ref b8r, .ref lf]) := upd_same
  generalize upd G6 b8 (.tup [.ref b8r, .ref lf]) = G7 at sG7 vb8 ⊢
  refine mkV_c (by decide +kernel) fun G8 b9r sG8 nb9r pb9r => ?_
  refine mkV_c (by decide +kernel) fun G9 b9q sG9 nb9q pb9q => ?_
  refine ⟨by show 2 ≤ sizeLine; omega, fun b9 nb9 => ?_⟩
  have sG10 : Same G9 (upd G9 b9 (.tup [.ref b9r, .ref b9q])) := same_upd (Same.refl G9) nb9
  have vb9 : (upd G9 b9 (.tup [.ref b9r, .ref b9q])) b9 = some (.tup [.ref b9r, .ref b9q]) := upd_same
  generalize upd G9 b9 (.tup [.ref b9r, .ref b9q]) = G10 at sG10 vb9 ⊢
  refine ⟨by show 10 ≤ sizeLine; omega, fun D nD => ?_⟩
  have sG11 : Same G10 (upd G10 D (.lst [.non, .bl true, .int 0, .str (timesS "x" 61), .ref b4, .ref b5, .ref b6, .ref b7, .ref b8, .ref b9])) := same_upd (Same.refl G10) nD
  have vD : (upd G10 D (.lst [.non, .bl true, .int 0, .str (timesS "x" 61), .ref b4, .ref b5, .ref b6, .ref b7, .ref b8, .ref b9])) D = some (.lst [.non, .bl true, .int 0, .str (timesS "x" 61), .ref b4, .ref b5, .ref b6, .ref b7, .ref b8, .ref b9]) := upd_same
  generalize upd G10 D (.lst [.non, .bl true, .int 0, .str (timesS "x" 61), .ref b4, .ref b5, .ref b6, .ref b7, .ref b8, .ref b9]) = G11 at sG11 vD ⊢
  refine k _ D _ (sG1.trans (sG2.trans (sG3.trans (sG4.trans (sG5.trans (sG6.trans (sG7.trans (sG8.trans (sG9.trans (sG10.trans sG11)))))))))) (Same.free ((sG1.trans (sG2.trans (sG3.trans (sG4.trans (sG5.trans (sG6.trans (sG7.trans (sG8.trans (sG9.trans sG10)))))))))) nD) vD rfl fun v hv => ?_
  simp only [List.mem_cons, List.not_mem_nil, or_false] at hv
  rcases hv with rfl | rfl | rfl | rfl | rfl | rfl | rfl | rfl | rfl | rfl
  · exact bad_non TO.no
  · exact bad_bl TO.no
  · exact bad_int TO.no
  · exact bad_str (by decide +kernel) (by decide +kernel)
  · exact bad_lst TO.no ((sG2.trans (sG3.trans (sG4.trans (sG5.trans (sG6.trans (sG7.trans (sG8.trans (sG9.trans (sG10.trans sG11))))))))) _ _ vb4) nb4
  · exact bad_dK TO.no ((sG3.trans (sG4.trans (sG5.trans (sG6.trans (sG7.trans (sG8.trans (sG9.trans (sG10.trans sG11)))))))) _ _ vb5) (sG1.free nb5)
  · exact bad_tup TR.T5 (ts := [leafT, .tx "a"]) ((sG4.trans (sG5.trans (sG6.trans (sG7.trans (sG8.trans (sG9.trans (sG10.trans sG11))))))) _ _ vb6) ⟨PtAt.kpo (KpO.same (sG1.trans (sG2.trans (sG3.trans (sG4.trans (sG5.trans (sG6.trans (sG7.trans (sG8.trans (sG9.trans (sG10.trans sG11))))))))))) _ plf, rfl, True.intro⟩ (by decide) (by decide +kernel)
  · exact bad_tup TR.T5 (ts := [.vr 1 "w"]) ((sG6.trans (sG7.trans (sG8.trans (sG9.trans (sG10.trans sG11))))) _ _ vb7) ⟨PtAt.kpo (KpO.same (sG5.trans (sG6.trans (sG7.trans (sG8.trans (sG9.trans (sG10.trans sG11))))))) _ pb7w, True.intro⟩ (by decide) (by decide +kernel)
  · exact bad_tup TR.T5 (ts := [.vr 2 "r", leafT]) ((sG8.trans (sG9.trans (sG10.trans sG11))) _ _ vb8) ⟨PtAt.kpo (KpO.same (sG7.trans (sG8.trans (sG9.trans (sG10.trans sG11))))) _ pb8r, PtAt.kpo (KpO.same (sG1.trans (sG2.trans (sG3.trans (sG4.trans (sG5.trans (sG6.trans (sG7.trans (sG8.trans (sG9.trans (sG10.trans sG11))))))))))) _ plf, True.intro⟩ (by decide) (by decide +kernel)
  · exact bad_tup TR.T5 (ts := [.vr 2 "r", .vr 2 "q"]) (sG11 _ _ vb9) ⟨PtAt.kpo (KpO.same (sG9.trans (sG10.trans sG11))) _ pb9r, PtAt.kpo (KpO.same (sG10.trans sG11)) _ pb9q, True.intro⟩ (by decide) (by decide +kernel)
theorem od3 (TR : TxtG P w K mg base C CI CP a) (TO : TxtO P w K mg base C fDb fdDb) (hr : Room 5 (A.deeper (PyProof.Rows.envOfC "_law_odds" (defScope sOdds) s.heap.objs.size f cdv))) :
    ∃ t : TS, PS (cxOf CX0 P w K mg base NOD "_law_odds" (defScope sOdds) f cdv A outer s H0 E).nox (stOd 2) t ∧ ∀ (Z : Ends) (H : Hp) (lf D0 : Addr) (ovs : List V) (N : Addr → Prop), PtAt C H (.ref lf) leafT → H D0 = some (.lst ovs) → ovs.length = 10 → (∀ b, H b = none → N b) → (∀ v ∈ ovs, BadN K N C H v) → (∀ (H' : Hp) (D : Addr) (ovs' : List V), Same H H' → H D = none → H' D = some (.lst ovs') → ovs'.length = 15 → (∀ v ∈ ovs', BadN K N C H' v) → Z.rt (.ref D) H') → t Z [some (.ref lf), some (.ref D0)] H := by
  have hr5 : Room 5 _ := hr
  have hr4 : Room 4 _ := hr.mono (by decide)
  have hr3 : Room 3 _ := hr.mono (by decide)
  have hr1 : Room 1 _ := hr.mono (by decide)
  have big : (1000000 : Nat) < sizeLine := by decide
  refine ⟨_, (ps_ret (pe_op op_cat (pv 1) (pe_lst (pa_cons (pe_mkV (E := E0) (j := 2) TR.MR TR.GR hr4 rfl TR.gRe TR.BR passL (pa_cons pe_str pa_nil)) (pa_cons (pe_tup (pa_cons (pe_tup (pa_cons (pv 0) pa_nil)) pa_nil)) (pa_cons (pe_tup (pa_cons pe_non pa_nil)) (pa_cons (pe_call TO.GDb hr1 rfl TO.ADb.g TO.ADb.k TO.ADb.b .nil pass0 (pa_cons pe_int pa_nil)) (pa_cons (pe_call TO.GDb hr1 rfl TO.ADb.g TO.ADb.k TO.ADb.b .nil pass0 (pa_cons pe_int pa_nil)) pa_nil)))))))), ?_⟩
  rintro Z H lf D0 ovs N plf hD hol hN hbad k
  refine ⟨_, rfl, ?_⟩
  refine mkV_c (by decide +kernel) fun G1 b1 sG1 nb1 pb1 => ?_
  refine ⟨_, rfl, ?_⟩
  refine ⟨by show 1 ≤ sizeLine; omega, fun b2a nb2a => ?_⟩
  have sG2 : Same G1 (upd G1 b2a (.tup [.ref lf])) := same_upd (Same.refl G1) nb2a
  have vb2a : (upd G1 b2a (.tup [.ref lf])) b2a = some (.tup [.ref lf]) := upd_same
  generalize upd G1 b2a (.tup [.ref lf]) = G2 at sG2 vb2a ⊢
  refine ⟨by show 1 ≤ sizeLine; omega, fun b2 nb2 => ?_⟩
  have sG3 : Same G2 (upd G2 b2 (.tup [.ref b2a])) := same_upd (Same.refl G2) nb2
  have vb2 : (upd G2 b2 (.tup [.ref b2a])) b2 = some (.tup [.ref b2a]) := upd_same
  generalize upd G2 b2 (.tup [.ref b2a]) = G3 at sG3 vb2 ⊢
  refine ⟨by show 1 ≤ sizeLine; omega, fun b3 nb3 => ?_⟩
  have sG4 : Same G3 (upd G3 b3 (.tup [.non])) := same_upd (Same.refl G3) nb3
  have vb3 : (upd G3 b3 (.tup [.non])) b3 = some (.tup [.non]) := upd_same
  generalize upd G3 b3 (.tup [.non]) = G4 at sG4 vb3 ⊢
  refine ⟨0, by decide, rfl, fun G5 b4 xb4 sG5 nb4 vb4 db4 => ?_⟩
  refine ⟨1, by decide, rfl, fun G6 b5 xb5 sG6 nb5 vb5 db5 => ?_⟩
  rw [if_pos rfl] at vb4
  rw [if_neg (by decide)] at vb5
  refine ⟨by show 5 ≤ sizeLine; omega, fun D1 nD1 => ?_⟩
  have sG7 : Same G6 (upd G6 D1 (.lst [.ref b1, .ref b2, .ref b3, .ref b4, .ref b5])) := same_upd (Same.refl G6) nD1
  have vD1 : (upd G6 D1 (.lst [.ref b1, .ref b2, .ref b3, .ref b4, .ref b5])) D1 = some (.lst [.ref b1, .ref b2, .ref b3, .ref b4, .ref b5]) := upd_same
  generalize upd G6 D1 (.lst [.ref b1, .ref b2, .ref b3, .ref b4, .ref b5]) = G7 at sG7 vD1 ⊢
  refine ⟨D0, D1, _, _, rfl, rfl, (sG1.trans (sG2.trans (sG3.trans (sG4.trans (sG5.trans (sG6.trans sG7)))))) _ _ hD, vD1, by show ovs.length + 5 ≤ sizeLine; omega, fun D nD => ?_⟩
  have sGZ : Same G7 (upd G7 D (.lst (ovs ++ [.ref b1, .ref b2, .ref b3, .ref b4, .ref b5]))) := same_upd (Same.refl G7) nD
  have vD : (upd G7 D (.lst (ovs ++ [.ref b1, .ref b2, .ref b3, .ref b4, .ref b5]))) D = some (.lst (ovs ++ [.ref b1, .ref b2, .ref b3, .ref b4, .ref b5])) := upd_same
  generalize upd G7 D (.lst (ovs ++ [.ref b1, .ref b2, .ref b3, .ref b4, .ref b5])) = GZ at sGZ vD ⊢
  refine k _ D _ (sG1.trans (sG2.trans (sG3.trans (sG4.trans (sG5.trans (sG6.trans (sG7.trans sGZ))))))) (Same.free (sG1.trans (sG2.trans (sG3.trans (sG4.trans (sG5.trans (sG6.trans sG7)))))) nD) vD (by rw [List.length_append, hol]; rfl) fun v hv => ?_
  rcases List.mem_append.mp hv with q | q
  · exact (hbad v q).same (sG1.trans (sG2.trans (sG3.trans (sG4.trans (sG5.trans (sG6.trans (sG7.trans sGZ)))))))
  simp only [List.mem_cons, List.not_mem_nil, or_false] at q
  rcases q with rfl | rfl | rfl | rfl | rfl
  · exact bad_rest TR.T5 (PtAt.kpo (KpO.same (sG2.trans (sG3.trans (sG4.trans (sG5.trans (sG6.trans (sG7.trans sGZ))))))) _ pb1)
  · have h2a := (sG3.trans (sG4.trans (sG5.trans (sG6.trans (sG7.trans sGZ))))) _ _ vb2a
    exact bad_fl (bs := [(false, false)]) ((sG4.trans (sG5.trans (sG6.trans (sG7.trans sGZ)))) _ _ vb2) (by show 1 ≤ 1000; decide) (.cons (fl_tup TO.no h2a) .nil) (by decide +kernel) (fun x hx => by rw [List.mem_singleton.mp hx]; exact stands_ti rfl h2a)
  · exact bad_fl (bs := [(false, false)]) ((sG5.trans (sG6.trans (sG7.trans sGZ))) _ _ vb3) (by show 1 ≤ 1000; decide) (.cons (fl_non TO.no) .nil) (by decide +kernel) (fun x hx => by rw [List.mem_singleton.mp hx]; exact stands_val fun _ => nofun)
  · obtain ⟨q, ys, rfl, hq⟩ := db4 rfl
    have hq2 := (sG6.trans (sG7.trans sGZ)) _ _ hq
    exact bad_fl (bs := [(false, false), (false, false)]) ((sG6.trans (sG7.trans sGZ)) _ _ vb4) (by show 2 ≤ 1000; decide) (.cons (fl_tup TO.no hq2) (.cons (fl_tup TO.no hq2) .nil)) (by decide +kernel) (fun x hx => by simp only [List.mem_cons, List.not_mem_nil, or_false, or_self] at hx; rw [hx]; exact stands_ti rfl hq2)
  · exact bad_lst TO.no ((sG7.trans sGZ) _ _ vb5) (hN _ (Same.free (sG1.trans (sG2.trans (sG3.trans (sG4.trans sG5)))) nb5))
end
section
variable {P : Program} {w : World} {K : PySem.W.Frag} {mg : Str → Option Value} {base : Heap}
def spOdds (K : PySem.W.Frag) (C : Cl5) : Sp := fun vs H Q _ => vs = [] ∧ ∀ (H' : Hp) (D : Addr) (ovs : List V), Same H H' → H D = none → H' D = some (.lst ovs) → ovs.length = 15 → (∀ v ∈ ovs, BadN K (New H) C H' v) → Q (.ref D) H'
theorem ok_odds {C : Cl5} {CI CP f fDb : Addr} {fd fdDb : FuncData} {a : AdG} (F : Fun K "_law_odds" "_law_odds" sOdds f fd) (TR : TxtG P w K mg base C CI CP a) (TO : TxtO P w K mg base C fDb fdDb) : FnOk P w K mg base CX0 6 f fd [] (spOdds K C) := by
  refine F.ok scOd (fun vs H Q E h => ?_) (fun cdv A outer s H vs Q E hr h => ?_)
  · obtain ⟨rfl, _⟩ := h
    rfl
  · obtain ⟨rfl, k⟩ := h
    obtain ⟨t1, p1, q1⟩ := od1 (H0 := H) (E := E) (outer := outer) TR TO hr
    obtain ⟨t2, p2, q2⟩ := od2 (H0 := H) (E := E) (outer := outer) TR TO hr
    obtain ⟨t3, p3, q3⟩ := od3 (H0 := H) (E := E) (outer := outer) TR TO hr
    refine ⟨_, pss_cons p1 (pss_cons p2 (pss_one p3)), ?_⟩
    refine q1 _ _ fun H1 lf s1 plf => ?_
    refine q2 _ _ lf plf fun H2 D2 ovs s2 n2 d2 l2 b2 => ?_
    refine q3 _ _ lf D2 ovs (New H) (plf.kpo (KpO.same s2)) d2 l2 (fun b hb => (s1.trans s2).free hb) (fun v hv => (b2 v hv).mono fun b hb => s1.free hb) fun H3 D3 ovs3 s3 n3 d3 l3 b3 => ?_
    exact k H3 D3 ovs3 (s1.trans (s2.trans s3)) ((s1.trans s2).free n3) d3 l3 b3
end
end K3

namespace K3
open PySem PySem.Spec PyProof.Rows L2 E0
section
variable {P : Program} {w : World} {K : PySem.W.Frag} {mg : Str → Option Value} {base : Heap}
def spNew (K : PySem.W.Frag) (C : Cl5) (CI : Addr) : Sp := fun vs H Q E => ∃ (n : V) (L : Addr) (xs : List V) (pis : List PI), vs = [n, .ref L] ∧ Val K H n ∧ H L = some (.lst xs) ∧ Paired (LIAt K C H) xs pis ∧ pis.length ≤ 7 ∧ joinB (partsOf pis) ≤ 16000000 ∧ LikeRes C CI n xs pis E H Q
theorem scNew : FnScope ["_law_word", "_law_r"] ["_law_word", "_law_r"] (defScope sNew) := ⟨rfl, rfl, rfl, by decide +kernel, rfl, by decide +kernel, by decide +kernel⟩
theorem ok_new {C : Cl5} {CI f fL : Addr} {fd : FuncData} (F : Fun K "_law_new" "_law_new" sNew f fd) (gL : mg "Like" = some (.ref C.L)) (gLen : mg "len" = none) (MS : Mk K C.L fL) (GI : FnR P w K mg base (L2.CX P w) 4 fL (spLikeNew K C CI)) : FnOk P w K mg base (L2.CX P w) 6 f fd ["_law_word", "_law_r"] (spNew K C CI) := by
  refine F.okX scNew (fun vs H Q E h => ?_) (fun cdv A outer s H vs Q E hr h => ?_)
  · obtain ⟨n, L, xs, pis, rfl, _⟩ := h
    rfl
  · obtain ⟨n, L, xs, pis, rfl, hn, hL, hp, hl, hj, k⟩ := h
    have tkE : Takes (cxOf (L2.CX P w) P w K mg base ["_law_word", "_law_r"] "_law_new" (defScope sNew) f cdv A outer s H E) (fun cls dd _ H => E cls dd H) := takes_of rfl rfl rfl rfl
    have hx := passes_call tkE (E := E) (fun _ _ _ _ q => q)
    have hl' : pis.length ≤ 1000 := by omega
    have hxl : xs.length ≤ 7 := by rw [hp.length]; exact hl
    refine ⟨_, (pss_cons (ps_if (pt_cmpR op_lt (pe_callB call_len_seq (by rfl) gLen PySem.boot_len (pa_cons (pv 1) pa_nil)) pe_int (nomark _)) (pss_cons (ps_if (pt_cmpR (op_eqNil hr.units0) (pv 1) (pe_lst pa_nil) (nomark _)) (pss_one (ps_ret (StX.pe_makeR MS GI hr rfl gL hx (pa_cons (pv 0) pa_nil)))) pss_nil) (pss_one (ps_ret (pe_ifExp (pt_cmpR op_eq (pe_callB call_len_seq (by rfl) gLen PySem.boot_len (pa_cons (pv 1) pa_nil)) pe_int (nomark _)) (StX.pe_makeR MS GI hr rfl gL hx (pa_cons (pv 0) (pa_cons (pe_ix ix_list (pv 1) pe_int (fun _ _ => rfl)) pa_nil))) (StX.pe_makeR MS GI hr rfl gL hx (pa_cons (pv 0) (pa_cons (pe_ix ix_list (pv 1) pe_int (fun _ _ => rfl)) (pa_cons (pe_ix ix_list (pv 1) pe_int (fun _ _ => rfl)) pa_nil)))))))) pss_nil) (pss_cons (ps_if (pt_cmpR op_lt (pe_callB call_len_seq (by rfl) gLen PySem.boot_len (pa_cons (pv 1) pa_nil)) pe_int (nomark _)) (pss_one (ps_ret (pe_ifExp (pt_cmpR op_eq (pe_callB call_len_seq (by rfl) gLen PySem.boot_len (pa_cons (pv 1) pa_nil)) pe_int (nomark _)) (StX.pe_makeR MS GI hr rfl gL hx (pa_cons (pv 0) (pa_cons (pe_ix ix_list (pv 1) pe_int (fun _ _ => rfl)) (pa_cons (pe_ix ix_list (pv 1) pe_int (fun _ _ => rfl)) (pa_cons (pe_ix ix_list (pv 1) pe_int (fun _ _ => rfl)) pa_nil))))) (StX.pe_makeR MS GI hr rfl gL hx (pa_cons (pv 0) (pa_cons (pe_ix ix_list (pv 1) pe_int (fun _ _ => rfl)) (pa_cons (pe_ix ix_list (pv 1) pe_int (fun _ _ => rfl)) (pa_cons (pe_ix ix_list (pv 1) pe_int (fun _ _ => rfl)) (pa_cons (pe_ix ix_list (pv 1) pe_int (fun _ _ => rfl)) pa_nil))))))))) pss_nil) (pss_cons (ps_if (pt_cmpR op_eq (pe_callB call_len_seq (by rfl) gLen PySem.boot_len (pa_cons (pv 1) pa_nil)) pe_int (nomark _)) (pss_one (ps_ret (StX.pe_makeR MS GI hr rfl gL hx (pa_cons (pv 0) (pa_cons (pe_ix ix_list (pv 1) pe_int (fun _ _ => rfl)) (pa_cons (pe_ix ix_list (pv 1) pe_int (fun _ _ => rfl)) (pa_cons (pe_ix ix_list (pv 1) pe_int (fun _ _ => rfl)) (pa_cons (pe_ix ix_list (pv 1) pe_int (fun _ _ => rfl)) (pa_cons (pe_ix ix_list (pv 1) pe_int (fun _ _ => rfl)) pa_nil))))))))) pss_nil) (pss_cons (ps_if (pt_cmpR op_eq (pe_callB call_len_seq (by rfl) gLen PySem.boot_len (pa_cons (pv 1) pa_nil)) pe_int (nomark _)) (pss_one (ps_ret (StX.pe_makeR MS GI hr rfl gL hx (pa_cons (pv 0) (pa_cons (pe_ix ix_list (pv 1) pe_int (fun _ _ => rfl)) (pa_cons (pe_ix ix_list (pv 1) pe_int (fun _ _ => rfl)) (pa_cons (pe_ix ix_list (pv 1) pe_int (fun _ _ => rfl)) (pa_cons (pe_ix ix_list (pv 1) pe_int (fun _ _ => rfl)) (pa_cons (pe_ix ix_list (pv 1) pe_int (fun _ _ => rfl)) (pa_cons (pe_ix ix_list (pv 1) pe_int (fun _ _ => rfl)) pa_nil)))))))))) pss_nil) (pss_one (ps_ret (StX.pe_makeR MS GI hr rfl gL hx (pa_cons (pv 0) (pa_cons (pe_ix ix_list (pv 1) pe_int (fun _ _ => rfl)) (pa_cons (pe_ix ix_list (pv 1) pe_int (fun _ _ => rfl)) (pa_cons (pe_ix ix_list (pv 1) pe_int (fun _ _ => rfl)) (pa_cons (pe_ix ix_list (pv 1) pe_int (fun _ _ => rfl)) (pa_cons (pe_ix ix_list (pv 1) pe_int (fun _ _ => rfl)) (pa_cons (pe_ix ix_list (pv 1) pe_int (fun _ _ => rfl)) (pa_cons (pe_ix ix_list (pv 1) pe_int (fun _ _ => rfl)) pa_nil))))))))))))))), ?_⟩
    match xs, hxl with
    | [], _ =>
      refine ⟨_, rfl, L, _, rfl, .inl (SqL.of hL), _, _, rfl, rfl, _, rfl, ?_⟩
      refine iteT ?_
      refine ⟨_, rfl, Nat.zero_le _, fun e he => ⟨L, e, [], rfl, rfl, ?_, upd_same, _, rfl, ?_⟩⟩
      · rw [upd_ne (ne_of_none hL he)]; exact hL
      have se : Same H (upd H e (.lst [])) := same_upd (Same.refl H) he
      have hL' := se _ _ hL
      have hp' := Paired.mapP hp fun a b q => LIAt.same se q
      have k' := LikeRes.same k se
      have hn' := hn.same se
      refine iteT ?_
      exact ⟨_, rfl, fun x dx nx ndx ne => like_made hn' hp' hl' hj k' nx ndx⟩
    | [v0], _ =>
      refine ⟨_, rfl, L, _, rfl, .inl (SqL.of hL), _, _, rfl, rfl, _, rfl, ?_⟩
      refine iteT ?_
      refine ⟨_, rfl, Nat.zero_le _, fun e he => ⟨L, e, [v0], rfl, rfl, ?_, upd_same, _, rfl, ?_⟩⟩
      · rw [upd_ne (ne_of_none hL he)]; exact hL
      have se : Same H (upd H e (.lst [])) := same_upd (Same.refl H) he
      have hL' := se _ _ hL
      have hp' := Paired.mapP hp fun a b q => LIAt.same se q
      have k' := LikeRes.same k se
      have hn' := hn.same se
      refine iteF ?_
      refine ⟨_, rfl, L, _, rfl, .inl (SqL.of hL'), rfl, _, rfl, ?_⟩
      refine iteT ?_
      exact ⟨_, rfl, _, rfl, L, _, _, _, rfl, rfl, SqL.of hL', (atI_nat (j := 0) rfl : atI _ ((0 : Nat) : Int) = some v0), fun x dx nx ndx ne => like_made hn' hp' hl' hj k' nx ndx⟩
    | [v0, v1], _ =>
      refine ⟨_, rfl, L, _, rfl, .inl (SqL.of hL), _, _, rfl, rfl, _, rfl, ?_⟩
      refine iteT ?_
      refine ⟨_, rfl, Nat.zero_le _, fun e he => ⟨L, e, [v0, v1], rfl, rfl, ?_, upd_same, _, rfl, ?_⟩⟩
      · rw [upd_ne (ne_of_none hL he)]; exact hL
      have se : Same H (upd H e (.lst [])) := same_upd (Same.refl H) he
      have hL' := se _ _ hL
      have hp' := Paired.mapP hp fun a b q => LIAt.same se q
      have k' := LikeRes.same k se
      have hn' := hn.same se
      refine iteF ?_
      refine ⟨_, rfl, L, _, rfl, .inl (SqL.of hL'), rfl, _, rfl, ?_⟩
      refine iteF ?_
      exact ⟨_, rfl, _, rfl, L, _, _, _, rfl, rfl, SqL.of hL', (atI_nat (j := 0) rfl : atI _ ((0 : Nat) : Int) = some v0), _, rfl, L, _, _, _, rfl, rfl, SqL.of hL', (atI_nat (j := 1) rfl : atI _ ((1 : Nat) : Int) = some v1), fun x dx nx ndx ne => like_made hn' hp' hl' hj k' nx ndx⟩
    | [v0, v1, v2], _ =>
      refine ⟨_, rfl, L, _, rfl, .inl (SqL.of hL), _, _, rfl, rfl, _, rfl, ?_⟩
      refine iteF ?_
      refine ⟨_, rfl, L, _, rfl, .inl (SqL.of hL), _, _, rfl, rfl, _, rfl, ?_⟩
      refine iteT ?_
      refine ⟨_, rfl, L, _, rfl, .inl (SqL.of hL), rfl, _, rfl, ?_⟩
      refine iteT ?_
      have hL' := hL
      have hp' := hp
      have k' := k
      have hn' := hn
      exact ⟨_, rfl, _, rfl, L, _, _, _, rfl, rfl, SqL.of hL', (atI_nat (j := 0) rfl : atI _ ((0 : Nat) : Int) = some v0), _, rfl, L, _, _, _, rfl, rfl, SqL.of hL', (atI_nat (j := 1) rfl : atI _ ((1 : Nat) : Int) = some v1), _, rfl, L, _, _, _, rfl, rfl, SqL.of hL', (atI_nat (j := 2) rfl : atI _ ((2 : Nat) : Int) = some v2), fun x dx nx ndx ne => like_made hn' hp' hl' hj k' nx ndx⟩
    | [v0, v1, v2, v3], _ =>
      refine ⟨_, rfl, L, _, rfl, .inl (SqL.of hL), _, _, rfl, rfl, _, rfl, ?_⟩
      refine iteF ?_
      refine ⟨_, rfl, L, _, rfl, .inl (SqL.of hL), _, _, rfl, rfl, _, rfl, ?_⟩
      refine iteT ?_
      refine ⟨_, rfl, L, _, rfl, .inl (SqL.of hL), rfl, _, rfl, ?_⟩
      refine iteF ?_
      have hL' := hL
      have hp' := hp
      have k' := k
      have hn' := hn
      exact ⟨_, rfl, _, rfl, L, _, _, _, rfl, rfl, SqL.of hL', (atI_nat (j := 0) rfl : atI _ ((0 : Nat) : Int) = some v0), _, rfl, L, _, _, _, rfl, rfl, SqL.of hL', (atI_nat (j := 1) rfl : atI _ ((1 : Nat) : Int) = some v1), _, rfl, L, _, _, _, rfl, rfl, SqL.of hL', (atI_nat (j := 2) rfl : atI _ ((2 : Nat) : Int) = some v2), _, rfl, L, _, _, _, rfl, rfl, SqL.of hL', (atI_nat (j := 3) rfl : atI _ ((3 : Nat) : Int) = some v3), fun x dx nx ndx ne => like_made hn' hp' hl' hj k' nx ndx⟩
    | [v0, v1, v2, v3, v4], _ =>
      refine ⟨_, rfl, L, _, rfl, .inl (SqL.of hL), _, _, rfl, rfl, _, rfl, ?_⟩
      refine iteF ?_
      refine ⟨_, rfl, L, _, rfl, .inl (SqL.of hL), _, _, rfl, rfl, _, rfl, ?_⟩
      refine iteF ?_
      refine ⟨_, rfl, L, _, rfl, .inl (SqL.of hL), rfl, _, rfl, ?_⟩
      refine iteT ?_
      have hL' := hL
      have hp' := hp
      have k' := k
      have hn' := hn
      exact ⟨_, rfl, _, rfl, L, _, _, _, rfl, rfl, SqL.of hL', (atI_nat (j := 0) rfl : atI _ ((0 : Nat) : Int) = some v0), _, rfl, L, _, _, _, rfl, rfl, SqL.of hL', (atI_nat (j := 1) rfl : atI _ ((1 : Nat) : Int) = some v1), _, rfl, L, _, _, _, rfl, rfl, SqL.of hL', (atI_nat (j := 2) rfl : atI _ ((2 : Nat) : Int) = some v2), _, rfl, L, _, _, _, rfl, rfl, SqL.of hL', (atI_nat (j := 3) rfl : atI _ ((3 : Nat) : Int) = some v3), _, rfl, L, _, _, _, rfl, rfl, SqL.of hL', (atI_nat (j := 4) rfl : atI _ ((4 : Nat) : Int) = some v4), fun x dx nx ndx ne => like_made hn' hp' hl' hj k' nx ndx⟩
    | [v0, v1, v2, v3, v4, v5], _ =>
      refine ⟨_, rfl, L, _, rfl, .inl (SqL.of hL), _, _, rfl, rfl, _, rfl, ?_⟩
      refine iteF ?_
      refine ⟨_, rfl, L, _, rfl, .inl (SqL.of hL), _, _, rfl, rfl, _, rfl, ?_⟩
      refine iteF ?_
      refine ⟨_, rfl, L, _, rfl, .inl (SqL.of hL), rfl, _, rfl, ?_⟩
      refine iteF ?_
      refine ⟨_, rfl, L, _, rfl, .inl (SqL.of hL), rfl, _, rfl, ?_⟩
      refine iteT ?_
      have hL' := hL
      have hp' := hp
      have k' := k
      have hn' := hn
      exact ⟨_, rfl, _, rfl, L, _, _, _, rfl, rfl, SqL.of hL', (atI_nat (j := 0) rfl : atI _ ((0 : Nat) : Int) = some v0), _, rfl, L, _, _, _, rfl, rfl, SqL.of hL', (atI_nat (j := 1) rfl : atI _ ((1 : Nat) : Int) = some v1), _, rfl, L, _, _, _, rfl, rfl, SqL.of hL', (atI_nat (j := 2) rfl : atI _ ((2 : Nat) : Int) = some v2), _, rfl, L, _, _, _, rfl, rfl, SqL.of hL', (atI_nat (j := 3) rfl : atI _ ((3 : Nat) : Int) = some v3), _, rfl, L, _, _, _, rfl, rfl, SqL.of hL', (atI_nat (j := 4) rfl : atI _ ((4 : Nat) : Int) = some v4), _, rfl, L, _, _, _, rfl, rfl, SqL.of hL', (atI_nat (j := 5) rfl : atI _ ((5 : Nat) : Int) = some v5), fun x dx nx ndx ne => like_made hn' hp' hl' hj k' nx ndx⟩
    | [v0, v1, v2, v3, v4, v5, v6], _ =>
      refine ⟨_, rfl, L, _, rfl, .inl (SqL.of hL), _, _, rfl, rfl, _, rfl, ?_⟩
      refine iteF ?_
      refine ⟨_, rfl, L, _, rfl, .inl (SqL.of hL), _, _, rfl, rfl, _, rfl, ?_⟩
      refine iteF ?_
      refine ⟨_, rfl, L, _, rfl, .inl (SqL.of hL), rfl, _, rfl, ?_⟩
      refine iteF ?_
      refine ⟨_, rfl, L, _, rfl, .inl (SqL.of hL), rfl, _, rfl, ?_⟩
      refine iteF ?_
      have hL' := hL
      have hp' := hp
      have k' := k
      have hn' := hn
      exact ⟨_, rfl, _, rfl, L, _, _, _, rfl, rfl, SqL.of hL', (atI_nat (j := 0) rfl : atI _ ((0 : Nat) : Int) = some v0), _, rfl, L, _, _, _, rfl, rfl, SqL.of hL', (atI_nat (j := 1) rfl : atI _ ((1 : Nat) : Int) = some v1), _, rfl, L, _, _, _, rfl, rfl, SqL.of hL', (atI_nat (j := 2) rfl : atI _ ((2 : Nat) : Int) = some v2), _, rfl, L, _, _, _, rfl, rfl, SqL.of hL', (atI_nat (j := 3) rfl : atI _ ((3 : Nat) : Int) = some v3), _, rfl, L, _, _, _, rfl, rfl, SqL.of hL', (atI_nat (j := 4) rfl : atI _ ((4 : Nat) : Int) = some v4), _, rfl, L, _, _, _, rfl, rfl, SqL.of hL', (atI_nat (j := 5) rfl : atI _ ((5 : Nat) : Int) = some v5), _, rfl, L, _, _, _, rfl, rfl, SqL.of hL', (atI_nat (j := 6) rfl : atI _ ((6 : Nat) : Int) = some v6), fun x dx nx ndx ne => like_made hn' hp' hl' hj k' nx ndx⟩
end
end K3

namespace K3
open PySem PySem.Spec PyProof.Rows L2 E0
/-! ### ==: variables by class and name, nodes by their texts -/
def clsN : Tr → Nat
  | .vr 0 _ => 0
  | .vr 1 _ => 1
  | .vr (_ + 2) _ => 2
  | .nd true _ _ => 3
  | .nd false _ _ => 4
  | .tx _ => 5
  | .row _ => 6
def nmT : Tr → Str
  | .vr _ n => n
  | .nd lk f ps => said (.nd lk f ps)
  | _ => Str.empty
/-- whether a part equals another one, by its own class -/
def eqT (t u : Tr) : Bool := decide (clsN t = clsN u) && decide (nmT t = nmT u)
/-- the class of a number -/
def clsA (C : Cl5) : Nat → Addr
  | 0 => C.V
  | 1 => C.W
  | 2 => C.R
  | 3 => C.L
  | _ => C.T
theorem clsA_ty {C : Cl5} {t : Tr} (h : clsN t ≤ 4) : tyT C t = .ref (clsA C (clsN t)) := by
  match t, h with
  | .vr 0 _, _ => rfl
  | .vr 1 _, _ => rfl
  | .vr (_ + 2) _, _ => rfl
  | .nd true _ _, _ => rfl
  | .nd false _ _, _ => rfl
  | .tx _, h => exact absurd (show 5 ≤ 4 from h) (by decide)
  | .row _, h => exact absurd (show 6 ≤ 4 from h) (by decide)
theorem clsA_mem (C : Cl5) (j : Nat) : clsA C j ∈ C.all := by
  match j with
  | 0 => exact C.v_mem 0
  | 1 => exact C.v_mem 1
  | 2 => exact C.v_mem 2
  | 3 => exact C.n_mem true
  | (_ + 4) => exact C.n_mem false
theorem clsA_ne {K : PySem.W.Frag} {C : Cl5} (T : Ty5 K C) {i j : Nat} (hi : i ≤ 4) (hj : j ≤ 4) : (clsA C i = clsA C j) ↔ i = j := by
  have nd := T.nd
  simp only [Cl5.all, List.nodup_cons, List.mem_cons, List.not_mem_nil, or_false, not_or] at nd
  obtain ⟨⟨a1, a2, a3, a4⟩, ⟨b2, b3, b4⟩, ⟨c3, c4⟩, d4, _⟩ := nd
  constructor
  · intro e
    match i, j, hi, hj with
    | 0, 0, _, _ | 1, 1, _, _ | 2, 2, _, _ | 3, 3, _, _ | 4, 4, _, _ => rfl
    | 0, 1, _, _ => exact absurd e c3
    | 0, 2, _, _ => exact absurd e c4
    | 0, 3, _, _ => exact absurd e.symm b2
    | 0, 4, _, _ => exact absurd e.symm a2
    | 1, 0, _, _ => exact absurd e.symm c3
    | 1, 2, _, _ => exact absurd e d4
    | 1, 3, _, _ => exact absurd e.symm b3
    | 1, 4, _, _ => exact absurd e.symm a3
    | 2, 0, _, _ => exact absurd e.symm c4
    | 2, 1, _, _ => exact absurd e.symm d4
    | 2, 3, _, _ => exact absurd e.symm b4
    | 2, 4, _, _ => exact absurd e.symm a4
    | 3, 0, _, _ => exact absurd e b2
    | 3, 1, _, _ => exact absurd e b3
    | 3, 2, _, _ => exact absurd e b4
    | 3, 4, _, _ => exact absurd e.symm a1
    | 4, 0, _, _ => exact absurd e a2
    | 4, 1, _, _ => exact absurd e a3
    | 4, 2, _, _ => exact absurd e a4
    | 4, 3, _, _ => exact absurd e a1
    | (_ + 5), _, h, _ => omega
    | _, (_ + 5), _, h => omega
  · intro e; rw [e]
/-- whether a part is of a class -/
theorem kit_C {K : PySem.W.Frag} {C : Cl5} (T : Ty5 K C) (t : Tr) {j : Nat} (hj : j ≤ 4) : PySem.W.kitOne K (tyT C t) (.ref (clsA C j)) = some (decide (clsN t = j)) := by
  have hm := clsA_mem C j
  have go : clsN t ≤ 4 → PySem.W.kitOne K (tyT C t) (.ref (clsA C j)) = some (decide (clsN t = j)) := fun h => by
    rw [clsA_ty h, T.kit _ (clsA_mem C (clsN t)) _ hm]
    exact congrArg some (decide_eq_decide.mpr (clsA_ne T h hj))
  match t with
  | .tx z => exact (T.bs _ hm).trans (congrArg some (decide_eq_false (show ¬ 5 = j by omega)).symm)
  | .row ts => exact (T.bt _ hm).trans (congrArg some (decide_eq_false (show ¬ 6 = j by omega)).symm)
  | .vr 0 _ => exact go (show 0 ≤ 4 by decide)
  | .vr 1 _ => exact go (show 1 ≤ 4 by decide)
  | .vr (_ + 2) _ => exact go (show 2 ≤ 4 by decide)
  | .nd true _ _ => exact go (show 3 ≤ 4 by decide)
  | .nd false _ _ => exact go (show 4 ≤ 4 by decide)
def spEqC (K : PySem.W.Frag) (C : Cl5) (j : Nat) : Sp := fun vs H Q _ => ∃ (v y : V) (t : Tr), vs = [v, y] ∧ PtAt C H v t ∧ clsN t = j ∧
  ((∃ u, PtAt C H y u ∧ Q (.bl (eqT t u)) H) ∨ (∃ ty, TyX K H y ty ∧ PySem.W.kitOne K ty (.ref (clsA C j)) = some false ∧ Q (.bl false) H))
section
variable {P : Program} {w : World} {K : PySem.W.Frag} {mg : Str → Option Value} {base : Heap}
theorem name_of {C : Cl5} {H : Hp} {v : V} {t : Tr} (h : PtAt C H v t) (hj : clsN t ≤ 2) : ∃ x A dx fs, v = .ref x ∧ H x = some (.ins A dx fs) ∧ A ∈ C.all ∧ fs.lookup ("name" : Str) = some (.str (nmT t)) := by
  match t, h, hj with
  | .vr k n, h, _ =>
    obtain ⟨x, dx, fs, h1, h2, h3, _⟩ := h
    exact ⟨x, _, dx, fs, h1, h2, C.v_mem k, h3⟩
  | .tx _, _, h => exact absurd (show 5 ≤ 2 from h) (by decide)
  | .row _, _, h => exact absurd (show 6 ≤ 2 from h) (by decide)
  | .nd true _ _, _, h => exact absurd (show 3 ≤ 2 from h) (by decide)
  | .nd false _ _, _, h => exact absurd (show 4 ≤ 2 from h) (by decide)
theorem txt_of {C : Cl5} {H : Hp} {v : V} {t : Tr} (h : PtAt C H v t) (hj : clsN t = 3) : ∃ x A dx fs, v = .ref x ∧ H x = some (.ins A dx fs) ∧ A ∈ C.all ∧ fs.lookup ("text" : Str) = some (.str (nmT t)) := by
  match t, h, hj with
  | .nd true f ps, h, _ =>
    obtain ⟨x, dx, fs, pa, xs, h1, h2, h3, h4, h5, h6, h7, h8, h9, _⟩ := h
    exact ⟨x, _, dx, fs, h1, h2, C.n_mem true, by rw [h9]; exact congrArg some (congrArg V.str (said_nd true f ps).symm)⟩
  | .vr 0 n, _, h => exact absurd (show 0 = 3 from h) (by decide)
  | .vr 1 n, _, h => exact absurd (show 1 = 3 from h) (by decide)
  | .vr (_ + 2) n, _, h => exact absurd (show 2 = 3 from h) (by decide)
  | .tx _, _, h => exact absurd (show 5 = 3 from h) (by decide)
  | .row _, _, h => exact absurd (show 6 = 3 from h) (by decide)
  | .nd false _ _, _, h => exact absurd (show 4 = 3 from h) (by decide)
theorem str_dec (a b : Str) : decide (V.str a = V.str b) = decide (a = b) := decide_eq_decide.mpr ⟨fun q => V.str.inj q, fun q => by rw [q]⟩
theorem scVarEq : FnScope ["self", "other"] ["self", "other"] (defScope sVarEq) := ⟨rfl, rfl, rfl, by decide +kernel, rfl, by decide +kernel, by decide +kernel⟩
theorem ok_varEq {C : Cl5} {f : Addr} {fd : FuncData} (F : Fun K "__eq__" "Var.__eq__" sVarEq f fd) (T : TxtT mg C) (T5 : Ty5 K C) (N5 : Na5 K C) : FnOk P w K mg base CX0 1 f fd ["self", "other"] (spEqC K C 0) := by
  refine F.ok scVarEq (fun vs H Q E h => ?_) (fun cdv A outer s H vs Q E hr h => ?_)
  · obtain ⟨v, y, t, rfl, _⟩ := h
    rfl
  · obtain ⟨v, y, t, rfl, hv, ht, q⟩ := h
    refine ⟨_, pss_one (ps_ret (pe_and (pe_callB call_isi (by rfl) T.isi PyProof.Rows.boot_isinstance (pa_cons (pv 1) (pa_cons (pe_glob (v := .ref C.V) rfl T.gV rfl) pa_nil))) (pe_one (pe_cmpR op_eq (pe_fld (pv 0) rfl) (pe_fld (pv 1) rfl) (nomark _))))), ?_⟩
    rcases q with ⟨u, hu, q⟩ | ⟨ty, hty, hk, q⟩
    · have hkT := kit_C T5 u (j := 0) (by decide)
      refine ⟨_, rfl, _, _, _, _, _, rfl, .own C.V, PtAt.ty T5 hu, hkT, _, rfl, ?_⟩
      by_cases e : clsN u = 0
      · rw [decide_eq_true e]
        refine iteT ?_
        obtain ⟨x, A1, dx, fs, rfl, e2, e3, e4⟩ := name_of hv (by rw [ht]; decide)
        obtain ⟨x2, A2, dx2, gs, rfl, g2, g3, g4⟩ := name_of hu (by rw [e]; decide)
        refine ⟨_, rfl, x, A1, dx, fs, _, rfl, e2, (T5.own _ e3).cl, N5.na _ e3 _ (by decide +kernel), e4, _, rfl, x2, A2, dx2, gs, _, rfl, g2, (T5.own _ g3).cl, N5.na _ g3 _ (by decide +kernel), g4, rfl, ?_⟩
        rw [str_dec]
        unfold eqT at q
        rw [decide_eq_true (show clsN t = clsN u by rw [ht, e]), Bool.true_and] at q
        exact q
      · rw [decide_eq_false e]
        refine iteF ?_
        unfold eqT at q
        rw [decide_eq_false (show ¬ clsN t = clsN u by rw [ht]; exact Ne.symm e), Bool.false_and] at q
        exact q
    · refine ⟨_, rfl, _, _, _, _, false, rfl, .own C.V, hty, hk, _, rfl, ?_⟩
      exact iteF q
theorem scWordEq : FnScope ["self", "other"] ["self", "other"] (defScope sWordEq) := ⟨rfl, rfl, rfl, by decide +kernel, rfl, by decide +kernel, by decide +kernel⟩
theorem ok_wordEq {C : Cl5} {f : Addr} {fd : FuncData} (F : Fun K "__eq__" "Word.__eq__" sWordEq f fd) (T : TxtT mg C) (T5 : Ty5 K C) (N5 : Na5 K C) : FnOk P w K mg base CX0 1 f fd ["self", "other"] (spEqC K C 1) := by
  refine F.ok scWordEq (fun vs H Q E h => ?_) (fun cdv A outer s H vs Q E hr h => ?_)
  · obtain ⟨v, y, t, rfl, _⟩ := h
    rfl
  · obtain ⟨v, y, t, rfl, hv, ht, q⟩ := h
    refine ⟨_, pss_one (ps_ret (pe_and (pe_callB call_isi (by rfl) T.isi PyProof.Rows.boot_isinstance (pa_cons (pv 1) (pa_cons (pe_glob (v := .ref C.W) rfl T.gW rfl) pa_nil))) (pe_one (pe_cmpR op_eq (pe_fld (pv 0) rfl) (pe_fld (pv 1) rfl) (nomark _))))), ?_⟩
    rcases q with ⟨u, hu, q⟩ | ⟨ty, hty, hk, q⟩
    · have hkT := kit_C T5 u (j := 1) (by decide)
      refine ⟨_, rfl, _, _, _, _, _, rfl, .own C.W, PtAt.ty T5 hu, hkT, _, rfl, ?_⟩
      by_cases e : clsN u = 1
      · rw [decide_eq_true e]
        refine iteT ?_
        obtain ⟨x, A1, dx, fs, rfl, e2, e3, e4⟩ := name_of hv (by rw [ht]; decide)
        obtain ⟨x2, A2, dx2, gs, rfl, g2, g3, g4⟩ := name_of hu (by rw [e]; decide)
        refine ⟨_, rfl, x, A1, dx, fs, _, rfl, e2, (T5.own _ e3).cl, N5.na _ e3 _ (by decide +kernel), e4, _, rfl, x2, A2, dx2, gs, _, rfl, g2, (T5.own _ g3).cl, N5.na _ g3 _ (by decide +kernel), g4, rfl, ?_⟩
        rw [str_dec]
        unfold eqT at q
        rw [decide_eq_true (show clsN t = clsN u by rw [ht, e]), Bool.true_and] at q
        exact q
      · rw [decide_eq_false e]
        refine iteF ?_
        unfold eqT at q
        rw [decide_eq_false (show ¬ clsN t = clsN u by rw [ht]; exact Ne.symm e), Bool.false_and] at q
        exact q
    · refine ⟨_, rfl, _, _, _, _, false, rfl, .own C.W, hty, hk, _, rfl, ?_⟩
      exact iteF q
theorem scRestEq : FnScope ["self", "other"] ["self", "other"] (defScope sRestEq) := ⟨rfl, rfl, rfl, by decide +kernel, rfl, by decide +kernel, by decide +kernel⟩
theorem ok_restEq {C : Cl5} {f : Addr} {fd : FuncData} (F : Fun K "__eq__" "Rest.__eq__" sRestEq f fd) (T : TxtT mg C) (T5 : Ty5 K C) (N5 : Na5 K C) : FnOk P w K mg base CX0 1 f fd ["self", "other"] (spEqC K C 2) := by
  refine F.ok scRestEq (fun vs H Q E h => ?_) (fun cdv A outer s H vs Q E hr h => ?_)
  · obtain ⟨v, y, t, rfl, _⟩ := h
    rfl
  · obtain ⟨v, y, t, rfl, hv, ht, q⟩ := h
    refine ⟨_, pss_one (ps_ret (pe_and (pe_callB call_isi (by rfl) T.isi PyProof.Rows.boot_isinstance (pa_cons (pv 1) (pa_cons (pe_glob (v := .ref C.R) rfl T.gR rfl) pa_nil))) (pe_one (pe_cmpR op_eq (pe_fld (pv 0) rfl) (pe_fld (pv 1) rfl) (nomark _))))), ?_⟩
    rcases q with ⟨u, hu, q⟩ | ⟨ty, hty, hk, q⟩
    · have hkT := kit_C T5 u (j := 2) (by decide)
      refine ⟨_, rfl, _, _, _, _, _, rfl, .own C.R, PtAt.ty T5 hu, hkT, _, rfl, ?_⟩
      by_cases e : clsN u = 2
      · rw [decide_eq_true e]
        refine iteT ?_
        obtain ⟨x, A1, dx, fs, rfl, e2, e3, e4⟩ := name_of hv (by rw [ht]; decide)
        obtain ⟨x2, A2, dx2, gs, rfl, g2, g3, g4⟩ := name_of hu (by rw [e]; decide)
        refine ⟨_, rfl, x, A1, dx, fs, _, rfl, e2, (T5.own _ e3).cl, N5.na _ e3 _ (by decide +kernel), e4, _, rfl, x2, A2, dx2, gs, _, rfl, g2, (T5.own _ g3).cl, N5.na _ g3 _ (by decide +kernel), g4, rfl, ?_⟩
        rw [str_dec]
        unfold eqT at q
        rw [decide_eq_true (show clsN t = clsN u by rw [ht, e]), Bool.true_and] at q
        exact q
      · rw [decide_eq_false e]
        refine iteF ?_
        unfold eqT at q
        rw [decide_eq_false (show ¬ clsN t = clsN u by rw [ht]; exact Ne.symm e), Bool.false_and] at q
        exact q
    · refine ⟨_, rfl, _, _, _, _, false, rfl, .own C.R, hty, hk, _, rfl, ?_⟩
      exact iteF q
theorem scLikeEq : FnScope ["self", "other"] ["self", "other"] (defScope sLikeEq) := ⟨rfl, rfl, rfl, by decide +kernel, rfl, by decide +kernel, by decide +kernel⟩
theorem ok_likeEq {C : Cl5} {f : Addr} {fd : FuncData} (F : Fun K "__eq__" "Like.__eq__" sLikeEq f fd) (T : TxtT mg C) (T5 : Ty5 K C) (N5 : Na5 K C) : FnOk P w K mg base CX0 1 f fd ["self", "other"] (spEqC K C 3) := by
  refine F.ok scLikeEq (fun vs H Q E h => ?_) (fun cdv A outer s H vs Q E hr h => ?_)
  · obtain ⟨v, y, t, rfl, _⟩ := h
    rfl
  · obtain ⟨v, y, t, rfl, hv, ht, q⟩ := h
    refine ⟨_, pss_one (ps_ret (pe_and (pe_callB call_isi (by rfl) T.isi PyProof.Rows.boot_isinstance (pa_cons (pv 1) (pa_cons (pe_glob (v := .ref C.L) rfl T.gL rfl) pa_nil))) (pe_one (pe_cmpR op_eq (pe_fld (pv 0) rfl) (pe_fld (pv 1) rfl) (nomark _))))), ?_⟩
    rcases q with ⟨u, hu, q⟩ | ⟨ty, hty, hk, q⟩
    · have hkT := kit_C T5 u (j := 3) (by decide)
      refine ⟨_, rfl, _, _, _, _, _, rfl, .own C.L, PtAt.ty T5 hu, hkT, _, rfl, ?_⟩
      by_cases e : clsN u = 3
      · rw [decide_eq_true e]
        refine iteT ?_
        obtain ⟨x, A1, dx, fs, rfl, e2, e3, e4⟩ := txt_of hv ht
        obtain ⟨x2, A2, dx2, gs, rfl, g2, g3, g4⟩ := txt_of hu e
        refine ⟨_, rfl, x, A1, dx, fs, _, rfl, e2, (T5.own _ e3).cl, N5.na _ e3 _ (by decide +kernel), e4, _, rfl, x2, A2, dx2, gs, _, rfl, g2, (T5.own _ g3).cl, N5.na _ g3 _ (by decide +kernel), g4, rfl, ?_⟩
        rw [str_dec]
        unfold eqT at q
        rw [decide_eq_true (show clsN t = clsN u by rw [ht, e]), Bool.true_and] at q
        exact q
      · rw [decide_eq_false e]
        refine iteF ?_
        unfold eqT at q
        rw [decide_eq_false (show ¬ clsN t = clsN u by rw [ht]; exact Ne.symm e), Bool.false_and] at q
        exact q
    · refine ⟨_, rfl, _, _, _, _, false, rfl, .own C.L, hty, hk, _, rfl, ?_⟩
      exact iteF q
/-! ### the rules of == and != -/
structure NF5 (K : PySem.W.Frag) (C : Cl5) : Prop where
  own : ∀ a ∈ C.all, ∀ b ∈ C.all, PySem.W.notFirst K a (.ref b) = true
  bt : ∀ a ∈ C.all, ∀ s ∈ (["NoneType", "int", "str", "tuple"] : List String), PySem.W.notFirst K a (.type s) = true ∧ PySem.W.kitOne K (.type s) (.ref a) = some false
theorem nf_pt {C : Cl5} {a : Addr} (n : NF5 K C) (ha : a ∈ C.all) (t : Tr) : PySem.W.notFirst K a (tyT C t) = true := by
  match t with
  | .tx _ => exact (n.bt a ha "str" (by decide)).1
  | .row _ => exact (n.bt a ha "tuple" (by decide)).1
  | .vr k _ => exact n.own a ha _ (C.v_mem k)
  | .nd b _ _ => exact n.own a ha _ (C.n_mem b)
/-- an instance of its class -/
theorem ins_of {C : Cl5} {H : Hp} {v : V} {t : Tr} (h : PtAt C H v t) (hj : clsN t ≤ 4) : ∃ a dx fs, v = .ref a ∧ H a = some (.ins (clsA C (clsN t)) dx fs) := by
  match t, h, hj with
  | .vr 0 n, h, _ => obtain ⟨x, dx, fs, h1, h2, _⟩ := h; exact ⟨x, dx, fs, h1, h2⟩
  | .vr 1 n, h, _ => obtain ⟨x, dx, fs, h1, h2, _⟩ := h; exact ⟨x, dx, fs, h1, h2⟩
  | .vr (_ + 2) n, h, _ => obtain ⟨x, dx, fs, h1, h2, _⟩ := h; exact ⟨x, dx, fs, h1, h2⟩
  | .nd true f ps, h, _ => obtain ⟨x, dx, fs, pa, xs, h1, h2, _⟩ := h; exact ⟨x, dx, fs, h1, h2⟩
  | .nd false f ps, h, _ => obtain ⟨x, dx, fs, pa, xs, h1, h2, _⟩ := h; exact ⟨x, dx, fs, h1, h2⟩
  | .tx _, _, h => exact absurd (show 5 ≤ 4 from h) (by decide)
  | .row _, _, h => exact absurd (show 6 ≤ 4 from h) (by decide)
section
variable {C : Cl5} {H : Hp} {v y : V} {t u : Tr} {j : Nat} {Q : VK}
theorem eq_pt (T5 : Ty5 K C) (n : NF5 K C) (hv : PtAt C H v t) (hu : PtAt C H y u) (hj : clsN t = j) (hj4 : j ≤ 4) (k : Q (.bl (eqT t u)) H) : rEqO K (clsA C j) (spEqC K C j) E0 v y H Q := by
  subst hj
  obtain ⟨a, dx, fs, rfl, ha⟩ := ins_of hv hj4
  exact ⟨a, dx, fs, tyT C u, rfl, ha, PtAt.ty T5 hu, nf_pt n (clsA_mem C _) u, _, y, t, rfl, hv, rfl, .inl ⟨u, hu, _, rfl, k⟩⟩
theorem ne_pt (T5 : Ty5 K C) (n : NF5 K C) (hv : PtAt C H v t) (hu : PtAt C H y u) (hj : clsN t = j) (hj4 : j ≤ 4) (k : Q (.bl (!eqT t u)) H) : rNeO K (clsA C j) (spEqC K C j) E0 v y H Q := by
  subst hj
  obtain ⟨a, dx, fs, rfl, ha⟩ := ins_of hv hj4
  exact ⟨a, dx, fs, tyT C u, rfl, ha, PtAt.ty T5 hu, nf_pt n (clsA_mem C _) u, _, y, t, rfl, hv, rfl, .inl ⟨u, hu, _, rfl, k⟩⟩
theorem eq_ty {s : String} (n : NF5 K C) (hv : PtAt C H v t) (hy : TyX K H y (.type s)) (hs : s ∈ (["NoneType", "int", "str", "tuple"] : List String)) (hj : clsN t = j) (hj4 : j ≤ 4) (k : Q (.bl false) H) : rEqO K (clsA C j) (spEqC K C j) E0 v y H Q := by
  subst hj
  obtain ⟨a, dx, fs, rfl, ha⟩ := ins_of hv hj4
  obtain ⟨b1, b2⟩ := n.bt _ (clsA_mem C (clsN t)) s hs
  exact ⟨a, dx, fs, .type s, rfl, ha, hy, b1, _, y, t, rfl, hv, rfl, .inr ⟨_, hy, b2, _, rfl, k⟩⟩
theorem ne_ty {s : String} (n : NF5 K C) (hv : PtAt C H v t) (hy : TyX K H y (.type s)) (hs : s ∈ (["NoneType", "int", "str", "tuple"] : List String)) (hj : clsN t = j) (hj4 : j ≤ 4) (k : Q (.bl true) H) : rNeO K (clsA C j) (spEqC K C j) E0 v y H Q := by
  subst hj
  obtain ⟨a, dx, fs, rfl, ha⟩ := ins_of hv hj4
  obtain ⟨b1, b2⟩ := n.bt _ (clsA_mem C (clsN t)) s hs
  exact ⟨a, dx, fs, .type s, rfl, ha, hy, b1, _, y, t, rfl, hv, rfl, .inr ⟨_, hy, b2, _, rfl, k⟩⟩
end
end
end K3

namespace K3
open PySem PySem.Spec PyProof.Rows PySem.SeqAt L2 E0
/-! ### lists whose items are the same things, or tuples of the same things -/
def plainV : V → Bool
  | .flt _ => false
  | .byt _ => false
  | _ => true
theorem eqat_self {A : Around} {s : Shared} {x : V} {v u : Value} (h : plainV x = true) (r : RelV x v) (r2 : RelV x u) : EqAt A s v u true := by
  cases x with
  | non => cases r; cases r2; exact EqAt.same _
  | bl b => cases r; cases r2; exact EqAt.same _
  | int i =>
    obtain ⟨t, rfl⟩ := r
    obtain ⟨t2, rfl⟩ := r2
    have e := (MeetsSeq.EqGives.int i i t t2).at A s
    rw [beq_self_eq_true] at e
    exact e
  | str z =>
    obtain ⟨t, rfl⟩ := r
    obtain ⟨t2, rfl⟩ := r2
    have e := (SeqRoads2.EqGives.str z z t t2).at A s
    rw [beq_self_eq_true] at e
    exact e
  | ref a => cases r; cases r2; exact EqAt.same _
  | ty n => cases r; cases r2; exact EqAt.same _
  | flt _ => cases h
  | byt _ => cases h
def SmV (K : PySem.W.Frag) (H : Hp) (x y : V) : Prop := (x = y ∧ plainV x = true) ∨ ∃ a b vs, x = .ref a ∧ y = .ref b ∧ SqT K H a vs ∧ SqT K H b vs ∧ ∀ z ∈ vs, plainV z = true
theorem vals_at {xs : List V} {us : List Value} (r : Vals xs us) {j : Nat} (h : j < us.length) : ∃ x, xs[j]? = some x ∧ RelV x us[j] := by
  have hx : j < xs.length := by rw [r.length]; exact h
  refine ⟨xs[j], List.getElem?_eq_getElem hx, ?_⟩
  obtain ⟨u, e, q⟩ := r.get (List.getElem?_eq_getElem hx)
  rw [List.getElem?_eq_getElem h] at e
  cases e
  exact q
section
variable {X : Cx}
def rNeSm (K : PySem.W.Frag) : R2 := fun x y H Q => ∃ a b xs ys, x = .ref a ∧ y = .ref b ∧ SqL K H a xs ∧ SqL K H b ys ∧ Paired (SmV K H) xs ys ∧ Q (.bl false) H
theorem op_neSm (hu : X.A.units + 8 < cLine) : OpR X (compareOp .NotEq) (rNeSm X.K) := by
  intro pins s σ H x y v u Q I rx ry h
  obtain ⟨a, b, xs, ys, rfl, rfl, ha, hb, hp, q⟩ := h
  obtain rfl : v = Value.ref a := rx
  obtain rfl : u = Value.ref b := ry
  obtain ⟨its, r, pl, _⟩ := I.list ha
  obtain ⟨its2, r2, pl2, _⟩ := I.list hb
  have hu0 : X.A.units < cLine := by omega
  show wpAny (model X.prog X.w) X.A (richCompare .NotEq (.ref a) (.ref b)) (EP X pins σ Q) X.xe s
  have hsz : its.length = its2.length := by rw [← r.length, ← r2.length, hp.length]
  refine RcNeAt.lists (e := fun _ => true) pl.isList pl2.isList (by simpa using hsz) hu0 (fun j h1 h2 => ?_) _ _ _ _ ⟨.bl false, H, I, ?_, q⟩
  · have h1' : j < its.length := by simpa using h1
    have h2' : j < its2.length := by simpa using h2
    obtain ⟨x, ex, rx⟩ := vals_at r h1'
    obtain ⟨y, ey, ry⟩ := vals_at r2 h2'
    obtain ⟨y', ey', sm⟩ := LiI.paired_get hp ex
    rw [ey] at ey'
    cases ey'
    have g1 : its.toArray[j] = its[j] := by simp
    have g2 : its2.toArray[j] = its2[j] := by simp
    rw [g1, g2]
    rcases sm with ⟨rfl, pv⟩ | ⟨c, d, vs, rfl, rfl, hc, hd, hv⟩
    · exact eqat_self pv rx ry
    · have e1 : its[j] = Value.ref c := rx
      have e2 : its2[j] = Value.ref d := ry
      rw [e1, e2]
      by_cases hcd : c = d
      · rw [hcd]
        exact EqAt.same _
      · refine EqAt.of_refs hcd ?_
        obtain ⟨jt, r3, pl3, _⟩ := I.tuple hc
        obtain ⟨jt2, r4, pl4, _⟩ := I.tuple hd
        have hl : jt.length = jt2.length := by rw [← r3.length, ← r4.length]
        have rc := RcAt.tuples (A := X.A.in1) (e := fun _ => true) pl3 pl4 (by show X.A.units + 1 < cLine; omega) fun i i1 i2 => by
          have i1' : i < jt.length := by simpa using i1
          have i2' : i < jt2.length := by simpa using i2
          obtain ⟨z, ez, rz⟩ := vals_at r3 i1'
          obtain ⟨z2, ez2, rz2⟩ := vals_at r4 i2'
          rw [ez] at ez2
          cases ez2
          have g1 : jt.toArray[i] = jt[i] := by simp
          have g2 : jt2.toArray[i] = jt2[i] := by simp
          rw [g1, g2]
          exact eqat_self (hv z (List.mem_of_getElem? ez)) rz rz2
        have eb : ((List.range (min jt.toArray.size jt2.toArray.size)).all (fun _ => true) && jt.toArray.size == jt2.toArray.size) = true := by
          simp [hl]
        rw [eb] at rc
        exact rc
  · show Value.bool _ = Value.bool false
    simp
/-! ### repr of data, where no repr is under way -/
theorem call_reprD (hg : X.A.guards = some []) (hu : X.A.units + 80 < cLine) : CallR X (.builtin "repr") (fun xs H Q => ∃ (a : Addr) (d : PyData), xs = [.ref a] ∧ Dp X.K H (.ref a) d ∧ d.showable = true ∧ d.hasDict = false ∧ d.depth ≤ 64 ∧ d.shown.length ≤ sizeLine ∧ Q (.str d.shown) H) := by
  intro pins s σ H xs us Q I r h
  obtain ⟨a, d, rfl, hd, h1, h2, h3, h4, q⟩ := h
  obtain ⟨u, rfl, rx⟩ := vals1 r
  obtain rfl : u = Value.ref a := rx
  obtain ⟨as, rd⟩ := Dp.reads I d (.ref a) (.ref a) hd rfl
  refine repr_of_reads' rd h1 (fun z => by rw [h2] at z; cases z) hg (by omega) (fun _ _ e => e) (fun h' u tk hk => ?_) h4
  exact ⟨.str d.shown, H, I.kept (t' := tk) hk, ⟨u, rfl⟩, q⟩
end
end K3

namespace K3
open PySem PySem.Spec PyProof.Rows L2
open LamX (ExtN Tabs TabS TabB CodeO lamEnv lamCx codeO_ne)
open PySem.W (CodeHd tabObj)
/-! ### a lambda whose default's name is a name of the def too: the slot is not seen in it -/
theorem nodup_ix {N : List Str} (h : N.Nodup) {i j : Nat} {x : Str} (a : N[i]? = some x) (b : N[j]? = some x) : i = j := by
  exact (List.getElem?_inj (List.getElem?_eq_some_iff.mp a).1 h).mp (a.trans b.symm)
theorem wiped_get {σ : L2.St} {i j : Nat} {v : V} (h : (σ.set j none)[i]? = some (some v)) : σ[i]? = some (some v) := by
  by_cases e : j = i
  · subst e
    by_cases hl : j < σ.length
    · rw [List.getElem?_set_self hl] at h; cases h
    · rw [List.getElem?_eq_none (by rw [List.length_set]; omega)] at h; cases h
  · rw [List.getElem?_set_ne e] at h
    exact h
structure LamW (sc : Scope) (N : List Str) (scope : Scope) (y : Str) (j : Nat) : Prop where
  kind : scope.kind = .function
  co : scope.isCoroutine = false
  gen : scope.isGenerator = false
  names : ∀ z ∈ scope.names, (z.2 = .local ∧ z.1 = y) ∨ z.2 = .globalImplicit ∨ (z.2 = .free ∧ (sc.names.lookup z.1 = some .cell ∨ sc.names.lookup z.1 = some .free))
  par : scope.names.lookup y = some .local
  ix : N[j]? = some y
def lamWB (sc : Scope) (N : List Str) (scope : Scope) (y : Str) (j : Nat) : Bool := decide (scope.kind = .function) && !scope.isCoroutine && !scope.isGenerator && (scope.names.all fun z => (decide (z.2 = .local) && decide (z.1 = y)) || (decide (z.2 = .globalImplicit) || (decide (z.2 = .free) && (decide (sc.names.lookup z.1 = some .cell) || decide (sc.names.lookup z.1 = some .free))))) && decide (scope.names.lookup y = some .local) && decide (N[j]? = some y)
theorem lamW_by {sc : Scope} {N : List Str} {scope : Scope} {y : Str} {j : Nat} (h : lamWB sc N scope y j = true) : LamW sc N scope y j := by
  unfold lamWB at h
  simp only [Bool.and_eq_true, Bool.not_eq_true', decide_eq_true_eq] at h
  obtain ⟨⟨⟨⟨⟨h1, h2⟩, h3⟩, h4⟩, h5⟩, h6⟩ := h
  refine ⟨h1, h2, h3, fun z hz => ?_, h5, h6⟩
  have q := List.all_eq_true.mp h4 z hz
  simp only [Bool.or_eq_true, Bool.and_eq_true, Bool.not_eq_true', decide_eq_true_eq, decide_eq_false_iff_not] at q
  exact q
theorem LamW.noCell {sc : Scope} {N : List Str} {scope : Scope} {y : Str} {j : Nat} (L : LamW sc N scope y j) {z : Str} (h : scope.names.lookup z = some .cell) : False := by
  rcases L.names _ (PySem.mem_of_lookup h) with ⟨q, _⟩ | q | ⟨q, _⟩ <;> cases q
theorem LamW.has {X : Cx} {N : List Str} {scope : Scope} {y : Str} {j : Nat} (L : LamW X.env.scope N scope y j) (ok : X.Ok) : ∀ y ∈ scope.names, y.2 = .free → ∃ c, X.env.cells.lookup y.1 = some c := fun z hz e => by
  rcases L.names z hz with ⟨q, _⟩ | q | ⟨_, q⟩
  · rw [e] at q; cases q
  · rw [e] at q; cases q
  · exact ok.has _ q
section
variable {X : Cx} {pins : List (Addr × Obj)} {σ : L2.St} {H HZ : Hp} {s s1 : Shared}
theorem lamW_start {j : Nat} (hnd : X.N.Nodup) {A : Around} {outer : List Env} {E : XK} {scope : Scope} {y : Str} {bs : List (Str × Value)} {f c' : Addr} {h₁ : Heap} {tk : Nat} (I : L2.Inv X pins σ H s) (L : LamW X.env.scope X.N scope y j) (e0 : Env0 X.prog X.w X.K X.mg X.base A outer s1 HZ) (hd : A.handled = none)
    (un : Un (frs X.stack) [] H HZ s.heap s1.heap) (hns : h₁.Ns s1.heap.objs.size fun z => bs.reverse.lookup z) (kp : ∀ b o, s1.heap.get? b = some o → h₁.get? b = some o) :
    L2.Inv (lamCx X A outer s1 HZ E scope f c') [] (σ.set j none) HZ { s1 with heap := h₁, toks := tk } := by
  have hfree := L.has I.ok
  have cm : ∀ {y c}, (cloFrom X.env.cells scope.names []).lookup y = some c → X.env.cells.lookup y = some c := fun {y c} e => by
    rcases cloFrom_mem (PySem.mem_of_lookup e) with hm | ⟨h1, h2⟩
    · cases hm
    · obtain ⟨c1, hc⟩ := hfree _ h1 rfl
      have hc : X.env.cells.lookup y = some c1 := hc
      have e2 : c = c1 := by
        rw [h2, hc] <;> rfl
      rw [e2]
      exact hc
  have look : ∀ {y}, scope.names.lookup y = some .free → ∃ c, (cloFrom X.env.cells scope.names []).lookup y = some c := fun {y} hl => by
    have hy : (y, NameKind.free) ∈ scope.names := PySem.mem_of_lookup hl
    exact mem_lookup (cloFrom_has (cells := X.env.cells) (acc := []) hy)
  have cellK : ∀ {c : Addr} {v : Option Value}, H c = none → s.heap.IsCell c v → h₁.IsCell c v := fun {c v} n ⟨o, ho, hd⟩ => by
    obtain ⟨sl, q⟩ := un.any ho n (by simp)
    exact ⟨_, kp _ _ q, hd⟩
  have noA : ∀ b : Addr, b ∉ (lamCx X A outer s1 HZ E scope f c').ex := fun b z => absurd (show b ∈ ([] : List Addr) from z) (by simp)
  refine ⟨⟨e0.mod, L.kind, rfl, rfl, Nat.le_refl _, fun y z c e1 e2 => I.ok.inj y z c (cm e1) (cm e2), fun y hy => ?_, fun y c z _ => ?_, fun _ => hd, Around.frames_deeper e0.frames, .inr ⟨rfl, rfl⟩, fun b z => absurd z (noA b), e0.bs, e0.bsz, fun b _ _ => noA b,
      fun b z => absurd z (noA b), e0.funs, e0.frf⟩,
    rfl, e0.bare, Un.kept kp, ⟨_, hns, fun i y v e1 e2 e3 => ?_⟩, fun y c e => ?_, e0.hok.fresh (Nat.le_refl _), fun y c e => ?_, fun q hq => absurd (show q ∈ ([] : List (Addr × Obj)) ++ [] from hq) (by simp), e0.hok.kept kp, by rw [List.length_set]; exact I.len⟩
  · have hy : scope.names.lookup y = some .cell ∨ scope.names.lookup y = some .free := hy
    rcases hy with hy | hy
    · exact (L.noCell hy).elim
    · exact look hy
  · have z : false = true := z
    cases z
  · have e3 : Vis scope y := e3
    rcases e3 with k | k | k
    · exfalso
      rcases L.names _ (PySem.mem_of_lookup k) with ⟨_, q⟩ | q | ⟨q, _⟩
      · have q : y = _ := q
        have e1 : X.N[i]? = some y := e1
        have hij : i = j := nodup_ix hnd e1 (by rw [q]; exact L.ix)
        rw [hij] at e2
        by_cases hl : j < σ.length
        · rw [List.getElem?_set_self hl] at e2; cases e2
        · rw [List.getElem?_eq_none (by rw [List.length_set]; omega)] at e2; cases e2
      · cases q
      · cases q
    · exact (L.noCell k).elim
    · obtain ⟨m, hn, hl⟩ := I.loc
      have kk : X.env.scope.names.lookup y = some .cell ∨ X.env.scope.names.lookup y = some .free := by
        rcases L.names _ (PySem.mem_of_lookup k) with ⟨q, _⟩ | q | ⟨_, q⟩
        · cases q
        · cases q
        · exact q
      have hvis : Vis X.env.scope y := kk.elim (fun k => .inr (.inl k)) (fun k => .inr (.inr k))
      obtain ⟨w', r, q⟩ := hl i y v e1 (wiped_get e2) hvis
      obtain ⟨c2, h2⟩ := look k
      refine ⟨w', r, .inr ⟨.inr k, c2, h2, ?_⟩⟩
      have c1 := cm h2
      rcases q with ⟨k', _⟩ | ⟨_, c3, e', z⟩
      · have k' : X.env.scope.names.lookup y = some .local := k'
        rcases kk with k2 | k2 <;> rw [k2] at k' <;> cases k'
      · rw [c1] at e'
        cases e'
        exact cellK (I.freeC y _ c1) z
  · obtain ⟨w', z⟩ := I.cell y c (cm e)
    exact ⟨w', cellK (I.freeC y c (cm e)) z⟩
  · obtain ⟨v, o, ho, hd⟩ := I.cell y c (cm e)
    exact un.free c o ho (I.freeC y c (cm e)) (by simp)
/-- x(), in the def that got the lambda -/
theorem pe_actW {j : Nat} (hnd : X.N.Nodup) {CXg : CXT} {Eg : XK} {Ng : List Str} {qg : Str} {sg : Scope} {g f c' T0 : Addr} {cdg pm ctv : Value} {params : Arguments} {body : Expr} {scope : Scope} {k i : Nat} {a y : Str} {n0 : Int} {t0 : Tok} {T : List (Addr × Str)} {H0 : Hp} {pn : List (Addr × Obj)} {xe : Value → Shared → Prop} {W : WX} {E : XK} {tb : TE} {p1 p2 : Pos}
    (I : L2.Inv X pins σ H s) (L : LamW X.env.scope X.N scope y j) (MD : MadeD X T params body scope n0 H0 H f c' T0 pm ctv t0 s)
    (hbind : ∀ (q : Str) (cl : List (Str × Addr)) (D : Addr) (pm cv ct : Value) (v : Value), ∃ kk, bindArgs (dfFn q params body scope cl (.ref D) pm cv ct) ⟨[], []⟩ = seqItems? (.ref D) >>= kk ∧ kk (some #[v]) = pure [(y, v)])
    (tk : Takes ((cxOf CXg X.prog X.w X.K X.mg X.base Ng qg sg g cdg X.A X.stack s H Eg).tr pn xe) W) (hW : ∀ cls d σ' H', E cls d H' → W cls d σ' H') (hr : Room (k + 1) (X.A.deeper (envOfC qg sg s.heap.objs.size g cdg)))
    (hbody : ∀ (A : Around) (outer : List Env) (s : Shared) (H : Hp), Room k (A.deeper (lamEnv X scope s.heap.objs.size f c')) → PE (lamCx X A outer s H E scope f c') body tb)
    (hN : Ng[i]? = some a) (hv : Vis sg a) (hd : (a == ("__debug__" : Str)) = false := by decide) (hcd : (a == ("__classdict__" : Str)) = false := by decide) :
    PE ((cxOf CXg X.prog X.w X.K X.mg X.base Ng qg sg g cdg X.A X.stack s H Eg).tr pn xe) (.Call (.Name a p1) [] [] p2) (fun σZ HZ Q => σZ[i]? = some (some (.ref f)) ∧ HZ c' = some (CodeO c' (X.env.qual ++ "<lambda>")) ∧ tb (σ.set j none) HZ Q) := by
  refine ⟨fun pinsZ sZ σZ HZ Q IZ h => ?_⟩
  obtain ⟨hs, hc, ht⟩ := h
  refine wpAny_Call_Name_kw (thn ((pe_var (pos := p1) (i := i) hN hv hd hcd).run pinsZ sZ σZ HZ (fun v H1 => v = .ref f ∧ H1 = HZ) IZ ⟨.ref f, hs, rfl, rfl⟩) fun u s1 ⟨v, H1, I1, r1, q1⟩ => ?_)
  obtain ⟨ev, eH⟩ := q1
  subst ev
  rw [eH] at I1
  obtain rfl : u = Value.ref f := r1
  have of1 := I1.base.keep f _ MD.at_ MD.fn MD.ff (fun z => nomatch (show f ∈ ([] : List Addr) from z))
  have oT1 := I1.base.keep T0 _ MD.tup MD.tn MD.tf (fun z => nomatch (show T0 ∈ ([] : List Addr) from z))
  refine PySem.W.callWith_F0 ⟨_, _, _, _, of1⟩ ?_
  have un : Un (frs X.stack) [] H HZ s.heap s1.heap := I1.base
  obtain ⟨⟨oc, vs, t, hoc, hdc, hvc⟩, _, _⟩ := I1.hok c' _ hc
  have rc : codeAny (model X.prog X.w) (X.A.deeper (envOfC qg sg s.heap.objs.size g cdg)) (.call (.ref f) ⟨[], []⟩) (CR (L2.CX X.prog X.w) (envOfC qg sg s.heap.objs.size g cdg :: X.stack) X.prog X.w HZ s1 Q E) s1 := by
    refine PySem.W.kla_callFunE hr.depth of1 rfl L.co L.gen rfl ⟨c', oc, vs, t, rfl, hoc, hdc, hvc⟩ ?_
    obtain ⟨kk, e1, e2⟩ := hbind (X.env.qual ++ "<lambda>") (cloFrom X.env.cells scope.names []) T0 pm (.ref c') ctv (.int n0 t0)
    refine BindsTo.of_defaults (T := T0) (k := kk) rfl oT1 rfl e1 e2 _ _ _ _ ?_
    refine wpAny_newFunctionEnv (fun z hz q => ?_) (fun z hz => ?_) (fun h₁ hns hsb => ⟨I1.nolimit.fresh _ hsb, ?_⟩) L.kind
    · rcases L.names z hz with ⟨q2, _⟩ | q2 | ⟨q2, _⟩ <;> rw [q2] at q <;> cases q
    · rw [List.mem_singleton.mp hz]
      exact L.par
    · show codeAny _ _ (.expr body (lamEnv X scope s1.heap.objs.size f c')) _ _
      have kp : ∀ b o, s1.heap.get? b = some o → h₁.get? b = some o := fun b o e => hsb.extBut b o (Nat.ne_of_lt (Heap.lt_size e)) (Heap.get?_push_of_some _ e)
      have J : L2.Inv (lamCx X (X.A.deeper (envOfC qg sg s.heap.objs.size g cdg)) (envOfC qg sg s.heap.objs.size g cdg :: X.stack) s1 HZ E scope f c') [] (σ.set j none) HZ { s1 with heap := h₁, toks := s1.toks + ([(y, Value.int n0 t0)] : List (Str × Value)).length } :=
        lamW_start hnd I L I1.env0 hr.hd un hns kp
      refine PySem.W.kla_codeExpr (wpAny_mono ((hbody _ _ s1 HZ (hr.deeper _)).run [] _ _ HZ Q J ht) (fun v s' hq => ?_) fun e s' hq => hq)
      obtain ⟨w', H', J', rv, q⟩ := hq
      exact ⟨w', H', J'.os, J'.bare, J'.base, J'.hok, rv, q⟩
  have hx : Passes (L2.CX X.prog X.w) ((cxOf CXg X.prog X.w X.K X.mg X.base Ng qg sg g cdg X.A X.stack s H Eg).tr pn xe) E := passes_call tk hW
  refine wpAny_call (codeAny_mono rc fun r s' hq => ?_)
  cases r with
  | error e => exact hx pinsZ σZ HZ s1 e s' I1 hq
  | ok fl =>
    cases fl with
    | ret u => exact I1.after hq
    | next => exact False.elim hq
    | brk => exact False.elim hq
    | cont => exact False.elim hq
end
section
variable {X : Cx}
/-- _law_fault(lambda y=n0: body) -/
theorem pe_faultW {jj : Nat} (hnd : X.N.Nodup) {T : List (Addr × Str)} {CI CS fA c Pt : Addr} {fdA : FuncData} {k : Nat} {params : Arguments} {body : Expr} {scope : Scope} {t : XK → TE} {y : Str} {n0 : Int} {j : Nat} {p lpos pos pd : Pos} (AA : TxtA X.K X.mg CI CS fA fdA) (hg : Gl X "_law_fault")
    (TB : TabB X.base X.mg c Pt) (hcode : X.env.code = .ref c) (hmT : (Pt, X.env.qual ++ "<lambda>") ∈ T) (hu : ∀ p ∈ T, p.1 = Pt → p.2 = X.env.qual ++ "<lambda>") (hr : Room (k + 2) X.A) (L : LamW X.env.scope X.N scope y jj) (hdef : defaultsOf params X.env = ([eval (.Constant (.int n0) j pd) X.env], [])) (hko : params.kwonlyargs = [])
    (hbind : ∀ (q : Str) (cl : List (Str × Addr)) (D : Addr) (pm cv ct : Value) (v : Value), ∃ kk, bindArgs (dfFn q params body scope cl (.ref D) pm cv ct) ⟨[], []⟩ = seqItems? (.ref D) >>= kk ∧ kk (some #[v]) = pure [(y, v)])
    (hbody : ∀ (A : Around) (outer : List Env) (s : Shared) (H : Hp) (E : XK) (f c' : Addr), Room k (A.deeper (lamEnv X scope s.heap.objs.size f c')) → PE (lamCx X A outer s H E scope f c') body (t E)) :
    PE X (.Call (.Name "_law_fault" p) [.Lambda params body scope lpos] [] pos) (LamX.tLam T (TFault CI) fun E σ H Q => t E (σ.set jj none) H Q) := by
  obtain ⟨oc, od, kV, doc, pm, an, cdv, ct, osl, e, lk, hcg⟩ := AA.F.ex
  subst e
  refine ⟨fun pins s σ H Q I h => ?_⟩
  obtain ⟨hT, h⟩ := h
  refine wpAny_Call_Name_kw (ld_glob I hg AA.g ?_ (by decide))
  refine PySem.W.callWith_K (h₀ := X.base) I.ok.mod.kin AA.F.kp ?_ (by rfl) (by rfl)
  show wpAny _ _ (spliced ((false, eval (.Lambda params body scope lpos) X.env) :: backTo pos (starEach [] X.env))) _ _ s
  refine Calls.spliced_cons (lamD_make I TB hcode hmT hu hT hdef hko (L.has I.ok) rfl fun f c' T0 pm' ctv t0 H1 s' I1 MD => ?_)
  refine Calls.spliced_nil ⟨I1.kIn, ?_⟩
  have rc : codeAny (model X.prog X.w) X.A (.call (.ref fA) ⟨[.ref f], []⟩) (CR C8.CX0 X.stack X.prog X.w H1 s' Q C8.E0) s' := by
    refine LamX.run_ofS (N := ["_law_call", "_law_error", "e"]) (ps := ["_law_call"]) (us := [.ref f]) (vs := [.ref f]) lk hcg scFault hr I1.env0 (AA.b s' [.ref f] I1.kIn rfl) (.cons rfl .nil) rfl fun hr' => ?_
    obtain ⟨t', ht', hq'⟩ := fault_gives (q := X.env.qual ++ "<lambda>") AA.gS AA.gI AA.isi AA.L AA.nf AA.hx AA.hk f c' s' H1 Q (fun E H' Q' => t E (σ.set jj none) H' Q')
      (fun W pn xe E p1 p2 tk hW => pe_actW (i := 0) hnd I1 L MD hbind tk hW hr' (fun A outer s H hr2 => hbody A outer s H E f c' hr2) rfl (Or.inl rfl)) MD.co (h H1 MD.ext MD.tabs)
    exact ⟨t', ht'.nox, hq'⟩
  refine wpAny_call (codeAny_mono rc fun r s2 hq => ?_)
  cases r with
  | error e => exact (show False from hq).elim
  | ok fl =>
    cases fl with
    | ret u => exact I1.after hq
    | next => exact False.elim hq
    | brk => exact False.elim hq
    | cont => exact False.elim hq
end
end K3

namespace K3
open PySem L2 E0
open LamX (ExtN Tabs TabS TabB LamS lamS_by lamSB)
/-! ### what is due -/
inductive DK where
  | ok | form | size | name | at (i : Nat)
  deriving DecidableEq
def DK.opt : DK → Option V
  | .ok => none
  | .form => some (.str "form")
  | .size => some (.str "size")
  | .name => some (.str "name")
  | .at i => some (.int ((i : Nat) : Int))
def DK.val : DK → List V
  | .ok => []
  | .form => [.str "wrong", .str "form"]
  | .size => [.str "wrong", .str "size"]
  | .name => [.str "wrong", .str "name"]
  | .at i => [.str "wrong", .int ((i : Nat) : Int)]
def DK.dat : DK → List PyData
  | .ok => []
  | .form => [.str "wrong", .str "form"]
  | .size => [.str "wrong", .str "size"]
  | .name => [.str "wrong", .str "name"]
  | .at i => [.str "wrong", .int ((i : Nat) : Int)]
def DK.isOk : DK → Bool
  | .ok => true
  | _ => false
theorem DK.dp {K : PySem.W.Frag} {H : Hp} {p : Addr} {k : DK} (h : H p = some (.tup k.val)) : Dp K H (.ref p) (.tuple k.dat) := by
  cases k with
  | ok => exact .tup (SqT.of h) .nil
  | form => exact .tup (SqT.of h) (.cons (.str _) (.cons (.str _) .nil))
  | size => exact .tup (SqT.of h) (.cons (.str _) (.cons (.str _) .nil))
  | name => exact .tup (SqT.of h) (.cons (.str _) (.cons (.str _) .nil))
  | «at» i => exact .tup (SqT.of h) (.cons (.str _) (.cons (.int _) .nil))
theorem DK.sh (k : DK) : SeqAt.shaped (.tuple k.dat) = true := by
  cases k with
  | ok => decide +kernel
  | form => decide +kernel
  | size => decide +kernel
  | name => decide +kernel
  | «at» i =>
    have h : PyData.strOk "wrong" = true := by decide +kernel
    simp [DK.dat, SeqAt.shaped, PyData.canLay0, PyData.canLayAll0, PyData.depth, PyData.depthAll, h]
theorem DK.eqv (k : DK) : PyData.eqv (.tuple k.dat) (.tuple []) = k.isOk := by
  cases k <;> rfl
theorem DK.val_ok {k : DK} (h : k.isOk = true) : k = .ok := by
  cases k <;> first | rfl | cases h
/-- what is due for a name -/
def nmK (n : V) : DK := if nameV n = true then .ok else .name
def lkK (n : V) : DK := if nameV n = true then .ok else .form
section
variable {K : PySem.W.Frag} {C : Cl5} {CI : Addr} {n : V} {xs : List V} {pis : List PI} {kk : DK} {j : Nat} {H : Hp} {Q : VK} {tl : XK → Hp → VK → Prop}
theorem fault_like (due : likeDue n pis = kk.opt) (ht : ∀ H1 E' Q', Same H H1 → LikeRes C CI n xs pis E' H1 Q' → tl E' H1 Q') (k : ∀ H' p, Same H H' → H p = none → H' p = some (.tup kk.val) → Q (.ref p) H') : TFault CI tl H Q := by
  intro E' Q' hE hQ
  refine ht H E' Q' (Same.refl H) ?_
  unfold LikeRes
  rw [due]
  cases kk with
  | ok => exact fun H' x z ez s nx at_ hp => hQ (.ref x) H' fun H'' p s' np hp => k H'' p (s.trans s') (s.free np) hp
  | form => exact fun H' dd s nd hd => hE dd _ H' hd fun H'' p s' np hp => k H'' p (s.trans s') (s.free np) hp
  | size => exact fun H' dd s nd hd => hE dd _ H' hd fun H'' p s' np hp => k H'' p (s.trans s') (s.free np) hp
  | name => exact fun H' dd s nd hd => hE dd _ H' hd fun H'' p s' np hp => k H'' p (s.trans s') (s.free np) hp
  | «at» i => exact fun H' dd s nd hd => hE dd _ H' hd fun H'' p s' np hp => k H'' p (s.trans s') (s.free np) hp
theorem fault_var (ht : ∀ H1 E' Q', Same H H1 → VarRes C CI j n E' H1 Q' → tl E' H1 Q') (k : ∀ H' p, Same H H' → H p = none → H' p = some (.tup (nmK n).val) → Q (.ref p) H') : TFault CI tl H Q := by
  intro E' Q' hE hQ
  refine ht H E' Q' (Same.refl H) ?_
  unfold VarRes
  unfold nmK at k
  cases e : nameV n with
  | false =>
    rw [e] at k
    exact fun H' dd s nd hd => hE dd _ H' hd fun H'' p s' np hp => k H'' p (s.trans s') (s.free np) hp
  | true =>
    rw [e] at k
    exact fun H' x z ez s nx at_ => hQ (.ref x) H' fun H'' p s' np hp => k H'' p (s.trans s') (s.free np) hp
end
theorem due_name {n : V} : likeDue n [] = (lkK n).opt := by
  unfold likeDue lkK
  cases nameV n with
  | false => rfl
  | true =>
    rw [if_neg (by decide), if_pos rfl]
    show (if 60 < 1 + sizes [] ∨ 8 < levelss [] + 1 then some (V.str "size") else none) = none
    rw [if_neg (by decide +kernel)]
theorem due_form {n : V} {pis : List PI} (h : nameV n = false) : likeDue n pis = some (.str "form") := by
  unfold likeDue
  rw [if_pos h]
theorem due_bad {n : V} {pis : List PI} {i : Nat} (h : nameV n = true) (hb : firstBad 0 pis = some i) : likeDue n pis = some (.int ((i : Nat) : Int)) := by
  unfold likeDue
  rw [if_neg (by rw [h]; exact Bool.noConfusion), hb]
theorem due_good {n : V} {ts : List Tr} (h : nameV n = true) : likeDue n (ts.map PI.good) = if 60 < 1 + sizes ts ∨ 8 < levelss ts + 1 then some (.str "size") else none := by
  unfold likeDue
  rw [if_neg (by rw [h]; exact Bool.noConfusion), first_good, parts_good]
end K3

namespace EG
open PySem PySem.Spec PyProof.Rows L2
/-! ### promises of defs that are called where no repr is under way -/
structure FnG (P : Program) (w : World) (K : PySem.W.Frag) (mg : Str → Option Value) (base : Heap) (CX : CXT) (k : Nat) (f : Addr) (fd : FuncData) (ps : List Str) (sp : Sp) : Prop where
  lenG : ∀ vs H Q E, sp vs H Q E → vs.length = ps.length
  runG : ∀ (A : Around) (outer : List Env) (s : Shared) (H : Hp) (args : Args) (us : List Value) (vs : List V) (Q : VK) (E : XK), Room k A → A.guards = some [] →
    Env0 P w K mg base A outer s H → BindsTo s fd args (ps.zip us) → Vals vs us → sp vs H Q E → codeAny (model P w) A (.call (.ref f) args) (CR CX outer P w H s Q E) s
section
variable {CX : CXT} {P : Program} {w : World} {K : PySem.W.Frag} {mg : Str → Option Value} {base : Heap} {k : Nat} {f : Addr}
theorem fnG_of {name qual : Str} {params : Arguments} {body : List Stmt} {scope : Scope} {dV kV doc pm cdv ct oc : Value} {an od : Option Addr} {osl : Array (Option Value)} {N ps : List Str} {sp : Sp}
    (lk : K.lookup f = some ⟨oc, od, .func (PySem.W.fnOf name qual params body scope dV kV doc pm an cdv ct), osl⟩) (cd : PySem.W.codeIn K cdv qual = true) (S : FnScope N ps scope)
    (ln : ∀ vs H Q E, sp vs H Q E → vs.length = ps.length)
    (bd : ∀ (A : Around) (outer : List Env) (s : Shared) (H : Hp) (vs : List V) (Q : VK) (E : XK), Room k (A.deeper (envOfC qual scope s.heap.objs.size f cdv)) → A.guards = some [] → sp vs H Q E →
      ∃ t, PSs (cxOf CX P w K mg base N qual scope f cdv A outer s H E) body t ∧ t { nx := fun _ H' => Q .non H', rt := Q } (start N vs) H) :
    FnG P w K mg base CX (k + 1) f (PySem.W.fnOf name qual params body scope dV kV doc pm an cdv ct) ps sp where
  lenG := ln
  runG A outer s H args us vs Q E hr hG e0 hb r h := by
    have inK : K.In s.heap := e0.mod.kin.keeps fun b o e => (e0.bs b o e).1
    have kinds : ∀ y ∈ ps.zip us, scope.names.lookup y.1 = some .local ∨ (scope.names.lookup y.1 = some .cell ∧ ((cellsFrom (s.heap.objs.size + 1) scope.names []).lookup y.1).isSome = true) := by
      rintro ⟨n, v⟩ hy
      exact (S.par n (List.of_mem_zip hy).1).imp id fun q => ⟨q, PySem.W.cellsFrom_some _ _ _ (.inl q)⟩
    refine codeAny_call_function hr.depth (inK _ _ lk) rfl S.co S.gen rfl (PySem.W.codeRec_of inK cd) (hb _ _ _ _ (wpAny_newFunctionEnv_cells S.kind kinds fun env he s1 x => ?_))
    cases he
    refine ⟨(e0.mod.nolimit.keeps fun b o e => (e0.bs b o e).1).keeps x.toInCall.keep, codeAny_func ?_⟩
    obtain ⟨t, pt, q⟩ := bd A outer s H vs Q E (hr.deeper _) hG h
    refine wpAny_mono (pt.run [] s1 (start N vs) H _ (inv_start S hr.hd e0 (ln _ _ _ _ h) r x) q) (fun fl s' z => ?_) fun e s' z => z
    match fl, z with
    | .ret u, ⟨v, _, H', J, rv, q⟩ => exact ⟨v, H', J.os, J.bare, J.base, J.hok, rv, q⟩
    | .next, ⟨_, H', J, q⟩ => exact ⟨V.non, H', J.os, J.bare, J.base, J.hok, rfl, q⟩
    | .brk, ⟨_, _, _, q⟩ => exact q.elim
    | .cont, ⟨_, _, _, q⟩ => exact q.elim
end
section
variable {X : Cx} {CX : CXT} {k : Nat} {f : Addr} {fd : FuncData} {ps : List Str} {sp : Sp} {ds : List Value} {dvs : List V} {E : XK} {x : Str} {p pos : Pos} {e : Expr} {es : List Expr} {t : TA}
theorem fnG_run {pins : List (Addr × Obj)} {σ : L2.St} {H : Hp} {s : Shared} {Q : VK} {us : List Value} {vs : List V} (F : FnG X.prog X.w X.K X.mg X.base CX k f fd ps sp) (hr : Room k X.A) (hG : X.A.guards = some [])
    (hb : Binds X.K fd ps ds) (hd : Vals dvs ds) (hx : Passes CX X E) (I : Inv X pins σ H s) (r : Vals vs us) (h : sp (vs ++ dvs) H Q E) : wpAny (model X.prog X.w) X.A (call (.ref f) us) (EP X pins σ Q) X.xe s := by
  have r2 := r.append hd
  have both := F.runG X.A X.stack s H ⟨us, []⟩ (us ++ ds) (vs ++ dvs) Q E hr hG I.env0 (hb s us I.kIn (by rw [← r2.length]; exact F.lenG _ _ _ _ h)) r2 h
  refine wpAny_call (codeAny_mono both fun z s' hq => ?_)
  match z, hq with
  | .error e, hq => exact hx pins σ H s e s' I hq
  | .ok (.ret u), hq => exact I.after hq
theorem pe_callG (F : FnG X.prog X.w X.K X.mg X.base CX k f fd ps sp) (hr : Room k X.A) (hG : X.A.guards = some []) (hg : Gl X x) (hm : X.mg x = some (.ref f)) (hk : PySem.W.keepIn X.K (.ref f) = true)
    (hb : Binds X.K fd ps ds) (hd : Vals dvs ds) (hx : Passes CX X E) (ha : PA X (e :: es) t) (hdb : (x == ("__debug__" : Str)) = false := by decide)
    (he : starEach (e :: es) X.env = (false, eval e X.env) :: starEach es X.env := by rfl) (hpl : (backTo pos (starEach es X.env)).any (·.1) = false := by rfl) :
    PE X (.Call (.Name x p) (e :: es) [] pos) (tCall sp dvs E t) := ⟨fun pins s σ H Q I h =>
  wpAny_Call_Name_kw (ld_glob I hg hm
    (PySem.W.callWith_K (h₀ := X.base) I.ok.mod.kin hk (thn (ha.run pos pins s σ H _ I h) fun us s1 ⟨vs, H1, I1, r, q⟩ => ⟨I1.kIn, fnG_run F hr hG hb hd hx I1 r q⟩) he hpl) hdb)⟩
end
end EG

namespace EG
open PySem PySem.Spec PyProof.Rows L2 LamX
/-! ### the end of a law's row, where its def may ask that no repr is under way -/
/-- what is tracked when the law begins: the empty tables of its code objects, and the script where the module does not hold it -/
def H0 (K : PySem.W.Frag) (T : List Addr) (a : Addr) (ob : Obj) (xs : List V) : Hp := fun b =>
  if b ∈ T then some (.tbl #[]) else if b = a ∧ (K.lookup a).isNone = true then some (.frz ob (.lst xs)) else none
section
variable {K : PySem.W.Frag} {T : List Addr} {a : Addr} {ob : Obj} {xs : List V} {b : Addr}
theorem H0_tab (h : b ∈ T) : H0 K T a ob xs b = some (.tbl #[]) := if_pos h
theorem H0_scr (h : a ∉ T) (k : K.lookup a = none) : H0 K T a ob xs a = some (.frz ob (.lst xs)) := by
  unfold H0
  rw [if_neg h, if_pos ⟨rfl, by rw [k]; rfl⟩]
theorem H0_cases (b : Addr) : H0 K T a ob xs b = none ∨ (b ∈ T ∧ H0 K T a ob xs b = some (.tbl #[])) ∨ (b = a ∧ b ∉ T ∧ K.lookup a = none ∧ H0 K T a ob xs b = some (.frz ob (.lst xs))) := by
  by_cases h : b ∈ T
  · exact .inr (.inl ⟨h, H0_tab h⟩)
  · by_cases z : b = a ∧ (K.lookup a).isNone = true
    · obtain ⟨rfl, e⟩ := z
      have k : K.lookup b = none := Option.isNone_iff_eq_none.mp e
      exact .inr (.inr ⟨rfl, h, k, H0_scr h k⟩)
    · left
      unfold H0
      rw [if_neg h, if_neg z]
end
/-- a law's def: where its code objects' tables stand, how it binds, what it is promised -/
structure TopG (P : Program) (w : World) (K : PySem.W.Frag) (mg : Str → Option Value) (CX : CXT) (k : Nat) (fa : Addr) (x : Str) (cs : List (Addr × Addr)) (fd : FuncData) (sp : Sp) (h : Heap) (n : Nat) : Prop where
  emp : ∀ p ∈ cs, h.get? p.2 = some { cls := .none, data := .fields #[] }
  out : ∀ p ∈ cs, K.lookup p.2 = none
  hd : ∀ p ∈ cs, PySem.W.CodeHd h p.1 p.2
  bnd : ∀ (s : Shared) (u : Value), BindsTo s fd ⟨[u], []⟩ [(x, u)]
  ask : ∀ (H : Hp) (a : Addr) (ns : List Int), ns.length ≤ n → (∀ z ∈ ns, Builtin.Int.intBits z ≤ 1048576) → (∀ p ∈ cs, H p.2 = some (.tbl #[])) → SqL K H a (ns.map V.int) → sp [.ref a] H (fun v _ => v = .bl true) fun _ _ _ => False
  fn : ∀ base : Heap, K.In base → base.Ns mainGlobals mg → (∀ p ∈ cs, TabB base mg p.1 p.2) → FnG P w K mg base CX k fa fd [x] sp
theorem law_runG {P : Program} {w : World} {K : PySem.W.Frag} {mg mb : Str → Option Value} {CX : CXT} {k n : Nat} {fa a : Addr} {cs : List (Addr × Addr)} {fd : FuncData} {x : Str} {sp : Sp} {s : Shared} {vs : List Value} {ns : List Int}
    (T : TopG P w K mg CX k fa x cs fd sp s.heap n) (KX : K.In s.heap) (g : s.heap.Ns mainGlobals mg) (b : s.heap.Ns builtinsNs mb) (bb : ∀ x : Str, x ≠ "__name__" → mb x = bootBuiltins x) (lim : s.heap.NoLimit) (gen : s.gens = #[])
    (bm : ∃ (bm : Addr) (o : Obj), mg "__builtins__" = some (.ref bm) ∧ bm ≠ builtinsNs ∧ s.heap.get? bm = some o ∧ o.cls = .type "module" ∧ o.dict = some builtinsNs ∧ o.data = .plain)
    (ha : s.heap.get? a = some { cls := .type "list", data := .seq vs.toArray }) (hi : IntsAre vs ns) (hl : ns.length ≤ n) (hn : n ≤ sizeLine) (bits : ∀ z ∈ ns, Builtin.Int.intBits z ≤ 1048576) (hr : Room k callerA)
    (nx : ∀ H e s', CX [] H s (fun _ _ _ => False) e s' → False) :
    codeAny (model P w) callerA (.call (.ref fa) ⟨[.ref a], []⟩) (fun r s' => r = .ok (.ret (.bool true)) ∧ OldK s.heap s'.heap ∧ s'.os = s.os ∧ AllBare s'.gens) s := by
  have rel := vals_ints hi
  have len : ns.length ≤ sizeLine := Nat.le_trans hl hn
  have lens := hi.length
  have tab : ∀ c : Addr, c ∈ cs.map (·.2) → s.heap.get? c = some { cls := .none, data := .fields #[] } := by
    intro c hc
    obtain ⟨p, hp, rfl⟩ := List.mem_map.mp hc
    exact T.emp p hp
  have inT : ∀ p ∈ cs, p.2 ∈ cs.map (·.2) := fun p hp => List.mem_map.mpr ⟨p, hp, rfl⟩
  have na : a ∉ cs.map (·.2) := fun z => by
    have q : Data.seq vs.toArray _ = Data.fields #[] := congrArg Obj.data (Option.some.inj (ha.symm.trans (tab a z)))
    cases q
  obtain ⟨Hq, eH⟩ : ∃ Hq, Hq = H0 K (cs.map (·.2)) a { cls := .type "list", data := .seq vs.toArray } (ns.map V.int) := ⟨_, rfl⟩
  have cas : ∀ c, Hq c = none ∨ (c ∈ cs.map (·.2) ∧ Hq c = some (.tbl #[])) ∨ (c = a ∧ c ∉ cs.map (·.2) ∧ K.lookup a = none ∧ Hq c = some (.frz { cls := .type "list", data := .seq vs.toArray } (.lst (ns.map V.int)))) := by
    rw [eH]
    exact H0_cases
  have atT : ∀ p ∈ cs, Hq p.2 = some (.tbl #[]) := fun p hp => by
    rw [eH]
    exact H0_tab (inT p hp)
  -- the script, read
  have hS : SqL K Hq a (ns.map V.int) := by
    cases hk : K.lookup a with
    | none =>
      rw [eH]
      exact .inl (.inr ⟨_, H0_scr na hk⟩)
    | some o =>
      have e := (KX a o hk).symm.trans ha
      cases e
      exact .inr ⟨_, vs.toArray, _, hk, rfl, rfl, rfl, by rw [List.size_toArray, lens]; exact len, by simpa using rel⟩
  have hok : HOk P w Hq s.heap := fun c u z => by
    rcases cas c with q | ⟨hc, q⟩ | ⟨rfl, _, _, q⟩
    · rw [q] at z; cases z
    · rw [q] at z; cases z; exact tab c hc
    · rw [q] at z; cases z
      exact ⟨ha, by rw [List.length_map]; exact len, vs, _, rel, ha⟩
  -- what is not tracked
  have off : ∀ {c : Addr} {o : Obj}, s.heap.get? c = some o → (∀ l m, o.data ≠ .seq l m) → o.data ≠ .fields #[] → Hq c = none := fun {c o} e h1 h2 => by
    rcases cas c with q | ⟨hc, _⟩ | ⟨rfl, _, _, _⟩
    · exact q
    · rw [tab c hc] at e
      cases e
      exact absurd rfl h2
    · rw [ha] at e
      cases e
      exact absurd rfl (h1 _ _)
  have ns' : ∀ {c : Addr} {m : Str → Option Value}, s.heap.Ns c m → (hidT s.heap Hq).Ns c m := by
    rintro c m ⟨o, es, ep, e, d, r⟩
    exact ⟨o, es, ep, hidT_get e (off e (by rw [d]; exact fun _ _ => nofun) (by rw [d]; exact nofun)), d, r⟩
  have kin : K.In (hidT s.heap Hq) := fun c o e => hidT_get (KX c o e) (by
    rcases cas c with q | ⟨hc, _⟩ | ⟨rfl, _, k, _⟩
    · exact q
    · obtain ⟨p, hp, rfl⟩ := List.mem_map.mp hc
      rw [T.out p hp] at e
      cases e
    · rw [k] at e
      cases e)
  have modl : L2.Mod K mg (hidT s.heap Hq) := ⟨kin, ns' g, ⟨mb, ns' b, bb⟩, by
    obtain ⟨mc, l1, l2⟩ := lim
    exact ⟨mc, ns' l1, l2⟩⟩
  have tabs : ∀ p ∈ cs, TabB (hidT s.heap Hq) mg p.1 p.2 := fun p hp => by
    have et := T.emp p hp
    obtain ⟨o, es, ep, ge, gd, _⟩ := g
    constructor
    · obtain ⟨oc, us, file, tf, fl, tg, inF, text, tt, c1, c2, c3, c4, rest⟩ := T.hd p hp
      refine ⟨oc, us, file, tf, fl, tg, inF, text, tt, hidT_get c1 (off c1 (by rw [c3]; exact fun _ _ => nofun) fun z => ?_), c2, c3, c4, rest⟩
      rw [c3] at z
      cases z
      simp at c4
    · obtain ⟨m, om, m1, m2, m3, m4, m5, m6⟩ := bm
      refine ⟨m, om, m1, m2, ?_, ?_, hidT_get m3 (off m3 (by rw [m6]; exact fun _ _ => nofun) (by rw [m6]; exact nofun)), m4, m5, m6⟩
      · rintro rfl
        rw [ge] at m3
        cases m3
        rw [gd] at m6
        cases m6
      · rintro rfl
        rw [et] at m3
        cases m3
        cases m6
    · intro z
      rw [z, et] at ge
      cases ge
      cases gd
  have env : Env0 P w K mg (hidT s.heap Hq) callerA [] s Hq :=
    { frames := rfl, mod := modl, bs := fun c o e => of_hidT e, bsz := Nat.le_of_eq (hidT_size _ _), funs := trivial, frf := fun c hc => (by cases hc), hok := hok, bare := .of_eq gen }
  have run := (T.fn _ kin (ns' g) tabs).runG callerA [] s Hq ⟨[.ref a], []⟩ [.ref a] [.ref a] _ _ hr rfl env (T.bnd s (.ref a)) (.cons rfl .nil) (T.ask Hq a ns hl bits atT hS)
  refine codeAny_mono run fun r s' z => ?_
  match r, z with
  | .error e, z => exact (nx Hq e s' z).elim
  | .ok (.ret u), ⟨v, H', os, bare, un, hok', rv, q⟩ =>
    cases show v = .bl true from q
    cases show u = Value.bool true from rv
    have stay : ∀ c o, c ∉ cs.map (·.2) → s.heap.get? c = some o → s'.heap.get? c = some o := fun c o hc e => by
      rcases cas c with q | ⟨h, _⟩ | ⟨_, _, _, q⟩
      · exact un.keep c o e q (by intro z; cases z) (by intro z; cases z)
      · exact absurd h hc
      · have e1 := (hok c _ q).1
        rw [e] at e1
        cases e1
        exact (hok' c _ (un.frzs c _ _ q)).1
    have more : ∀ p ∈ cs, ∃ m : Array Value, s'.heap.get? p.2 = some { cls := .none, data := .fields m } := fun p hp => by
      obtain ⟨m, z⟩ := un.tbls p.2 #[] (atT p hp)
      exact ⟨_, hok' p.2 _ z⟩
    refine ⟨rfl, ⟨fun c o e => ?_, fun c o e => ?_⟩, os, bare⟩
    · by_cases hc : c ∈ cs.map (·.2)
      · obtain ⟨p, hp, rfl⟩ := List.mem_map.mp hc
        obtain ⟨m, hm⟩ := more p hp
        have e' := (T.emp p hp).symm.trans e
        cases e'
        exact .inr (.inl ⟨((T.hd p hp).tab (T.emp p hp)).isCodeTable, rfl, #[], m, rfl, by rw [Array.empty_append]; exact hm⟩)
      · exact .inl (stay c o hc e)
    · by_cases hc : c ∈ cs.map (·.2)
      · obtain ⟨p, hp, rfl⟩ := List.mem_map.mp hc
        obtain ⟨m, hm⟩ := more p hp
        exact ⟨_, hm⟩
      · exact ⟨o, stay c o hc e⟩
theorem walk_G {l : PySem.W.OpenLaw} {n k : Nat} {q : Program} {loose : List Str} {XP : (Str → Option Value) → Heap → Prop} {YP : World → Heap → Prop} {d : DefRec} {K : Params → PySem.W.Frag} {CX : World → CXT} {x : Str}
    (most : l.most = some n) (small : n ≤ sizeLine) (noD : d.params.defaults = []) (room : Room k callerA) (inY : ∀ (w : World) (h : Heap), YP w h → (K w.params).In h)
    (top : ∀ (w : World) (mg : Str → Option Value) (fa : Addr) (h : Heap), YP w h → (K w.params).In h → h.Ns mainGlobals mg → mg d.name = some (.ref fa) → ∃ cs fd sp, TopG l.prog w (K w.params) mg (CX w) k fa x cs fd sp h n)
    (noX : ∀ (w : World) (H : Hp) (s : Shared) (e : Value) (s' : Shared), CX w [] H s (fun _ _ _ => False) e s' → False) : PySem.W.WalkO q loose XP YP l.row.toRowW d [] (fun f vs => PySem.call f vs) :=
  Att.attach_callB most noD fun w _ s₁ mg _ fa _ _ _ _ _ _ _ G Y _ _ _ hmg hobj hints hlen hbits hg => by
    obtain ⟨cs, fd, sp, T⟩ := top w mg fa _ Y (inY w _ Y) G.T.g hmg
    exact law_runG T (inY w _ Y) G.T.g G.T.b G.T.builtins G.T.nolimit hg G.T.bmain hobj hints hlen small hbits room fun H e s' => noX w H s₁ e s'
end EG

namespace K3
open PySem PySem.Spec PyProof.Rows PySem.SeqAt L2 E0
open LamX (ExtN Tabs TabS TabB LamS lamS_by lamSB)
theorem lay_of' {d : PyData} (h : SeqAt.shaped d = true) : d.canLay0 = true := lay_of h
structure AdN where
  (fNm fVe fWe fRe fLe : Addr)
  (fdNm : FuncData)
structure TxtNR (P : Program) (w : World) (K : PySem.W.Frag) (mg : Str → Option Value) (base : Heap) (C : Cl5) (CP : Addr) (a : AdG) (d : AdN) : Prop where
  n5 : NF5 K C
  GNm : FnOk P w K mg base CX0 1 d.fNm d.fdNm ["_law_thing"] (spName K)
  ANm : DefA K mg "_law_is_name" ["_law_thing"] d.fNm d.fdNm
  OV : OwnC K C.V "__eq__" d.fVe
  OW : OwnC K C.W "__eq__" d.fWe
  OR : OwnC K C.R "__eq__" d.fRe
  OL : OwnC K C.L "__eq__" d.fLe
  NV : NeObj K C.V
  NW : NeObj K C.W
  NR : NeObj K C.R
  NL : NeObj K C.L
  EV : FnR P w K mg base CX0 1 d.fVe (spEqC K C 0)
  EW : FnR P w K mg base CX0 1 d.fWe (spEqC K C 1)
  ER : FnR P w K mg base CX0 1 d.fRe (spEqC K C 2)
  EL : FnR P w K mg base CX0 1 d.fLe (spEqC K C 3)
  GVK : FnRK P w K mg base 3 a.fV (["name"] : List Str) (spVarK K C CP 0)
  GWK : FnRK P w K mg base 3 a.fW (["name"] : List Str) (spVarK K C CP 1)
  GRK : FnRK P w K mg base 3 a.fR (["name"] : List Str) (spVarK K C CP 2)
  GLK : FnRK P w K mg base 4 a.fL (["form"] : List Str) (spLikeNewK K C CP)
def NNR : List Str := ["_law_word", "_law_is_good", "_law_due", "_law_told", "_law_some", "_law_again", "_law_n", "_law_one", "_law_k"]
theorem scNR : FnScope NNR ["_law_word"] (defScope sNamesRight) := ⟨rfl, rfl, rfl, by decide +kernel, rfl, by decide +kernel, by decide +kernel⟩
abbrev qNR : Str := "_law_names_right.<locals>.<lambda>"
def stNR (i : Nat) : Stmt := (defBody sNamesRight).getD i (.Pass ⟨0, 0, 0, 0⟩)
theorem tabs_lst' {T : List (Addr × Str)} {H : Hp} {L : Addr} {xs : List V} {u : HO} (t : Tabs T H) (h : H L = some (.lst xs)) : Tabs T (upd H L u) := tabs_upd t (fun ps z => by rw [h] at z; cases z) (fun c q z => by rw [h] at z; unfold LamX.CodeO at z; cases z)
section
variable {P : Program} {w : World} {K : PySem.W.Frag} {mg : Str → Option Value} {base : Heap} {C : Cl5} {CI CP CS f c fA Pt : Addr} {fdA : FuncData} {T : List (Addr × Str)} {a : AdG} {d : AdN} {A : Around} {outer : List Env} {s : Shared} {H0 : Hp} {E : XK}
theorem nr1 (TR : TxtG P w K mg base C CI CP a) (NR : TxtNR P w K mg base C CP a d) (FA : TxtA K mg CP CS fA fdA) (TB : TabB base mg c Pt) (hmT : (Pt, qNR) ∈ T) (hu : ∀ p ∈ T, p.1 = Pt → p.2 = qNR) (hr : Room 7 (A.deeper (PyProof.Rows.envOfC "_law_names_right" (defScope sNamesRight) s.heap.objs.size f (.ref c)))) (gR : mg "range" = none) :
    ∃ t : TS, PS (cxOf CX0 P w K mg base NNR "_law_names_right" (defScope sNamesRight) f (.ref c) A outer s H0 E).nox (stNR 0) t ∧ ∀ (Z : Ends) (H : Hp) (n : V), Val K H n → (∀ H', Same H H' → Z.nx [some n, some (.bl (nameV n)), none, none, none, none, none, none, none] H') → t Z [some n, none, none, none, none, none, none, none, none] H := by
  have hr5 : Room 5 _ := hr.mono (by decide)
  have hr4 : Room 4 _ := hr.mono (by decide)
  have hr3 : Room 3 _ := hr.mono (by decide)
  have hr2 : Room 2 _ := hr.mono (by decide)
  have hr1 : Room 1 _ := hr.mono (by decide)
  have hu64 : (A.deeper (PyProof.Rows.envOfC "_law_names_right" (defScope sNamesRight) s.heap.objs.size f (.ref c))).units + 64 < cLine := by have := hr.un; omega
  have hu0 : (A.deeper (PyProof.Rows.envOfC "_law_names_right" (defScope sNamesRight) s.heap.objs.size f (.ref c))).units < cLine := by omega
  have big : (1000000 : Nat) < sizeLine := by decide
  refine ⟨_, (ps_set (i := 1) scNR.nd rfl (Or.inl rfl) (pe_call NR.GNm hr1 rfl NR.ANm.g NR.ANm.k NR.ANm.b .nil pass0 (pa_cons (pv 0) pa_nil))), ?_⟩
  rintro Z H n hn k
  exact ⟨_, rfl, n, rfl, hn, fun H1 s1 => k H1 s1⟩
theorem nr2 (TR : TxtG P w K mg base C CI CP a) (NR : TxtNR P w K mg base C CP a d) (FA : TxtA K mg CP CS fA fdA) (TB : TabB base mg c Pt) (hmT : (Pt, qNR) ∈ T) (hu : ∀ p ∈ T, p.1 = Pt → p.2 = qNR) (hr : Room 7 (A.deeper (PyProof.Rows.envOfC "_law_names_right" (defScope sNamesRight) s.heap.objs.size f (.ref c)))) (gR : mg "range" = none) :
    ∃ t : TS, PS (cxOf CX0 P w K mg base NNR "_law_names_right" (defScope sNamesRight) f (.ref c) A outer s H0 E).nox (stNR 1) t ∧ ∀ (Z : Ends) (H : Hp) (n : V), (∀ H' p, Same H H' → H' p = some (.tup (nmK n).val) → Z.nx [some n, some (.bl (nameV n)), some (.ref p), none, none, none, none, none, none] H') → t Z [some n, some (.bl (nameV n)), none, none, none, none, none, none, none] H := by
  have hr5 : Room 5 _ := hr.mono (by decide)
  have hr4 : Room 4 _ := hr.mono (by decide)
  have hr3 : Room 3 _ := hr.mono (by decide)
  have hr2 : Room 2 _ := hr.mono (by decide)
  have hr1 : Room 1 _ := hr.mono (by decide)
  have hu64 : (A.deeper (PyProof.Rows.envOfC "_law_names_right" (defScope sNamesRight) s.heap.objs.size f (.ref c))).units + 64 < cLine := by have := hr.un; omega
  have hu0 : (A.deeper (PyProof.Rows.envOfC "_law_names_right" (defScope sNamesRight) s.heap.objs.size f (.ref c))).units < cLine := by omega
  have big : (1000000 : Nat) < sizeLine := by decide
  refine ⟨_, (ps_set (i := 2) scNR.nd rfl (Or.inl rfl) (pe_ifExp (pt_val (pv 1)) (pe_tup pa_nil) (pe_tup (pa_cons pe_str (pa_cons pe_str pa_nil))))), ?_⟩
  rintro Z H n k
  unfold nmK at k
  refine ⟨_, rfl, _, rfl, ?_⟩
  cases e : nameV n with
  | true =>
    rw [e] at k
    refine iteT ?_
    exact ⟨by show 0 ≤ sizeLine; omega, fun p np => k _ p (same_upd (Same.refl H) np) upd_same⟩
  | false =>
    rw [e] at k
    refine iteF ?_
    exact ⟨by show 2 ≤ sizeLine; omega, fun p np => k _ p (same_upd (Same.refl H) np) upd_same⟩
theorem nr3 (TR : TxtG P w K mg base C CI CP a) (NR : TxtNR P w K mg base C CP a d) (FA : TxtA K mg CP CS fA fdA) (TB : TabB base mg c Pt) (hmT : (Pt, qNR) ∈ T) (hu : ∀ p ∈ T, p.1 = Pt → p.2 = qNR) (hr : Room 7 (A.deeper (PyProof.Rows.envOfC "_law_names_right" (defScope sNamesRight) s.heap.objs.size f (.ref c)))) (gR : mg "range" = none) :
    ∃ t : TS, PS (cxOf CX0 P w K mg base NNR "_law_names_right" (defScope sNamesRight) f (.ref c) A outer s H0 E).nox (stNR 2) t ∧ ∀ (Z : Ends) (H : Hp) (n : V) (p : Addr), ValB K H n → Tabs T H → (∀ (H' : Hp) (L' q1 q2 : Addr), ExtN H H' → Tabs T H' → H' q1 = some (.tup (nmK n).val) → H' q2 = some (.tup (nmK n).val) → H' L' = some (.lst [.ref q1, .ref q2]) → Z.nx [some n, some (.bl (nameV n)), some (.ref p), some (.ref L'), none, none, none, none, none] H') → t Z [some n, some (.bl (nameV n)), some (.ref p), none, none, none, none, none, none] H := by
  have hr5 : Room 5 _ := hr.mono (by decide)
  have hr4 : Room 4 _ := hr.mono (by decide)
  have hr3 : Room 3 _ := hr.mono (by decide)
  have hr2 : Room 2 _ := hr.mono (by decide)
  have hr1 : Room 1 _ := hr.mono (by decide)
  have hu64 : (A.deeper (PyProof.Rows.envOfC "_law_names_right" (defScope sNamesRight) s.heap.objs.size f (.ref c))).units + 64 < cLine := by have := hr.un; omega
  have hu0 : (A.deeper (PyProof.Rows.envOfC "_law_names_right" (defScope sNamesRight) s.heap.objs.size f (.ref c))).units < cLine := by omega
  have big : (1000000 : Nat) < sizeLine := by decide
  refine ⟨_, (ps_set (i := 3) scNR.nd rfl (Or.inl rfl) (pe_lst (pa_cons (pe_fault (t := (fun E => tMkV K C CP 0 E (tCons (tVar 0) tNil))) (k := 5) FA rfl TB rfl hmT hu hr (lamS_by (sc := defScope sNamesRight) (by decide +kernel)) rfl (fun _ _ _ _ _ => rfl) (fun _ _ _ _ E _ _ hr' => (pe_mkV (E := E) (j := 0) TR.MV TR.GV (hr'.mono (by decide)) rfl TR.gV TR.BV (passes_call (takes_of rfl rfl rfl rfl) (fun _ _ _ _ q => q)) (pa_cons (pv 0) pa_nil)))) (pa_cons (pe_faultW (jj := 6) (t := (fun E => tMkV K C CP 0 E (tCons (tVar 0) tNil))) (k := 5) scNR.nd FA rfl TB rfl hmT hu hr (lamW_by (sc := defScope sNamesRight) (N := NNR) (y := "_law_n") (j := 6) (by decide +kernel)) rfl rfl (fun _ _ _ _ _ _ _ => ⟨_, rfl, rfl⟩) (fun _ _ _ _ E _ _ hr' => (pe_mkVK (E := E) (j := 0) TR.MV NR.GVK (hr'.mono (by decide)) rfl TR.gV (passes_call (takes_of rfl rfl rfl rfl) (fun _ _ _ _ q => q)) (pk_cons (pv 0) pk_nil)))) pa_nil)))), ?_⟩
  rintro Z H n p hn tb k
  refine ⟨tb, fun H1 e1 tb1 => fault_var (C := C) (j := 0) (n := n) (fun H2 E' Q' s2 res => ?_) (fun H2 q1 s2 nq1 told1 => ?_)⟩
  · exact ⟨_, rfl, n, rfl, ((hn.ext e1).same s2).val, res⟩
  refine ⟨tb1.ext s2, fun H3 e3 tb3 => fault_var (C := C) (j := 0) (n := n) (fun H4 E' Q' s4 res => ?_) (fun H4 q2 s4 nq2 told2 => ?_)⟩
  · exact ⟨_, rfl, n, rfl, ((((hn.ext e1).same s2).ext e3).same s4).val, res⟩
  refine ⟨by show 2 ≤ sizeLine; omega, fun L1 nL1 => ?_⟩
  have s5 : Same H4 (upd H4 L1 (.lst [.ref q1, .ref q2])) := same_upd (Same.refl H4) nL1
  have v5 : (upd H4 L1 (.lst [.ref q1, .ref q2])) L1 = some (.lst [.ref q1, .ref q2]) := upd_same
  generalize upd H4 L1 (.lst [.ref q1, .ref q2]) = H5 at s5 v5 ⊢
  have e15 : ExtN H1 H5 := (ExtN.of s2).trans (e3.trans ((ExtN.of s4).trans (ExtN.of s5)))
  have tb5 := (tb3.ext s4).ext s5
  have t1 : H5 q1 = some (.tup (nmK n).val) := s5 _ _ (s4 _ _ (e3 _ _ told1 fun _ => nofun))
  have t2 : H5 q2 = some (.tup (nmK n).val) := s5 _ _ told2
  exact k H5 L1 q1 q2 (e1.trans e15) tb5 t1 t2 v5
theorem nr4 (TR : TxtG P w K mg base C CI CP a) (NR : TxtNR P w K mg base C CP a d) (FA : TxtA K mg CP CS fA fdA) (TB : TabB base mg c Pt) (hmT : (Pt, qNR) ∈ T) (hu : ∀ p ∈ T, p.1 = Pt → p.2 = qNR) (hr : Room 7 (A.deeper (PyProof.Rows.envOfC "_law_names_right" (defScope sNamesRight) s.heap.objs.size f (.ref c)))) (gR : mg "range" = none) :
    ∃ t : TS, PS (cxOf CX0 P w K mg base NNR "_law_names_right" (defScope sNamesRight) f (.ref c) A outer s H0 E).nox (stNR 3) t ∧ ∀ (Z : Ends) (H : Hp) (n : V) (p : Addr), ValB K H n → Tabs T H → ∀ (L : Addr) (xs : List V), H L = some (.lst xs) → xs.length ≤ 10 → (∀ (H' : Hp) (L' q1 q2 : Addr), ExtN H H' → Tabs T H' → H' q1 = some (.tup (nmK n).val) → H' q2 = some (.tup (nmK n).val) → H' L' = some (.lst (xs ++ [.ref q1, .ref q2])) → Z.nx [some n, some (.bl (nameV n)), some (.ref p), some (.ref L'), none, none, none, none, none] H') → t Z [some n, some (.bl (nameV n)), some (.ref p), some (.ref L), none, none, none, none, none] H := by
  have hr5 : Room 5 _ := hr.mono (by decide)
  have hr4 : Room 4 _ := hr.mono (by decide)
  have hr3 : Room 3 _ := hr.mono (by decide)
  have hr2 : Room 2 _ := hr.mono (by decide)
  have hr1 : Room 1 _ := hr.mono (by decide)
  have hu64 : (A.deeper (PyProof.Rows.envOfC "_law_names_right" (defScope sNamesRight) s.heap.objs.size f (.ref c))).units + 64 < cLine := by have := hr.un; omega
  have hu0 : (A.deeper (PyProof.Rows.envOfC "_law_names_right" (defScope sNamesRight) s.heap.objs.size f (.ref c))).units < cLine := by omega
  have big : (1000000 : Nat) < sizeLine := by decide
  refine ⟨_, (ps_set (i := 3) scNR.nd rfl (Or.inl rfl) (pe_op op_cat (pv 3) (pe_lst (pa_cons (pe_fault (t := (fun E => tMkV K C CP 1 E (tCons (tVar 0) tNil))) (k := 5) FA rfl TB rfl hmT hu hr (lamS_by (sc := defScope sNamesRight) (by decide +kernel)) rfl (fun _ _ _ _ _ => rfl) (fun _ _ _ _ E _ _ hr' => (pe_mkV (E := E) (j := 1) TR.MW TR.GWo (hr'.mono (by decide)) rfl TR.gW TR.BW (passes_call (takes_of rfl rfl rfl rfl) (fun _ _ _ _ q => q)) (pa_cons (pv 0) pa_nil)))) (pa_cons (pe_faultW (jj := 6) (t := (fun E => tMkV K C CP 1 E (tCons (tVar 0) tNil))) (k := 5) scNR.nd FA rfl TB rfl hmT hu hr (lamW_by (sc := defScope sNamesRight) (N := NNR) (y := "_law_n") (j := 6) (by decide +kernel)) rfl rfl (fun _ _ _ _ _ _ _ => ⟨_, rfl, rfl⟩) (fun _ _ _ _ E _ _ hr' => (pe_mkVK (E := E) (j := 1) TR.MW NR.GWK (hr'.mono (by decide)) rfl TR.gW (passes_call (takes_of rfl rfl rfl rfl) (fun _ _ _ _ q => q)) (pk_cons (pv 0) pk_nil)))) pa_nil))))), ?_⟩
  rintro Z H n p hn tb L xs hL xl k
  refine ⟨_, rfl, ?_⟩
  refine ⟨tb, fun H1 e1 tb1 => fault_var (C := C) (j := 1) (n := n) (fun H2 E' Q' s2 res => ?_) (fun H2 q1 s2 nq1 told1 => ?_)⟩
  · exact ⟨_, rfl, n, rfl, ((hn.ext e1).same s2).val, res⟩
  refine ⟨tb1.ext s2, fun H3 e3 tb3 => fault_var (C := C) (j := 1) (n := n) (fun H4 E' Q' s4 res => ?_) (fun H4 q2 s4 nq2 told2 => ?_)⟩
  · exact ⟨_, rfl, n, rfl, ((((hn.ext e1).same s2).ext e3).same s4).val, res⟩
  refine ⟨by show 2 ≤ sizeLine; omega, fun L1 nL1 => ?_⟩
  have s5 : Same H4 (upd H4 L1 (.lst [.ref q1, .ref q2])) := same_upd (Same.refl H4) nL1
  have v5 : (upd H4 L1 (.lst [.ref q1, .ref q2])) L1 = some (.lst [.ref q1, .ref q2]) := upd_same
  generalize upd H4 L1 (.lst [.ref q1, .ref q2]) = H5 at s5 v5 ⊢
  have e15 : ExtN H1 H5 := (ExtN.of s2).trans (e3.trans ((ExtN.of s4).trans (ExtN.of s5)))
  have tb5 := (tb3.ext s4).ext s5
  have t1 : H5 q1 = some (.tup (nmK n).val) := s5 _ _ (s4 _ _ (e3 _ _ told1 fun _ => nofun))
  have t2 : H5 q2 = some (.tup (nmK n).val) := s5 _ _ told2
  refine ⟨L, L1, _, _, rfl, rfl, (e1.trans e15) _ _ hL fun _ => nofun, v5, by show xs.length + 2 ≤ sizeLine; omega, fun L2 nL2 => ?_⟩
  have s6 : Same H5 (upd H5 L2 (.lst (xs ++ [.ref q1, .ref q2]))) := same_upd (Same.refl H5) nL2
  exact k _ L2 q1 q2 ((e1.trans e15).trans (ExtN.of s6)) (tb5.ext s6) (s6 _ _ t1) (s6 _ _ t2) upd_same
theorem nr5 (TR : TxtG P w K mg base C CI CP a) (NR : TxtNR P w K mg base C CP a d) (FA : TxtA K mg CP CS fA fdA) (TB : TabB base mg c Pt) (hmT : (Pt, qNR) ∈ T) (hu : ∀ p ∈ T, p.1 = Pt → p.2 = qNR) (hr : Room 7 (A.deeper (PyProof.Rows.envOfC "_law_names_right" (defScope sNamesRight) s.heap.objs.size f (.ref c)))) (gR : mg "range" = none) :
    ∃ t : TS, PS (cxOf CX0 P w K mg base NNR "_law_names_right" (defScope sNamesRight) f (.ref c) A outer s H0 E).nox (stNR 4) t ∧ ∀ (Z : Ends) (H : Hp) (n : V) (p : Addr), ValB K H n → Tabs T H → ∀ (L : Addr) (xs : List V), H L = some (.lst xs) → xs.length ≤ 10 → (∀ (H' : Hp) (L' q1 q2 : Addr), ExtN H H' → Tabs T H' → H' q1 = some (.tup (nmK n).val) → H' q2 = some (.tup (nmK n).val) → H' L' = some (.lst (xs ++ [.ref q1, .ref q2])) → Z.nx [some n, some (.bl (nameV n)), some (.ref p), some (.ref L'), none, none, none, none, none] H') → t Z [some n, some (.bl (nameV n)), some (.ref p), some (.ref L), none, none, none, none, none] H := by
  have hr5 : Room 5 _ := hr.mono (by decide)
  have hr4 : Room 4 _ := hr.mono (by decide)
  have hr3 : Room 3 _ := hr.mono (by decide)
  have hr2 : Room 2 _ := hr.mono (by decide)
  have hr1 : Room 1 _ := hr.mono (by decide)
  have hu64 : (A.deeper (PyProof.Rows.envOfC "_law_names_right" (defScope sNamesRight) s.heap.objs.size f (.ref c))).units + 64 < cLine := by have := hr.un; omega
  have hu0 : (A.deeper (PyProof.Rows.envOfC "_law_names_right" (defScope sNamesRight) s.heap.objs.size f (.ref c))).units < cLine := by omega
  have big : (1000000 : Nat) < sizeLine := by decide
  refine ⟨_, (ps_set (i := 3) scNR.nd rfl (Or.inl rfl) (pe_op op_cat (pv 3) (pe_lst (pa_cons (pe_fault (t := (fun E => tMkV K C CP 2 E (tCons (tVar 0) tNil))) (k := 5) FA rfl TB rfl hmT hu hr (lamS_by (sc := defScope sNamesRight) (by decide +kernel)) rfl (fun _ _ _ _ _ => rfl) (fun _ _ _ _ E _ _ hr' => (pe_mkV (E := E) (j := 2) TR.MR TR.GR (hr'.mono (by decide)) rfl TR.gRe TR.BR (passes_call (takes_of rfl rfl rfl rfl) (fun _ _ _ _ q => q)) (pa_cons (pv 0) pa_nil)))) (pa_cons (pe_faultW (jj := 6) (t := (fun E => tMkV K C CP 2 E (tCons (tVar 0) tNil))) (k := 5) scNR.nd FA rfl TB rfl hmT hu hr (lamW_by (sc := defScope sNamesRight) (N := NNR) (y := "_law_n") (j := 6) (by decide +kernel)) rfl rfl (fun _ _ _ _ _ _ _ => ⟨_, rfl, rfl⟩) (fun _ _ _ _ E _ _ hr' => (pe_mkVK (E := E) (j := 2) TR.MR NR.GRK (hr'.mono (by decide)) rfl TR.gRe (passes_call (takes_of rfl rfl rfl rfl) (fun _ _ _ _ q => q)) (pk_cons (pv 0) pk_nil)))) pa_nil))))), ?_⟩
  rintro Z H n p hn tb L xs hL xl k
  refine ⟨_, rfl, ?_⟩
  refine ⟨tb, fun H1 e1 tb1 => fault_var (C := C) (j := 2) (n := n) (fun H2 E' Q' s2 res => ?_) (fun H2 q1 s2 nq1 told1 => ?_)⟩
  · exact ⟨_, rfl, n, rfl, ((hn.ext e1).same s2).val, res⟩
  refine ⟨tb1.ext s2, fun H3 e3 tb3 => fault_var (C := C) (j := 2) (n := n) (fun H4 E' Q' s4 res => ?_) (fun H4 q2 s4 nq2 told2 => ?_)⟩
  · exact ⟨_, rfl, n, rfl, ((((hn.ext e1).same s2).ext e3).same s4).val, res⟩
  refine ⟨by show 2 ≤ sizeLine; omega, fun L1 nL1 => ?_⟩
  have s5 : Same H4 (upd H4 L1 (.lst [.ref q1, .ref q2])) := same_upd (Same.refl H4) nL1
  have v5 : (upd H4 L1 (.lst [.ref q1, .ref q2])) L1 = some (.lst [.ref q1, .ref q2]) := upd_same
  generalize upd H4 L1 (.lst [.ref q1, .ref q2]) = H5 at s5 v5 ⊢
  have e15 : ExtN H1 H5 := (ExtN.of s2).trans (e3.trans ((ExtN.of s4).trans (ExtN.of s5)))
  have tb5 := (tb3.ext s4).ext s5
  have t1 : H5 q1 = some (.tup (nmK n).val) := s5 _ _ (s4 _ _ (e3 _ _ told1 fun _ => nofun))
  have t2 : H5 q2 = some (.tup (nmK n).val) := s5 _ _ told2
  refine ⟨L, L1, _, _, rfl, rfl, (e1.trans e15) _ _ hL fun _ => nofun, v5, by show xs.length + 2 ≤ sizeLine; omega, fun L2 nL2 => ?_⟩
  have s6 : Same H5 (upd H5 L2 (.lst (xs ++ [.ref q1, .ref q2]))) := same_upd (Same.refl H5) nL2
  exact k _ L2 q1 q2 ((e1.trans e15).trans (ExtN.of s6)) (tb5.ext s6) (s6 _ _ t1) (s6 _ _ t2) upd_same
theorem nr6 (TR : TxtG P w K mg base C CI CP a) (NR : TxtNR P w K mg base C CP a d) (FA : TxtA K mg CP CS fA fdA) (TB : TabB base mg c Pt) (hmT : (Pt, qNR) ∈ T) (hu : ∀ p ∈ T, p.1 = Pt → p.2 = qNR) (hr : Room 7 (A.deeper (PyProof.Rows.envOfC "_law_names_right" (defScope sNamesRight) s.heap.objs.size f (.ref c)))) (gR : mg "range" = none) :
    ∃ t : TS, PS (cxOf CX0 P w K mg base NNR "_law_names_right" (defScope sNamesRight) f (.ref c) A outer s H0 E).nox (stNR 5) t ∧ ∀ (Z : Ends) (H : Hp) (n : V) (p : Addr), ValB K H n → Tabs T H → ∀ (L : Addr) (xs : List V), H L = some (.lst xs) → xs.length ≤ 10 → (∀ (H' : Hp) (L' q1 q2 : Addr), ExtN H H' → Tabs T H' → H' q1 = some (.tup (lkK n).val) → H' q2 = some (.tup (lkK n).val) → H' L' = some (.lst (xs ++ [.ref q1, .ref q2])) → Z.nx [some n, some (.bl (nameV n)), some (.ref p), some (.ref L'), none, none, none, none, none] H') → t Z [some n, some (.bl (nameV n)), some (.ref p), some (.ref L), none, none, none, none, none] H := by
  have hr5 : Room 5 _ := hr.mono (by decide)
  have hr4 : Room 4 _ := hr.mono (by decide)
  have hr3 : Room 3 _ := hr.mono (by decide)
  have hr2 : Room 2 _ := hr.mono (by decide)
  have hr1 : Room 1 _ := hr.mono (by decide)
  have hu64 : (A.deeper (PyProof.Rows.envOfC "_law_names_right" (defScope sNamesRight) s.heap.objs.size f (.ref c))).units + 64 < cLine := by have := hr.un; omega
  have hu0 : (A.deeper (PyProof.Rows.envOfC "_law_names_right" (defScope sNamesRight) s.heap.objs.size f (.ref c))).units < cLine := by omega
  have big : (1000000 : Nat) < sizeLine := by decide
  refine ⟨_, (ps_set (i := 3) scNR.nd rfl (Or.inl rfl) (pe_op op_cat (pv 3) (pe_lst (pa_cons (pe_fault (t := (fun E => tMkL K C CP E (tCons (tVar 0) tNil))) (k := 5) FA rfl TB rfl hmT hu hr (lamS_by (sc := defScope sNamesRight) (by decide +kernel)) rfl (fun _ _ _ _ _ => rfl) (fun _ _ _ _ E _ _ hr' => (pe_mkL (E := E) TR.ML TR.GL hr' rfl TR.gL (passes_call (takes_of rfl rfl rfl rfl) (fun _ _ _ _ q => q)) (pa_cons (pv 0) pa_nil)))) (pa_cons (pe_faultW (jj := 6) (t := (fun E => tMkLK K C CP E (tCons (tVar 0) tNil))) (k := 5) scNR.nd FA rfl TB rfl hmT hu hr (lamW_by (sc := defScope sNamesRight) (N := NNR) (y := "_law_n") (j := 6) (by decide +kernel)) rfl rfl (fun _ _ _ _ _ _ _ => ⟨_, rfl, rfl⟩) (fun _ _ _ _ E _ _ hr' => (pe_mkLK (E := E) TR.ML NR.GLK hr' rfl TR.gL (passes_call (takes_of rfl rfl rfl rfl) (fun _ _ _ _ q => q)) (pk_cons (pv 0) pk_nil)))) pa_nil))))), ?_⟩
  rintro Z H n p hn tb L xs hL xl k
  refine ⟨_, rfl, ?_⟩
  refine ⟨tb, fun H1 e1 tb1 => fault_like (C := C) (n := n) (xs := []) (pis := []) (kk := lkK n) due_name (fun H2 E' Q' s2 res => ?_) (fun H2 q1 s2 nq1 told1 => ?_)⟩
  · exact ⟨_, rfl, n, [], [], rfl, ((hn.ext e1).same s2).val, .nil, by decide, by decide, res⟩
  refine ⟨tb1.ext s2, fun H3 e3 tb3 => fault_like (C := C) (n := n) (xs := []) (pis := []) (kk := lkK n) due_name (fun H4 E' Q' s4 res => ?_) (fun H4 q2 s4 nq2 told2 => ?_)⟩
  · exact ⟨_, rfl, n, rfl, ((((hn.ext e1).same s2).ext e3).same s4).val, res⟩
  refine ⟨by show 2 ≤ sizeLine; omega, fun L1 nL1 => ?_⟩
  have s5 : Same H4 (upd H4 L1 (.lst [.ref q1, .ref q2])) := same_upd (Same.refl H4) nL1
  have v5 : (upd H4 L1 (.lst [.ref q1, .ref q2])) L1 = some (.lst [.ref q1, .ref q2]) := upd_same
  generalize upd H4 L1 (.lst [.ref q1, .ref q2]) = H5 at s5 v5 ⊢
  have e15 : ExtN H1 H5 := (ExtN.of s2).trans (e3.trans ((ExtN.of s4).trans (ExtN.of s5)))
  have tb5 := (tb3.ext s4).ext s5
  have t1 : H5 q1 = some (.tup (lkK n).val) := s5 _ _ (s4 _ _ (e3 _ _ told1 fun _ => nofun))
  have t2 : H5 q2 = some (.tup (lkK n).val) := s5 _ _ told2
  refine ⟨L, L1, _, _, rfl, rfl, (e1.trans e15) _ _ hL fun _ => nofun, v5, by show xs.length + 2 ≤ sizeLine; omega, fun L2 nL2 => ?_⟩
  have s6 : Same H5 (upd H5 L2 (.lst (xs ++ [.ref q1, .ref q2]))) := same_upd (Same.refl H5) nL2
  exact k _ L2 q1 q2 ((e1.trans e15).trans (ExtN.of s6)) (tb5.ext s6) (s6 _ _ t1) (s6 _ _ t2) upd_same
end
end K3

namespace K3
open PySem PySem.Spec PyProof.Rows PySem.SeqAt L2 E0
open LamX (ExtN Tabs TabS TabB LamS lamS_by lamSB)
def someT (z : Str) : List Tr := [.vr 0 z, .vr 1 z, .vr 2 z, .vr 0 "other_name", .vr 1 "other_name", .vr 2 "other_name", .tx z]
def againT (z : Str) : List Tr := [.vr 0 z, .vr 1 z, .vr 2 z]
section
variable {P : Program} {w : World} {K : PySem.W.Frag} {mg : Str → Option Value} {base : Heap} {C : Cl5} {CI CP CS f c fA Pt : Addr} {fdA : FuncData} {T : List (Addr × Str)} {a : AdG} {d : AdN} {A : Around} {outer : List Env} {s : Shared} {H0 : Hp} {E : XK}
theorem nr7 (TR : TxtG P w K mg base C CI CP a) (NR : TxtNR P w K mg base C CP a d) (FA : TxtA K mg CP CS fA fdA) (TB : TabB base mg c Pt) (hmT : (Pt, qNR) ∈ T) (hu : ∀ p ∈ T, p.1 = Pt → p.2 = qNR) (hr : Room 7 (A.deeper (PyProof.Rows.envOfC "_law_names_right" (defScope sNamesRight) s.heap.objs.size f (.ref c)))) (gR : mg "range" = none) :
    ∃ t : TS, PS (cxOf CX0 P w K mg base NNR "_law_names_right" (defScope sNamesRight) f (.ref c) A outer s H0 E).nox (stNR 6) t ∧ ∀ (Z : Ends) (H : Hp) (n : V) (p L q1 q2 q3 q4 q5 q6 q7 q8 : Addr), H p = some (.tup (nmK n).val) → (∀ q ∈ [q1, q2, q3, q4, q5, q6], H q = some (.tup (nmK n).val)) → (∀ q ∈ [q7, q8], H q = some (.tup (lkK n).val)) → H L = some (.lst ([q1, q2, q3, q4, q5, q6, q7, q8].map V.ref)) → (∀ H', Same H H' → Z.nx [some n, some (.bl (nameV n)), some (.ref p), some (.ref L), none, none, none, none, none] H') → t Z [some n, some (.bl (nameV n)), some (.ref p), some (.ref L), none, none, none, none, none] H := by
  have hr5 : Room 5 _ := hr.mono (by decide)
  have hr4 : Room 4 _ := hr.mono (by decide)
  have hr3 : Room 3 _ := hr.mono (by decide)
  have hr2 : Room 2 _ := hr.mono (by decide)
  have hr1 : Room 1 _ := hr.mono (by decide)
  have hu64 : (A.deeper (PyProof.Rows.envOfC "_law_names_right" (defScope sNamesRight) s.heap.objs.size f (.ref c))).units + 64 < cLine := by have := hr.un; omega
  have hu0 : (A.deeper (PyProof.Rows.envOfC "_law_names_right" (defScope sNamesRight) s.heap.objs.size f (.ref c))).units < cLine := by omega
  have big : (1000000 : Nat) < sizeLine := by decide
  refine ⟨_, (ps_if (pt_cmpR (op_neD hu64) (pv 3) (pe_op op_cat (pe_op op_rep (pe_lst (pa_cons (pv 2) pa_nil)) pe_int) (pe_op op_rep (pe_lst (pa_cons (pe_ifExp (pt_val (pv 1)) (pe_tup pa_nil) (pe_tup (pa_cons pe_str (pa_cons pe_str pa_nil)))) pa_nil)) pe_int)) (nomark _)) (pss_one (ps_ret pe_bl)) pss_nil), ?_⟩
  rintro Z H n p L q1 q2 q3 q4 q5 q6 q7 q8 hp hq hq2 hL k
  refine ⟨_, rfl, _, rfl, by show 1 ≤ sizeLine; omega, fun l1 nl1 => ?_⟩
  have s1 : Same H (upd H l1 (.lst [.ref p])) := same_upd (Same.refl H) nl1
  have v1 : (upd H l1 (.lst [.ref p])) l1 = some (.lst [.ref p]) := upd_same
  generalize upd H l1 (.lst [.ref p]) = H1 at s1 v1 ⊢
  refine ⟨l1, 6, _, rfl, rfl, v1, by decide, by decide, by show 1 * 6 ≤ sizeLine; omega, fun l2 nl2 => ?_⟩
  rw [show (List.replicate ((6 : Int)).toNat [V.ref p]).flatten = [V.ref p, V.ref p, V.ref p, V.ref p, V.ref p, V.ref p] from rfl]
  have s2 : Same H1 (upd H1 l2 (.lst [.ref p, .ref p, .ref p, .ref p, .ref p, .ref p])) := same_upd (Same.refl H1) nl2
  have v2 : (upd H1 l2 (.lst [.ref p, .ref p, .ref p, .ref p, .ref p, .ref p])) l2 = some (.lst [.ref p, .ref p, .ref p, .ref p, .ref p, .ref p]) := upd_same
  generalize upd H1 l2 (.lst [.ref p, .ref p, .ref p, .ref p, .ref p, .ref p]) = H2 at s2 v2 ⊢
  refine ⟨_, rfl, ?_⟩
  have sh : SeqAt.shaped (.list [.tuple (nmK n).dat, .tuple (nmK n).dat, .tuple (nmK n).dat, .tuple (nmK n).dat, .tuple (nmK n).dat, .tuple (nmK n).dat, .tuple (lkK n).dat, .tuple (lkK n).dat]) = true := by
    unfold nmK lkK
    cases nameV n <;> decide +kernel
  cases e : nameV n with
  | true =>
    refine ⟨_, rfl, ?_⟩
    refine iteT ?_
    refine ⟨by show 0 ≤ sizeLine; omega, fun p2 np2 => ?_⟩
    have s3 : Same H2 (upd H2 p2 (.tup [])) := same_upd (Same.refl H2) np2
    have v3 : (upd H2 p2 (.tup [])) p2 = some (.tup []) := upd_same
    generalize upd H2 p2 (.tup []) = H3 at s3 v3 ⊢
    refine ⟨by show 1 ≤ sizeLine; omega, fun l3 nl3 => ?_⟩
    have s4 : Same H3 (upd H3 l3 (.lst [.ref p2])) := same_upd (Same.refl H3) nl3
    have v4 : (upd H3 l3 (.lst [.ref p2])) l3 = some (.lst [.ref p2]) := upd_same
    generalize upd H3 l3 (.lst [.ref p2]) = H4 at s4 v4 ⊢
    refine ⟨l3, 2, _, rfl, rfl, v4, by decide, by decide, by show 1 * 2 ≤ sizeLine; omega, fun l4 nl4 => ?_⟩
    rw [show (List.replicate ((2 : Int)).toNat [V.ref p2]).flatten = [V.ref p2, V.ref p2] from rfl]
    have s5 : Same H4 (upd H4 l4 (.lst [.ref p2, .ref p2])) := same_upd (Same.refl H4) nl4
    have v5 : (upd H4 l4 (.lst [.ref p2, .ref p2])) l4 = some (.lst [.ref p2, .ref p2]) := upd_same
    generalize upd H4 l4 (.lst [.ref p2, .ref p2]) = H5 at s5 v5 ⊢
    refine ⟨l2, l4, _, _, rfl, rfl, (s3.trans (s4.trans s5)) _ _ v2, v5, by show 6 + 2 ≤ sizeLine; omega, fun l5 nl5 => ?_⟩
    have s6 : Same H5 (upd H5 l5 (.lst ([.ref p, .ref p, .ref p, .ref p, .ref p, .ref p] ++ [.ref p2, .ref p2]))) := same_upd (Same.refl H5) nl5
    have v6 : (upd H5 l5 (.lst ([.ref p, .ref p, .ref p, .ref p, .ref p, .ref p] ++ [.ref p2, .ref p2]))) l5 = some (.lst ([.ref p, .ref p, .ref p, .ref p, .ref p, .ref p] ++ [.ref p2, .ref p2])) := upd_same
    generalize upd H5 l5 (.lst ([.ref p, .ref p, .ref p, .ref p, .ref p, .ref p] ++ [.ref p2, .ref p2])) = H6 at s6 v6 ⊢
    have s06 : Same H H6 := s1.trans (s2.trans (s3.trans (s4.trans (s5.trans s6))))
    have hp6 : H6 p = some (.tup (nmK n).val) := s06 _ _ hp
    have h26 : H6 p2 = some (.tup (lkK n).val) := by
      rw [(s4.trans (s5.trans s6)) _ _ v3]
      unfold lkK
      rw [e]
      rfl
    have g6 : ∀ q ∈ [q1, q2, q3, q4, q5, q6], H6 q = some (.tup (nmK n).val) := fun q m => s06 _ _ (hq q m)
    have g7 : ∀ q ∈ [q7, q8], H6 q = some (.tup (lkK n).val) := fun q m => s06 _ _ (hq2 q m)
    have d1 : Dp K H6 (.ref L) (.list [.tuple (nmK n).dat, .tuple (nmK n).dat, .tuple (nmK n).dat, .tuple (nmK n).dat, .tuple (nmK n).dat, .tuple (nmK n).dat, .tuple (lkK n).dat, .tuple (lkK n).dat]) :=
      .lst (SqL.of (s06 _ _ hL)) (.cons (DK.dp (g6 q1 (by simp))) (.cons (DK.dp (g6 q2 (by simp))) (.cons (DK.dp (g6 q3 (by simp))) (.cons (DK.dp (g6 q4 (by simp))) (.cons (DK.dp (g6 q5 (by simp))) (.cons (DK.dp (g6 q6 (by simp))) (.cons (DK.dp (g7 q7 (by simp))) (.cons (DK.dp (g7 q8 (by simp))) .nil))))))))
    have d2 : Dp K H6 (.ref l5) (.list [.tuple (nmK n).dat, .tuple (nmK n).dat, .tuple (nmK n).dat, .tuple (nmK n).dat, .tuple (nmK n).dat, .tuple (nmK n).dat, .tuple (lkK n).dat, .tuple (lkK n).dat]) :=
      .lst (SqL.of v6) (.cons (DK.dp hp6) (.cons (DK.dp hp6) (.cons (DK.dp hp6) (.cons (DK.dp hp6) (.cons (DK.dp hp6) (.cons (DK.dp hp6) (.cons (DK.dp h26) (.cons (DK.dp h26) .nil))))))))
    refine ⟨_, _, d1, d2, sh, sh, _, rfl, ?_⟩
    rw [SeqAt.eqv_refl _ (lay_of sh)]
    exact iteF (by have q := k H6 s06; rw [e] at q; exact q)
  | false =>
    refine ⟨_, rfl, ?_⟩
    refine iteF ?_
    refine ⟨by show 2 ≤ sizeLine; omega, fun p2 np2 => ?_⟩
    have s3 : Same H2 (upd H2 p2 (.tup [.str "wrong", .str "form"])) := same_upd (Same.refl H2) np2
    have v3 : (upd H2 p2 (.tup [.str "wrong", .str "form"])) p2 = some (.tup [.str "wrong", .str "form"]) := upd_same
    generalize upd H2 p2 (.tup [.str "wrong", .str "form"]) = H3 at s3 v3 ⊢
    refine ⟨by show 1 ≤ sizeLine; omega, fun l3 nl3 => ?_⟩
    have s4 : Same H3 (upd H3 l3 (.lst [.ref p2])) := same_upd (Same.refl H3) nl3
    have v4 : (upd H3 l3 (.lst [.ref p2])) l3 = some (.lst [.ref p2]) := upd_same
    generalize upd H3 l3 (.lst [.ref p2]) = H4 at s4 v4 ⊢
    refine ⟨l3, 2, _, rfl, rfl, v4, by decide, by decide, by show 1 * 2 ≤ sizeLine; omega, fun l4 nl4 => ?_⟩
    rw [show (List.replicate ((2 : Int)).toNat [V.ref p2]).flatten = [V.ref p2, V.ref p2] from rfl]
    have s5 : Same H4 (upd H4 l4 (.lst [.ref p2, .ref p2])) := same_upd (Same.refl H4) nl4
    have v5 : (upd H4 l4 (.lst [.ref p2, .ref p2])) l4 = some (.lst [.ref p2, .ref p2]) := upd_same
    generalize upd H4 l4 (.lst [.ref p2, .ref p2]) = H5 at s5 v5 ⊢
    refine ⟨l2, l4, _, _, rfl, rfl, (s3.trans (s4.trans s5)) _ _ v2, v5, by show 6 + 2 ≤ sizeLine; omega, fun l5 nl5 => ?_⟩
    have s6 : Same H5 (upd H5 l5 (.lst ([.ref p, .ref p, .ref p, .ref p, .ref p, .ref p] ++ [.ref p2, .ref p2]))) := same_upd (Same.refl H5) nl5
    have v6 : (upd H5 l5 (.lst ([.ref p, .ref p, .ref p, .ref p, .ref p, .ref p] ++ [.ref p2, .ref p2]))) l5 = some (.lst ([.ref p, .ref p, .ref p, .ref p, .ref p, .ref p] ++ [.ref p2, .ref p2])) := upd_same
    generalize upd H5 l5 (.lst ([.ref p, .ref p, .ref p, .ref p, .ref p, .ref p] ++ [.ref p2, .ref p2])) = H6 at s6 v6 ⊢
    have s06 : Same H H6 := s1.trans (s2.trans (s3.trans (s4.trans (s5.trans s6))))
    have hp6 : H6 p = some (.tup (nmK n).val) := s06 _ _ hp
    have h26 : H6 p2 = some (.tup (lkK n).val) := by
      rw [(s4.trans (s5.trans s6)) _ _ v3]
      unfold lkK
      rw [e]
      rfl
    have g6 : ∀ q ∈ [q1, q2, q3, q4, q5, q6], H6 q = some (.tup (nmK n).val) := fun q m => s06 _ _ (hq q m)
    have g7 : ∀ q ∈ [q7, q8], H6 q = some (.tup (lkK n).val) := fun q m => s06 _ _ (hq2 q m)
    have d1 : Dp K H6 (.ref L) (.list [.tuple (nmK n).dat, .tuple (nmK n).dat, .tuple (nmK n).dat, .tuple (nmK n).dat, .tuple (nmK n).dat, .tuple (nmK n).dat, .tuple (lkK n).dat, .tuple (lkK n).dat]) :=
      .lst (SqL.of (s06 _ _ hL)) (.cons (DK.dp (g6 q1 (by simp))) (.cons (DK.dp (g6 q2 (by simp))) (.cons (DK.dp (g6 q3 (by simp))) (.cons (DK.dp (g6 q4 (by simp))) (.cons (DK.dp (g6 q5 (by simp))) (.cons (DK.dp (g6 q6 (by simp))) (.cons (DK.dp (g7 q7 (by simp))) (.cons (DK.dp (g7 q8 (by simp))) .nil))))))))
    have d2 : Dp K H6 (.ref l5) (.list [.tuple (nmK n).dat, .tuple (nmK n).dat, .tuple (nmK n).dat, .tuple (nmK n).dat, .tuple (nmK n).dat, .tuple (nmK n).dat, .tuple (lkK n).dat, .tuple (lkK n).dat]) :=
      .lst (SqL.of v6) (.cons (DK.dp hp6) (.cons (DK.dp hp6) (.cons (DK.dp hp6) (.cons (DK.dp hp6) (.cons (DK.dp hp6) (.cons (DK.dp hp6) (.cons (DK.dp h26) (.cons (DK.dp h26) .nil))))))))
    refine ⟨_, _, d1, d2, sh, sh, _, rfl, ?_⟩
    rw [SeqAt.eqv_refl _ (lay_of sh)]
    exact iteF (by have q := k H6 s06; rw [e] at q; exact q)

theorem nr8 (TR : TxtG P w K mg base C CI CP a) (NR : TxtNR P w K mg base C CP a d) (FA : TxtA K mg CP CS fA fdA) (TB : TabB base mg c Pt) (hmT : (Pt, qNR) ∈ T) (hu : ∀ p ∈ T, p.1 = Pt → p.2 = qNR) (hr : Room 7 (A.deeper (PyProof.Rows.envOfC "_law_names_right" (defScope sNamesRight) s.heap.objs.size f (.ref c)))) (gR : mg "range" = none) :
    ∃ t : TS, PS (cxOf CX0 P w K mg base NNR "_law_names_right" (defScope sNamesRight) f (.ref c) A outer s H0 E).nox (stNR 7) t ∧ ∀ (Z : Ends) (H : Hp) (n : V) (p L : Addr), NoL K C → ValB K H n → Tabs T H → (∀ H', nameV n = false → ExtN H H' → Tabs T H' → Z.rt (.bl true) H') → (nameV n = true → Z.nx [some n, some (.bl (nameV n)), some (.ref p), some (.ref L), none, none, none, none, none] H) → t Z [some n, some (.bl (nameV n)), some (.ref p), some (.ref L), none, none, none, none, none] H := by
  have hr5 : Room 5 _ := hr.mono (by decide)
  have hr4 : Room 4 _ := hr.mono (by decide)
  have hr3 : Room 3 _ := hr.mono (by decide)
  have hr2 : Room 2 _ := hr.mono (by decide)
  have hr1 : Room 1 _ := hr.mono (by decide)
  have hu64 : (A.deeper (PyProof.Rows.envOfC "_law_names_right" (defScope sNamesRight) s.heap.objs.size f (.ref c))).units + 64 < cLine := by have := hr.un; omega
  have hu0 : (A.deeper (PyProof.Rows.envOfC "_law_names_right" (defScope sNamesRight) s.heap.objs.size f (.ref c))).units < cLine := by omega
  have big : (1000000 : Nat) < sizeLine := by decide
  refine ⟨_, (ps_if (pt_not (pt_val (pv 1))) (pss_one (ps_ret (pe_cmpR (op_eqD hu64) (pe_fault (t := (fun E => tMkL K C CP E (tCons (tVar 0) (tCons (tC .non) tNil)))) (k := 5) FA rfl TB rfl hmT hu hr (lamS_by (sc := defScope sNamesRight) (by decide +kernel)) rfl (fun _ _ _ _ _ => rfl) (fun _ _ _ _ E _ _ hr' => (pe_mkL (E := E) TR.ML TR.GL hr' rfl TR.gL (passes_call (takes_of rfl rfl rfl rfl) (fun _ _ _ _ q => q)) (pa_cons (pv 0) (pa_cons pe_non pa_nil))))) (pe_tup (pa_cons pe_str (pa_cons pe_str pa_nil))) (nomark _)))) pss_nil), ?_⟩
  rintro Z H n p L no hn tb kf kt
  refine ⟨_, rfl, _, rfl, ?_⟩
  cases e : nameV n with
  | true =>
    refine iteF ?_
    have q := kt e
    rw [e] at q
    exact q
  | false =>
    refine iteT ?_
    refine ⟨tb, fun H1 e1 tb1 => fault_like (C := C) (n := n) (xs := [.non]) (pis := [.bad]) (kk := .form) (due_form e) (fun H2 E' Q' s2 res => ?_) (fun H2 q1 s2 nq1 told1 => ?_)⟩
    · exact ⟨_, rfl, n, [.non], [.bad], rfl, ((hn.ext e1).same s2).val, .cons (bad_non (N := fun _ => False) no).bad .nil, by show 1 ≤ 1000; omega, by decide, res⟩
    refine ⟨by show 2 ≤ sizeLine; omega, fun l1 nl1 => ?_⟩
    have s3 : Same H2 (upd H2 l1 (.tup [.str "wrong", .str "form"])) := same_upd (Same.refl H2) nl1
    have v3 : (upd H2 l1 (.tup [.str "wrong", .str "form"])) l1 = some (.tup [.str "wrong", .str "form"]) := upd_same
    generalize upd H2 l1 (.tup [.str "wrong", .str "form"]) = H3 at s3 v3 ⊢
    refine ⟨_, _, DK.dp (k := .form) (s3 _ _ told1), DK.dp (k := .form) v3, DK.sh _, DK.sh _, ?_⟩
    rw [SeqAt.eqv_refl _ (lay_of (DK.sh _))]
    exact kf H3 e (e1.trans (ExtN.of (s2.trans s3))) ((tb1.ext s2).ext s3)
theorem nr9 (TR : TxtG P w K mg base C CI CP a) (NR : TxtNR P w K mg base C CP a d) (FA : TxtA K mg CP CS fA fdA) (TB : TabB base mg c Pt) (hmT : (Pt, qNR) ∈ T) (hu : ∀ p ∈ T, p.1 = Pt → p.2 = qNR) (hr : Room 7 (A.deeper (PyProof.Rows.envOfC "_law_names_right" (defScope sNamesRight) s.heap.objs.size f (.ref c)))) (gR : mg "range" = none) :
    ∃ t : TS, PS (cxOf CX0 P w K mg base NNR "_law_names_right" (defScope sNamesRight) f (.ref c) A outer s H0 E).nox (stNR 8) t ∧ ∀ (Z : Ends) (H : Hp) (z : Str) (v2 v3 : Option V), nameS z = true → PyData.strOk z = true → (∀ (H' : Hp) (D x0 x1 x2 x3 x4 x5 : Addr), Same H H' → H' D = some (.lst [.ref x0, .ref x1, .ref x2, .ref x3, .ref x4, .ref x5, .str z]) → PtsAt C H' [.ref x0, .ref x1, .ref x2, .ref x3, .ref x4, .ref x5, .str z] (someT z) → Z.nx [some (.str z), some (.bl true), v2, v3, some (.ref D), none, none, none, none] H') → t Z [some (.str z), some (.bl true), v2, v3, none, none, none, none, none] H := by
  have hr5 : Room 5 _ := hr.mono (by decide)
  have hr4 : Room 4 _ := hr.mono (by decide)
  have hr3 : Room 3 _ := hr.mono (by decide)
  have hr2 : Room 2 _ := hr.mono (by decide)
  have hr1 : Room 1 _ := hr.mono (by decide)
  have hu64 : (A.deeper (PyProof.Rows.envOfC "_law_names_right" (defScope sNamesRight) s.heap.objs.size f (.ref c))).units + 64 < cLine := by have := hr.un; omega
  have hu0 : (A.deeper (PyProof.Rows.envOfC "_law_names_right" (defScope sNamesRight) s.heap.objs.size f (.ref c))).units < cLine := by omega
  have big : (1000000 : Nat) < sizeLine := by decide
  refine ⟨_, (ps_set (i := 4) scNR.nd rfl (Or.inr rfl) (pe_lst (pa_cons (pe_mkV (E := E0) (j := 0) TR.MV TR.GV hr4 rfl TR.gV TR.BV passL (pa_cons (pv 0) pa_nil)) (pa_cons (pe_mkV (E := E0) (j := 1) TR.MW TR.GWo hr4 rfl TR.gW TR.BW passL (pa_cons (pv 0) pa_nil)) (pa_cons (pe_mkV (E := E0) (j := 2) TR.MR TR.GR hr4 rfl TR.gRe TR.BR passL (pa_cons (pv 0) pa_nil)) (pa_cons (pe_mkV (E := E0) (j := 0) TR.MV TR.GV hr4 rfl TR.gV TR.BV passL (pa_cons pe_str pa_nil)) (pa_cons (pe_mkV (E := E0) (j := 1) TR.MW TR.GWo hr4 rfl TR.gW TR.BW passL (pa_cons pe_str pa_nil)) (pa_cons (pe_mkV (E := E0) (j := 2) TR.MR TR.GR hr4 rfl TR.gRe TR.BR passL (pa_cons pe_str pa_nil)) (pa_cons (pv 0) pa_nil))))))))), ?_⟩
  rintro Z H z v2 v3 hz ho k
  have hzo : (nameS z && PyData.strOk z) = true := by rw [hz, ho]; rfl
  refine ⟨_, rfl, mkV_c (hzo) fun H1 x0 s1 n0 p0 => ?_⟩
  refine ⟨_, rfl, mkV_c (hzo) fun H2 x1 s2 n1 p1 => ?_⟩
  refine ⟨_, rfl, mkV_c (hzo) fun H3 x2 s3 n2 p2 => ?_⟩
  refine mkV_c (by decide +kernel) fun H4 x3 s4 n3 p3 => ?_
  refine mkV_c (by decide +kernel) fun H5 x4 s5 n4 p4 => ?_
  refine mkV_c (by decide +kernel) fun H6 x5 s6 n5 p5 => ?_
  refine ⟨_, rfl, ?_⟩
  refine ⟨by show 7 ≤ sizeLine; omega, fun D nD => ?_⟩
  have s7 : Same H6 (upd H6 D (.lst [.ref x0, .ref x1, .ref x2, .ref x3, .ref x4, .ref x5, .str z])) := same_upd (Same.refl H6) nD
  have vD : (upd H6 D (.lst [.ref x0, .ref x1, .ref x2, .ref x3, .ref x4, .ref x5, .str z])) D = some (.lst [.ref x0, .ref x1, .ref x2, .ref x3, .ref x4, .ref x5, .str z]) := upd_same
  generalize upd H6 D (.lst [.ref x0, .ref x1, .ref x2, .ref x3, .ref x4, .ref x5, .str z]) = H7 at s7 vD ⊢
  exact k H7 D x0 x1 x2 x3 x4 x5 (s1.trans (s2.trans (s3.trans (s4.trans (s5.trans (s6.trans s7)))))) vD ⟨PtAt.kpo (KpO.same (s2.trans (s3.trans (s4.trans (s5.trans (s6.trans s7)))))) _ p0, PtAt.kpo (KpO.same (s3.trans (s4.trans (s5.trans (s6.trans s7))))) _ p1, PtAt.kpo (KpO.same (s4.trans (s5.trans (s6.trans s7)))) _ p2, PtAt.kpo (KpO.same (s5.trans (s6.trans s7))) _ p3, PtAt.kpo (KpO.same (s6.trans s7)) _ p4, PtAt.kpo (KpO.same s7) _ p5, rfl, True.intro⟩
theorem nr10 (TR : TxtG P w K mg base C CI CP a) (NR : TxtNR P w K mg base C CP a d) (FA : TxtA K mg CP CS fA fdA) (TB : TabB base mg c Pt) (hmT : (Pt, qNR) ∈ T) (hu : ∀ p ∈ T, p.1 = Pt → p.2 = qNR) (hr : Room 7 (A.deeper (PyProof.Rows.envOfC "_law_names_right" (defScope sNamesRight) s.heap.objs.size f (.ref c)))) (gR : mg "range" = none) :
    ∃ t : TS, PS (cxOf CX0 P w K mg base NNR "_law_names_right" (defScope sNamesRight) f (.ref c) A outer s H0 E).nox (stNR 9) t ∧ ∀ (Z : Ends) (H : Hp) (z : Str) (v2 v3 : Option V) (D x0 x1 x2 x3 x4 x5 : Addr), PyData.strOk z = true → H D = some (.lst [.ref x0, .ref x1, .ref x2, .ref x3, .ref x4, .ref x5, .str z]) → PtsAt C H [.ref x0, .ref x1, .ref x2, .ref x3, .ref x4, .ref x5, .str z] (someT z) → (∀ H', Same H H' → Z.nx [some (.str z), some (.bl true), v2, v3, some (.ref D), none, none, none, none] H') → t Z [some (.str z), some (.bl true), v2, v3, some (.ref D), none, none, none, none] H := by
  have hr5 : Room 5 _ := hr.mono (by decide)
  have hr4 : Room 4 _ := hr.mono (by decide)
  have hr3 : Room 3 _ := hr.mono (by decide)
  have hr2 : Room 2 _ := hr.mono (by decide)
  have hr1 : Room 1 _ := hr.mono (by decide)
  have hu64 : (A.deeper (PyProof.Rows.envOfC "_law_names_right" (defScope sNamesRight) s.heap.objs.size f (.ref c))).units + 64 < cLine := by have := hr.un; omega
  have hu0 : (A.deeper (PyProof.Rows.envOfC "_law_names_right" (defScope sNamesRight) s.heap.objs.size f (.ref c))).units < cLine := by omega
  have big : (1000000 : Nat) < sizeLine := by decide
  refine ⟨_, (ps_if (pt_cmpR (op_neD hu64) (pe_lc (own := [("_law_one", 7)]) (g := gName 7) (tt := tYes) (te := tFld K (tVar 7) "name") rfl scNR.nd (pi_list (pe_slice sl_list (pv 4) po_none (po_some pe_int))) (blkOk_by (N := NNR) (sc := defScope sNamesRight) (by decide +kernel)) (fun _ _ _ _ _ => pg_name (i := 7) scNR.nd rfl (Or.inl rfl)) (fun _ _ _ _ _ => pts_nil) (fun _ _ _ _ _ => pe_fld (pv 7) rfl)) (pe_op op_rep (pe_lst (pa_cons (pv 0) pa_nil)) pe_int) (nomark _)) (pss_one (ps_ret pe_bl)) pss_nil), ?_⟩
  rintro Z H z v2 v3 D x0 x1 x2 x3 x4 x5 ho hD hp k
  refine ⟨_, rfl, _, rfl, D, _, rfl, SqL.of hD, fun p np => ?_⟩
  have ecut : cutV [.ref x0, .ref x1, .ref x2, .ref x3, .ref x4, .ref x5, .str z] none (some 3) = [.ref x0, .ref x1, .ref x2] := rfl
  have s1 : Same H (upd H p (.lst (cutV [.ref x0, .ref x1, .ref x2, .ref x3, .ref x4, .ref x5, .str z] none (some 3)))) := same_upd (Same.refl H) np
  have v1 : (upd H p (.lst (cutV [.ref x0, .ref x1, .ref x2, .ref x3, .ref x4, .ref x5, .str z] none (some 3)))) p = some (.lst [.ref x0, .ref x1, .ref x2]) := upd_same
  generalize upd H p (.lst (cutV [.ref x0, .ref x1, .ref x2, .ref x3, .ref x4, .ref x5, .str z] none (some 3))) = H1 at s1 v1 ⊢
  refine ⟨p, rfl, ⟨_, SqL.of v1⟩, fun L hL => lc_list (K := K) (a := p) (xs := [.ref x0, .ref x1, .ref x2]) (fun i H' => Same H1 H' ∧ H' L = some (.lst (List.replicate i (.str z)))) ⟨same_upd (Same.refl H1) hL, upd_same⟩ (fun i H' _ ⟨s', _⟩ => SqL.of (s' _ _ v1)) ?_ ?_⟩
  · rintro i x H2 hx ⟨s2, e2⟩
    have il : i < 3 := (List.getElem?_eq_some_iff.mp hx).1
    refine ⟨rfl, ?_⟩
    dsimp only [tYes]
    rw [if_pos rfl]
    have fld : ∃ A1 a1 dx fs, x = .ref a1 ∧ H a1 = some (.ins A1 dx fs) ∧ A1 ∈ C.all ∧ fs.lookup ("name" : Str) = some (.str z) := by
      obtain ⟨h0, h1, h2, _⟩ := hp
      match i, il, hx with
      | 0, _, hx => cases hx; obtain ⟨a1, A1, dx, fs, e1, e2, e3, e4⟩ := name_of h0 (show 0 ≤ 2 by decide); exact ⟨A1, a1, dx, fs, e1, e2, e3, e4⟩
      | 1, _, hx => cases hx; obtain ⟨a1, A1, dx, fs, e1, e2, e3, e4⟩ := name_of h1 (show 1 ≤ 2 by decide); exact ⟨A1, a1, dx, fs, e1, e2, e3, e4⟩
      | 2, _, hx => cases hx; obtain ⟨a1, A1, dx, fs, e1, e2, e3, e4⟩ := name_of h2 (show 2 ≤ 2 by decide); exact ⟨A1, a1, dx, fs, e1, e2, e3, e4⟩
    obtain ⟨A1, a1, dx, fs, rfl, g2, g3, g4⟩ := fld
    refine ⟨_, rfl, a1, A1, dx, fs, _, rfl, (s1.trans s2) _ _ g2, (TR.T5.own _ g3).cl, TR.N5.na _ g3 _ (by decide +kernel), g4, _, e2, ?_, same_upd s2 hL, ?_⟩
    · rw [List.length_replicate]; show i < sizeLine; omega
    · rw [upd_same, List.replicate_succ']
  · rintro H2 ⟨s2, e2⟩
    have e2 : H2 L = some (.lst [.str z, .str z, .str z]) := e2
    refine ⟨_, rfl, by show 1 ≤ sizeLine; omega, fun l1 nl1 => ?_⟩
    have s3 : Same H2 (upd H2 l1 (.lst [.str z])) := same_upd (Same.refl H2) nl1
    have w3 : (upd H2 l1 (.lst [.str z])) l1 = some (.lst [.str z]) := upd_same
    generalize upd H2 l1 (.lst [.str z]) = H3 at s3 w3 ⊢
    refine ⟨l1, 3, _, rfl, rfl, w3, by decide, by decide, by show 1 * 3 ≤ sizeLine; omega, fun l2 nl2 => ?_⟩
    rw [show (List.replicate ((3 : Int)).toNat [V.str z]).flatten = [V.str z, V.str z, V.str z] from rfl]
    have s4 : Same H3 (upd H3 l2 (.lst [.str z, .str z, .str z])) := same_upd (Same.refl H3) nl2
    have w4 : (upd H3 l2 (.lst [.str z, .str z, .str z])) l2 = some (.lst [.str z, .str z, .str z]) := upd_same
    generalize upd H3 l2 (.lst [.str z, .str z, .str z]) = H4 at s4 w4 ⊢
    have dz : ∀ {H : Hp} {L : Addr}, H L = some (.lst [.str z, .str z, .str z]) → Dp K H (.ref L) (.list [.str z, .str z, .str z]) := fun h => .lst (SqL.of h) (.cons (.str _) (.cons (.str _) (.cons (.str _) .nil)))
    have sh : SeqAt.shaped (.list [.str z, .str z, .str z]) = true := by
      simp [SeqAt.shaped, PyData.canLay0, PyData.canLayAll0, PyData.depth, PyData.depthAll, ho]
    refine ⟨_, _, dz ((s3.trans s4) _ _ e2), dz w4, sh, sh, _, rfl, ?_⟩
    rw [SeqAt.eqv_refl _ (lay_of sh)]
    exact iteF (k H4 (s1.trans (s2.trans (s3.trans s4))))
theorem nr11 (TR : TxtG P w K mg base C CI CP a) (NR : TxtNR P w K mg base C CP a d) (FA : TxtA K mg CP CS fA fdA) (TB : TabB base mg c Pt) (hmT : (Pt, qNR) ∈ T) (hu : ∀ p ∈ T, p.1 = Pt → p.2 = qNR) (hr : Room 7 (A.deeper (PyProof.Rows.envOfC "_law_names_right" (defScope sNamesRight) s.heap.objs.size f (.ref c)))) (gR : mg "range" = none) :
    ∃ t : TS, PS (cxOf CX0 P w K mg base NNR "_law_names_right" (defScope sNamesRight) f (.ref c) A outer s H0 E).nox (stNR 10) t ∧ ∀ (Z : Ends) (H : Hp) (z : Str) (v2 v3 v4 : Option V), nameS z = true → PyData.strOk z = true → (∀ (H' : Hp) (D y0 y1 y2 : Addr), Same H H' → H' D = some (.lst [.ref y0, .ref y1, .ref y2]) → PtsAt C H' [.ref y0, .ref y1, .ref y2] (againT z) → Z.nx [some (.str z), some (.bl true), v2, v3, v4, some (.ref D), none, none, none] H') → t Z [some (.str z), some (.bl true), v2, v3, v4, none, none, none, none] H := by
  have hr5 : Room 5 _ := hr.mono (by decide)
  have hr4 : Room 4 _ := hr.mono (by decide)
  have hr3 : Room 3 _ := hr.mono (by decide)
  have hr2 : Room 2 _ := hr.mono (by decide)
  have hr1 : Room 1 _ := hr.mono (by decide)
  have hu64 : (A.deeper (PyProof.Rows.envOfC "_law_names_right" (defScope sNamesRight) s.heap.objs.size f (.ref c))).units + 64 < cLine := by have := hr.un; omega
  have hu0 : (A.deeper (PyProof.Rows.envOfC "_law_names_right" (defScope sNamesRight) s.heap.objs.size f (.ref c))).units < cLine := by omega
  have big : (1000000 : Nat) < sizeLine := by decide
  refine ⟨_, (ps_set (i := 5) scNR.nd rfl (Or.inr rfl) (pe_lst (pa_cons (pe_mkV (E := E0) (j := 0) TR.MV TR.GV hr4 rfl TR.gV TR.BV passL (pa_cons (pv 0) pa_nil)) (pa_cons (pe_mkV (E := E0) (j := 1) TR.MW TR.GWo hr4 rfl TR.gW TR.BW passL (pa_cons (pv 0) pa_nil)) (pa_cons (pe_mkV (E := E0) (j := 2) TR.MR TR.GR hr4 rfl TR.gRe TR.BR passL (pa_cons (pv 0) pa_nil)) pa_nil))))), ?_⟩
  rintro Z H z v2 v3 v4 hz ho k
  have hzo : (nameS z && PyData.strOk z) = true := by rw [hz, ho]; rfl
  refine ⟨_, rfl, mkV_c hzo fun H1 y0 s1 n0 p0 => ?_⟩
  refine ⟨_, rfl, mkV_c hzo fun H2 y1 s2 n1 p1 => ?_⟩
  refine ⟨_, rfl, mkV_c hzo fun H3 y2 s3 n2 p2 => ?_⟩
  refine ⟨by show 3 ≤ sizeLine; omega, fun D nD => ?_⟩
  have s4 : Same H3 (upd H3 D (.lst [.ref y0, .ref y1, .ref y2])) := same_upd (Same.refl H3) nD
  have vD : (upd H3 D (.lst [.ref y0, .ref y1, .ref y2])) D = some (.lst [.ref y0, .ref y1, .ref y2]) := upd_same
  generalize upd H3 D (.lst [.ref y0, .ref y1, .ref y2]) = H4 at s4 vD ⊢
  exact k H4 D y0 y1 y2 (s1.trans (s2.trans (s3.trans s4))) vD ⟨PtAt.kpo (KpO.same (s2.trans (s3.trans s4))) _ p0, PtAt.kpo (KpO.same (s3.trans s4)) _ p1, PtAt.kpo (KpO.same s4) _ p2, True.intro⟩
end
end K3

namespace K3
open PySem PySem.Spec PyProof.Rows PySem.SeqAt L2 E0
open LamX (ExtN Tabs TabS TabB LamS lamS_by lamSB)
theorem eqT_grid (z : Str) (hz : z ≠ "other_name") {i j : Nat} {t u : Tr} (hi : (againT z)[i]? = some t) (hj : (someT z)[j]? = some u) : eqT t u = decide (i = j) ∧ clsN t = i ∧ i < 3 := by
  have il : i < 3 := (List.getElem?_eq_some_iff.mp hi).1
  have jl : j < 7 := (List.getElem?_eq_some_iff.mp hj).1
  have ne : decide (z = "other_name") = false := decide_eq_false hz
  have eq : decide (z = z) = true := decide_eq_true rfl
  match i, il, hi with
  | 0, _, hi =>
    cases hi
    refine ⟨?_, rfl, by decide⟩
    match j, jl, hj with
    | 0, _, hj => cases hj; show (decide (0 = 0) && decide (z = z)) = _; rw [eq]; rfl
    | 1, _, hj => cases hj; rfl
    | 2, _, hj => cases hj; rfl
    | 3, _, hj => cases hj; show (decide (0 = 0) && decide (z = "other_name")) = _; rw [ne]; rfl
    | 4, _, hj => cases hj; rfl
    | 5, _, hj => cases hj; rfl
    | 6, _, hj => cases hj; rfl
  | 1, _, hi =>
    cases hi
    refine ⟨?_, rfl, by decide⟩
    match j, jl, hj with
    | 0, _, hj => cases hj; rfl
    | 1, _, hj => cases hj; show (decide (1 = 1) && decide (z = z)) = _; rw [eq]; rfl
    | 2, _, hj => cases hj; rfl
    | 3, _, hj => cases hj; rfl
    | 4, _, hj => cases hj; show (decide (1 = 1) && decide (z = "other_name")) = _; rw [ne]; rfl
    | 5, _, hj => cases hj; rfl
    | 6, _, hj => cases hj; rfl
  | 2, _, hi =>
    cases hi
    refine ⟨?_, rfl, by decide⟩
    match j, jl, hj with
    | 0, _, hj => cases hj; rfl
    | 1, _, hj => cases hj; rfl
    | 2, _, hj => cases hj; show (decide (2 = 2) && decide (z = z)) = _; rw [eq]; rfl
    | 3, _, hj => cases hj; rfl
    | 4, _, hj => cases hj; rfl
    | 5, _, hj => cases hj; show (decide (2 = 2) && decide (z = "other_name")) = _; rw [ne]; rfl
    | 6, _, hj => cases hj; rfl
theorem pts_get {C : Cl5} {H : Hp} : ∀ {xs : List V} {ts : List Tr} {i : Nat} {x : V}, PtsAt C H xs ts → xs[i]? = some x → ∃ t, ts[i]? = some t ∧ PtAt C H x t
  | [], [], i, x, _, h => by simp at h
  | y :: ys, t :: ts, 0, x, h, e => by
    simp at e
    subst e
    exact ⟨t, rfl, h.1⟩
  | y :: ys, t :: ts, i + 1, x, h, e => by
    obtain ⟨u, e1, e2⟩ := pts_get (i := i) h.2 (by simpa using e)
    exact ⟨u, by simpa using e1, e2⟩
  | [], _ :: _, _, _, h, _ => False.elim h
  | _ :: _, [], _, _, h, _ => False.elim h
/-- == and != of one of the three variables -/
def rEq3 (K : PySem.W.Frag) (C : Cl5) : R2 := fun x y H Q => rEqO K C.V (spEqC K C 0) E0 x y H Q ∨ (rEqO K C.W (spEqC K C 1) E0 x y H Q ∨ rEqO K C.R (spEqC K C 2) E0 x y H Q)
def rNe3 (K : PySem.W.Frag) (C : Cl5) : R2 := fun x y H Q => rNeO K C.V (spEqC K C 0) E0 x y H Q ∨ (rNeO K C.W (spEqC K C 1) E0 x y H Q ∨ rNeO K C.R (spEqC K C 2) E0 x y H Q)
theorem eq3 {K : PySem.W.Frag} {C : Cl5} {H : Hp} {v y : V} {t u : Tr} {Q : VK} (T5 : Ty5 K C) (n : NF5 K C) (hv : PtAt C H v t) (hu : PtAt C H y u) {j : Nat} (hj : clsN t = j) (h3 : j < 3) (k : Q (.bl (eqT t u)) H) : rEq3 K C v y H Q := by
  match j, h3, hj with
  | 0, _, hj => exact .inl (eq_pt T5 n hv hu hj (by decide) k)
  | 1, _, hj => exact .inr (.inl (eq_pt T5 n hv hu hj (by decide) k))
  | 2, _, hj => exact .inr (.inr (eq_pt T5 n hv hu hj (by decide) k))
theorem ne3 {K : PySem.W.Frag} {C : Cl5} {H : Hp} {v y : V} {t u : Tr} {Q : VK} (T5 : Ty5 K C) (n : NF5 K C) (hv : PtAt C H v t) (hu : PtAt C H y u) {j : Nat} (hj : clsN t = j) (h3 : j < 3) (k : Q (.bl (!eqT t u)) H) : rNe3 K C v y H Q := by
  match j, h3, hj with
  | 0, _, hj => exact .inl (ne_pt T5 n hv hu hj (by decide) k)
  | 1, _, hj => exact .inr (.inl (ne_pt T5 n hv hu hj (by decide) k))
  | 2, _, hj => exact .inr (.inr (ne_pt T5 n hv hu hj (by decide) k))
section
variable {P : Program} {w : World} {K : PySem.W.Frag} {mg : Str → Option Value} {base : Heap} {C : Cl5} {CI CP CS f c fA Pt : Addr} {fdA : FuncData} {T : List (Addr × Str)} {a : AdG} {d : AdN} {A : Around} {outer : List Env} {s : Shared} {H0 : Hp} {E : XK}
theorem op_eq3 {X : Cx} (NR : TxtNR X.prog X.w X.K X.mg X.base C CP a d) (hr : Room 1 X.A) : OpR X (compareOp .Eq) (rEq3 X.K C) := OpR.or (op_eqO (E := E0) NR.OV NR.EV hr pass0) (OpR.or (op_eqO (E := E0) NR.OW NR.EW hr pass0) (op_eqO (E := E0) NR.OR NR.ER hr pass0))
theorem op_ne3 {X : Cx} (NR : TxtNR X.prog X.w X.K X.mg X.base C CP a d) (hr : Room 3 X.A) : OpR X (compareOp .NotEq) (rNe3 X.K C) := OpR.or (op_neO (E := E0) NR.OV NR.NV NR.EV hr pass0) (OpR.or (op_neO (E := E0) NR.OW NR.NW NR.EW hr pass0) (op_neO (E := E0) NR.OR NR.NR NR.ER hr pass0))
theorem nr12 (TR : TxtG P w K mg base C CI CP a) (NR : TxtNR P w K mg base C CP a d) (FA : TxtA K mg CP CS fA fdA) (TB : TabB base mg c Pt) (hmT : (Pt, qNR) ∈ T) (hu : ∀ p ∈ T, p.1 = Pt → p.2 = qNR) (hr : Room 7 (A.deeper (PyProof.Rows.envOfC "_law_names_right" (defScope sNamesRight) s.heap.objs.size f (.ref c)))) (gR : mg "range" = none) :
    ∃ t : TS, PS (cxOf CX0 P w K mg base NNR "_law_names_right" (defScope sNamesRight) f (.ref c) A outer s H0 E).nox (stNR 11) t ∧ ∀ (Z : Ends) (H : Hp) (z : Str) (v2 v3 : Option V) (D D2 : Addr) (vs ws : List V), z ≠ "other_name" → H D = some (.lst vs) → PtsAt C H vs (someT z) → H D2 = some (.lst ws) → PtsAt C H ws (againT z) → (∀ (H' : Hp) (v6 : Option V), Same H H' → Z.nx [some (.str z), some (.bl true), v2, v3, some (.ref D), some (.ref D2), v6, none, none] H') → t Z [some (.str z), some (.bl true), v2, v3, some (.ref D), some (.ref D2), none, none, none] H := by
  have hr5 : Room 5 _ := hr.mono (by decide)
  have hr4 : Room 4 _ := hr.mono (by decide)
  have hr3 : Room 3 _ := hr.mono (by decide)
  have hr2 : Room 2 _ := hr.mono (by decide)
  have hr1 : Room 1 _ := hr.mono (by decide)
  have hu64 : (A.deeper (PyProof.Rows.envOfC "_law_names_right" (defScope sNamesRight) s.heap.objs.size f (.ref c))).units + 64 < cLine := by have := hr.un; omega
  have hu0 : (A.deeper (PyProof.Rows.envOfC "_law_names_right" (defScope sNamesRight) s.heap.objs.size f (.ref c))).units < cLine := by omega
  have big : (1000000 : Nat) < sizeLine := by decide
  refine ⟨_, (ps_for PassesOwn.never rfl (pi_range1 rfl gR (pa_cons pe_int pa_nil)) (pg_name (i := 6) scNR.nd rfl (.inr rfl)) (pss_one (ps_if (pt_cmpR (op_neNil hu0) (pe_lc (own := [("_law_k", 8)]) (g := gName 8) (tt := tOr (tTest (tOp rNe (tOp (rEq3 K C) (tOp (rIxL K) (tVar 5) (tVar 6)) (tOp (rIxL K) (tVar 4) (tVar 8))) (tOp rEq (tVar 6) (tVar 8)))) (tTest (tOp rNe (tOp (rNe3 K C) (tOp (rIxL K) (tVar 5) (tVar 6)) (tOp (rIxL K) (tVar 4) (tVar 8))) (tOp rNe (tVar 6) (tVar 8))))) (te := tVar 8) rfl scNR.nd (pi_range1 rfl gR (pa_cons pe_int pa_nil)) (blkOk_by (N := NNR) (sc := defScope sNamesRight) (by decide +kernel)) (fun _ _ _ _ _ => pg_name (i := 8) scNR.nd rfl (Or.inl rfl)) (fun _ _ _ _ _ => pts_one (PW.pt (pw_or (pt_cmpR op_ne (pe_cmpR (op_eq3 NR hr1) (pe_ix ix_list (pv 5) (pv 6) (fun _ _ => rfl)) (pe_ix ix_list (pv 4) (pv 8) (fun _ _ => rfl)) (nomark _)) (pe_cmpR op_eq (pv 6) (pv 8) (nomark _)) (nomark _)) (pw_or1 (pt_cmpR op_ne (pe_cmpR (op_ne3 NR hr3) (pe_ix ix_list (pv 5) (pv 6) (fun _ _ => rfl)) (pe_ix ix_list (pv 4) (pv 8) (fun _ _ => rfl)) (nomark _)) (pe_cmpR op_ne (pv 6) (pv 8) (nomark _)) (nomark _)))))) (fun _ _ _ _ _ => pv 8)) (pe_lst pa_nil) (nomark _)) (pss_one (ps_ret pe_bl)) pss_nil))), ?_⟩
  rintro Z H z v2 v3 D D2 vs ws hz hD pvs hD2 pws k
  have lv : vs.length = 7 := pts_len pvs
  have lw : ws.length = 3 := pts_len pws
  refine ⟨3, rfl, by decide, by decide, for_range (lo := 0) (n := 3) (fun i σ H' => ∃ v6 : Option V, σ = [some (.str z), some (.bl true), v2, v3, some (.ref D), some (.ref D2), v6, none, none] ∧ Same H H') ⟨_, rfl, Same.refl _⟩ ?_ (fun σ H' ⟨v6, e, s'⟩ => by rw [e]; exact k H' v6 s')⟩
  rintro i σ H1 hi ⟨v6, rfl, s1⟩
  obtain ⟨x, ex⟩ : ∃ x, ws[i]? = some x := ⟨_, List.getElem?_eq_getElem (by omega)⟩
  obtain ⟨tx, etx, px⟩ := pts_get pws ex
  refine ⟨7, rfl, by decide, by decide, fun L hL => lc_range (lo := 0) (n := 7) (fun j H' => Same H1 H' ∧ H' L = some (.lst [])) ⟨same_upd (Same.refl H1) hL, upd_same⟩ ?_ ?_⟩
  · rintro j H2 hj ⟨s2, eL⟩
    obtain ⟨y, ey⟩ : ∃ y, vs[j]? = some y := ⟨_, List.getElem?_eq_getElem (by omega)⟩
    obtain ⟨ty, ety, py⟩ := pts_get pvs ey
    have s02 := s1.trans s2
    have X1 := PtAt.kpo (KpO.same s02) _ px
    have Y1 := PtAt.kpo (KpO.same s02) _ py
    obtain ⟨d1, d2, d3⟩ := eqT_grid z hz etx ety
    have ei : (0 : Int) + ((i : Nat) : Int) = ((i : Nat) : Int) := Int.zero_add _
    have ej : (0 : Int) + ((j : Nat) : Int) = ((j : Nat) : Int) := Int.zero_add _
    have hx : atI ws (0 + (i : Int)) = some x := by rw [ei]; exact atI_nat ex
    have hy : atI vs (0 + (j : Int)) = some y := by rw [ej]; exact atI_nat ey
    have dij : decide (V.int (0 + (i : Int)) = V.int (0 + (j : Int))) = decide (i = j) := decide_eq_decide.mpr ⟨fun h => by have := V.int.inj h; omega, fun h => by rw [h]⟩
    refine ⟨rfl, ?_⟩
    refine ⟨_, rfl, _, rfl, _, _, _, _, rfl, rfl, SqL.of (s02 _ _ hD2), hx, _, rfl, _, rfl, _, _, _, _, rfl, rfl, SqL.of (s02 _ _ hD), hy, eq3 TR.T5 NR.n5 X1 Y1 d2 d3 ?_⟩
    refine ⟨_, rfl, _, rfl, rfl, rfl, _, rfl, ?_⟩
    rw [d1, dij, decide_eq_true rfl]
    refine iteF ?_
    refine ⟨_, rfl, _, rfl, _, _, _, _, rfl, rfl, SqL.of (s02 _ _ hD2), hx, _, rfl, _, rfl, _, _, _, _, rfl, rfl, SqL.of (s02 _ _ hD), hy, ne3 TR.T5 NR.n5 X1 Y1 d2 d3 ?_⟩
    refine ⟨_, rfl, _, rfl, rfl, rfl, _, rfl, ?_⟩
    rw [d1, dij, decide_eq_true rfl]
    refine iteF ?_
    exact ⟨s2, eL⟩
  · rintro H2 ⟨s2, eL⟩
    refine ⟨by show 0 ≤ sizeLine; omega, fun e he => ?_⟩
    have s3 : Same H2 (upd H2 e (.lst [])) := same_upd (Same.refl H2) he
    refine ⟨L, e, [], rfl, rfl, s3 _ _ eL, upd_same, _, rfl, ?_⟩
    refine iteF ?_
    exact ⟨_, rfl, s1.trans (s2.trans s3)⟩
theorem nr13 (TR : TxtG P w K mg base C CI CP a) (NR : TxtNR P w K mg base C CP a d) (FA : TxtA K mg CP CS fA fdA) (TB : TabB base mg c Pt) (hmT : (Pt, qNR) ∈ T) (hu : ∀ p ∈ T, p.1 = Pt → p.2 = qNR) (hr : Room 7 (A.deeper (PyProof.Rows.envOfC "_law_names_right" (defScope sNamesRight) s.heap.objs.size f (.ref c)))) (gR : mg "range" = none) :
    ∃ t : TS, PS (cxOf CX0 P w K mg base NNR "_law_names_right" (defScope sNamesRight) f (.ref c) A outer s H0 E).nox (stNR 12) t ∧ ∀ (Z : Ends) (H : Hp) (z : Str) (σ : L2.St), σ[0]? = some (some (.str z)) → nameS z = true → PyData.strOk z = true → (∀ H', Same H H' → Z.rt (.bl true) H') → t Z σ H := by
  have hr5 : Room 5 _ := hr.mono (by decide)
  have hr4 : Room 4 _ := hr.mono (by decide)
  have hr3 : Room 3 _ := hr.mono (by decide)
  have hr2 : Room 2 _ := hr.mono (by decide)
  have hr1 : Room 1 _ := hr.mono (by decide)
  have hu64 : (A.deeper (PyProof.Rows.envOfC "_law_names_right" (defScope sNamesRight) s.heap.objs.size f (.ref c))).units + 64 < cLine := by have := hr.un; omega
  have hu0 : (A.deeper (PyProof.Rows.envOfC "_law_names_right" (defScope sNamesRight) s.heap.objs.size f (.ref c))).units < cLine := by omega
  have big : (1000000 : Nat) < sizeLine := by decide
  refine ⟨_, (ps_ret (pe_and (pe_cmpR op_eq (pe_fld (pe_mkLK (E := E0) TR.ML NR.GLK hr5 rfl TR.gL passL (pk_cons (pv 0) pk_nil)) rfl) (pe_op op_add_str (pv 0) pe_str) (nomark _)) (pe_and (pe_cmpR (op_eqO (E := E0) NR.OL NR.EL hr1 pass0) (pe_mkL (E := E0) TR.ML TR.GL hr5 rfl TR.gL passL (pa_cons (pv 0) pa_nil)) (pe_mkL (E := E0) TR.ML TR.GL hr5 rfl TR.gL passL (pa_cons (pv 0) pa_nil)) (nomark _)) (pe_one (pe_cmpR (op_neO (E := E0) NR.OL NR.NL NR.EL hr3 pass0) (pe_mkL (E := E0) TR.ML TR.GL hr5 rfl TR.gL passL (pa_cons (pv 0) pa_nil)) (pe_mkT (E := E0) TR.MT TR.GT hr5 rfl TR.gT passL (pa_cons (pv 0) pa_nil)) (nomark _)))))), ?_⟩
  rintro Z H z σ h0 hz ho k
  have lz : z.length ≤ 20 := nameS_len hz
  have hlz : z.length + ("()" : Str).length ≤ 100 := by
    have q : ("()" : Str).length = 2 := by decide +kernel
    rw [q]
    omega
  have kB : mkLB z [] = true := by
    unfold mkLB
    rw [hz, ho]
    decide +kernel
  have tB : mkTB z [] = true := by
    unfold mkTB
    rw [hz, ho]
    decide +kernel
  have hmk : ∀ {H : Hp} {Q : VK}, (∀ H' x, Same H H' → PtAt C H' (.ref x) (.nd true z []) → Q (.ref x) H') → MkL K C CP [.str z] H Q E0 := fun h => mkL_c [] kB True.intro fun H' x s _ p => h H' x s p
  have sd : said (.nd true z []) = z ++ "()" := by
    rw [said_nd]
    show z ++ "(" ++ Txt.join ", " [] ++ ")" = _
    rw [str_app_assoc, str_app_assoc]
    exact congrArg (z ++ ·) (by decide +kernel)
  refine ⟨_, h0, .str z, rfl, val_nm hz ho, ?_⟩
  unfold LikeRes
  rw [due_name, show (lkK (.str z)).opt = none by unfold lkK; rw [show nameV (.str z) = true from hz]; rfl]
  intro H1 x1 z' ez s1 n1 p1 _
  cases ez
  have p1 : PtAt C H1 (.ref x1) (.nd true z []) := p1
  obtain ⟨b1, A1, dx, fs, e1, g2, g3, g4⟩ := txt_of p1 rfl
  cases e1
  refine ⟨x1, A1, dx, fs, _, rfl, g2, (TR.T5.own _ g3).cl, TR.N5.na _ g3 _ (by decide +kernel), g4, ?_⟩
  refine ⟨_, h0, _, _, rfl, rfl, Nat.le_trans hlz (by omega), rfl, _, rfl, ?_⟩
  rw [show decide (V.str (nmT (.nd true z [])) = V.str (z ++ "()")) = true from decide_eq_true (congrArg V.str sd)]
  refine iteT ?_
  refine ⟨_, h0, hmk fun H2 x2 s2 p2 => ?_⟩
  refine ⟨_, h0, hmk fun H3 x3 s3 p3 => ?_⟩
  refine eq_pt (j := 3) TR.T5 NR.n5 (PtAt.kpo (KpO.same s3) _ p2) p3 rfl (by decide) ?_
  refine ⟨_, rfl, ?_⟩
  rw [show eqT (.nd true z []) (.nd true z []) = true from by unfold eqT; rw [decide_eq_true rfl, decide_eq_true rfl]; rfl]
  refine iteT ?_
  refine ⟨_, h0, hmk fun H4 x4 s4 p4 => ?_⟩
  refine ⟨_, h0, mkT_c [] tB True.intro fun H5 x5 s5 n5 p5 _ => ?_⟩
  refine ne_pt (j := 3) TR.T5 NR.n5 (PtAt.kpo (KpO.same s5) _ p4) p5 rfl (by decide) ?_
  rw [show eqT (.nd true z []) (.nd false z []) = false from by unfold eqT; rw [decide_eq_false (show ¬ clsN (.nd true z []) = clsN (.nd false z []) from (by decide : ¬ 3 = 4))]; rfl]
  exact k H5 (s1.trans (s2.trans (s3.trans (s4.trans s5))))
end
section
variable {P : Program} {w : World} {K : PySem.W.Frag} {mg : Str → Option Value} {base : Heap}
def spNames (K : PySem.W.Frag) (T : List (Addr × Str)) : Sp := fun vs H Q _ => ∃ n, vs = [n] ∧ ValB K H n ∧ n ≠ .str "other_name" ∧ Tabs T H ∧ ∀ H', ExtN H H' → Tabs T H' → Q (.bl true) H'
theorem ok_namesRight {C : Cl5} {CI CP CS fA f c Pt : Addr} {fd fdA : FuncData} {a : AdG} {d : AdN} {T : List (Addr × Str)} (F : FunC K "_law_names_right" "_law_names_right" sNamesRight f fd c) (TR : TxtG P w K mg base C CI CP a) (NR : TxtNR P w K mg base C CP a d) (no : NoL K C)
    (FA : TxtA K mg CP CS fA fdA) (TB : TabB base mg c Pt) (hmT : (Pt, qNR) ∈ T) (hu : ∀ p ∈ T, p.1 = Pt → p.2 = qNR) (gR : mg "range" = none) : FnOk P w K mg base CX0 8 f fd ["_law_word"] (spNames K T) := by
  refine F.ok scNR (fun vs H Q E h => ?_) (fun A outer s H vs Q E hr h => ?_)
  · obtain ⟨n, rfl, _⟩ := h
    rfl
  · obtain ⟨n, rfl, hn, ne, tb, k⟩ := h
    obtain ⟨t1, p1, r1⟩ := nr1 (P := P) (w := w) (mg := mg) (base := base) (C := C) (CI := CI) (CP := CP) (CS := CS) (f := f) (c := c) (A := A) (outer := outer) (s := s) (H0 := H) (E := E)  TR NR FA TB hmT hu hr gR
    obtain ⟨t2, p2, r2⟩ := nr2 (P := P) (w := w) (mg := mg) (base := base) (C := C) (CI := CI) (CP := CP) (CS := CS) (f := f) (c := c) (A := A) (outer := outer) (s := s) (H0 := H) (E := E)  TR NR FA TB hmT hu hr gR
    obtain ⟨t3, p3, r3⟩ := nr3 (P := P) (w := w) (mg := mg) (base := base) (C := C) (CI := CI) (CP := CP) (CS := CS) (f := f) (c := c) (A := A) (outer := outer) (s := s) (H0 := H) (E := E)  TR NR FA TB hmT hu hr gR
    obtain ⟨t4, p4, r4⟩ := nr4 (P := P) (w := w) (mg := mg) (base := base) (C := C) (CI := CI) (CP := CP) (CS := CS) (f := f) (c := c) (A := A) (outer := outer) (s := s) (H0 := H) (E := E)  TR NR FA TB hmT hu hr gR
    obtain ⟨t5, p5, r5⟩ := nr5 (P := P) (w := w) (mg := mg) (base := base) (C := C) (CI := CI) (CP := CP) (CS := CS) (f := f) (c := c) (A := A) (outer := outer) (s := s) (H0 := H) (E := E)  TR NR FA TB hmT hu hr gR
    obtain ⟨t6, p6, r6⟩ := nr6 (P := P) (w := w) (mg := mg) (base := base) (C := C) (CI := CI) (CP := CP) (CS := CS) (f := f) (c := c) (A := A) (outer := outer) (s := s) (H0 := H) (E := E)  TR NR FA TB hmT hu hr gR
    obtain ⟨t7, p7, r7⟩ := nr7 (P := P) (w := w) (mg := mg) (base := base) (C := C) (CI := CI) (CP := CP) (CS := CS) (f := f) (c := c) (A := A) (outer := outer) (s := s) (H0 := H) (E := E)  TR NR FA TB hmT hu hr gR
    obtain ⟨t8, p8, r8⟩ := nr8 (P := P) (w := w) (mg := mg) (base := base) (C := C) (CI := CI) (CP := CP) (CS := CS) (f := f) (c := c) (A := A) (outer := outer) (s := s) (H0 := H) (E := E)  TR NR FA TB hmT hu hr gR
    obtain ⟨t9, p9, r9⟩ := nr9 (P := P) (w := w) (mg := mg) (base := base) (C := C) (CI := CI) (CP := CP) (CS := CS) (f := f) (c := c) (A := A) (outer := outer) (s := s) (H0 := H) (E := E)  TR NR FA TB hmT hu hr gR
    obtain ⟨t10, p10, r10⟩ := nr10 (P := P) (w := w) (mg := mg) (base := base) (C := C) (CI := CI) (CP := CP) (CS := CS) (f := f) (c := c) (A := A) (outer := outer) (s := s) (H0 := H) (E := E)  TR NR FA TB hmT hu hr gR
    obtain ⟨t11, p11, r11⟩ := nr11 (P := P) (w := w) (mg := mg) (base := base) (C := C) (CI := CI) (CP := CP) (CS := CS) (f := f) (c := c) (A := A) (outer := outer) (s := s) (H0 := H) (E := E)  TR NR FA TB hmT hu hr gR
    obtain ⟨t12, p12, r12⟩ := nr12 (P := P) (w := w) (mg := mg) (base := base) (C := C) (CI := CI) (CP := CP) (CS := CS) (f := f) (c := c) (A := A) (outer := outer) (s := s) (H0 := H) (E := E)  TR NR FA TB hmT hu hr gR
    obtain ⟨t13, p13, r13⟩ := nr13 (P := P) (w := w) (mg := mg) (base := base) (C := C) (CI := CI) (CP := CP) (CS := CS) (f := f) (c := c) (A := A) (outer := outer) (s := s) (H0 := H) (E := E)  TR NR FA TB hmT hu hr gR
    refine ⟨_, pss_cons p1 (pss_cons p2 (pss_cons p3 (pss_cons p4 (pss_cons p5 (pss_cons p6 (pss_cons p7 (pss_cons p8 (pss_cons p9 (pss_cons p10 (pss_cons p11 (pss_cons p12 (pss_one p13)))))))))))), ?_⟩
    refine r1 _ H n hn.val fun H1 s1 => ?_
    refine r2 _ H1 n fun H2 p s2 hp => ?_
    have e2 : ExtN H H2 := ExtN.of (s1.trans s2)
    refine r3 _ H2 n p (hn.ext e2) ((tb.ext s1).ext s2) fun H3 L3 q1 q2 e3 tb3 g1 g2 hL3 => ?_
    have e03 := e2.trans e3
    refine r4 _ H3 n p (hn.ext e03) tb3 L3 _ hL3 (by show 2 ≤ 10; decide) fun H4 L4 q3 q4 e4 tb4 g3 g4 hL4 => ?_
    have e04 := e03.trans e4
    refine r5 _ H4 n p (hn.ext e04) tb4 L4 _ hL4 (by show 4 ≤ 10; decide) fun H5 L5 q5 q6 e5 tb5 g5 g6 hL5 => ?_
    have e05 := e04.trans e5
    refine r6 _ H5 n p (hn.ext e05) tb5 L5 _ hL5 (by show 6 ≤ 10; decide) fun H6 L6 q7 q8 e6 tb6 g7 g8 hL6 => ?_
    have e06 := e05.trans e6
    have e26 : ExtN H2 H6 := e3.trans (e4.trans (e5.trans e6))
    refine r7 _ H6 n p L6 q1 q2 q3 q4 q5 q6 q7 q8 (e26 _ _ hp fun _ => nofun) (fun q hq => ?_) (fun q hq => ?_) hL6 fun H7 s7 => ?_
    · simp only [List.mem_cons, List.not_mem_nil, or_false] at hq
      rcases hq with rfl | rfl | rfl | rfl | rfl | rfl
      · exact (e4.trans (e5.trans e6)) _ _ g1 fun _ => nofun
      · exact (e4.trans (e5.trans e6)) _ _ g2 fun _ => nofun
      · exact (e5.trans e6) _ _ g3 fun _ => nofun
      · exact (e5.trans e6) _ _ g4 fun _ => nofun
      · exact e6 _ _ g5 fun _ => nofun
      · exact e6 _ _ g6 fun _ => nofun
    · simp only [List.mem_cons, List.not_mem_nil, or_false] at hq
      rcases hq with rfl | rfl
      · exact g7
      · exact g8
    have e07 := e06.trans (ExtN.of s7)
    have tb7 := tb6.ext s7
    refine r8 _ H7 n p L6 no (hn.ext e07) tb7 (fun H8 _ e8 tb8 => k H8 (e07.trans e8) tb8) fun hg => ?_
    obtain ⟨z, rfl⟩ : ∃ z, n = .str z := by
      cases n with
      | str z => exact ⟨z, rfl⟩
      | _ => cases hg
    have hz : nameS z = true := hg
    have ho : PyData.strOk z = true := by
      rcases hn with ⟨z', e, _, o⟩ | ⟨h, _⟩
      · cases e; exact o
      · exact absurd rfl (h z)
    have hne : z ≠ "other_name" := fun q => ne (by rw [q])
    rw [hg]
    refine r9 _ H7 z _ _ hz ho fun H9 D x0 x1 x2 x3 x4 x5 s9 hD pD => ?_
    refine r10 _ H9 z _ _ D x0 x1 x2 x3 x4 x5 ho hD pD fun H10 s10 => ?_
    refine r11 _ H10 z _ _ _ hz ho fun H11 D2 y0 y1 y2 s11 hD2 pD2 => ?_
    have s911 := s10.trans s11
    refine r12 _ H11 z _ _ D D2 _ _ hne (s911 _ _ hD) (PtsAt.kpo (KpO.same s911) _ pD) hD2 pD2 fun H12 v6 s12 => ?_
    refine r13 _ H12 z _ rfl hz ho fun H13 s13 => ?_
    have s713 := s9.trans (s911.trans (s12.trans s13))
    exact k H13 (e07.trans (ExtN.of s713)) (tb7.ext s713)
end
end K3

namespace K3
open PySem PySem.Spec PyProof.Rows PySem.SeqAt L2 E0
open LamX (ExtN Tabs TabS TabB LamS lamS_by lamSB)
def DD (m lg : Addr) (H H' : Hp) : Prop := ∀ b o, b ≠ m → b ≠ lg → H b = some o → H' b = some o
theorem DD.refl {m lg : Addr} (H : Hp) : DD m lg H H := fun _ _ _ _ e => e
theorem DD.trans {m lg : Addr} {H H1 H2 : Hp} (a : DD m lg H H1) (b : DD m lg H1 H2) : DD m lg H H2 := fun c o h1 h2 e => b c o h1 h2 (a c o h1 h2 e)
theorem DD.same {m lg : Addr} {H H' : Hp} (e : Same H H') : DD m lg H H' := fun b o _ _ q => e b o q
theorem MA.noti {m lc lg : Addr} {n : Int} {H : Hp} (M : MA m lc lg n H) {b : Addr} {o : HO} (h : tiO o = true) (e : H b = some o) : b ≠ m ∧ b ≠ lg := by
  obtain ⟨hm, _, _, ⟨gs, hg, _⟩, _⟩ := M
  exact ⟨fun q => (by rw [q, hm] at e; cases e; cases h), fun q => (by rw [q, hg] at e; cases e; cases h)⟩
theorem DD.kpo {m lc lg : Addr} {n : Int} {H H' : Hp} (e : DD m lg H H') (M : MA m lc lg n H) : KpO H H' := fun b o h q => let z := M.noti h q; e b o z.1 z.2 q
theorem DD.free {m lc lg : Addr} {n : Int} {H H' : Hp} (e : DD m lg H H') (M : MA m lc lg n H') {p : Addr} (h : H' p = none) : H p = none := by
  obtain ⟨hm, _, _, ⟨gs, hg, _⟩, _⟩ := M
  cases q : H p with
  | none => rfl
  | some o =>
    have := e p o (fun z => by rw [z, hm] at h; cases h) (fun z => by rw [z, hg] at h; cases h) q
    rw [h] at this
    cases this
theorem MA.nm {m lc lg : Addr} {n : Int} {H : Hp} (M : MA m lc lg n H) {p : Addr} (h : H p = none) : p ≠ m ∧ p ≠ lg := by
  obtain ⟨hm, _, _, ⟨gs, hg, _⟩, _⟩ := M
  exact ⟨fun z => (by rw [z, hm] at h; cases h), fun z => (by rw [z, hg] at h; cases h)⟩
def RR (m lg S W : Addr) (H H' : Hp) : Prop := ∀ b o, b ≠ m → b ≠ lg → b ≠ S → b ≠ W → H b = some o → H' b = some o
theorem RR.trans {m lg S W : Addr} {H H1 H2 : Hp} (a : RR m lg S W H H1) (b : RR m lg S W H1 H2) : RR m lg S W H H2 := fun c o h1 h2 h3 h4 e => b c o h1 h2 h3 h4 (a c o h1 h2 h3 h4 e)
theorem RR.same {m lg S W : Addr} {H H' : Hp} (e : Same H H') : RR m lg S W H H' := fun b o _ _ _ _ q => e b o q
theorem RR.dd {m lg S W : Addr} {H H' : Hp} (e : DD m lg H H') : RR m lg S W H H' := fun b o h1 h2 _ _ q => e b o h1 h2 q
theorem RR.s {m lg S W : Addr} {H : Hp} {u : HO} : RR m lg S W H (upd H S u) := fun b o _ _ h _ q => by rw [upd_ne h]; exact q
theorem RR.w {m lg S W : Addr} {H : Hp} {u : HO} : RR m lg S W H (upd H W u) := fun b o _ _ _ h q => by rw [upd_ne h]; exact q
theorem FD.rr {m lg S W : Addr} {H H1 H2 : Hp} (a : FD m lg H H1) (b : RR m lg S W H1 H2) (nS : H S = none) (nW : H W = none) : FD m lg H H2 := fun c o h1 h2 e n =>
  b c o h1 h2 (fun z => by rw [z, nS] at e; cases e) (fun z => by rw [z, nW] at e; cases e) (a c o h1 h2 e n)
theorem RR.kpN {m lg S W : Addr} {N : Addr → Prop} {H H' : Hp} (z : ∀ b, N b → b ≠ m ∧ b ≠ lg ∧ b ≠ S ∧ b ≠ W) (e : RR m lg S W H H') : KpN N H H' := fun b o n q _ => let y := z b n; e b o y.1 y.2.1 y.2.2.1 y.2.2.2 q
theorem RR.kpo {m lc lg S W : Addr} {n : Int} {H H' : Hp} {xs ys : List V} (e : RR m lg S W H H') (M : MA m lc lg n H) (hS : H S = some (.lst xs)) (hW : H W = some (.lst ys)) : KpO H H' := fun b o h q => by
  have z := M.noti h q
  refine e b o z.1 z.2 (fun y => ?_) (fun y => ?_) q
  · rw [y, hS] at q; cases q; cases h
  · rw [y, hW] at q; cases q; cases h
theorem RR.tabs {T : List (Addr × Str)} {m lc lg S W : Addr} {n : Int} {H H' : Hp} {xs ys : List V} (t : Tabs T H) (e : RR m lg S W H H') (M : MA m lc lg n H) (hS : H S = some (.lst xs)) (hW : H W = some (.lst ys)) : Tabs T H' := fun p hp => by
  have go : ∀ b o, H b = some o → (∀ xs, o ≠ .lst xs) → (∀ kvs, o ≠ .dK kvs) → H' b = some o := fun b o q n1 n2 => by
    obtain ⟨hm, _, _, ⟨gs, hg, _⟩, _⟩ := M
    exact e b o (fun z => (by rw [z, hm] at q; exact n2 _ (Option.some.inj q).symm)) (fun z => (by rw [z, hg] at q; exact n1 _ (Option.some.inj q).symm)) (fun z => (by rw [z, hS] at q; exact n1 _ (Option.some.inj q).symm)) (fun z => (by rw [z, hW] at q; exact n1 _ (Option.some.inj q).symm)) q
  obtain ⟨ps, a, b, c⟩ := t p hp
  refine ⟨ps, go _ _ a (fun _ => nofun) (fun _ => nofun), b, fun pos cv hcv => ?_⟩
  obtain ⟨c0, e1, e2⟩ := c pos cv hcv
  refine ⟨c0, e1, go _ _ e2 (fun xs q => ?_) (fun kvs q => ?_)⟩
  · unfold LamX.CodeO at q
    cases q
  · unfold LamX.CodeO at q
    cases q
theorem MA.offL {m lc lg D : Addr} {n : Int} {H : Hp} {o : HO} (M : MA m lc lg n H) (a : D ≠ m) (b : D ≠ lg) (c : D ≠ lc) : MA m lc lg n (upd H D o) := by
  obtain ⟨hm, ne, ⟨cs, hc, c1, c2⟩, ⟨gs, hg, g1⟩, n0⟩ := M
  exact ⟨by rw [upd_ne a.symm]; exact hm, ne, ⟨cs, by rw [upd_ne c.symm]; exact hc, c1, c2⟩, ⟨gs, by rw [upd_ne b.symm]; exact hg, g1⟩, n0⟩
theorem MA.nl {m lc lg : Addr} {n : Int} {H : Hp} (M : MA m lc lg n H) {p : Addr} (h : H p = none) : p ≠ m ∧ p ≠ lg ∧ p ≠ lc := by
  have z := M.nm h
  obtain ⟨_, _, ⟨cs, hc, _⟩, _⟩ := M
  exact ⟨z.1, z.2, fun y => by rw [y, hc] at h; cases h⟩
/-- a value among what is asked for, in a form that stands -/
def PIN (K : PySem.W.Frag) (N : Addr → Prop) (C : Cl5) (H : Hp) (v : V) : PI → Prop
  | .good t => PtAt C H v t ∧ okLk t = true ∧ rowB t ≤ 1000 ∧ okTx t
  | .bad => BadN K N C H v
theorem PIN.kp {K : PySem.W.Frag} {N : Addr → Prop} {C : Cl5} {H H' : Hp} {v : V} (kN : KpN N H H') (kO : KpO H H') : ∀ {i : PI}, PIN K N C H v i → PIN K N C H' v i
  | .good t, h => ⟨PtAt.kpo kO t h.1, h.2⟩
  | .bad, h => BadN.kp kN kO h
theorem PIN.at {K : PySem.W.Frag} {N : Addr → Prop} {C : Cl5} {H : Hp} {v : V} : ∀ {i : PI}, PIN K N C H v i → LIAt K C H v i
  | .good _, h => h
  | .bad, h => h.bad
/-- the pairs that were drawn, the odd values, and what is known of them -/
structure StT (K : PySem.W.Frag) (N : Addr → Prop) (C : Cl5) (P O : Addr) (as : List Addr) (vs : List V) (ts : List Tr) (ovs : List V) (H : Hp) : Prop where
  hP : H P = some (.lst (as.map V.ref))
  prs : Paired (GdAt C H) as ts
  pt : PtsAt C H vs ts
  hO : H O = some (.lst ovs)
  bad : ∀ v ∈ ovs, BadN K N C H v
theorem StT.rr {K : PySem.W.Frag} {N : Addr → Prop} {C : Cl5} {P O m lg S W : Addr} {as : List Addr} {vs ovs : List V} {ts : List Tr} {H H' : Hp} (s : StT K N C P O as vs ts ovs H) (r : RR m lg S W H H') (kN : KpN N H H') (kO : KpO H H')
    (nP : P ≠ m ∧ P ≠ lg ∧ P ≠ S ∧ P ≠ W) (nO : O ≠ m ∧ O ≠ lg ∧ O ≠ S ∧ O ≠ W) : StT K N C P O as vs ts ovs H' :=
  ⟨r _ _ nP.1 nP.2.1 nP.2.2.1 nP.2.2.2 s.hP, Paired.mapP s.prs fun a b q => q.kpo kO, PtsAt.kpo kO _ s.pt, r _ _ nO.1 nO.2.1 nO.2.2.1 nO.2.2.2 s.hO, fun v hv => (s.bad v hv).kp kN kO⟩
theorem firstBad_snoc : ∀ (l : List PI) (n : Nat) (p : PI), firstBad n (l ++ [p]) = match firstBad n l with
    | some k => some k
    | none => (match p with | .bad => some (n + l.length) | .good _ => none)
  | [], n, .bad => rfl
  | [], n, .good _ => rfl
  | .bad :: l, n, p => rfl
  | .good t :: l, n, p => by
    have h := firstBad_snoc l (n + 1) p
    show firstBad (n + 1) (l ++ [p]) = _
    rw [h]
    show _ = match firstBad (n + 1) l with | some k => some k | none => _
    cases firstBad (n + 1) l with
    | some k => rfl
    | none =>
      cases p with
      | good _ => rfl
      | bad => show some (n + 1 + l.length) = some (n + (l.length + 1)); congr 1; omega
theorem firstBad_no : ∀ {l : List PI} {n : Nat}, firstBad n l = none → ∀ i : Nat, l[i]? ≠ some .bad
  | [], _, _, i, h => by simp at h
  | .bad :: l, _, h, _, _ => nomatch h
  | .good t :: l, n, h, 0, h2 => by simp at h2
  | .good t :: l, n, h, i + 1, h2 => firstBad_no (l := l) (n := n + 1) h i h2
def lawK (nm : Bool) (pis : List PI) : DK := if nm = false then .form else match firstBad 0 pis with
  | some j => .at j
  | none => .ok
def PI.isB : PI → Bool
  | .bad => true
  | .good _ => false
theorem PI.isB_iff {p : PI} : p.isB = true ↔ p = .bad := by cases p <;> simp [PI.isB]
theorem lawK_step {nm : Bool} {pis : List PI} {p : PI} {i : Nat} (hi : pis.length = i) : lawK nm (pis ++ [p]) = if ((lawK nm pis).isOk && p.isB) = true then .at i else lawK nm pis := by
  unfold lawK
  cases nm with
  | false => rfl
  | true =>
    rw [firstBad_snoc]
    cases firstBad 0 pis with
    | some k => rfl
    | none =>
      cases p with
      | good t => rfl
      | bad => simp [DK.isOk, PI.isB, hi]
/-- which spots were made wrong -/
structure WR (vs : List V) (ts : List Tr) (xs : List V) (pis : List PI) (ws : List Nat) : Prop where
  lv : vs.length = ts.length
  lx : xs.length = ts.length
  lp : pis.length = ts.length
  bad : ∀ i ∈ ws, pis[i]? = some .bad ∧ i < ts.length
  good : ∀ i, i ∉ ws → pis[i]? = (ts[i]?).map PI.good ∧ xs[i]? = vs[i]?
theorem WR.start {vs : List V} {ts : List Tr} (h : vs.length = ts.length) : WR vs ts vs (ts.map PI.good) [] := ⟨h, h, by rw [List.length_map], fun i hi => (nomatch hi), fun i _ => ⟨by rw [List.getElem?_map], rfl⟩⟩
theorem WR.step {vs : List V} {ts : List Tr} {xs : List V} {pis : List PI} {ws : List Nat} (w : WR vs ts xs pis ws) {j : Nat} (hj : j < ts.length) (v : V) : WR vs ts (xs.set j v) (pis.set j .bad) (ws ++ [j]) := by
  refine ⟨w.lv, by rw [List.length_set]; exact w.lx, by rw [List.length_set]; exact w.lp, fun i hi => ?_, fun i hi => ?_⟩
  · by_cases e : i = j
    · subst e
      exact ⟨List.getElem?_set_self (by rw [w.lp]; exact hj), hj⟩
    · rcases List.mem_append.mp hi with q | q
      · rw [List.getElem?_set_ne (Ne.symm e)]
        exact w.bad i q
      · exact absurd (List.mem_singleton.mp q) e
  · have h1 : i ∉ ws := fun q => hi (List.mem_append_left _ q)
    have h2 : i ≠ j := fun q => hi (List.mem_append_right _ (by rw [q]; exact List.mem_singleton.mpr rfl))
    rw [List.getElem?_set_ne (Ne.symm h2), List.getElem?_set_ne (Ne.symm h2)]
    exact w.good i h1
theorem WR.clean {vs : List V} {ts : List Tr} {xs : List V} {pis : List PI} {ws : List Nat} (w : WR vs ts xs pis ws) (h : firstBad 0 pis = none) : pis = ts.map PI.good ∧ xs = vs := by
  have nb := firstBad_no h
  have nw : ∀ i, i ∉ ws := fun i hi => nb i (w.bad i hi).1
  refine ⟨List.ext_getElem? fun i => ?_, List.ext_getElem? fun i => (w.good i (nw i)).2⟩
  rw [(w.good i (nw i)).1, List.getElem?_map]
theorem WR.isBad {vs : List V} {ts : List Tr} {xs : List V} {pis : List PI} {ws : List Nat} (w : WR vs ts xs pis ws) {i : Nat} {p : PI} (h : pis[i]? = some p) : (p = .bad) ↔ i ∈ ws := by
  constructor
  · intro e
    by_cases q : i ∈ ws
    · exact q
    · have := (w.good i q).1
      rw [h, e] at this
      cases z : ts[i]? with
      | none => rw [z] at this; cases this
      | some t => rw [z] at this; cases this
  · intro q
    have := (w.bad i q).1
    rw [h] at this
    exact Option.some.inj this
theorem inV_mem (i : Nat) (ws : List Nat) : inV (.int (i : Int)) (ws.map fun k => V.int ((k : Nat) : Int)) = decide (i ∈ ws) := by
  unfold inV
  rw [Bool.eq_iff_iff, List.any_eq_true, decide_eq_true_eq]
  constructor
  · rintro ⟨x, hx, e⟩
    obtain ⟨k, hk, rfl⟩ := List.mem_map.mp hx
    have e : (((k : Nat) : Int) == (i : Int)) = true := e
    have : k = i := by have := beq_iff_eq.mp e; omega
    rw [← this]; exact hk
  · intro h
    exact ⟨_, List.mem_map.mpr ⟨i, h, rfl⟩, by show (((i : Nat) : Int) == (i : Int)) = true; simp⟩
/-- the good parts -/
theorem goods_ok : ∀ t ∈ goodsT, okLk t = true ∧ rowB t ≤ 1000 ∧ okTx t := okA_all (f := okLk) (by decide +kernel)
def gB (t : Tr) : Bool := decide (size t ≤ 8) && decide (levels t ≤ 3) && decide ((said t).length ≤ 100)
theorem goods_b : ∀ t ∈ goodsT, size t ≤ 8 ∧ levels t ≤ 3 ∧ (said t).length ≤ 100 := fun t h => by
  have g : (goodsT.all gB) = true := by decide +kernel
  have q := List.all_eq_true.mp g t h
  unfold gB at q
  simp only [Bool.and_eq_true, decide_eq_true_eq] at q
  exact ⟨q.1.1, q.1.2, q.2⟩
end K3

namespace K3
open PySem PySem.Spec PyProof.Rows PySem.SeqAt L2 E0
open LamX (ExtN Tabs TabS TabB LamS lamS_by lamSB)
structure AdK where
  (fD fG fO fN fDb : Addr)
  (fdD fdG fdO fdN fdDb : FuncData)
structure TxtLK (P : Program) (w : World) (K : PySem.W.Frag) (mg : Str → Option Value) (base : Heap) (C : Cl5) (CP : Addr) (e : AdK) : Prop where
  GD : FnOk P w K mg base CX0 2 e.fD e.fdD ["_law_m", "_law_top"] spDraw
  AD : DefA K mg "_law_draw" ["_law_m", "_law_top"] e.fD e.fdD
  GG : FnOk P w K mg base CX0 6 e.fG e.fdG [] (spGoods C)
  AG : DefA K mg "_law_goods" [] e.fG e.fdG
  GO : FnOk P w K mg base CX0 6 e.fO e.fdO [] (spOdds K C)
  AO : DefA K mg "_law_odds" [] e.fO e.fdO
  GN : FnOk P w K mg base (L2.CX P w) 6 e.fN e.fdN ["_law_word", "_law_r"] (spNew K C CP)
  AN : DefA K mg "_law_new" ["_law_word", "_law_r"] e.fN e.fdN
  GDb : FnOk P w K mg base CX0 1 e.fDb e.fdDb ["_law_kind_of"] spDoubled
  ADb : DefA K mg "_law_doubled" ["_law_kind_of"] e.fDb e.fdDb
def NLK : List Str := ["_law_m", "_law_word", "_law_pairs", "_law_some", "_law_odds_here", "_law_n", "_law_wrong", "_law_again", "_law_spot", "_law_due", "_law_one", "_law_said", "_law_odd", "_law_pair"]
theorem scLK : FnScope NLK ["_law_m", "_law_word"] (defScope sLikeRight) := ⟨rfl, rfl, rfl, by decide +kernel, rfl, by decide +kernel, by decide +kernel⟩
abbrev qLK : Str := "_law_like_right.<locals>.<lambda>"
def stLK (i : Nat) : Stmt := (defBody sLikeRight).getD i (.Pass ⟨0, 0, 0, 0⟩)
theorem at_last (xs : List V) (x : V) : atI (xs ++ [x]) (-1) = some x := by
  unfold atI ixN
  rw [if_neg (by decide), List.length_append]
  rw [if_pos (show -(((xs.length + [x].length : Nat)) : Int) ≤ -1 by show -((xs.length + 1 : Nat) : Int) ≤ -1; omega)]
  show (xs ++ [x])[((-1 : Int) + ((xs.length + 1 : Nat) : Int)).toNat]? = some x
  rw [show ((-1 : Int) + ((xs.length + 1 : Nat) : Int)).toNat = xs.length by omega]
  simp
section
variable {P : Program} {w : World} {K : PySem.W.Frag} {mg : Str → Option Value} {base : Heap} {C : Cl5} {CI CP f c : Addr} {a : AdG} {d : AdN} {e : AdK} {A : Around} {outer : List Env} {s : Shared} {H0 : Hp} {E : XK}
theorem lk0 (TR : TxtG P w K mg base C CI CP a) (NR : TxtNR P w K mg base C CP a d) (LK : TxtLK P w K mg base C CP e) (hr : Room 8 (A.deeper (PyProof.Rows.envOfC "_law_like_right" (defScope sLikeRight) s.heap.objs.size f (.ref c)))) (gR : mg "range" = none)  :
    ∃ t : TS, PS (cxOf CX0 P w K mg base NLK "_law_like_right" (defScope sLikeRight) f (.ref c) A outer s H0 E).nox (stLK 0) t ∧ ∀ (Z : Ends) (H : Hp) (m : Addr) (wv : V), (∀ (H' : Hp) (PP S O : Addr) (ovs : List V), Same H H' → H PP = none → H S = none → H O = none → PP ≠ S → O ≠ PP → O ≠ S → H' PP = some (.lst []) → H' S = some (.lst []) → H' O = some (.lst ovs) → ovs.length = 15 → (∀ v ∈ ovs, BadN K (fun b => H b = none ∧ b ≠ PP ∧ b ≠ S) C H' v) → Z.nx [some (.ref m), some wv, some (.ref PP), some (.ref S), some (.ref O), none, none, none, none, none, none, none, none, none] H') → t Z [some (.ref m), some wv, none, none, none, none, none, none, none, none, none, none, none, none] H := by
  have hr6 : Room 6 _ := hr.mono (by decide)
  have hr5 : Room 5 _ := hr.mono (by decide)
  have hr4 : Room 4 _ := hr.mono (by decide)
  have hr3 : Room 3 _ := hr.mono (by decide)
  have hr2 : Room 2 _ := hr.mono (by decide)
  have hr1 : Room 1 _ := hr.mono (by decide)
  have hu64 : (A.deeper (PyProof.Rows.envOfC "_law_like_right" (defScope sLikeRight) s.heap.objs.size f (.ref c))).units + 64 < cLine := by have := hr.un; omega
  have big : (1000000 : Nat) < sizeLine := by decide
  refine ⟨_, (ps_asg (pe_tup (pa_cons (pe_lst pa_nil) (pa_cons (pe_lst pa_nil) (pa_cons (pe_call0 (E := E0) LK.GO hr6 rfl LK.AO.g LK.AO.k LK.AO.b .nil pass0) pa_nil)))) (pg_tup (by rfl) (pgs_cons (pg_name (i := 2) scLK.nd rfl (.inl rfl)) (pgs_cons (pg_name (i := 3) scLK.nd rfl (.inr rfl)) (pgs_cons (pg_name (i := 4) scLK.nd rfl (.inl rfl)) pgs_nil))))), ?_⟩
  rintro Z H m wv k
  refine ⟨by show 0 ≤ sizeLine; omega, fun PP nP => ?_⟩
  have s1 : Same H (upd H PP (.lst [])) := same_upd (Same.refl H) nP
  have vP : (upd H PP (.lst [])) PP = some (.lst []) := upd_same
  generalize upd H PP (.lst []) = H1 at s1 vP ⊢
  refine ⟨by show 0 ≤ sizeLine; omega, fun S nS => ?_⟩
  have s2 : Same H1 (upd H1 S (.lst [])) := same_upd (Same.refl H1) nS
  have vS : (upd H1 S (.lst [])) S = some (.lst []) := upd_same
  generalize upd H1 S (.lst []) = H2 at s2 vS ⊢
  refine ⟨rfl, fun H3 O ovs s3 nO hO lO bO => ?_⟩
  refine ⟨by show 3 ≤ sizeLine; omega, fun tp ntp => ?_⟩
  have s4 : Same H3 (upd H3 tp (.tup [.ref PP, .ref S, .ref O])) := same_upd (Same.refl H3) ntp
  have v4 : (upd H3 tp (.tup [.ref PP, .ref S, .ref O])) tp = some (.tup [.ref PP, .ref S, .ref O]) := upd_same
  generalize upd H3 tp (.tup [.ref PP, .ref S, .ref O]) = H4 at s4 v4 ⊢
  refine ⟨tp, _, rfl, .inl (.inl v4), rfl, _, _, rfl, ?_⟩
  refine ⟨_, _, rfl, ?_⟩
  refine ⟨_, _, rfl, rfl, ?_⟩
  have s12 := s1.trans s2
  have ps : PP ≠ S := fun z => by rw [← z, vP] at nS; cases nS
  have op : O ≠ PP := fun z => by rw [z, s2 _ _ vP] at nO; cases nO
  have os : O ≠ S := fun z => by rw [z, vS] at nO; cases nO
  refine k H4 PP S O ovs (s12.trans (s3.trans s4)) nP (s1.free nS) (s12.free nO) ps op os ((s2.trans (s3.trans s4)) _ _ vP) ((s3.trans s4) _ _ vS) (s4 _ _ hO) lO fun v hv => ?_
  exact ((bO v hv).mono fun b hb => ⟨s12.free hb, fun z => (by rw [z] at hb; exact absurd (s2 _ _ vP) (by rw [show H2 PP = none from hb]; exact nofun)), fun z => (by rw [z] at hb; exact absurd vS (by rw [show H2 S = none from hb]; exact nofun))⟩).same s4
theorem lk1 (TR : TxtG P w K mg base C CI CP a) (NR : TxtNR P w K mg base C CP a d) (LK : TxtLK P w K mg base C CP e) (hr : Room 8 (A.deeper (PyProof.Rows.envOfC "_law_like_right" (defScope sLikeRight) s.heap.objs.size f (.ref c)))) (gR : mg "range" = none)  :
    ∃ t : TS, PS (cxOf CX0 P w K mg base NLK "_law_like_right" (defScope sLikeRight) f (.ref c) A outer s H0 E).nox (stLK 1) t ∧ ∀ (Z : Ends) (H : Hp) (m lc lg PP S O : Addr) (n : Int) (wv : V) (N : Addr → Prop) (ovs : List V), MA m lc lg n H → n + 10 ≤ 1000000 → H PP = some (.lst []) → H S = some (.lst []) → H O = some (.lst ovs) → (∀ v ∈ ovs, BadN K N C H v) → (∀ b, N b → b ≠ m ∧ b ≠ lg ∧ b ≠ PP ∧ b ≠ S) →
      (PP ≠ m ∧ PP ≠ lg ∧ PP ≠ lc) → (S ≠ m ∧ S ≠ lg ∧ S ≠ lc) → (O ≠ m ∧ O ≠ lg ∧ O ≠ PP ∧ O ≠ S) → PP ≠ S →
      (∀ (H' : Hp) (n' : Int) (as : List Addr) (vs : List V) (ts : List Tr) (v5 : Option V), MA m lc lg n' H' → n ≤ n' → n' ≤ n + 8 → RR m lg PP S H H' → KpO H H' → StT K N C PP O as vs ts ovs H' → H' S = some (.lst vs) → ts.length ≤ 7 → (∀ t ∈ ts, t ∈ goodsT) → Z.nx [some (.ref m), some wv, some (.ref PP), some (.ref S), some (.ref O), v5, none, none, none, none, none, none, none, none] H') → t Z [some (.ref m), some wv, some (.ref PP), some (.ref S), some (.ref O), none, none, none, none, none, none, none, none, none] H := by
  have hr6 : Room 6 _ := hr.mono (by decide)
  have hr5 : Room 5 _ := hr.mono (by decide)
  have hr4 : Room 4 _ := hr.mono (by decide)
  have hr3 : Room 3 _ := hr.mono (by decide)
  have hr2 : Room 2 _ := hr.mono (by decide)
  have hr1 : Room 1 _ := hr.mono (by decide)
  have hu64 : (A.deeper (PyProof.Rows.envOfC "_law_like_right" (defScope sLikeRight) s.heap.objs.size f (.ref c))).units + 64 < cLine := by have := hr.un; omega
  have big : (1000000 : Nat) < sizeLine := by decide
  refine ⟨_, (ps_for PassesOwn.never rfl (pi_range1 rfl gR (pa_cons (pe_call LK.GD hr2 rfl LK.AD.g LK.AD.k LK.AD.b .nil pass0 (pa_cons (pv 0) (pa_cons pe_int pa_nil))) pa_nil)) (pg_name (i := 5) scLK.nd rfl (.inl rfl)) (pss_cons (ps_expr (pe_bm PySem.F.plainAttrs_list PySem.F.slot_list_append PySem.F.type_list_append mt_append (pv 2) (pa_cons (pe_ix ix_list (pe_call0 (E := E0) LK.GG hr6 rfl LK.AG.g LK.AG.k LK.AG.b .nil pass0) (pe_call LK.GD hr2 rfl LK.AD.g LK.AD.k LK.AD.b .nil pass0 (pa_cons (pv 0) (pa_cons pe_int pa_nil))) (fun _ _ => rfl)) pa_nil))) (pss_one (ps_expr (pe_bm PySem.F.plainAttrs_list PySem.F.slot_list_append PySem.F.type_list_append mt_append (pv 3) (pa_cons (pe_ix ix_tup (pe_ix ix_list (pv 2) (pe_un un_neg pe_int) (fun _ _ => rfl)) pe_int (fun _ _ => rfl)) pa_nil)))))), ?_⟩
  rintro Z H m lc lg PP S O n wv N ovs M hn hP hS hO hbad hN nP nS nO nPS k
  refine ⟨_, rfl, m, lc, lg, n, 8, rfl, M, by omega, by decide, by decide, fun H1 w0 d0 dl M1 e1 => ?_⟩
  obtain ⟨r, rfl⟩ : ∃ r : Nat, w0 = (r : Int) := ⟨w0.toNat, by omega⟩
  have D1 : DD m lg H H1 := e1
  have R1 : RR m lg PP S H H1 := RR.dd D1
  have K1 : KpO H H1 := D1.kpo M
  have st0 : StT K N C PP O [] [] [] ovs H1 := ⟨D1 _ _ nP.1 nP.2.1 hP, .nil, True.intro, D1 _ _ nO.1 nO.2.1 hO, fun v hv => (hbad v hv).kp (RR.kpN hN R1) K1⟩
  refine ⟨_, rfl, by omega, by omega, for_range (lo := 0) (n := r) (fun i σ H' => ∃ (as : List Addr) (vs : List V) (ts : List Tr) (n' : Int) (v5 : Option V), σ = [some (.ref m), some wv, some (.ref PP), some (.ref S), some (.ref O), v5, none, none, none, none, none, none, none, none] ∧ MA m lc lg n' H' ∧ n + 1 ≤ n' ∧ n' ≤ n + 1 + (i : Int) ∧ RR m lg PP S H H' ∧ KpO H H' ∧ StT K N C PP O as vs ts ovs H' ∧ H' S = some (.lst vs) ∧ ts.length = i ∧ (∀ t ∈ ts, t ∈ goodsT))
    ⟨[], [], [], n + 1, _, rfl, M1, by omega, by omega, R1, K1, st0, D1 _ _ nS.1 nS.2.1 hS, rfl, fun t h => nomatch h⟩ ?_ ?_⟩
  · rintro i σ H2 hi ⟨as, vs, ts, n', v5, rfl, M2, q1, q2, R2, K2, st2, hS2, tl, tg⟩
    have al : as.length = ts.length := st2.prs.length
    have vl : vs.length = ts.length := pts_len st2.pt
    refine ⟨_, rfl, .inl ⟨rfl, _, SqL.of st2.hP⟩, rfl, fun H3 G ga s3 nG hG gG => ?_⟩
    have M3 := M2.same s3
    refine ⟨_, rfl, m, lc, lg, n', 14, rfl, M3, by omega, by decide, by decide, fun H4 w1 p0 p1 M4 e4 => ?_⟩
    obtain ⟨j, rfl⟩ : ∃ j : Nat, w1 = (j : Int) := ⟨w1.toNat, by omega⟩
    have D4 : DD m lg H3 H4 := e4
    have nmG := M2.nm nG
    have R4 : RR m lg PP S H2 H4 := (RR.same s3).trans (RR.dd D4)
    have K4 : KpO H2 H4 := (KpO.same s3).trans (D4.kpo M3)
    have hG4 := D4 _ _ nmG.1 nmG.2 hG
    have gl : ga.length = 14 := gG.length
    have eg : ga[j]? = some ga[j] := List.getElem?_eq_getElem (by omega)
    obtain ⟨t, et, gt⟩ := LiI.paired_get gG eg
    generalize ga[j] = a1 at eg gt
    have gt4 : GdAt C H4 a1 t := gt.kpo (D4.kpo M3)
    have tin : t ∈ goodsT := List.mem_of_getElem? et
    have st4 : StT K N C PP O as vs ts ovs H4 := by
      refine ⟨?_, Paired.mapP st2.prs fun a b q => q.kpo K4, PtsAt.kpo K4 _ st2.pt, R4 _ _ nO.1 nO.2.1 nO.2.2.1 nO.2.2.2 st2.hO, fun v hv => (st2.bad v hv).kp (RR.kpN hN R4) K4⟩
      exact D4 _ _ nP.1 nP.2.1 (s3 _ _ st2.hP)
    have hS4 := D4 _ _ nS.1 nS.2.1 (s3 _ _ hS2)
    refine ⟨G, _, _, .ref a1, rfl, rfl, SqL.of hG4, atI_nat (j := j) (by rw [List.getElem?_map, eg]; rfl), ?_⟩
    refine ⟨PP, _, _, rfl, rfl, st4.hP, by rw [List.length_map]; omega, ?_⟩
    have R5 : RR m lg PP S H4 (upd H4 PP (.lst (as.map V.ref ++ [.ref a1]))) := RR.s
    have K5 := R5.kpo M4 st4.hP hS4
    have M5 : MA m lc lg (n' + 1) (upd H4 PP (.lst (as.map V.ref ++ [.ref a1]))) := M4.offL nP.1 nP.2.1 nP.2.2
    have hP5 : (upd H4 PP (.lst (as.map V.ref ++ [.ref a1]))) PP = some (.lst (as.map V.ref ++ [.ref a1])) := upd_same
    have hS5 : (upd H4 PP (.lst (as.map V.ref ++ [.ref a1]))) S = some (.lst vs) := by rw [upd_ne (Ne.symm nPS)]; exact hS4
    have hO5 : (upd H4 PP (.lst (as.map V.ref ++ [.ref a1]))) O = some (.lst ovs) := by rw [upd_ne nO.2.2.1]; exact st4.hO
    generalize upd H4 PP (.lst (as.map V.ref ++ [.ref a1])) = H5 at R5 K5 M5 hP5 hS5 hO5 ⊢
    have gt5 := gt4.kpo K5
    obtain ⟨v, hv, pv⟩ := gt5
    refine ⟨_, rfl, .inl ⟨rfl, _, SqL.of hS5⟩, _, rfl, _, rfl, PP, _, _, _, rfl, rfl, SqL.of hP5, at_last _ _, a1, _, _, v, rfl, rfl, SqT.of hv, atI_nat (j := 0) rfl, ?_⟩
    refine ⟨S, _, _, rfl, rfl, hS5, by omega, ?_⟩
    have R6 : RR m lg PP S H5 (upd H5 S (.lst (vs ++ [v]))) := RR.w
    have K6 := R6.kpo M5 hP5 hS5
    have M6 : MA m lc lg (n' + 1) (upd H5 S (.lst (vs ++ [v]))) := M5.offL nS.1 nS.2.1 nS.2.2
    have K46 := K5.trans K6
    have R46 := R5.trans R6
    refine ⟨as ++ [a1], vs ++ [v], ts ++ [t], n' + 1, some (.int (0 + (i : Int))), rfl, M6, by omega, by omega, (R2.trans R4).trans R46, (K2.trans K4).trans K46, ⟨?_, ?_, ?_, ?_, fun v hv => (st4.bad v hv).kp (RR.kpN hN R46) K46⟩, upd_same, by rw [List.length_append, tl]; rfl, fun u hu => (List.mem_append.mp hu).elim (tg u) fun z => by rw [List.mem_singleton.mp z]; exact tin⟩
    · rw [upd_ne nPS, hP5, List.map_append]; rfl
    · exact paired_app (Paired.mapP st4.prs fun a b q => q.kpo K46) (.cons ((gt4.kpo K5).kpo K6) .nil)
    · exact pts_app (PtsAt.kpo K46 _ st4.pt) ⟨PtAt.kpo K6 _ pv, True.intro⟩
    · rw [upd_ne nO.2.2.2]; exact hO5
  · rintro σ H2 ⟨as, vs, ts, n', v5, rfl, M2, q1, q2, R2, K2, st2, hS2, tl, tg⟩
    exact k H2 n' as vs ts v5 M2 (by omega) (by omega) R2 K2 st2 hS2 (by omega) tg
theorem lk2 (TR : TxtG P w K mg base C CI CP a) (NR : TxtNR P w K mg base C CP a d) (LK : TxtLK P w K mg base C CP e) (hr : Room 8 (A.deeper (PyProof.Rows.envOfC "_law_like_right" (defScope sLikeRight) s.heap.objs.size f (.ref c)))) (gR : mg "range" = none)  :
    ∃ t : TS, PS (cxOf CX0 P w K mg base NLK "_law_like_right" (defScope sLikeRight) f (.ref c) A outer s H0 E).nox (stLK 2) t ∧ ∀ (Z : Ends) (H : Hp) (σ : L2.St), (∀ (H' : Hp) (W : Addr), Same H H' → H W = none → H' W = some (.lst []) → Z.nx (σ.set 6 (some (.ref W))) H') → t Z σ H := by
  have hr6 : Room 6 _ := hr.mono (by decide)
  have hr5 : Room 5 _ := hr.mono (by decide)
  have hr4 : Room 4 _ := hr.mono (by decide)
  have hr3 : Room 3 _ := hr.mono (by decide)
  have hr2 : Room 2 _ := hr.mono (by decide)
  have hr1 : Room 1 _ := hr.mono (by decide)
  have hu64 : (A.deeper (PyProof.Rows.envOfC "_law_like_right" (defScope sLikeRight) s.heap.objs.size f (.ref c))).units + 64 < cLine := by have := hr.un; omega
  have big : (1000000 : Nat) < sizeLine := by decide
  refine ⟨_, (ps_set (i := 6) scLK.nd rfl (Or.inl rfl) (pe_lst pa_nil)), ?_⟩
  rintro Z H σ k
  exact ⟨by decide, fun W nW => k _ W (same_upd (Same.refl H) nW) nW upd_same⟩
end
end K3

namespace K3
open PySem PySem.Spec PyProof.Rows PySem.SeqAt L2 E0
open LamX (ExtN Tabs TabS TabB LamS lamS_by lamSB)
section
variable {P : Program} {w : World} {K : PySem.W.Frag} {mg : Str → Option Value} {base : Heap} {C : Cl5} {CI CP f c : Addr} {a : AdG} {d : AdN} {e : AdK} {A : Around} {outer : List Env} {s : Shared} {H0 : Hp} {E : XK}
theorem lk3 (TR : TxtG P w K mg base C CI CP a) (NR : TxtNR P w K mg base C CP a d) (LK : TxtLK P w K mg base C CP e) (hr : Room 8 (A.deeper (PyProof.Rows.envOfC "_law_like_right" (defScope sLikeRight) s.heap.objs.size f (.ref c)))) (gR : mg "range" = none)  :
    ∃ t : TS, PS (cxOf CX0 P w K mg base NLK "_law_like_right" (defScope sLikeRight) f (.ref c) A outer s H0 E).nox (stLK 3) t ∧ ∀ (Z : Ends) (H : Hp) (m lc lg PP S W O : Addr) (n : Int) (wv : V) (v5 : Option V) (N : Addr → Prop) (as : List Addr) (vs ovs : List V) (ts : List Tr), MA m lc lg n H → n + 10 ≤ 1000000 → H S = some (.lst vs) → H W = some (.lst []) → StT K N C PP O as vs ts ovs H → ovs.length = 15 → ts.length ≤ 9 →
      (∀ t ∈ ts, okLk t = true ∧ rowB t ≤ 1000 ∧ okTx t) → (PP ≠ m ∧ PP ≠ lg ∧ PP ≠ S ∧ PP ≠ W) → (O ≠ m ∧ O ≠ lg ∧ O ≠ S ∧ O ≠ W) → (∀ b, N b → b ≠ m ∧ b ≠ lg ∧ b ≠ S ∧ b ≠ W) → (S ≠ m ∧ S ≠ lg ∧ S ≠ lc ∧ S ≠ W) → (W ≠ m ∧ W ≠ lg ∧ W ≠ lc) →
      (∀ (H' : Hp) (n' : Int) (xs : List V) (pis : List PI) (ws : List Nat) (v7 v8 : Option V), MA m lc lg n' H' → n ≤ n' → n' ≤ n + 5 → RR m lg S W H H' → KpO H H' → H' S = some (.lst xs) → H' W = some (.lst (ws.map fun k => V.int ((k : Nat) : Int))) → WR vs ts xs pis ws → Paired (PIN K N C H') xs pis → StT K N C PP O as vs ts ovs H' → Z.nx [some (.ref m), some wv, some (.ref PP), some (.ref S), some (.ref O), v5, some (.ref W), v7, v8, none, none, none, none, none] H') → t Z [some (.ref m), some wv, some (.ref PP), some (.ref S), some (.ref O), v5, some (.ref W), none, none, none, none, none, none, none] H := by
  have hr6 : Room 6 _ := hr.mono (by decide)
  have hr5 : Room 5 _ := hr.mono (by decide)
  have hr4 : Room 4 _ := hr.mono (by decide)
  have hr3 : Room 3 _ := hr.mono (by decide)
  have hr2 : Room 2 _ := hr.mono (by decide)
  have hr1 : Room 1 _ := hr.mono (by decide)
  have hu64 : (A.deeper (PyProof.Rows.envOfC "_law_like_right" (defScope sLikeRight) s.heap.objs.size f (.ref c))).units + 64 < cLine := by have := hr.un; omega
  have big : (1000000 : Nat) < sizeLine := by decide
  refine ⟨_, (ps_for PassesOwn.never rfl (pi_range1 rfl gR (pa_cons (pe_call LK.GD hr2 rfl LK.AD.g LK.AD.k LK.AD.b .nil pass0 (pa_cons (pv 0) (pa_cons pe_int pa_nil))) pa_nil)) (pg_name (i := 7) scLK.nd rfl (.inl rfl)) (pss_one (ps_if (pt_cmpR (op_neNil hr.units0) (pv 3) (pe_lst pa_nil) (nomark _)) (pss_cons (ps_set (i := 8) scLK.nd rfl (Or.inl rfl) (pe_call LK.GD hr2 rfl LK.AD.g LK.AD.k LK.AD.b .nil pass0 (pa_cons (pv 0) (pa_cons (pe_callB call_len_seq (by rfl) TR.T.len PySem.boot_len (pa_cons (pv 3) pa_nil)) pa_nil)))) (pss_cons (ps_asg (pe_ix ix_list (pv 4) (pe_call LK.GD hr2 rfl LK.AD.g LK.AD.k LK.AD.b .nil pass0 (pa_cons (pv 0) (pa_cons pe_int pa_nil))) (fun _ _ => rfl)) (pg_sub (pv 3) (pv 8) set_list)) (pss_one (ps_expr (pe_bm PySem.F.plainAttrs_list PySem.F.slot_list_append PySem.F.type_list_append mt_append (pv 6) (pa_cons (pv 8) pa_nil)))))) pss_nil))), ?_⟩
  rintro Z H m lc lg PP S W O n wv v5 N as vs ovs ts M hn hS hW st hol tl hg nP nO hN nS nW k
  have vl : vs.length = ts.length := pts_len st.pt
  refine ⟨_, rfl, m, lc, lg, n, 3, rfl, M, by omega, by decide, by decide, fun H1 w0 d0 dl M1 e1 => ?_⟩
  obtain ⟨r, rfl⟩ : ∃ r : Nat, w0 = (r : Int) := ⟨w0.toNat, by omega⟩
  have D1 : DD m lg H H1 := e1
  have R1 : RR m lg S W H H1 := RR.dd D1
  have K1 : KpO H H1 := D1.kpo M
  have hS1 := D1 S _ nS.1 nS.2.1 hS
  have hW1 := D1 W _ nW.1 nW.2.1 hW
  have st1 := st.rr R1 (RR.kpN hN R1) K1 nP nO
  have pin0 : Paired (PIN K N C H1) vs (ts.map PI.good) := by
    have go : ∀ {vs : List V} {ts : List Tr}, PtsAt C H1 vs ts → (∀ t ∈ ts, okLk t = true ∧ rowB t ≤ 1000 ∧ okTx t) → Paired (PIN K N C H1) vs (ts.map PI.good) := fun {vs} => by
      induction vs with
      | nil =>
        intro ts h _
        match ts, h with
        | [], _ => exact .nil
      | cons x xs ih =>
        intro ts h g
        match ts, h with
        | t :: ts, h => exact .cons ⟨h.1, g t (List.mem_cons_self ..)⟩ (ih h.2 fun u m => g u (List.mem_cons_of_mem _ m))
    exact go st1.pt hg
  refine ⟨_, rfl, by omega, by omega, for_range (lo := 0) (n := r) (fun i σ H' => ∃ (xs : List V) (pis : List PI) (ws : List Nat) (n' : Int) (v7 v8 : Option V), σ = [some (.ref m), some wv, some (.ref PP), some (.ref S), some (.ref O), v5, some (.ref W), v7, v8, none, none, none, none, none] ∧ MA m lc lg n' H' ∧ n + 1 ≤ n' ∧ n' ≤ n + 1 + 2 * (i : Int) ∧ RR m lg S W H H' ∧ KpO H H' ∧ H' S = some (.lst xs) ∧ H' W = some (.lst (ws.map fun k => V.int ((k : Nat) : Int))) ∧ ws.length ≤ i ∧ WR vs ts xs pis ws ∧ Paired (PIN K N C H') xs pis ∧ StT K N C PP O as vs ts ovs H')
    ⟨vs, _, [], n + 1, _, _, rfl, M1, by omega, by omega, R1, K1, hS1, hW1, Nat.le_refl _, WR.start vl, pin0, st1⟩ ?_ ?_⟩
  · rintro i σ H2 hi ⟨xs, pis, ws, n', v7, v8, rfl, M2, q1, q2, R2, K2, hS2, hW2, wl, wr, pin, st2⟩
    refine ⟨_, rfl, Nat.zero_le _, fun e he => ?_⟩
    have s3 : Same H2 (upd H2 e (.lst [])) := same_upd (Same.refl H2) he
    have v3 : (upd H2 e (.lst [])) e = some (.lst []) := upd_same
    generalize upd H2 e (.lst []) = H3 at s3 v3 ⊢
    have M3 := M2.same s3
    have R3 := R2.trans (RR.same s3)
    have K3 := K2.trans (KpO.same s3)
    have hS3 := s3 _ _ hS2
    have hW3 := s3 _ _ hW2
    have st3 := st2.rr (RR.same s3) (KpN.same s3) (KpO.same s3) nP nO
    have pin3 := Paired.mapP pin fun a b q => PIN.kp (KpN.same s3) (KpO.same s3) q
    refine ⟨S, e, xs, rfl, rfl, hS3, v3, _, rfl, ?_⟩
    cases hxs : xs.isEmpty with
    | true =>
      refine iteF ?_
      exact ⟨xs, pis, ws, n', some (.int (0 + (i : Int))), v8, rfl, M3, q1, by omega, R3, K3, hS3, hW3, by omega, wr, pin3, st3⟩
    | false =>
      refine iteT ?_
      have xl := wr.lx
      have xpos : 0 < xs.length := by
        cases xs with
        | nil => cases hxs
        | cons _ _ => exact Nat.succ_pos _
      refine ⟨_, rfl, _, rfl, S, xs, rfl, .inl (SqL.of hS3), m, lc, lg, n', ((xs.length : Nat) : Int), rfl, M3, by omega, by omega, by omega, fun H4 w1 p0 p1 M4 e4 => ?_⟩
      obtain ⟨j, rfl⟩ : ∃ j : Nat, w1 = (j : Int) := ⟨w1.toNat, by omega⟩
      have D4 : DD m lg H3 H4 := e4
      refine ⟨_, rfl, _, rfl, m, lc, lg, n' + 1, 15, rfl, M4, by omega, by decide, by decide, fun H5 w2 p2 p3 M5 e5 => ?_⟩
      obtain ⟨j2, rfl⟩ : ∃ j : Nat, w2 = (j : Int) := ⟨w2.toNat, by omega⟩
      have D5 : DD m lg H3 H5 := D4.trans e5
      have R5 := RR.dd (S := S) (W := W) D5
      have K5 : KpO H3 H5 := D5.kpo M3
      have st5 := st3.rr R5 (RR.kpN hN R5) K5 nP nO
      have pin5 := Paired.mapP pin3 fun a b q => PIN.kp (RR.kpN hN R5) K5 q
      have hS5 := D5 S _ nS.1 nS.2.1 hS3
      have hW5 := D5 W _ nW.1 nW.2.1 hW3
      have jo : j2 < ovs.length := by rw [hol]; omega
      have ev : ovs[j2]? = some ovs[j2] := List.getElem?_eq_getElem jo
      have bv : BadN K N C H5 ovs[j2] := st5.bad _ (List.getElem_mem jo)
      generalize ovs[j2] = v at ev bv
      have jl : j < xs.length := by omega
      refine ⟨O, ovs, _, v, rfl, rfl, SqL.of st5.hO, atI_nat (j := j2) ev, ?_⟩
      refine ⟨_, rfl, _, rfl, S, xs, _, j, rfl, rfl, hS5, ixN_n jl, ?_⟩
      have R6 : RR m lg S W H5 (upd H5 S (.lst (xs.set j v))) := RR.s
      have K6 : KpO H5 (upd H5 S (.lst (xs.set j v))) := R6.kpo M5 hS5 hW5
      have M6 : MA m lc lg (n' + 1 + 1) (upd H5 S (.lst (xs.set j v))) := M5.offL nS.1 nS.2.1 nS.2.2.1
      have hS6 : (upd H5 S (.lst (xs.set j v))) S = some (.lst (xs.set j v)) := upd_same
      have hW6 : (upd H5 S (.lst (xs.set j v))) W = some (.lst (ws.map fun k => V.int ((k : Nat) : Int))) := by rw [upd_ne (Ne.symm nS.2.2.2)]; exact hW5
      generalize upd H5 S (.lst (xs.set j v)) = H6 at R6 K6 M6 hS6 hW6 ⊢
      refine ⟨_, rfl, .inl ⟨rfl, _, SqL.of hW6⟩, _, rfl, W, _, _, rfl, rfl, hW6, by rw [List.length_map]; omega, ?_⟩
      have R7 : RR m lg S W H6 (upd H6 W (.lst ((ws.map fun k => V.int ((k : Nat) : Int)) ++ [V.int (j : Int)]))) := RR.w
      have K7 := R7.kpo M6 hS6 hW6
      have M7 : MA m lc lg (n' + 1 + 1) (upd H6 W (.lst ((ws.map fun k => V.int ((k : Nat) : Int)) ++ [V.int (j : Int)]))) := M6.offL nW.1 nW.2.1 nW.2.2
      have hS7 : (upd H6 W (.lst ((ws.map fun k => V.int ((k : Nat) : Int)) ++ [V.int (j : Int)]))) S = some (.lst (xs.set j v)) := by rw [upd_ne nS.2.2.2]; exact hS6
      have hW7 : (upd H6 W (.lst ((ws.map fun k => V.int ((k : Nat) : Int)) ++ [V.int (j : Int)]))) W = some (.lst ((ws ++ [j]).map fun k => V.int ((k : Nat) : Int))) := by rw [upd_same, List.map_append]; rfl
      generalize upd H6 W (.lst ((ws.map fun k => V.int ((k : Nat) : Int)) ++ [V.int (j : Int)])) = H7 at R7 K7 M7 hS7 hW7 ⊢
      have R67 := R6.trans R7
      have K67 := K6.trans K7
      have kN67 : KpN N H5 H7 := RR.kpN hN R67
      have bv7 := bv.kp kN67 K67
      have pin7 : Paired (PIN K N C H7) (xs.set j v) (pis.set j .bad) := by
        have go : ∀ {xs : List V} {pis : List PI} (j : Nat), Paired (PIN K N C H5) xs pis → Paired (PIN K N C H7) (xs.set j v) (pis.set j .bad) := fun {xs} => by
          induction xs with
          | nil =>
            intro pis j h
            cases h
            exact .nil
          | cons x xs ih =>
            intro pis j h
            cases h with
            | cons h1 h2 =>
              cases j with
              | zero => exact .cons bv7 (Paired.mapP h2 fun a b q => PIN.kp kN67 K67 q)
              | succ j => exact .cons (PIN.kp kN67 K67 h1) (ih j h2)
        exact go j pin5
      exact ⟨xs.set j v, pis.set j .bad, ws ++ [j], n' + 1 + 1, some (.int (0 + (i : Int))), some (.int (j : Int)), rfl, M7, by omega, by omega, (R3.trans R5).trans R67, (K3.trans K5).trans K67, hS7, hW7, by rw [List.length_append]; show ws.length + 1 ≤ i + 1; omega, wr.step (by omega) v, pin7, st5.rr R67 kN67 K67 nP nO⟩
  · rintro σ H2 ⟨xs, pis, ws, n', v7, v8, rfl, M2, q1, q2, R2, K2, hS2, hW2, wl, wr, pin, st2⟩
    exact k H2 n' xs pis ws v7 v8 M2 (by omega) (by omega) R2 K2 hS2 hW2 wr pin st2
theorem lk4 (TR : TxtG P w K mg base C CI CP a) (NR : TxtNR P w K mg base C CP a d) (LK : TxtLK P w K mg base C CP e) (hr : Room 8 (A.deeper (PyProof.Rows.envOfC "_law_like_right" (defScope sLikeRight) s.heap.objs.size f (.ref c)))) (gR : mg "range" = none)  :
    ∃ t : TS, PS (cxOf CX0 P w K mg base NLK "_law_like_right" (defScope sLikeRight) f (.ref c) A outer s H0 E).nox (stLK 4) t ∧ ∀ (Z : Ends) (H : Hp) (σ : L2.St) (wv : V), σ[1]? = some (some wv) → Val K H wv → (∀ (H' : Hp) (p : Addr), Same H H' → H' p = some (.tup (lawK (nameV wv) []).val) → Z.nx (σ.set 9 (some (.ref p))) H') → t Z σ H := by
  have hr6 : Room 6 _ := hr.mono (by decide)
  have hr5 : Room 5 _ := hr.mono (by decide)
  have hr4 : Room 4 _ := hr.mono (by decide)
  have hr3 : Room 3 _ := hr.mono (by decide)
  have hr2 : Room 2 _ := hr.mono (by decide)
  have hr1 : Room 1 _ := hr.mono (by decide)
  have hu64 : (A.deeper (PyProof.Rows.envOfC "_law_like_right" (defScope sLikeRight) s.heap.objs.size f (.ref c))).units + 64 < cLine := by have := hr.un; omega
  have big : (1000000 : Nat) < sizeLine := by decide
  refine ⟨_, (ps_set (i := 9) scLK.nd rfl (Or.inl rfl) (pe_ifExp (pt_not (pt_val (pe_call NR.GNm hr1 rfl NR.ANm.g NR.ANm.k NR.ANm.b .nil pass0 (pa_cons (pv 1) pa_nil)))) (pe_tup (pa_cons pe_str (pa_cons pe_str pa_nil))) (pe_tup pa_nil))), ?_⟩
  rintro Z H σ wv h1 hv k
  refine ⟨_, h1, wv, rfl, hv, fun H1 s1 => ⟨_, rfl, ?_⟩⟩
  cases hn : nameV wv with
  | false =>
    rw [hn] at k
    refine iteT ?_
    exact ⟨by show 2 ≤ sizeLine; omega, fun p np => k _ p (same_upd s1 (s1.free np)) upd_same⟩
  | true =>
    rw [hn] at k
    refine iteF ?_
    exact ⟨Nat.zero_le _, fun p np => k _ p (same_upd s1 (s1.free np)) upd_same⟩
theorem lk5 (TR : TxtG P w K mg base C CI CP a) (NR : TxtNR P w K mg base C CP a d) (LK : TxtLK P w K mg base C CP e) (hr : Room 8 (A.deeper (PyProof.Rows.envOfC "_law_like_right" (defScope sLikeRight) s.heap.objs.size f (.ref c)))) (gR : mg "range" = none)  :
    ∃ t : TS, PS (cxOf CX0 P w K mg base NLK "_law_like_right" (defScope sLikeRight) f (.ref c) A outer s H0 E).nox (stLK 5) t ∧ ∀ (Z : Ends) (H : Hp) (m PP S W O p : Addr) (wv : V) (v5 v7 v8 : Option V) (nm : Bool) (vs xs : List V) (ts : List Tr) (pis : List PI) (ws : List Nat), H S = some (.lst xs) → H W = some (.lst (ws.map fun k => V.int ((k : Nat) : Int))) → WR vs ts xs pis ws → xs.length ≤ 1000 → H p = some (.tup (lawK nm []).val) →
      (∀ (H' : Hp) (p' : Addr) (v8' : Option V), Same H H' → H' p' = some (.tup (lawK nm pis).val) → Z.nx [some (.ref m), some wv, some (.ref PP), some (.ref S), some (.ref O), v5, some (.ref W), v7, v8', some (.ref p'), none, none, none, none] H') → t Z [some (.ref m), some wv, some (.ref PP), some (.ref S), some (.ref O), v5, some (.ref W), v7, v8, some (.ref p), none, none, none, none] H := by
  have hr6 : Room 6 _ := hr.mono (by decide)
  have hr5 : Room 5 _ := hr.mono (by decide)
  have hr4 : Room 4 _ := hr.mono (by decide)
  have hr3 : Room 3 _ := hr.mono (by decide)
  have hr2 : Room 2 _ := hr.mono (by decide)
  have hr1 : Room 1 _ := hr.mono (by decide)
  have hu64 : (A.deeper (PyProof.Rows.envOfC "_law_like_right" (defScope sLikeRight) s.heap.objs.size f (.ref c))).units + 64 < cLine := by have := hr.un; omega
  have big : (1000000 : Nat) < sizeLine := by decide
  refine ⟨_, (ps_for PassesOwn.never rfl (pi_range1 rfl gR (pa_cons (pe_callB call_len_seq (by rfl) TR.T.len PySem.boot_len (pa_cons (pv 3) pa_nil)) pa_nil)) (pg_name (i := 8) scLK.nd rfl (.inl rfl)) (pss_one (ps_set (i := 9) scLK.nd rfl (Or.inl rfl) (pe_ifExp (PW.pt (pw_and (pt_cmpR (op_eqD hu64) (pv 9) (pe_tup pa_nil) (nomark _)) (pw_and1 (pt_cmpR op_in_seq (pv 8) (pv 6) (by rfl))))) (pe_tup (pa_cons pe_str (pa_cons (pv 8) pa_nil))) (pv 9))))), ?_⟩
  rintro Z H m PP S W O p wv v5 v7 v8 nm vs xs ts pis ws hS hW wr hxl hp k
  have pl : pis.length = xs.length := by rw [wr.lp, wr.lx]
  refine ⟨_, rfl, S, xs, rfl, .inl (SqL.of hS), _, rfl, by omega, by omega, for_range (lo := 0) (n := xs.length) (fun i σ H' => ∃ (p' : Addr) (v8' : Option V), σ = [some (.ref m), some wv, some (.ref PP), some (.ref S), some (.ref O), v5, some (.ref W), v7, v8', some (.ref p'), none, none, none, none] ∧ Same H H' ∧ H' p' = some (.tup (lawK nm (pis.take i)).val))
    ⟨p, v8, rfl, Same.refl H, hp⟩ ?_ ?_⟩
  · rintro i σ H1 hi ⟨p', v8', rfl, s1, hp1⟩
    have ip : i < pis.length := by omega
    have ei : pis[i]? = some pis[i] := List.getElem?_eq_getElem ip
    have step := lawK_step (nm := nm) (pis := pis.take i) (p := pis[i]) (i := i) (by rw [List.length_take]; omega)
    rw [show pis.take i ++ [pis[i]] = pis.take (i + 1) by rw [List.take_add_one, ei]; rfl] at step
    have eb := wr.isBad ei
    generalize pis[i] = pi at step eb
    generalize lawK nm (pis.take i) = kk at hp1 step
    have e0 : (0 : Int) + (i : Int) = ((i : Nat) : Int) := by omega
    rw [e0]
    refine ⟨_, rfl, Nat.zero_le _, fun e he => ?_⟩
    have s2 : Same H1 (upd H1 e (.tup [])) := same_upd (Same.refl H1) he
    have v2 : (upd H1 e (.tup [])) e = some (.tup []) := upd_same
    generalize upd H1 e (.tup []) = H2 at s2 v2 ⊢
    have s02 := s1.trans s2
    refine ⟨_, _, DK.dp (s2 _ _ hp1), .tup (SqT.of v2) .nil, kk.sh, rfl, _, rfl, ?_⟩
    rw [DK.eqv]
    cases hk : kk.isOk with
    | false =>
      refine iteF ?_
      rw [hk] at step
      refine ⟨_, rfl, p', _, rfl, s02, ?_⟩
      rw [step]
      exact s2 _ _ hp1
    | true =>
      refine iteT ?_
      rw [hk] at step
      have fl : ∀ ws : List Nat, (ws.map fun k => V.int ((k : Nat) : Int)).all flatV = true := fun ws => by
        induction ws with
        | nil => rfl
        | cons a ws ih => exact ih
      refine ⟨_, rfl, _, rfl, W, _, rfl, .inl (SqL.of (s02 _ _ hW)), rfl, fl ws, _, rfl, ?_⟩
      rw [if_neg Bool.false_ne_true, inV_mem]
      refine ite2 (fun h => ?_) (fun h => ?_)
      · have hb : pi = .bad := eb.mpr (of_decide_eq_true h)
        rw [hb] at step
        refine ⟨_, rfl, by show 2 ≤ sizeLine; omega, fun q nq => ⟨q, _, rfl, same_upd s02 (s02.free nq), ?_⟩⟩
        rw [step, upd_same]
        rfl
      · have hb : ¬ pi = .bad := fun z => h (decide_eq_true (eb.mp z))
        have hb2 : pi.isB = false := by
          cases z : pi.isB with
          | false => rfl
          | true => exact absurd (PI.isB_iff.mp z) hb
        rw [hb2] at step
        refine ⟨_, rfl, p', _, rfl, s02, ?_⟩
        rw [step]
        exact s2 _ _ hp1
  · rintro σ H1 ⟨p', v8', rfl, s1, hp1⟩
    rw [← pl, List.take_length] at hp1
    exact k H1 p' v8' s1 hp1
theorem lk6 (TR : TxtG P w K mg base C CI CP a) (NR : TxtNR P w K mg base C CP a d) (LK : TxtLK P w K mg base C CP e) (hr : Room 8 (A.deeper (PyProof.Rows.envOfC "_law_like_right" (defScope sLikeRight) s.heap.objs.size f (.ref c)))) (gR : mg "range" = none) {CS fA Pt : Addr} {fdA : FuncData} {T : List (Addr × Str)} (FA : TxtA K mg CP CS fA fdA) (TB : TabB base mg c Pt) (hmT : (Pt, qLK) ∈ T) (hu : ∀ p ∈ T, p.1 = Pt → p.2 = qLK) :
    ∃ t : TS, PS (cxOf CX0 P w K mg base NLK "_law_like_right" (defScope sLikeRight) f (.ref c) A outer s H0 E).nox (stLK 6) t ∧ ∀ (Z : Ends) (H : Hp) (σ : L2.St) (p S : Addr) (kk : DK) (wv : V) (xs : List V) (pis : List PI) (N : Addr → Prop), σ[1]? = some (some wv) → σ[3]? = some (some (.ref S)) → σ[9]? = some (some (.ref p)) → Tabs T H → ValB K H wv → H S = some (.lst xs) → Paired (PIN K N C H) xs pis → pis.length ≤ 7 → joinB (partsOf pis) ≤ 16000000 → H p = some (.tup kk.val) → likeDue wv pis = kk.opt →
      (∀ H', ExtN H H' → Tabs T H' → Z.nx σ H') → t Z σ H := by
  have hr6 : Room 6 _ := hr.mono (by decide)
  have hr5 : Room 5 _ := hr.mono (by decide)
  have hr4 : Room 4 _ := hr.mono (by decide)
  have hr3 : Room 3 _ := hr.mono (by decide)
  have hr2 : Room 2 _ := hr.mono (by decide)
  have hr1 : Room 1 _ := hr.mono (by decide)
  have hu64 : (A.deeper (PyProof.Rows.envOfC "_law_like_right" (defScope sLikeRight) s.heap.objs.size f (.ref c))).units + 64 < cLine := by have := hr.un; omega
  have big : (1000000 : Nat) < sizeLine := by decide
  refine ⟨_, (ps_if (pt_cmpR (op_neD hu64) (pe_fault (t := (fun E => tCall (spNew K C CP) [] E (tCons (tVar 1) (tCons (tVar 3) tNil)))) (k := 6) FA rfl TB rfl hmT hu hr (lamS_by (sc := defScope sLikeRight) (by decide +kernel)) rfl (fun _ _ _ _ _ => rfl) (fun _ _ _ _ E _ _ hr' => (pe_call (E := E) LK.GN hr' rfl LK.AN.g LK.AN.k LK.AN.b .nil (passes_call (takes_of rfl rfl rfl rfl) (fun _ _ _ _ q => q)) (pa_cons (pv 1) (pa_cons (pv 3) pa_nil))))) (pv 9) (nomark _)) (pss_one (ps_ret pe_bl)) pss_nil), ?_⟩
  rintro Z H σ p S kk wv xs pis N h1 h3 h9 tabs hwv hS pin hl hj hp due k
  refine ⟨tabs, fun H1 e1 tb1 => fault_like (C := C) (n := wv) (xs := xs) (pis := pis) (kk := kk) due (fun H2 E' Q' s2 res => ?_) (fun H3 q s3 nq hq => ?_)⟩
  · have e02 := e1.trans (ExtN.of s2)
    have pin2 := Paired.mapP pin fun a b q => PIN.kp (N := N) (fun b o _ z n => e02 b o z n) (KpO.ext e02) q
    exact ⟨_, h1, _, h3, wv, S, xs, pis, rfl, (hwv.ext e02).val, e02 _ _ hS fun _ => nofun, Paired.mapP pin2 fun a b q => q.at, hl, hj, res⟩
  · have e03 := e1.trans (ExtN.of s3)
    refine ⟨_, h9, _, _, DK.dp hq, DK.dp (e03 _ _ hp fun _ => nofun), kk.sh, kk.sh, _, rfl, ?_⟩
    rw [SeqAt.eqv_refl _ (lay_of kk.sh)]
    refine iteF ?_
    exact k H3 e03 (tb1.ext s3)
theorem lk7 (TR : TxtG P w K mg base C CI CP a) (NR : TxtNR P w K mg base C CP a d) (LK : TxtLK P w K mg base C CP e) (hr : Room 8 (A.deeper (PyProof.Rows.envOfC "_law_like_right" (defScope sLikeRight) s.heap.objs.size f (.ref c)))) (gR : mg "range" = none)  :
    ∃ t : TS, PS (cxOf CX0 P w K mg base NLK "_law_like_right" (defScope sLikeRight) f (.ref c) A outer s H0 E).nox (stLK 7) t ∧ ∀ (Z : Ends) (H : Hp) (σ : L2.St) (p : Addr) (kk : DK), σ[9]? = some (some (.ref p)) → H p = some (.tup kk.val) → (∀ H', Same H H' → (kk.isOk = false → Z.rt (.bl true) H') ∧ (kk.isOk = true → Z.nx σ H')) → t Z σ H := by
  have hr6 : Room 6 _ := hr.mono (by decide)
  have hr5 : Room 5 _ := hr.mono (by decide)
  have hr4 : Room 4 _ := hr.mono (by decide)
  have hr3 : Room 3 _ := hr.mono (by decide)
  have hr2 : Room 2 _ := hr.mono (by decide)
  have hr1 : Room 1 _ := hr.mono (by decide)
  have hu64 : (A.deeper (PyProof.Rows.envOfC "_law_like_right" (defScope sLikeRight) s.heap.objs.size f (.ref c))).units + 64 < cLine := by have := hr.un; omega
  have big : (1000000 : Nat) < sizeLine := by decide
  refine ⟨_, (ps_if (pt_cmpR (op_neD hu64) (pv 9) (pe_tup pa_nil) (nomark _)) (pss_one (ps_ret pe_bl)) pss_nil), ?_⟩
  rintro Z H σ p kk h9 hp k
  refine ⟨_, h9, Nat.zero_le _, fun e he => ?_⟩
  have s1 : Same H (upd H e (.tup [])) := same_upd (Same.refl H) he
  have v1 : (upd H e (.tup [])) e = some (.tup []) := upd_same
  generalize upd H e (.tup []) = H1 at s1 v1 ⊢
  refine ⟨_, _, DK.dp (s1 _ _ hp), .tup (SqT.of v1) .nil, kk.sh, rfl, _, rfl, ?_⟩
  rw [DK.eqv]
  cases hk : kk.isOk with
  | false => exact iteT ((k H1 s1).1 hk)
  | true => exact iteF ((k H1 s1).2 hk)
end
end K3

namespace K3
open PySem PySem.Spec PyProof.Rows PySem.SeqAt L2 E0
open LamX (ExtN Tabs TabS TabB LamS lamS_by lamSB)

/-! ### what the drawn parts allow -/
theorem sizes_g : ∀ {ts : List Tr}, (∀ t ∈ ts, t ∈ goodsT) → sizes ts ≤ ts.length * 8 ∧ levelss ts ≤ 3 ∧ joinB ts ≤ ts.length * 102
  | [], _ => ⟨Nat.zero_le _, Nat.zero_le _, Nat.zero_le _⟩
  | t :: ts, h => by
    obtain ⟨a1, a2, a3⟩ := goods_b t (h t (List.mem_cons_self ..))
    obtain ⟨b1, b2, b3⟩ := sizes_g (ts := ts) fun u hu => h u (List.mem_cons_of_mem _ hu)
    refine ⟨?_, ?_, ?_⟩
    · show size t + sizes ts ≤ (ts.length + 1) * 8
      omega
    · show max (levels t) (levelss ts) ≤ 3
      omega
    · unfold joinB at b3 ⊢
      show ((said t).length :: (saids ts).map (·.length)).sum + (ts.length + 1) * 2 ≤ (ts.length + 1) * 102
      rw [List.sum_cons]
      omega
theorem said_len {z : Str} {ts : List Tr} (hz : z.length ≤ 20) (hg : ∀ t ∈ ts, t ∈ goodsT) (hl : ts.length ≤ 7) : (said (.nd true z ts)).length ≤ 1000 := by
  rw [said_nd, str_len, str_len, str_len]
  have := join_len ts
  have := (sizes_g hg).2.2
  have b1 : ("(" : Str).length = 1 := by decide +kernel
  have b2 : (")" : Str).length = 1 := by decide +kernel
  omega
/-- a node of the drawn parts -/
theorem newOk {K : PySem.W.Frag} {C : Cl5} {CP L : Addr} {z : Str} {vs : List V} {ts : List Tr} {H : Hp} {Q : VK} {E : XK} (hz : nameS z = true) (ho : PyData.strOk z = true) (hL : H L = some (.lst vs)) (hp : PtsAt C H vs ts) (hg : ∀ t ∈ ts, t ∈ goodsT) (hl : ts.length ≤ 7)
    (k : ∀ H' x, Same H H' → H x = none → PtAt C H' (.ref x) (.nd true z ts) → HasQ C H' x vs → Q (.ref x) H') : spNew K C CP [.str z, .ref L] H Q E := by
  obtain ⟨b1, b2, b3⟩ := sizes_g hg
  refine ⟨.str z, L, vs, ts.map PI.good, rfl, val_nm hz ho, hL, li_good hp (fun t ht => goods_ok t (hg t ht)), by rw [List.length_map]; exact hl, by rw [parts_good]; omega, ?_⟩
  unfold LikeRes
  rw [like_none hz (by omega) (by omega), parts_good]
  intro H' x z' e s n p q
  cases e
  exact k H' x s n p q
theorem pt_plain {C : Cl5} {H : Hp} {v : V} {t : Tr} (h : PtAt C H v t) : plainV v = true := by
  match t, h with
  | .tx _, h => have h : v = .str _ := h; rw [h]; rfl
  | .row _, ⟨_, _, h, _⟩ => rw [h]; rfl
  | .vr _ _, ⟨_, _, _, h, _⟩ => rw [h]; rfl
  | .nd _ _ _, ⟨_, _, _, _, _, h, _⟩ => rw [h]; rfl
theorem pts_plain {C : Cl5} {H : Hp} : ∀ {vs : List V} {ts : List Tr}, PtsAt C H vs ts → ∀ v ∈ vs, plainV v = true
  | [], [], _, _, h => nomatch h
  | v :: vs, t :: ts, h, u, hu => by
    rcases List.mem_cons.mp hu with e | e
    · rw [e]; exact pt_plain h.1
    · exact pts_plain h.2 u e
  | [], _ :: _, h, _, _ => False.elim h
  | _ :: _, [], h, _, _ => False.elim h
/-! ### tuples of the same things -/
def rNeTSm (K : PySem.W.Frag) : R2 := fun x y H Q => ∃ (a b : Addr) (vs : List V), x = .ref a ∧ y = .ref b ∧ SqT K H a vs ∧ SqT K H b vs ∧ (∀ v ∈ vs, plainV v = true) ∧ Q (.bl false) H
section
variable {X : Cx}
theorem op_neTSm (hu : X.A.units < cLine) : OpR X (compareOp .NotEq) (rNeTSm X.K) := by
  intro pins s σ H x y v u Q I rx ry h
  obtain ⟨a, b, vs, rfl, rfl, ha, hb, hv, q⟩ := h
  obtain rfl : v = Value.ref a := rx
  obtain rfl : u = Value.ref b := ry
  obtain ⟨its, r, pl, _⟩ := I.tuple ha
  obtain ⟨its2, r2, pl2, _⟩ := I.tuple hb
  have hl : its.length = its2.length := by rw [← r.length, ← r2.length]
  show wpAny (model X.prog X.w) X.A (richCompare .NotEq (.ref a) (.ref b)) (EP X pins σ Q) X.xe s
  refine RcNeAt.tuples (e := fun _ => true) pl pl2 hu (fun j h1 h2 => ?_) _ _ _ _ ⟨.bl false, H, I, ?_, q⟩
  · have i1' : j < its.length := by simpa using h1
    have i2' : j < its2.length := by simpa using h2
    obtain ⟨z, ez, rz⟩ := vals_at r i1'
    obtain ⟨z2, ez2, rz2⟩ := vals_at r2 i2'
    rw [ez] at ez2
    cases ez2
    have g1 : its.toArray[j] = its[j] := by simp
    have g2 : its2.toArray[j] = its2[j] := by simp
    rw [g1, g2]
    exact eqat_self (hv z (List.mem_of_getElem? ez)) rz rz2
  · show Value.bool _ = Value.bool false
    simp [hl]
end
/-! [x[j] for x in l], for tuples x -/
theorem lc_at {K : PySem.W.Frag} {i s j : Nat} {σ : L2.St} {H : Hp} {Q : VK} {L : Addr} {xs out : List V} (hv : σ[i]? = some (some (.ref L))) (hL : H L = some (.lst xs)) (ls : s < σ.length)
    (hg : ∀ (k : Nat) (x : V), xs[k]? = some x → ∃ (a : Addr) (ws : List V) (v : V), x = .ref a ∧ H a = some (.tup ws) ∧ ws[j]? = some v ∧ out[k]? = some v) (hl : out.length = xs.length) (hs : xs.length < sizeLine) (k : ∀ H' D, Same H H' → H D = none → H' D = some (.lst out) → Q (.ref D) H') :
    tLc (iList K (tVar i)) (gName s) tYes (tOp (rIxT K) (tVar s) (tC (.int (j : Int)))) [s] σ H Q := by
  refine ⟨_, hv, L, rfl, ⟨_, SqL.of hL⟩, fun D hD => lc_list (K := K) (a := L) (xs := xs) (fun n H' => Same H H' ∧ H' D = some (.lst (out.take n))) ⟨same_upd (Same.refl H) hD, upd_same⟩ (fun n H' _ ⟨s', _⟩ => SqL.of (s' _ _ hL)) ?_ ?_⟩
  · rintro n x H1 hx ⟨s1, e1⟩
    obtain ⟨a, ws, v, rfl, h1, h2, h3⟩ := hg n x hx
    refine ⟨?_, ?_⟩
    · show ((σ.set s none).set s (some (.ref a))).set s none = σ.set s none
      rw [List.set_set, List.set_set]
    · dsimp only [tYes]
      rw [if_pos rfl]
      refine ⟨.ref a, ?_, a, ws, (j : Int), v, rfl, rfl, SqT.of (s1 _ _ h1), atI_nat h2, _, e1, ?_, same_upd s1 hD, ?_⟩
      · show ((σ.set s none).set s (some (.ref a)))[s]? = _
        rw [List.set_set, List.getElem?_set_self ls]
      · have : (out.take n).length ≤ out.length := by rw [List.length_take]; exact Nat.min_le_right _ _
        omega
      · rw [upd_same, List.take_add_one, h3]
        rfl
  · rintro H1 ⟨s1, e1⟩
    rw [← hl, List.take_length] at e1
    exact k H1 D s1 hD e1

/-- what stands of the node -/
structure OneT (C : Cl5) (PP S : Addr) (as : List Addr) (vs : List V) (ts : List Tr) (H : Hp) : Prop where
  hP : H PP = some (.lst (as.map V.ref))
  prs : Paired (GdAt C H) as ts
  hS : H S = some (.lst vs)
  pt : PtsAt C H vs ts
theorem OneT.same {C : Cl5} {PP S : Addr} {as : List Addr} {vs : List V} {ts : List Tr} {H H' : Hp} (o : OneT C PP S as vs ts H) (s : Same H H') : OneT C PP S as vs ts H' :=
  ⟨s _ _ o.hP, Paired.mapP o.prs fun a b q => q.kpo (KpO.same s), s _ _ o.hS, PtsAt.kpo (KpO.same s) _ o.pt⟩
structure GdW (z : Str) (ts : List Tr) : Prop where
  hz : nameS z = true
  ho : PyData.strOk z = true
  hg : ∀ t ∈ ts, t ∈ goodsT
  hl : ts.length ≤ 7
/-- other things beside a node of a pattern -/
def OddL (K : PySem.W.Frag) (C : Cl5) (H : Hp) (v : V) : Prop := (∃ s ∈ (["NoneType", "int", "str", "tuple"] : List String), TyX K H v (.type s)) ∨ PtAt C H v (.vr 0 "x")
theorem OddL.same {K : PySem.W.Frag} {C : Cl5} {H H' : Hp} {v : V} (s : Same H H') (h : OddL K C H v) : OddL K C H' v := by
  rcases h with ⟨t, ht, ty⟩ | h
  · exact .inl ⟨t, ht, TyX.keep ty fun a o _ q => s a o q⟩
  · exact .inr (PtAt.kpo (KpO.same s) _ h)
theorem eqT_vr (z : Str) (ts : List Tr) (k : Nat) (n : Str) : eqT (.nd true z ts) (.vr k n) = false := by
  unfold eqT
  rw [decide_eq_false (fun h : clsN (.nd true z ts) = clsN (.vr k n) => by
    have e : clsN (.nd true z ts) = 3 := rfl
    rw [e] at h
    match k with
    | 0 => cases h
    | 1 => cases h
    | (_ + 2) => cases h)]
  rfl
theorem eqT_self (t : Tr) : eqT t t = true := by unfold eqT; rw [decide_eq_true rfl, decide_eq_true rfl]; rfl
section
variable {K : PySem.W.Frag} {C : Cl5} {H : Hp} {v y : V} {z : Str} {ts : List Tr} {Q : VK}
theorem eq_oddL (T5 : Ty5 K C) (n : NF5 K C) (hv : PtAt C H v (.nd true z ts)) (h : OddL K C H y) (k : Q (.bl false) H) : rEqO K (clsA C 3) (spEqC K C 3) E0 v y H Q := by
  rcases h with ⟨s, hs, ty⟩ | h
  · exact eq_ty n hv ty hs rfl (by decide) k
  · refine eq_pt T5 n hv h rfl (by decide) ?_
    rw [eqT_vr]
    exact k
theorem ne_oddL (T5 : Ty5 K C) (n : NF5 K C) (hv : PtAt C H v (.nd true z ts)) (h : OddL K C H y) (k : Q (.bl true) H) : rNeO K (clsA C 3) (spEqC K C 3) E0 v y H Q := by
  rcases h with ⟨s, hs, ty⟩ | h
  · exact ne_ty n hv ty hs rfl (by decide) k
  · refine ne_pt T5 n hv h rfl (by decide) ?_
    rw [eqT_vr]
    exact k
end
section
variable {P : Program} {w : World} {K : PySem.W.Frag} {mg : Str → Option Value} {base : Heap} {C : Cl5} {CI CP f c : Addr} {a : AdG} {d : AdN} {e : AdK} {A : Around} {outer : List Env} {s : Shared} {H0 : Hp} {E : XK}
theorem lk8 (TR : TxtG P w K mg base C CI CP a) (NR : TxtNR P w K mg base C CP a d) (LK : TxtLK P w K mg base C CP e) (hr : Room 8 (A.deeper (PyProof.Rows.envOfC "_law_like_right" (defScope sLikeRight) s.heap.objs.size f (.ref c)))) (gR : mg "range" = none)  :
    ∃ t : TS, PS (cxOf CX0 P w K mg base NLK "_law_like_right" (defScope sLikeRight) f (.ref c) A outer s H0 E).nox (stLK 8) t ∧ ∀ (Z : Ends) (H : Hp) (m PP S W O p : Addr) (z : Str) (v5 v7 v8 : Option V) (as : List Addr) (vs : List V) (ts : List Tr), OneT C PP S as vs ts H → GdW z ts →
      (∀ (H' : Hp) (x : Addr), Same H H' → PtAt C H' (.ref x) (.nd true z ts) → HasQ C H' x vs → Z.nx [some (.ref m), some (.str z), some (.ref PP), some (.ref S), some (.ref O), v5, some (.ref W), v7, v8, some (.ref p), some (.ref x), some (.str (said (.nd true z ts))), none, none] H') → t Z [some (.ref m), some (.str z), some (.ref PP), some (.ref S), some (.ref O), v5, some (.ref W), v7, v8, some (.ref p), none, none, none, none] H := by
  have hr6 : Room 6 _ := hr.mono (by decide)
  have hr5 : Room 5 _ := hr.mono (by decide)
  have hr4 : Room 4 _ := hr.mono (by decide)
  have hr3 : Room 3 _ := hr.mono (by decide)
  have hr2 : Room 2 _ := hr.mono (by decide)
  have hr1 : Room 1 _ := hr.mono (by decide)
  have hu64 : (A.deeper (PyProof.Rows.envOfC "_law_like_right" (defScope sLikeRight) s.heap.objs.size f (.ref c))).units + 64 < cLine := by have := hr.un; omega
  have big : (1000000 : Nat) < sizeLine := by decide
  refine ⟨_, (ps_par (i := 10) (j := 11) (by rfl) scLK.nd rfl rfl (by decide) rfl rfl (pa_cons (pe_call (E := E0) LK.GN hr6 rfl LK.AN.g LK.AN.k LK.AN.b .nil passL (pa_cons (pv 1) (pa_cons (pv 3) pa_nil))) (pa_cons (pe_op op_add_str (pe_op op_add_str (pe_op op_add_str (pv 1) pe_str) (pe_bm PySem.F.plainAttrs_str PySem.F.slot_str_join PySem.F.type_str_join mt_join pe_str (pa_cons (pe_lc (own := [("_law_pair", 13)]) (g := gName 13) (tt := tYes) (te := tOp (rIxT K) (tVar 13) (tC (.int 1))) rfl scLK.nd (pi_list (pv 2)) (blkOk_by (N := NLK) (sc := defScope sLikeRight) (by decide +kernel)) (fun _ _ _ _ _ => pg_name (i := 13) scLK.nd rfl (Or.inl rfl)) (fun _ _ _ _ _ => pts_nil) (fun _ _ _ _ _ => (pe_ix ix_tup (pv 13) pe_int (fun _ _ => rfl)))) pa_nil))) pe_str) pa_nil)) (by rfl)), ?_⟩
  rintro Z H m PP S W O p z v5 v7 v8 as vs ts o g k
  have lz : z.length ≤ 20 := nameS_len g.hz
  have b1 : ("(" : Str).length = 1 := by decide +kernel
  have b2 : (")" : Str).length = 1 := by decide +kernel
  have jl := join_len ts
  have jb := (sizes_g g.hg).2.2
  have hl := g.hl
  refine ⟨_, rfl, _, rfl, newOk g.hz g.ho o.hS o.pt g.hg g.hl fun H1 x s1 n1 p1 q1 => ?_⟩
  refine ⟨_, rfl, _, _, rfl, rfl, by rw [b1]; omega, ?_⟩
  refine ⟨rfl, ?_⟩
  have o1 := o.same s1
  have pl := o1.prs.length
  refine lc_at (L := PP) (xs := as.map V.ref) (out := (saids ts).map V.str) (j := 1) rfl o1.hP (by show 13 < 14; decide) (fun i x hx => ?_) (by rw [List.length_map, List.length_map, saids_len]; exact pl.symm) (by rw [List.length_map]; omega) fun H2 D s2 nD hD => ?_
  · rw [List.getElem?_map] at hx
    cases ea : as[i]? with
    | none => rw [ea] at hx; cases hx
    | some a =>
      rw [ea] at hx
      cases hx
      obtain ⟨t, et, u, h1, h2⟩ := LiI.paired_get o1.prs ea
      exact ⟨a, _, .str (said t), rfl, h1, rfl, by rw [List.getElem?_map, saids_map, List.getElem?_map, et]; rfl⟩
  refine ⟨", ", D, saids ts, rfl, rfl, .inl (SqL.of hD), ?_, ?_⟩
  · rw [sep_len, saids_len]
    unfold joinB at jb
    omega
  refine ⟨_, _, rfl, rfl, by rw [str_len, b1]; omega, ?_⟩
  refine ⟨_, _, rfl, rfl, by rw [str_len, str_len, b1, b2]; omega, ?_⟩
  have k2 := k H2 x (s1.trans s2) (PtAt.kpo (KpO.same s2) _ p1) (q1.kpo (KpO.same s2))
  rw [said_nd] at k2
  exact ⟨_, _, rfl, k2⟩
theorem lk9 (TR : TxtG P w K mg base C CI CP a) (NR : TxtNR P w K mg base C CP a d) (LK : TxtLK P w K mg base C CP e) (hr : Room 8 (A.deeper (PyProof.Rows.envOfC "_law_like_right" (defScope sLikeRight) s.heap.objs.size f (.ref c)))) (gR : mg "range" = none)  :
    ∃ t : TS, PS (cxOf CX0 P w K mg base NLK "_law_like_right" (defScope sLikeRight) f (.ref c) A outer s H0 E).nox (stLK 9) t ∧ ∀ (Z : Ends) (H : Hp) (m PP S W O p : Addr) (z : Str) (v5 v7 v8 : Option V) (as : List Addr) (vs : List V) (ts : List Tr) (x : Addr), OneT C PP S as vs ts H → GdW z ts → PtAt C H (.ref x) (.nd true z ts) → HasQ C H x vs → (∀ H', Same H H' → Z.nx [some (.ref m), some (.str z), some (.ref PP), some (.ref S), some (.ref O), v5, some (.ref W), v7, v8, some (.ref p), some (.ref x), some (.str (said (.nd true z ts))), none, none] H') → t Z [some (.ref m), some (.str z), some (.ref PP), some (.ref S), some (.ref O), v5, some (.ref W), v7, v8, some (.ref p), some (.ref x), some (.str (said (.nd true z ts))), none, none] H := by
  have hr6 : Room 6 _ := hr.mono (by decide)
  have hr5 : Room 5 _ := hr.mono (by decide)
  have hr4 : Room 4 _ := hr.mono (by decide)
  have hr3 : Room 3 _ := hr.mono (by decide)
  have hr2 : Room 2 _ := hr.mono (by decide)
  have hr1 : Room 1 _ := hr.mono (by decide)
  have hu64 : (A.deeper (PyProof.Rows.envOfC "_law_like_right" (defScope sLikeRight) s.heap.objs.size f (.ref c))).units + 64 < cLine := by have := hr.un; omega
  have big : (1000000 : Nat) < sizeLine := by decide
  have hu8 : (A.deeper (PyProof.Rows.envOfC "_law_like_right" (defScope sLikeRight) s.heap.objs.size f (.ref c))).units + 8 < cLine := by omega
  have hu0 : (A.deeper (PyProof.Rows.envOfC "_law_like_right" (defScope sLikeRight) s.heap.objs.size f (.ref c))).units < cLine := by omega
  refine ⟨_, (ps_if (pt_cmpR (op_neSm hu8) (pe_lst (pa_cons (pe_fld (pv 10) rfl) (pa_cons (pe_fld (pv 10) rfl) (pa_cons (pe_callB call_len_seq (by rfl) TR.T.len PySem.boot_len (pa_cons (pe_fld (pv 10) rfl) pa_nil)) (pa_cons (pe_callB call_isi (by rfl) TR.T.isi PyProof.Rows.boot_isinstance (pa_cons (pe_fld (pv 10) rfl) (pa_cons (pe_bltn (v := .ty "tuple") rfl TR.T.tup PyProof.Rows.boot_tuple rfl) pa_nil))) pa_nil))))) (pe_lst (pa_cons (pv 1) (pa_cons (pv 11) (pa_cons (pe_callB call_len_seq (by rfl) TR.T.len PySem.boot_len (pa_cons (pv 3) pa_nil)) (pa_cons pe_bl pa_nil))))) (nomark _)) (pss_one (ps_ret pe_bl)) pss_nil), ?_⟩
  rintro Z H m PP S W O p z v5 v7 v8 as vs ts x o g p1 q1 k
  have p0 := p1
  obtain ⟨b1, dx, fs, pa, xs, e1, e2, e3, e4, e5, e6, e7, e8, e9, e10⟩ := p1
  cases e1
  obtain ⟨dy, gs, pb, f1, f2, f3⟩ := q1
  rw [f1] at e2
  cases e2
  rw [f2] at e4
  cases e4
  rw [f3] at e5
  cases e5
  have mL : C.L ∈ C.all := C.n_mem true
  have cl := (TR.T5.own _ mL).cl
  have na := TR.N5.na _ mL
  have vl : vs.length = ts.length := pts_len o.pt
  have hl := g.hl
  refine ⟨_, rfl, x, C.L, dx, fs, _, rfl, f1, cl, na _ (by decide +kernel), e3, ?_⟩
  refine ⟨_, rfl, x, C.L, dx, fs, _, rfl, f1, cl, na _ (by decide +kernel), e9, ?_⟩
  refine ⟨_, rfl, x, C.L, dx, fs, _, rfl, f1, cl, na _ (by decide +kernel), f2, ?_⟩
  refine ⟨pa, vs, rfl, .inr (SqT.of f3), ?_⟩
  refine ⟨_, rfl, x, C.L, dx, fs, _, rfl, f1, cl, na _ (by decide +kernel), f2, ?_⟩
  refine ⟨_, _, _, _, true, rfl, .ty "tuple", .base (.tup f3), kit_ty (by decide +kernel), ?_⟩
  rw [← said_nd true z ts]
  refine ⟨by show 4 ≤ sizeLine; omega, fun l1 n1 => ?_⟩
  have s1 : Same H (upd H l1 (.lst [.str z, .str (said (.nd true z ts)), .int ((vs.length : Nat) : Int), .bl true])) := same_upd (Same.refl H) n1
  have v1 : (upd H l1 (.lst [.str z, .str (said (.nd true z ts)), .int ((vs.length : Nat) : Int), .bl true])) l1 = some (.lst [.str z, .str (said (.nd true z ts)), .int ((vs.length : Nat) : Int), .bl true]) := upd_same
  generalize upd H l1 (.lst [.str z, .str (said (.nd true z ts)), .int ((vs.length : Nat) : Int), .bl true]) = H1 at s1 v1 ⊢
  refine ⟨_, rfl, _, rfl, _, rfl, S, vs, rfl, .inl (SqL.of (s1 _ _ o.hS)), ?_⟩
  refine ⟨by show 4 ≤ sizeLine; omega, fun l2 n2 => ?_⟩
  have s2 : Same H1 (upd H1 l2 (.lst [.str z, .str (said (.nd true z ts)), .int ((vs.length : Nat) : Int), .bl true])) := same_upd (Same.refl H1) n2
  have v2 : (upd H1 l2 (.lst [.str z, .str (said (.nd true z ts)), .int ((vs.length : Nat) : Int), .bl true])) l2 = some (.lst [.str z, .str (said (.nd true z ts)), .int ((vs.length : Nat) : Int), .bl true]) := upd_same
  generalize upd H1 l2 (.lst [.str z, .str (said (.nd true z ts)), .int ((vs.length : Nat) : Int), .bl true]) = H2 at s2 v2 ⊢
  refine ⟨l1, l2, _, _, rfl, rfl, SqL.of (s2 _ _ v1), SqL.of v2, .cons (.inl ⟨rfl, rfl⟩) (.cons (.inl ⟨rfl, rfl⟩) (.cons (.inl ⟨rfl, rfl⟩) (.cons (.inl ⟨rfl, rfl⟩) .nil))), _, rfl, ?_⟩
  refine iteF ?_
  exact k H2 (s1.trans s2)
theorem lk10 (TR : TxtG P w K mg base C CI CP a) (NR : TxtNR P w K mg base C CP a d) (LK : TxtLK P w K mg base C CP e) (hr : Room 8 (A.deeper (PyProof.Rows.envOfC "_law_like_right" (defScope sLikeRight) s.heap.objs.size f (.ref c)))) (gR : mg "range" = none)  :
    ∃ t : TS, PS (cxOf CX0 P w K mg base NLK "_law_like_right" (defScope sLikeRight) f (.ref c) A outer s H0 E).nox (stLK 10) t ∧ ∀ (Z : Ends) (H : Hp) (m PP S W O p : Addr) (z : Str) (v5 v7 v8 : Option V) (as : List Addr) (vs : List V) (ts : List Tr) (x : Addr), OneT C PP S as vs ts H → GdW z ts → PtAt C H (.ref x) (.nd true z ts) → HasQ C H x vs → (∀ H', Same H H' → Z.nx [some (.ref m), some (.str z), some (.ref PP), some (.ref S), some (.ref O), v5, some (.ref W), v7, v8, some (.ref p), some (.ref x), some (.str (said (.nd true z ts))), none, none] H') → t Z [some (.ref m), some (.str z), some (.ref PP), some (.ref S), some (.ref O), v5, some (.ref W), v7, v8, some (.ref p), some (.ref x), some (.str (said (.nd true z ts))), none, none] H := by
  have hr6 : Room 6 _ := hr.mono (by decide)
  have hr5 : Room 5 _ := hr.mono (by decide)
  have hr4 : Room 4 _ := hr.mono (by decide)
  have hr3 : Room 3 _ := hr.mono (by decide)
  have hr2 : Room 2 _ := hr.mono (by decide)
  have hr1 : Room 1 _ := hr.mono (by decide)
  have hu64 : (A.deeper (PyProof.Rows.envOfC "_law_like_right" (defScope sLikeRight) s.heap.objs.size f (.ref c))).units + 64 < cLine := by have := hr.un; omega
  have big : (1000000 : Nat) < sizeLine := by decide
  have hu8 : (A.deeper (PyProof.Rows.envOfC "_law_like_right" (defScope sLikeRight) s.heap.objs.size f (.ref c))).units + 8 < cLine := by omega
  have hu0 : (A.deeper (PyProof.Rows.envOfC "_law_like_right" (defScope sLikeRight) s.heap.objs.size f (.ref c))).units < cLine := by omega
  refine ⟨_, (ps_if (PW.pt (pw_or (pt_cmpR (op_neTSm hu0) (pe_fld (pv 10) rfl) (pe_callTy call_tuple_of (by rfl) TR.T.tup PyProof.Rows.boot_tuple (pa_cons (pv 3) pa_nil)) (nomark _)) (pw_or (pt_not (pt_cmpR (op_eqO (E := E0) NR.OL NR.EL hr1 pass0) (pv 10) (pe_call (E := E0) LK.GN hr6 rfl LK.AN.g LK.AN.k LK.AN.b .nil passL (pa_cons (pv 1) (pa_cons (pv 3) pa_nil))) (nomark _))) (pw_or1 (pt_cmpR (op_neO (E := E0) NR.OL NR.NL NR.EL hr3 pass0) (pv 10) (pe_call (E := E0) LK.GN hr6 rfl LK.AN.g LK.AN.k LK.AN.b .nil passL (pa_cons (pv 1) (pa_cons (pv 3) pa_nil))) (nomark _)))))) (pss_one (ps_ret pe_bl)) pss_nil), ?_⟩
  rintro Z H m PP S W O p z v5 v7 v8 as vs ts x o g p1 q1 k
  obtain ⟨dy, gs, pb, f1, f2, f3⟩ := q1
  have mL : C.L ∈ C.all := C.n_mem true
  have cl := (TR.T5.own _ mL).cl
  have na := TR.N5.na _ mL
  refine ⟨_, rfl, x, C.L, dy, gs, _, rfl, f1, cl, na _ (by decide +kernel), f2, ?_⟩
  refine ⟨_, rfl, S, vs, rfl, .inl ⟨SqL.of o.hS, fun l nl => ?_⟩⟩
  have s1 : Same H (upd H l (.tup vs)) := same_upd (Same.refl H) nl
  have v1 : (upd H l (.tup vs)) l = some (.tup vs) := upd_same
  generalize upd H l (.tup vs) = H1 at s1 v1 ⊢
  refine ⟨pb, l, vs, rfl, rfl, SqT.of (s1 _ _ f3), SqT.of v1, pts_plain o.pt, _, rfl, ?_⟩
  refine iteF ?_
  have o1 := o.same s1
  refine ⟨_, rfl, _, rfl, _, rfl, newOk g.hz g.ho o1.hS o1.pt g.hg g.hl fun H2 y s2 n2 p2 _ => ?_⟩
  have s02 := s1.trans s2
  refine eq_pt (j := 3) TR.T5 NR.n5 (PtAt.kpo (KpO.same s02) _ p1) p2 rfl (by decide) ?_
  refine ⟨_, rfl, ?_⟩
  rw [eqT_self]
  refine iteF ?_
  have o2 := o1.same s2
  refine ⟨_, rfl, _, rfl, _, rfl, newOk g.hz g.ho o2.hS o2.pt g.hg g.hl fun H3 y3 s3 n3 p3 _ => ?_⟩
  have s03 := s02.trans s3
  refine ne_pt (j := 3) TR.T5 NR.n5 (PtAt.kpo (KpO.same s03) _ p1) p3 rfl (by decide) ?_
  refine ⟨_, rfl, ?_⟩
  rw [eqT_self]
  refine iteF ?_
  exact k H3 s03
theorem lk11 (TR : TxtG P w K mg base C CI CP a) (NR : TxtNR P w K mg base C CP a d) (LK : TxtLK P w K mg base C CP e) (hr : Room 8 (A.deeper (PyProof.Rows.envOfC "_law_like_right" (defScope sLikeRight) s.heap.objs.size f (.ref c)))) (gR : mg "range" = none)  :
    ∃ t : TS, PS (cxOf CX0 P w K mg base NLK "_law_like_right" (defScope sLikeRight) f (.ref c) A outer s H0 E).nox (stLK 11) t ∧ ∀ (Z : Ends) (H : Hp) (m PP S W O p : Addr) (z : Str) (v5 v7 v8 : Option V) (as : List Addr) (vs : List V) (ts : List Tr) (x : Addr), OneT C PP S as vs ts H → GdW z ts → PtAt C H (.ref x) (.nd true z ts) → HasQ C H x vs → (∀ H' v12, Same H H' → Z.nx [some (.ref m), some (.str z), some (.ref PP), some (.ref S), some (.ref O), v5, some (.ref W), v7, v8, some (.ref p), some (.ref x), some (.str (said (.nd true z ts))), v12, none] H') → t Z [some (.ref m), some (.str z), some (.ref PP), some (.ref S), some (.ref O), v5, some (.ref W), v7, v8, some (.ref p), some (.ref x), some (.str (said (.nd true z ts))), none, none] H := by
  have hr6 : Room 6 _ := hr.mono (by decide)
  have hr5 : Room 5 _ := hr.mono (by decide)
  have hr4 : Room 4 _ := hr.mono (by decide)
  have hr3 : Room 3 _ := hr.mono (by decide)
  have hr2 : Room 2 _ := hr.mono (by decide)
  have hr1 : Room 1 _ := hr.mono (by decide)
  have hu64 : (A.deeper (PyProof.Rows.envOfC "_law_like_right" (defScope sLikeRight) s.heap.objs.size f (.ref c))).units + 64 < cLine := by have := hr.un; omega
  have big : (1000000 : Nat) < sizeLine := by decide
  have hu8 : (A.deeper (PyProof.Rows.envOfC "_law_like_right" (defScope sLikeRight) s.heap.objs.size f (.ref c))).units + 8 < cLine := by omega
  have hu0 : (A.deeper (PyProof.Rows.envOfC "_law_like_right" (defScope sLikeRight) s.heap.objs.size f (.ref c))).units < cLine := by omega
  refine ⟨_, (ps_for PassesOwn.never rfl (pi_tup (pe_tup (pa_cons pe_non (pa_cons pe_int (pa_cons (pe_fld (pv 10) rfl) (pa_cons (pe_fld (pv 10) rfl) (pa_cons (pe_mkV (E := E0) (j := 0) TR.MV TR.GV hr4 rfl TR.gV TR.BV passL (pa_cons pe_str pa_nil)) (pa_cons (pe_call LK.GDb hr1 rfl LK.ADb.g LK.ADb.k LK.ADb.b .nil pass0 (pa_cons pe_int pa_nil)) pa_nil)))))))) (pg_name (i := 12) scLK.nd rfl (.inl rfl)) (pss_one (ps_if (PW.pt (pw_or (pt_cmpR (op_eqO (E := E0) NR.OL NR.EL hr1 pass0) (pv 10) (pv 12) (nomark _)) (pw_or1 (pt_not (pt_cmpR (op_neO (E := E0) NR.OL NR.NL NR.EL hr3 pass0) (pv 10) (pv 12) (nomark _)))))) (pss_one (ps_ret pe_bl)) pss_nil))), ?_⟩
  rintro Z H m PP S W O p z v5 v7 v8 as vs ts x o g p1 q1 k
  have p0 := p1
  obtain ⟨b1, dx, fs, pa, xs, e1, e2, e3, e4, e5, e6, e7, e8, e9, e10⟩ := p1
  cases e1
  obtain ⟨dy, gs, pb, f1, f2, f3⟩ := q1
  rw [f1] at e2
  cases e2
  have mL : C.L ∈ C.all := C.n_mem true
  have cl := (TR.T5.own _ mL).cl
  have na := TR.N5.na _ mL
  refine ⟨_, rfl, x, C.L, dx, fs, _, rfl, f1, cl, na _ (by decide +kernel), e9, ?_⟩
  refine ⟨_, rfl, x, C.L, dx, fs, _, rfl, f1, cl, na _ (by decide +kernel), f2, ?_⟩
  rw [← said_nd true z ts]
  refine mkV_c (by decide +kernel) fun H1 l1 s1 n1 w1 => ?_
  refine ⟨0, by decide, rfl, fun H3 l2 x3 s3 n3 w3 d3 => ?_⟩
  rw [if_pos rfl] at w3
  have s13 := s1.trans s3
  refine ⟨by show 6 ≤ sizeLine; omega, fun tp ntp => ?_⟩
  have s4 : Same H3 (upd H3 tp (.tup [.non, .int 0, .str (said (.nd true z ts)), .ref pb, .ref l1, .ref l2])) := same_upd (Same.refl H3) ntp
  have v4 : (upd H3 tp (.tup [.non, .int 0, .str (said (.nd true z ts)), .ref pb, .ref l1, .ref l2])) tp = some (.tup [.non, .int 0, .str (said (.nd true z ts)), .ref pb, .ref l1, .ref l2]) := upd_same
  generalize upd H3 tp (.tup [.non, .int 0, .str (said (.nd true z ts)), .ref pb, .ref l1, .ref l2]) = H4 at s4 v4 ⊢
  have s04 := s13.trans s4
  have odd : ∀ v ∈ ([.non, .int 0, .str (said (.nd true z ts)), .ref pb, .ref l1, .ref l2] : List V), OddL K C H4 v := by
    intro v hv
    simp only [List.mem_cons, List.not_mem_nil, or_false] at hv
    rcases hv with rfl | rfl | rfl | rfl | rfl | rfl
    · exact .inl ⟨"NoneType", by decide, .base .non⟩
    · exact .inl ⟨"int", by decide, .base (.int _)⟩
    · exact .inl ⟨"str", by decide, .base (.str _)⟩
    · exact .inl ⟨"tuple", by decide, .base (.tup (s04 _ _ f3))⟩
    · exact .inr (PtAt.kpo (KpO.same (s3.trans s4)) _ w1)
    · exact .inl ⟨"tuple", by decide, .base (.tup (s4 _ _ w3))⟩
  refine ⟨tp, rfl, ⟨_, SqT.of v4⟩, for_tup (K := K) (a := tp) (xs := [.non, .int 0, .str (said (.nd true z ts)), .ref pb, .ref l1, .ref l2]) (fun i σ H' => ∃ v12 : Option V, σ = [some (.ref m), some (.str z), some (.ref PP), some (.ref S), some (.ref O), v5, some (.ref W), v7, v8, some (.ref p), some (.ref x), some (.str (said (.nd true z ts))), v12, none] ∧ Same H4 H') ⟨_, rfl, Same.refl _⟩ (fun i σ H' _ ⟨_, _, s'⟩ => SqT.of (s' _ _ v4)) ?_ (fun σ H' ⟨v6, e, s'⟩ => by rw [e]; exact k H' v6 (s04.trans s'))⟩
  rintro i y σ H6 hy ⟨v6, rfl, s6⟩
  have oy := (odd y (List.mem_of_getElem? hy)).same s6
  have A1 := PtAt.kpo (KpO.same (s04.trans s6)) _ p0
  refine ⟨_, rfl, _, rfl, eq_oddL TR.T5 NR.n5 A1 oy ⟨_, rfl, ?_⟩⟩
  refine iteF ?_
  refine ⟨_, rfl, _, rfl, ne_oddL TR.T5 NR.n5 A1 oy ⟨_, rfl, ?_⟩⟩
  refine iteF ?_
  exact ⟨_, rfl, s6⟩
theorem lk12 (TR : TxtG P w K mg base C CI CP a) (NR : TxtNR P w K mg base C CP a d) (LK : TxtLK P w K mg base C CP e) (hr : Room 8 (A.deeper (PyProof.Rows.envOfC "_law_like_right" (defScope sLikeRight) s.heap.objs.size f (.ref c)))) (gR : mg "range" = none)  :
    ∃ t : TS, PS (cxOf CX0 P w K mg base NLK "_law_like_right" (defScope sLikeRight) f (.ref c) A outer s H0 E).nox (stLK 12) t ∧ ∀ (Z : Ends) (H : Hp) (m PP S W O p : Addr) (z : Str) (v5 v7 v8 : Option V) (as : List Addr) (vs : List V) (ts : List Tr) (x : Addr) (v12 : Option V), OneT C PP S as vs ts H → GdW z ts → (z.length < 20 → nameS (z ++ "x") = true ∧ PyData.strOk (z ++ "x") = true) → PtAt C H (.ref x) (.nd true z ts) → (∀ H', Same H H' → Z.rt (.bl true) H') → t Z [some (.ref m), some (.str z), some (.ref PP), some (.ref S), some (.ref O), v5, some (.ref W), v7, v8, some (.ref p), some (.ref x), some (.str (said (.nd true z ts))), v12, none] H := by
  have hr6 : Room 6 _ := hr.mono (by decide)
  have hr5 : Room 5 _ := hr.mono (by decide)
  have hr4 : Room 4 _ := hr.mono (by decide)
  have hr3 : Room 3 _ := hr.mono (by decide)
  have hr2 : Room 2 _ := hr.mono (by decide)
  have hr1 : Room 1 _ := hr.mono (by decide)
  have hu64 : (A.deeper (PyProof.Rows.envOfC "_law_like_right" (defScope sLikeRight) s.heap.objs.size f (.ref c))).units + 64 < cLine := by have := hr.un; omega
  have big : (1000000 : Nat) < sizeLine := by decide
  have hu8 : (A.deeper (PyProof.Rows.envOfC "_law_like_right" (defScope sLikeRight) s.heap.objs.size f (.ref c))).units + 8 < cLine := by omega
  have hu0 : (A.deeper (PyProof.Rows.envOfC "_law_like_right" (defScope sLikeRight) s.heap.objs.size f (.ref c))).units < cLine := by omega
  refine ⟨_, (ps_ret (pe_ifExp (pt_cmpR op_lt (pe_callB call_len (by rfl) TR.T.len PySem.boot_len (pa_cons (pv 1) pa_nil)) pe_int (nomark _)) (pe_cmpR (op_neO (E := E0) NR.OL NR.NL NR.EL hr3 pass0) (pv 10) (pe_call (E := E0) LK.GN hr6 rfl LK.AN.g LK.AN.k LK.AN.b .nil passL (pa_cons (pe_op op_add_str (pv 1) pe_str) (pa_cons (pv 3) pa_nil))) (nomark _)) pe_bl)), ?_⟩
  rintro Z H m PP S W O p z v5 v7 v8 as vs ts x v12 o g hx p1 k
  have lz : z.length ≤ 20 := nameS_len g.hz
  have bx : ("x" : Str).length = 1 := by decide +kernel
  refine ⟨_, rfl, _, z.length, rfl, ⟨by omega, rfl⟩, _, _, rfl, rfl, _, rfl, ?_⟩
  refine ite2 (fun h => ?_) (fun h => ?_)
  · have lt : z.length < 20 := by
      have := of_decide_eq_true h
      omega
    obtain ⟨h1, h2⟩ := hx lt
    refine ⟨_, rfl, _, rfl, _, _, rfl, rfl, by rw [bx]; omega, _, rfl, newOk h1 h2 o.hS o.pt g.hg g.hl fun H2 y s2 n2 p2 _ => ?_⟩
    refine ne_pt (j := 3) TR.T5 NR.n5 (PtAt.kpo (KpO.same s2) _ p1) p2 rfl (by decide) ?_
    have e : eqT (.nd true z ts) (.nd true (z ++ "x") ts) = false := by
      unfold eqT
      rw [decide_eq_false (p := nmT (.nd true z ts) = nmT (.nd true (z ++ "x") ts)) (fun q => ?_), Bool.and_false]
      have q : said (.nd true z ts) = said (.nd true (z ++ "x") ts) := q
      have := congrArg (·.length) q
      simp only [said_nd, str_len, bx] at this
      omega
    rw [e]
    exact k H2 s2
  · exact k H (Same.refl H)
end
end K3

namespace K3
open PySem PySem.Spec PyProof.Rows PySem.SeqAt L2 E0
open LamX (ExtN Tabs TabS TabB LamS lamS_by lamSB)
theorem Stands.mono2 {N N' : Addr → Prop} {H : Hp} {v : V} (e : ∀ b o, N b → H b = some o → N' b) (h : Stands N H v) : Stands N' H v := fun a q => by
  obtain ⟨o, h1, h2⟩ := h a q
  exact ⟨o, h1, h2.elim .inl fun ⟨y, z⟩ => .inr ⟨e a o y h1, z⟩⟩
theorem BadN.mono2 {K : PySem.W.Frag} {N N' : Addr → Prop} {C : Cl5} {H : Hp} {v : V} (e : ∀ b o, N b → H b = some o → N' b) (h : BadN K N C H v) : BadN K N' C H v := ⟨h.bad, h.st.mono2 e, fun a xs q z x hx => (h.its a xs q z x hx).mono2 e⟩
theorem joinB_sub : ∀ (pis : List PI) (ts : List Tr), pis.length = ts.length → (∀ i : Nat, pis[i]? = some .bad ∨ pis[i]? = (ts[i]?).map PI.good) → joinB (partsOf pis) ≤ joinB ts
  | [], ts, _, _ => by
    show 0 ≤ _
    exact Nat.zero_le _
  | p :: pis, [], hl, _ => nomatch hl
  | p :: pis, t :: ts, hl, h => by
    have ih := joinB_sub pis ts (by simpa using hl) fun i => by
      have := h (i + 1)
      simpa using this
    have h0 := h 0
    simp only [List.getElem?_cons_zero, Option.map_some, Option.some.injEq] at h0
    unfold joinB at ih ⊢
    rcases h0 with e | e
    · rw [e]
      show ((saids (partsOf pis)).map (·.length)).sum + (partsOf pis).length * 2 ≤ ((said t).length :: (saids ts).map (·.length)).sum + (ts.length + 1) * 2
      rw [List.sum_cons]
      omega
    · rw [e]
      show ((said t).length :: (saids (partsOf pis)).map (·.length)).sum + ((partsOf pis).length + 1) * 2 ≤ ((said t).length :: (saids ts).map (·.length)).sum + (ts.length + 1) * 2
      rw [List.sum_cons, List.sum_cons]
      omega
theorem lawK_some {pis : List PI} {j : Nat} (h : firstBad 0 pis = some j) : lawK true pis = .at j := by
  unfold lawK
  rw [if_neg (by decide), h]
theorem lawK_none {pis : List PI} (h : firstBad 0 pis = none) : lawK true pis = .ok := by
  unfold lawK
  rw [if_neg (by decide), h]
/-- the words of the law can be made longer -/
def WordX (wv : V) : Prop := ∀ z, wv = .str z → nameS z = true → z.length < 20 → nameS (z ++ "x") = true ∧ PyData.strOk (z ++ "x") = true
section
variable {P : Program} {w : World} {K : PySem.W.Frag} {mg : Str → Option Value} {base : Heap}
def spLikeRight (K : PySem.W.Frag) (T : List (Addr × Str)) : Sp := fun vs H Q _ => ∃ (m lc lg : Addr) (n : Int) (wv : V), vs = [.ref m, wv] ∧ MA m lc lg n H ∧ n + 100 ≤ 1000000 ∧ OkV K m lg H wv ∧ WordX wv ∧ Tabs T H ∧
  ∀ H' n', FD m lg H H' → MA m lc lg n' H' → n ≤ n' → n' ≤ n + 100 → Tabs T H' → Q (.bl true) H'
theorem ok_likeRight {C : Cl5} {CI CP CS fA f c Pt : Addr} {fd fdA : FuncData} {a : AdG} {d : AdN} {e : AdK} {T : List (Addr × Str)} (F : FunC K "_law_like_right" "_law_like_right" sLikeRight f fd c) (TR : TxtG P w K mg base C CI CP a) (NR : TxtNR P w K mg base C CP a d) (LK : TxtLK P w K mg base C CP e)
    (FA : TxtA K mg CP CS fA fdA) (TB : TabB base mg c Pt) (hmT : (Pt, qLK) ∈ T) (hu : ∀ p ∈ T, p.1 = Pt → p.2 = qLK) (gR : mg "range" = none) : FnOk P w K mg base CX0 9 f fd ["_law_m", "_law_word"] (spLikeRight K T) := by
  refine F.ok scLK (fun vs H Q E h => ?_) (fun A outer s H vs Q E hr h => ?_)
  · obtain ⟨m, lc, lg, n, wv, rfl, _⟩ := h
    rfl
  · obtain ⟨m, lc, lg, n, wv, rfl, M, hn, hwv, hwx, tabs, k⟩ := h
    have hr : Room 8 _ := hr
    obtain ⟨t0, p0, r0⟩ := lk0 (P := P) (w := w) (mg := mg) (base := base) (C := C) (CI := CI) (CP := CP) (f := f) (c := c) (A := A) (outer := outer) (s := s) (H0 := H) (E := E) TR NR LK hr gR
    obtain ⟨t1, p1, r1⟩ := lk1 (P := P) (w := w) (mg := mg) (base := base) (C := C) (CI := CI) (CP := CP) (f := f) (c := c) (A := A) (outer := outer) (s := s) (H0 := H) (E := E) TR NR LK hr gR
    obtain ⟨t2, p2, r2⟩ := lk2 (P := P) (w := w) (mg := mg) (base := base) (C := C) (CI := CI) (CP := CP) (f := f) (c := c) (A := A) (outer := outer) (s := s) (H0 := H) (E := E) TR NR LK hr gR
    obtain ⟨t3, p3, r3⟩ := lk3 (P := P) (w := w) (mg := mg) (base := base) (C := C) (CI := CI) (CP := CP) (f := f) (c := c) (A := A) (outer := outer) (s := s) (H0 := H) (E := E) TR NR LK hr gR
    obtain ⟨t4, p4, r4⟩ := lk4 (P := P) (w := w) (mg := mg) (base := base) (C := C) (CI := CI) (CP := CP) (f := f) (c := c) (A := A) (outer := outer) (s := s) (H0 := H) (E := E) TR NR LK hr gR
    obtain ⟨t5, p5, r5⟩ := lk5 (P := P) (w := w) (mg := mg) (base := base) (C := C) (CI := CI) (CP := CP) (f := f) (c := c) (A := A) (outer := outer) (s := s) (H0 := H) (E := E) TR NR LK hr gR
    obtain ⟨t6, p6, r6⟩ := lk6 (P := P) (w := w) (mg := mg) (base := base) (C := C) (CI := CI) (CP := CP) (f := f) (c := c) (A := A) (outer := outer) (s := s) (H0 := H) (E := E) TR NR LK hr gR FA TB hmT hu
    obtain ⟨t7, p7, r7⟩ := lk7 (P := P) (w := w) (mg := mg) (base := base) (C := C) (CI := CI) (CP := CP) (f := f) (c := c) (A := A) (outer := outer) (s := s) (H0 := H) (E := E) TR NR LK hr gR
    obtain ⟨t8, p8, r8⟩ := lk8 (P := P) (w := w) (mg := mg) (base := base) (C := C) (CI := CI) (CP := CP) (f := f) (c := c) (A := A) (outer := outer) (s := s) (H0 := H) (E := E) TR NR LK hr gR
    obtain ⟨t9, p9, r9⟩ := lk9 (P := P) (w := w) (mg := mg) (base := base) (C := C) (CI := CI) (CP := CP) (f := f) (c := c) (A := A) (outer := outer) (s := s) (H0 := H) (E := E) TR NR LK hr gR
    obtain ⟨t10, p10, r10⟩ := lk10 (P := P) (w := w) (mg := mg) (base := base) (C := C) (CI := CI) (CP := CP) (f := f) (c := c) (A := A) (outer := outer) (s := s) (H0 := H) (E := E) TR NR LK hr gR
    obtain ⟨t11, p11, r11⟩ := lk11 (P := P) (w := w) (mg := mg) (base := base) (C := C) (CI := CI) (CP := CP) (f := f) (c := c) (A := A) (outer := outer) (s := s) (H0 := H) (E := E) TR NR LK hr gR
    obtain ⟨t12, p12, r12⟩ := lk12 (P := P) (w := w) (mg := mg) (base := base) (C := C) (CI := CI) (CP := CP) (f := f) (c := c) (A := A) (outer := outer) (s := s) (H0 := H) (E := E) TR NR LK hr gR
    refine ⟨_, pss_cons p0 (pss_cons p1 (pss_cons p2 (pss_cons p3 (pss_cons p4 (pss_cons p5 (pss_cons p6 (pss_cons p7 (pss_cons p8 (pss_cons p9 (pss_cons p10 (pss_cons p11 (pss_one p12)))))))))))), ?_⟩
    refine r0 _ H m wv fun H1 PP S O ovs s1 nP nS nO nPS nOP nOS hP1 hS1 hO1 ol bad1 => ?_
    have M1 := M.same s1
    have nPl := M.nl nP
    have nSl := M.nl nS
    have nOl := M.nl nO
    refine r1 _ H1 m lc lg PP S O n wv _ ovs M1 (by omega) hP1 hS1 hO1 bad1 (fun b h => ⟨(M.nm h.1).1, (M.nm h.1).2, h.2.1, h.2.2⟩) nPl nSl ⟨nOl.1, nOl.2.1, nOP, nOS⟩ nPS fun H2 n2 as vs ts v5 M2 l2 u2 R2 K2 st2 hS2 tl tg => ?_
    refine r2 _ H2 _ fun H3 W s3 nW hW3 => ?_
    have M3 := M2.same s3
    have nWl := M2.nl nW
    have F02 : FD m lg H H2 := (FD.same s1).rr R2 nP nS
    have nPW : PP ≠ W := fun q => by rw [q] at st2; rw [st2.hP] at nW; cases nW
    have nSW : S ≠ W := fun q => by rw [q] at hS2; rw [hS2] at nW; cases nW
    have nOW : O ≠ W := fun q => by rw [q] at st2; rw [st2.hO] at nW; cases nW
    have nW0 : H W = none := by
      cases q : H W with
      | none => rfl
      | some o =>
        have h2 := R2 W o nWl.1 nWl.2.1 (Ne.symm nPW) (Ne.symm nSW) (s1 _ _ q)
        rw [h2] at nW
        cases nW
    obtain ⟨N, hNd⟩ : ∃ N : Addr → Prop, N = fun b => H b = none ∧ b ≠ PP ∧ b ≠ S ∧ b ≠ W := ⟨_, rfl⟩
    have hN : ∀ b, N b → b ≠ m ∧ b ≠ lg ∧ b ≠ S ∧ b ≠ W := fun b h => by
      rw [hNd] at h
      have z := M.nm h.1
      exact ⟨z.1, z.2, h.2.2⟩
    have st3 : StT K N C PP O as vs ts ovs H3 := by
      refine ⟨s3 _ _ st2.hP, Paired.mapP st2.prs fun a b q => q.kpo (KpO.same s3), PtsAt.kpo (KpO.same s3) _ st2.pt, s3 _ _ st2.hO, fun v hv => ?_⟩
      refine BadN.same s3 (BadN.mono2 (fun b o hb q => ?_) (st2.bad v hv))
      rw [hNd]
      exact ⟨hb.1, hb.2.1, hb.2.2, fun z => (by rw [z, nW] at q; cases q)⟩
    refine r3 _ H3 m lc lg PP S W O n2 wv v5 N as vs ovs ts M3 (by omega) (s3 _ _ hS2) hW3 st3 ol (by omega) (fun t ht => goods_ok t (tg t ht)) ⟨nPl.1, nPl.2.1, nPS, nPW⟩ ⟨nOl.1, nOl.2.1, nOS, nOW⟩ hN ⟨nSl.1, nSl.2.1, nSl.2.2, nSW⟩ nWl fun H4 n4 xs pis ws v7 v8 M4 l4 u4 R4 K4 hS4 hW4 wr pin st4 => ?_
    have F04 : FD m lg H H4 := (F02.trans (FD.same s3)).rr R4 nS nW0
    have tabs4 : Tabs T H4 := by
      have t2 : Tabs T H2 := RR.tabs (tabs.ext s1) R2 M1 hP1 hS1
      exact RR.tabs (t2.ext s3) R4 M3 (s3 _ _ hS2) hW3
    have hwv4 := hwv.fd F04
    refine r4 _ H4 _ wv rfl hwv4.b.val fun H5 p0 s5 hp0 => ?_
    refine r5 _ H5 m PP S W O p0 wv v5 v7 v8 (nameV wv) vs xs ts pis ws (s5 _ _ hS4) (s5 _ _ hW4) wr (by have := wr.lx; omega) hp0 fun H6 p1 v8' s6 hp1 => ?_
    have s46 := s5.trans s6
    have F06 := F04.trans (FD.same s46)
    have k1 : (lawK (nameV wv) pis).isOk = true → nameV wv = true ∧ firstBad 0 pis = none := fun h => by
      unfold lawK at h
      cases hn2 : nameV wv with
      | false => rw [hn2] at h; cases h
      | true =>
        rw [hn2] at h
        rw [if_neg (by decide)] at h
        cases hb : firstBad 0 pis with
        | none => exact ⟨rfl, rfl⟩
        | some j => rw [hb] at h; cases h
    have gb := sizes_g tg
    have due : likeDue wv pis = (lawK (nameV wv) pis).opt := by
      cases hn2 : nameV wv with
      | false => exact due_form hn2
      | true =>
        cases hb : firstBad 0 pis with
        | some j =>
          rw [lawK_some hb]
          exact due_bad hn2 hb
        | none =>
          obtain ⟨e1, e2⟩ := wr.clean hb
          rw [lawK_none hb, e1, due_good hn2, if_neg (by omega)]
          rfl
    have jb : joinB (partsOf pis) ≤ 16000000 := by
      have := joinB_sub pis ts wr.lp fun i => by
        by_cases q : i ∈ ws
        · exact .inl (wr.bad i q).1
        · exact .inr (wr.good i q).1
      omega
    have pin6 := Paired.mapP pin fun a b q => PIN.kp (KpN.same s46) (KpO.same s46) q
    refine r6 _ H6 _ p1 S _ wv xs pis N rfl rfl rfl (tabs4.ext s46) (hwv.fd F06).b (s46 _ _ hS4) pin6 (by rw [wr.lp]; exact tl) jb hp1 due fun H7 e7 tb7 => ?_
    have F07 := F06.trans (FD.ext e7)
    have M7 := (M4.same s46).ext e7
    have hS7 := e7 _ _ (s46 _ _ hS4) fun _ => nofun
    have st6 := st4.rr (RR.same (m := m) (lg := lg) (S := S) (W := W) s46) (KpN.same s46) (KpO.same s46) ⟨nPl.1, nPl.2.1, nPS, nPW⟩ ⟨nOl.1, nOl.2.1, nOS, nOW⟩
    refine r7 _ H7 _ p1 _ rfl (e7 _ _ hp1 fun _ => nofun) fun H8 s8 => ⟨fun _ => ?_, fun hok => ?_⟩
    · exact k H8 n4 (F07.trans (FD.same s8)) (M7.same s8) (by omega) (by omega) (tb7.ext s8)
    · obtain ⟨hn2, hb⟩ := k1 hok
      obtain ⟨e1, e2⟩ := wr.clean hb
      obtain ⟨z, rfl⟩ : ∃ z, wv = .str z := by
        cases wv with
        | str z => exact ⟨z, rfl⟩
        | _ => cases hn2
      have hz : nameS z = true := hn2
      have ho : PyData.strOk z = true := by
        rcases hwv.b with ⟨z', e, _, o⟩ | ⟨h, _⟩
        · cases e; exact o
        · exact absurd rfl (h z)
      have g : GdW z ts := ⟨hz, ho, tg, tl⟩
      have o8 : OneT C PP S as vs ts H8 := by
        rw [e2] at hS7
        exact OneT.same ⟨e7 _ _ st6.hP fun _ => nofun, Paired.mapP st6.prs fun a b q => q.kpo (KpO.ext e7), hS7, PtsAt.kpo (KpO.ext e7) _ st6.pt⟩ s8
      refine r8 _ H8 m PP S W O p1 z v5 v7 v8' as vs ts o8 g fun H9 x s9 px qx => ?_
      have o9 := o8.same s9
      refine r9 _ H9 m PP S W O p1 z v5 v7 v8' as vs ts x o9 g px qx fun H10 s10 => ?_
      have o10 := o9.same s10
      have px10 := PtAt.kpo (KpO.same s10) _ px
      have qx10 := qx.kpo (KpO.same s10)
      refine r10 _ H10 m PP S W O p1 z v5 v7 v8' as vs ts x o10 g px10 qx10 fun H11 s11 => ?_
      have o11 := o10.same s11
      have px11 := PtAt.kpo (KpO.same s11) _ px10
      have qx11 := qx10.kpo (KpO.same s11)
      refine r11 _ H11 m PP S W O p1 z v5 v7 v8' as vs ts x o11 g px11 qx11 fun H12 v12 s12 => ?_
      refine r12 _ H12 m PP S W O p1 z v5 v7 v8' as vs ts x v12 (o11.same s12) g (hwx z rfl hz) (PtAt.kpo (KpO.same s12) _ px11) fun H13 s13 => ?_
      have s713 := s8.trans (s9.trans (s10.trans (s11.trans (s12.trans s13))))
      exact k H13 n4 (F07.trans (FD.same s713)) (M7.same s713) (by omega) (by omega) (tb7.ext s713)
end
end K3

namespace K3
open PySem PySem.Spec PyProof.Rows PySem.SeqAt L2 E0 EG
open LamX (ExtN Tabs TabS TabB LamS lamS_by lamSB)
section
variable {P : Program} {w : World} {K : PySem.W.Frag} {mg : Str → Option Value} {base : Heap}
theorem okG {x qual : Str} {st : Stmt} {f : Addr} {fd : FuncData} {N ps : List Str} {k : Nat} {sp : Sp} (F : Fun K x qual st f fd) (S : FnScope N ps (defScope st)) (len : ∀ vs H Q E, sp vs H Q E → vs.length = ps.length)
    (bd : ∀ (cdv : Value) (A : Around) (outer : List Env) (s : Shared) (H : Hp) (vs : List V) (Q : VK) (E : XK), Room k (A.deeper (PyProof.Rows.envOfC qual (defScope st) s.heap.objs.size f cdv)) → A.guards = some [] → sp vs H Q E →
      ∃ t, PSs (cxOf CX0 P w K mg base N qual (defScope st) f cdv A outer s H E).nox (defBody st) t ∧ t { nx := fun _ H' => Q .non H', rt := Q } (L2.start N vs) H) : FnG P w K mg base CX0 (k + 1) f fd ps sp := by
  obtain ⟨oc, od, kV, doc, pm, an, cdv, ct, osl, rfl, lk, hcd⟩ := F.ex
  refine fnG_of lk hcd S len fun A outer s H vs Q E hr hG hsp => ?_
  obtain ⟨t, h, q⟩ := bd cdv A outer s H vs Q E hr hG hsp
  exact ⟨t, h.nox, q⟩
theorem okGC {x qual : Str} {st : Stmt} {f c : Addr} {fd : FuncData} {N ps : List Str} {k : Nat} {sp : Sp} (F : FunC K x qual st f fd c) (S : FnScope N ps (defScope st)) (len : ∀ vs H Q E, sp vs H Q E → vs.length = ps.length)
    (bd : ∀ (A : Around) (outer : List Env) (s : Shared) (H : Hp) (vs : List V) (Q : VK) (E : XK), Room k (A.deeper (PyProof.Rows.envOfC qual (defScope st) s.heap.objs.size f (.ref c))) → A.guards = some [] → sp vs H Q E →
      ∃ t, PSs (cxOf CX0 P w K mg base N qual (defScope st) f (.ref c) A outer s H E).nox (defBody st) t ∧ t { nx := fun _ H' => Q .non H', rt := Q } (L2.start N vs) H) : FnG P w K mg base CX0 (k + 1) f fd ps sp := by
  obtain ⟨oc, od, kV, doc, pm, an, ct, osl, rfl, lk, hcd⟩ := F.ex
  refine fnG_of lk hcd S len fun A outer s H vs Q E hr hG hsp => ?_
  obtain ⟨t, h, q⟩ := bd A outer s H vs Q E hr hG hsp
  exact ⟨t, h.nox, q⟩
/-- two truth values in a list, shown -/
theorem two_ok (x y : Bool) : (PyData.list [.bool x, .bool y]).showable = true ∧ (PyData.list [.bool x, .bool y]).hasDict = false ∧ (PyData.list [.bool x, .bool y]).depth ≤ 64 ∧ (PyData.list [.bool x, .bool y]).shown.length ≤ 100 := by
  cases x <;> cases y <;> decide +kernel
structure TxtEQ (P : Program) (w : World) (K : PySem.W.Frag) (mg : Str → Option Value) (base : Heap) (C : Cl5) (fTe : Addr) : Prop where
  OT : OwnC K C.T "__eq__" fTe
  ET : FnR P w K mg base CX0 1 fTe (spTreeEq K C)
def NEQ : List Str := ["_law_m", "_law_goods_here", "_law_some", "_law_n", "_law_pair", "_law_other_pair", "_law_near", "_law_far", "_law_leaf"]
theorem scEQ : FnScope NEQ ["_law_m"] (defScope sEqualRight) := ⟨rfl, rfl, rfl, by decide +kernel, rfl, by decide +kernel, by decide +kernel⟩
def stEQ (i : Nat) : Stmt := (defBody sEqualRight).getD i (.Pass ⟨0, 0, 0, 0⟩)
end
/-! ### pairs of nodes and texts -/
def txP (p : Tr × Tr) : Str := said p.1 ++ ", " ++ said p.2
def ndP (p : Tr × Tr) : Tr := .nd true "N" [p.1, p.2]
def ItAt (C : Cl5) (H : Hp) (a : Addr) (p : Tr × Tr) : Prop := ∃ v, H a = some (.tup [v, .str (txP p)]) ∧ PtAt C H v (ndP p)
theorem ItAt.kpo {C : Cl5} {H H' : Hp} {a : Addr} {p : Tr × Tr} (k : KpO H H') (h : ItAt C H a p) : ItAt C H' a p := by
  obtain ⟨v, h1, h2⟩ := h
  exact ⟨v, k _ _ rfl h1, h2.kpo k⟩
theorem said_ndP (p : Tr × Tr) : said (ndP p) = "N" ++ "(" ++ txP p ++ ")" := by
  unfold ndP
  rw [said_nd]
  rfl
theorem str_cancel {a b x y : Str} (h : a ++ x ++ b = a ++ y ++ b) : x = y := by
  refine str_ext ?_
  have h : (a ++ x ++ b).cps.toList = (a ++ y ++ b).cps.toList := by rw [h]
  have e : ∀ z : Str, (a ++ z ++ b).cps.toList = a.cps.toList ++ z.cps.toList ++ b.cps.toList := fun z => by
    show (a.cps ++ z.cps ++ b.cps).toList = _
    rw [Array.toList_append, Array.toList_append]
  rw [e, e] at h
  exact List.append_cancel_left (List.append_cancel_right h)
theorem eqT_ndP (p q : Tr × Tr) : eqT (ndP p) (ndP q) = decide (txP p = txP q) := by
  unfold eqT
  rw [decide_eq_true (show clsN (ndP p) = clsN (ndP q) from rfl), Bool.true_and]
  refine decide_eq_decide.mpr ⟨fun h => ?_, fun h => ?_⟩
  · have h : said (ndP p) = said (ndP q) := h
    rw [said_ndP, said_ndP] at h
    exact str_cancel h
  · show said (ndP p) = said (ndP q)
    rw [said_ndP, said_ndP, h]
theorem dec_str (a b : Str) : decide (V.str a = V.str b) = decide (a = b) := decide_eq_decide.mpr ⟨fun q => V.str.inj q, fun q => by rw [q]⟩
theorem mkN_ok {K : PySem.W.Frag} {C : Cl5} {CI : Addr} {v1 v2 : V} {t1 t2 : Tr} {H : Hp} {Q : VK} {E : XK} (h1 : t1 ∈ goodsT) (h2 : t2 ∈ goodsT) (p1 : PtAt C H v1 t1) (p2 : PtAt C H v2 t2) (k : ∀ H' x, Same H H' → PtAt C H' (.ref x) (ndP (t1, t2)) → Q (.ref x) H') : MkL K C CI [.str "N", v1, v2] H Q E := by
  have hg : ∀ t ∈ [t1, t2], t ∈ goodsT := fun t ht => by
    simp only [List.mem_cons, List.not_mem_nil, or_false] at ht
    rcases ht with rfl | rfl
    · exact h1
    · exact h2
  obtain ⟨b1, b2, b3⟩ := sizes_g hg
  have b1 : sizes [t1, t2] ≤ 16 := b1
  have b3 : joinB [t1, t2] ≤ 204 := b3
  exact mkL_good (ts := [t1, t2]) (by decide +kernel) (by decide +kernel) ⟨p1, p2, True.intro⟩ (fun t ht => goods_ok t (hg t ht)) (by show 2 ≤ 1000; decide) (by omega) (by omega) (by omega) fun H' x s _ p _ => k H' x s p
section
variable {P : Program} {w : World} {K : PySem.W.Frag} {mg : Str → Option Value} {base : Heap} {C : Cl5} {CI CP f fTe : Addr} {cdv : Value} {a : AdG} {d : AdN} {e : AdK} {A : Around} {outer : List Env} {s : Shared} {H0 : Hp} {E : XK}
theorem eqr0 (TR : TxtG P w K mg base C CI CP a) (NR : TxtNR P w K mg base C CP a d) (LK : TxtLK P w K mg base C CP e) (EQ : TxtEQ P w K mg base C fTe) (hr : Room 8 (A.deeper (PyProof.Rows.envOfC "_law_equal_right" (defScope sEqualRight) s.heap.objs.size f cdv))) (hG : A.guards = some []) (gR : mg "range" = none) (gRp : mg "repr" = none) :
    ∃ t : TS, PS (cxOf CX0 P w K mg base NEQ "_law_equal_right" (defScope sEqualRight) f cdv A outer s H0 E).nox (stEQ 0) t ∧ ∀ (Z : Ends) (H : Hp) (m : Addr), (∀ (H' : Hp) (G S : Addr) (ga : List Addr), Same H H' → H G = none → H S = none → G ≠ S → H' G = some (.lst (ga.map V.ref)) → Paired (GdAt C H') ga goodsT → H' S = some (.lst []) → Z.nx [some (.ref m), some (.ref G), some (.ref S), none, none, none, none, none, none] H') → t Z [some (.ref m), none, none, none, none, none, none, none, none] H := by
  have hr6 : Room 6 _ := hr.mono (by decide)
  have hr5 : Room 5 _ := hr.mono (by decide)
  have hr4 : Room 4 _ := hr.mono (by decide)
  have hr3 : Room 3 _ := hr.mono (by decide)
  have hr2 : Room 2 _ := hr.mono (by decide)
  have hr1 : Room 1 _ := hr.mono (by decide)
  have hu80 : (A.deeper (PyProof.Rows.envOfC "_law_equal_right" (defScope sEqualRight) s.heap.objs.size f cdv)).units + 80 < cLine := by have := hr.un; omega
  have big : (1000000 : Nat) < sizeLine := by decide
  refine ⟨_, (ps_par (i := 1) (j := 2) (by rfl) scEQ.nd rfl rfl (by decide) rfl rfl (pa_cons (pe_call0 (E := E0) LK.GG hr6 rfl LK.AG.g LK.AG.k LK.AG.b .nil pass0) (pa_cons (pe_lst pa_nil) pa_nil)) (by rfl)), ?_⟩
  rintro Z H m k
  refine ⟨rfl, fun H1 G ga s1 nG hG gG => ?_⟩
  refine ⟨Nat.zero_le _, fun S nS => ?_⟩
  have s2 : Same H1 (upd H1 S (.lst [])) := same_upd (Same.refl H1) nS
  have v2 : (upd H1 S (.lst [])) S = some (.lst []) := upd_same
  generalize upd H1 S (.lst []) = H2 at s2 v2 ⊢
  exact ⟨_, _, rfl, k H2 G S ga (s1.trans s2) nG (s1.free nS) (fun q => by rw [q, nS] at hG; cases hG) (s2 _ _ hG) (Paired.mapP gG fun a b q => q.kpo (KpO.same s2)) v2⟩
theorem eqr1 (TR : TxtG P w K mg base C CI CP a) (NR : TxtNR P w K mg base C CP a d) (LK : TxtLK P w K mg base C CP e) (EQ : TxtEQ P w K mg base C fTe) (hr : Room 8 (A.deeper (PyProof.Rows.envOfC "_law_equal_right" (defScope sEqualRight) s.heap.objs.size f cdv))) (hG : A.guards = some []) (gR : mg "range" = none) (gRp : mg "repr" = none) :
    ∃ t : TS, PS (cxOf CX0 P w K mg base NEQ "_law_equal_right" (defScope sEqualRight) f cdv A outer s H0 E).nox (stEQ 1) t ∧ ∀ (Z : Ends) (H : Hp) (m lc lg G S : Addr) (n : Int) (ga : List Addr), MA m lc lg n H → n + 20 ≤ 1000000 → H G = some (.lst (ga.map V.ref)) → Paired (GdAt C H) ga goodsT → H S = some (.lst []) → (S ≠ m ∧ S ≠ lg ∧ S ≠ lc) → (G ≠ m ∧ G ≠ lg ∧ G ≠ S) →
      (∀ (H' : Hp) (as : List Addr) (ps : List (Tr × Tr)) (n' : Int) (v3 v4 v5 : Option V), MA m lc lg n' H' → n ≤ n' → n' ≤ n + 16 → RR m lg S S H H' → KpO H H' → H' S = some (.lst (as.map V.ref)) → Paired (ItAt C H') as ps → ps.length = 8 → Z.nx [some (.ref m), some (.ref G), some (.ref S), v3, v4, v5, none, none, none] H') → t Z [some (.ref m), some (.ref G), some (.ref S), none, none, none, none, none, none] H := by
  have hr6 : Room 6 _ := hr.mono (by decide)
  have hr5 : Room 5 _ := hr.mono (by decide)
  have hr4 : Room 4 _ := hr.mono (by decide)
  have hr3 : Room 3 _ := hr.mono (by decide)
  have hr2 : Room 2 _ := hr.mono (by decide)
  have hr1 : Room 1 _ := hr.mono (by decide)
  have hu80 : (A.deeper (PyProof.Rows.envOfC "_law_equal_right" (defScope sEqualRight) s.heap.objs.size f cdv)).units + 80 < cLine := by have := hr.un; omega
  have big : (1000000 : Nat) < sizeLine := by decide
  refine ⟨_, (ps_for PassesOwn.never rfl (pi_range1 rfl gR (pa_cons pe_int pa_nil)) (pg_name (i := 3) scEQ.nd rfl (.inl rfl)) (pss_cons (ps_par (i := 4) (j := 5) (by rfl) scEQ.nd rfl rfl (by decide) rfl rfl (pa_cons (pe_ix ix_list (pv 1) (pe_call LK.GD hr2 rfl LK.AD.g LK.AD.k LK.AD.b .nil pass0 (pa_cons (pv 0) (pa_cons pe_int pa_nil))) (fun _ _ => rfl)) (pa_cons (pe_ix ix_list (pv 1) (pe_call LK.GD hr2 rfl LK.AD.g LK.AD.k LK.AD.b .nil pass0 (pa_cons (pv 0) (pa_cons pe_int pa_nil))) (fun _ _ => rfl)) pa_nil)) (by rfl)) (pss_one (ps_expr (pe_bm PySem.F.plainAttrs_list PySem.F.slot_list_append PySem.F.type_list_append mt_append (pv 2) (pa_cons (pe_tup (pa_cons (pe_mkL (E := E0) TR.ML TR.GL hr5 rfl TR.gL passL (pa_cons pe_str (pa_cons (pe_ix ix_tup (pv 4) pe_int (fun _ _ => rfl)) (pa_cons (pe_ix ix_tup (pv 5) pe_int (fun _ _ => rfl)) pa_nil)))) (pa_cons (pe_op op_add_str (pe_op op_add_str (pe_ix ix_tup (pv 4) pe_int (fun _ _ => rfl)) pe_str) (pe_ix ix_tup (pv 5) pe_int (fun _ _ => rfl))) pa_nil))) pa_nil)))))), ?_⟩
  rintro Z H m lc lg G S n ga M hn hG gG hS nS nG k
  have gl : ga.length = 14 := gG.length
  refine ⟨8, rfl, by decide, by decide, for_range (lo := 0) (n := 8) (fun i σ H' => ∃ (as : List Addr) (ps : List (Tr × Tr)) (n' : Int) (v3 v4 v5 : Option V), σ = [some (.ref m), some (.ref G), some (.ref S), v3, v4, v5, none, none, none] ∧ MA m lc lg n' H' ∧ n ≤ n' ∧ n' ≤ n + 2 * (i : Int) ∧ RR m lg S S H H' ∧ KpO H H' ∧ H' S = some (.lst (as.map V.ref)) ∧ Paired (ItAt C H') as ps ∧ ps.length = i)
    ⟨[], [], n, _, _, _, rfl, M, by omega, by omega, fun b o _ _ _ _ q => q, fun b o _ q => q, hS, .nil, rfl⟩ ?_ ?_⟩
  · rintro i σ H2 hi ⟨as, ps, n', v3, v4, v5, rfl, M2, q1, q2, R2, K2, hS2, pA, pl⟩
    have al : as.length = ps.length := pA.length
    refine ⟨_, rfl, _, rfl, m, lc, lg, n', 14, rfl, M2, by omega, by decide, by decide, fun H3 w0 d0 d1 M3 e3 => ?_⟩
    obtain ⟨j, rfl⟩ : ∃ j : Nat, w0 = (j : Int) := ⟨w0.toNat, by omega⟩
    have D3 : DD m lg H2 H3 := e3
    have hG2 := R2 G _ nG.1 nG.2.1 nG.2.2 nG.2.2 hG
    have hG3 := D3 G _ nG.1 nG.2.1 hG2
    have ex1 : ga[j]? = some ga[j] := List.getElem?_eq_getElem (by omega)
    obtain ⟨t1, et1, gt1⟩ := LiI.paired_get gG ex1
    generalize ga[j] = a1 at ex1 gt1
    refine ⟨G, _, _, .ref a1, rfl, rfl, SqL.of hG3, atI_nat (j := j) (by rw [List.getElem?_map, ex1]; rfl), ?_⟩
    refine ⟨_, rfl, _, rfl, m, lc, lg, n' + 1, 14, rfl, M3, by omega, by decide, by decide, fun H4 w1 d2 d3 M4 e4 => ?_⟩
    obtain ⟨j2, rfl⟩ : ∃ j : Nat, w1 = (j : Int) := ⟨w1.toNat, by omega⟩
    have D4 : DD m lg H2 H4 := D3.trans e4
    have hG4 := D4 G _ nG.1 nG.2.1 hG2
    have ex2 : ga[j2]? = some ga[j2] := List.getElem?_eq_getElem (by omega)
    obtain ⟨t2, et2, gt2⟩ := LiI.paired_get gG ex2
    generalize ga[j2] = a2 at ex2 gt2
    refine ⟨G, _, _, .ref a2, rfl, rfl, SqL.of hG4, atI_nat (j := j2) (by rw [List.getElem?_map, ex2]; rfl), ?_⟩
    refine ⟨_, _, rfl, ?_⟩
    have K4 : KpO H2 H4 := D4.kpo M2
    have K04 := K2.trans K4
    obtain ⟨u1, h1, p1⟩ := gt1.kpo K04
    obtain ⟨u2, h2, p2⟩ := gt2.kpo K04
    have in1 : t1 ∈ goodsT := List.mem_of_getElem? et1
    have in2 : t2 ∈ goodsT := List.mem_of_getElem? et2
    have l1 := (goods_b t1 in1).2.2
    have l2 := (goods_b t2 in2).2.2
    have b2 : (", " : Str).length = 2 := sep_len
    have hS4 := D4 S _ nS.1 nS.2.1 hS2
    refine ⟨_, rfl, .inl ⟨rfl, _, SqL.of hS4⟩, ?_⟩
    refine ⟨_, rfl, _, _, _, _, rfl, rfl, SqT.of h1, atI_nat (j := 0) rfl, _, rfl, _, _, _, _, rfl, rfl, SqT.of h2, atI_nat (j := 0) rfl, ?_⟩
    refine mkN_ok in1 in2 p1 p2 fun H5 x s5 p5 => ?_
    refine ⟨_, rfl, _, _, _, _, rfl, rfl, SqT.of (s5 _ _ h1), atI_nat (j := 1) rfl, _, _, rfl, rfl, by rw [b2]; omega, ?_⟩
    refine ⟨_, rfl, _, _, _, _, rfl, rfl, SqT.of (s5 _ _ h2), atI_nat (j := 1) rfl, _, _, rfl, rfl, by rw [str_len, b2]; omega, ?_⟩
    refine ⟨by show 2 ≤ sizeLine; omega, fun p np => ?_⟩
    have s6 : Same H5 (upd H5 p (.tup [.ref x, .str (said t1 ++ ", " ++ said t2)])) := same_upd (Same.refl H5) np
    have v6 : (upd H5 p (.tup [.ref x, .str (said t1 ++ ", " ++ said t2)])) p = some (.tup [.ref x, .str (said t1 ++ ", " ++ said t2)]) := upd_same
    generalize upd H5 p (.tup [.ref x, .str (said t1 ++ ", " ++ said t2)]) = H6 at s6 v6 ⊢
    have s46 := s5.trans s6
    have hS6 := s46 _ _ hS4
    have M6 := M4.same s46
    refine ⟨S, _, _, rfl, rfl, hS6, by rw [List.length_map]; omega, ?_⟩
    have R7 : RR m lg S S H6 (upd H6 S (.lst (as.map V.ref ++ [.ref p]))) := RR.s
    have K7 := R7.kpo M6 hS6 hS6
    have M7 : MA m lc lg (n' + 1 + 1) (upd H6 S (.lst (as.map V.ref ++ [.ref p]))) := M6.offL nS.1 nS.2.1 nS.2.2
    have K27 := (K4.trans (KpO.same s46)).trans K7
    refine ⟨as ++ [p], ps ++ [(t1, t2)], n' + 1 + 1, some (.int (0 + (i : Int))), _, _, rfl, M7, by omega, by omega, R2.trans ((RR.dd D4).trans ((RR.same s46).trans R7)), K2.trans K27, by rw [upd_same, List.map_append]; rfl, ?_, by rw [List.length_append, pl]; rfl⟩
    exact paired_app (Paired.mapP pA fun a b q => q.kpo K27) (.cons ⟨.ref x, K7 _ _ rfl v6, (p5.kpo (KpO.same s6)).kpo K7⟩ .nil)
  · rintro σ H2 ⟨as, ps, n', v3, v4, v5, rfl, M2, q1, q2, R2, K2, hS2, pA, pl⟩
    exact k H2 as ps n' v3 v4 v5 M2 q1 (by omega) R2 K2 hS2 pA pl
theorem eqr2 (TR : TxtG P w K mg base C CI CP a) (NR : TxtNR P w K mg base C CP a d) (LK : TxtLK P w K mg base C CP e) (EQ : TxtEQ P w K mg base C fTe) (hr : Room 8 (A.deeper (PyProof.Rows.envOfC "_law_equal_right" (defScope sEqualRight) s.heap.objs.size f cdv))) (hG : A.guards = some []) (gR : mg "range" = none) (gRp : mg "repr" = none) :
    ∃ t : TS, PS (cxOf CX0 P w K mg base NEQ "_law_equal_right" (defScope sEqualRight) f cdv A outer s H0 E).nox (stEQ 2) t ∧ ∀ (Z : Ends) (H : Hp) (m lc lg S : Addr) (σ : L2.St) (n : Int) (as : List Addr) (ps : List (Tr × Tr)), σ[2]? = some (some (.ref S)) → MA m lc lg n H → H S = some (.lst (as.map V.ref)) → Paired (ItAt C H) as ps → ps.length ≤ 20 → (S ≠ m ∧ S ≠ lg ∧ S ≠ lc) →
      (∀ (H' : Hp) (p : Addr), RR m lg S S H H' → KpO H H' → MA m lc lg n H' → H' S = some (.lst ((as ++ [p]).map V.ref)) → Paired (ItAt C H') (as ++ [p]) (ps ++ [(leafT, .vr 0 "x")]) → Z.nx σ H') → t Z σ H := by
  have hr6 : Room 6 _ := hr.mono (by decide)
  have hr5 : Room 5 _ := hr.mono (by decide)
  have hr4 : Room 4 _ := hr.mono (by decide)
  have hr3 : Room 3 _ := hr.mono (by decide)
  have hr2 : Room 2 _ := hr.mono (by decide)
  have hr1 : Room 1 _ := hr.mono (by decide)
  have hu80 : (A.deeper (PyProof.Rows.envOfC "_law_equal_right" (defScope sEqualRight) s.heap.objs.size f cdv)).units + 80 < cLine := by have := hr.un; omega
  have big : (1000000 : Nat) < sizeLine := by decide
  refine ⟨_, (ps_expr (pe_bm PySem.F.plainAttrs_list PySem.F.slot_list_append PySem.F.type_list_append mt_append (pv 2) (pa_cons (pe_tup (pa_cons (pe_mkL (E := E0) TR.ML TR.GL hr5 rfl TR.gL passL (pa_cons pe_str (pa_cons (pe_mkT (E := E0) TR.MT TR.GT hr5 rfl TR.gT passL (pa_cons pe_str (pa_cons pe_str pa_nil))) (pa_cons (pe_mkV (E := E0) (j := 0) TR.MV TR.GV hr4 rfl TR.gV TR.BV passL (pa_cons pe_str pa_nil)) pa_nil)))) (pa_cons pe_str pa_nil))) pa_nil))), ?_⟩
  rintro Z H m lc lg S σ n as ps h2 M hS pA pl nS k
  have al : as.length = ps.length := pA.length
  refine ⟨_, h2, .inl ⟨rfl, _, SqL.of hS⟩, ?_⟩
  refine mkT_c [.tx "1"] (by decide +kernel) ⟨rfl, True.intro⟩ fun H1 x1 s1 n1 p1 _ => ?_
  refine mkV_c (by decide +kernel) fun H2 x2 s2 n2 p2 => ?_
  refine mkL_c [leafT, .vr 0 "x"] (by decide +kernel) ⟨PtAt.kpo (KpO.same s2) _ p1, p2, True.intro⟩ fun H3 x s3 n3 p3 => ?_
  refine ⟨by show 2 ≤ sizeLine; omega, fun p np => ?_⟩
  rw [show V.str "Num(\"1\"), x" = V.str (txP (leafT, .vr 0 "x")) from congrArg V.str (by decide +kernel)]
  have s4 : Same H3 (upd H3 p (.tup [.ref x, .str (txP (leafT, .vr 0 "x"))])) := same_upd (Same.refl H3) np
  have v4 : (upd H3 p (.tup [.ref x, .str (txP (leafT, .vr 0 "x"))])) p = some (.tup [.ref x, .str (txP (leafT, .vr 0 "x"))]) := upd_same
  generalize upd H3 p (.tup [.ref x, .str (txP (leafT, .vr 0 "x"))]) = H4 at s4 v4 ⊢
  have s04 := s1.trans (s2.trans (s3.trans s4))
  have hS4 := s04 _ _ hS
  have M4 := M.same s04
  refine ⟨S, _, _, rfl, rfl, hS4, by rw [List.length_map]; omega, ?_⟩
  have R5 : RR m lg S S H4 (upd H4 S (.lst (as.map V.ref ++ [.ref p]))) := RR.s
  have K5 := R5.kpo M4 hS4 hS4
  have M5 : MA m lc lg n (upd H4 S (.lst (as.map V.ref ++ [.ref p]))) := M4.offL nS.1 nS.2.1 nS.2.2
  have K05 := (KpO.same s04).trans K5
  refine k _ p ((RR.same s04).trans R5) K05 M5 (by rw [upd_same, List.map_append]; rfl) ?_
  exact paired_app (Paired.mapP pA fun a b q => q.kpo K05) (.cons ⟨.ref x, K5 _ _ rfl v4, (p3.kpo (KpO.same s4)).kpo K5⟩ .nil)
theorem eqr3 (TR : TxtG P w K mg base C CI CP a) (NR : TxtNR P w K mg base C CP a d) (LK : TxtLK P w K mg base C CP e) (EQ : TxtEQ P w K mg base C fTe) (hr : Room 8 (A.deeper (PyProof.Rows.envOfC "_law_equal_right" (defScope sEqualRight) s.heap.objs.size f cdv))) (hG : A.guards = some []) (gR : mg "range" = none) (gRp : mg "repr" = none) :
    ∃ t : TS, PS (cxOf CX0 P w K mg base NEQ "_law_equal_right" (defScope sEqualRight) f cdv A outer s H0 E).nox (stEQ 3) t ∧ ∀ (Z : Ends) (H : Hp) (m lc lg S : Addr) (σ : L2.St) (n : Int) (as : List Addr) (ps : List (Tr × Tr)), σ[2]? = some (some (.ref S)) → MA m lc lg n H → H S = some (.lst (as.map V.ref)) → Paired (ItAt C H) as ps → ps.length ≤ 20 → (S ≠ m ∧ S ≠ lg ∧ S ≠ lc) →
      (∀ (H' : Hp) (p : Addr), RR m lg S S H H' → KpO H H' → MA m lc lg n H' → H' S = some (.lst ((as ++ [p]).map V.ref)) → Paired (ItAt C H') (as ++ [p]) (ps ++ [(.nd true "Num" [.tx "1"], .vr 0 "x")]) → Z.nx σ H') → t Z σ H := by
  have hr6 : Room 6 _ := hr.mono (by decide)
  have hr5 : Room 5 _ := hr.mono (by decide)
  have hr4 : Room 4 _ := hr.mono (by decide)
  have hr3 : Room 3 _ := hr.mono (by decide)
  have hr2 : Room 2 _ := hr.mono (by decide)
  have hr1 : Room 1 _ := hr.mono (by decide)
  have hu80 : (A.deeper (PyProof.Rows.envOfC "_law_equal_right" (defScope sEqualRight) s.heap.objs.size f cdv)).units + 80 < cLine := by have := hr.un; omega
  have big : (1000000 : Nat) < sizeLine := by decide
  refine ⟨_, (ps_expr (pe_bm PySem.F.plainAttrs_list PySem.F.slot_list_append PySem.F.type_list_append mt_append (pv 2) (pa_cons (pe_tup (pa_cons (pe_mkL (E := E0) TR.ML TR.GL hr5 rfl TR.gL passL (pa_cons pe_str (pa_cons (pe_mkL (E := E0) TR.ML TR.GL hr5 rfl TR.gL passL (pa_cons pe_str (pa_cons pe_str pa_nil))) (pa_cons (pe_mkV (E := E0) (j := 0) TR.MV TR.GV hr4 rfl TR.gV TR.BV passL (pa_cons pe_str pa_nil)) pa_nil)))) (pa_cons pe_str pa_nil))) pa_nil))), ?_⟩
  rintro Z H m lc lg S σ n as ps h2 M hS pA pl nS k
  have al : as.length = ps.length := pA.length
  refine ⟨_, h2, .inl ⟨rfl, _, SqL.of hS⟩, ?_⟩
  refine mkL_c [.tx "1"] (by decide +kernel) ⟨rfl, True.intro⟩ fun H1 x1 s1 n1 p1 => ?_
  refine mkV_c (by decide +kernel) fun H2 x2 s2 n2 p2 => ?_
  refine mkL_c [.nd true "Num" [.tx "1"], .vr 0 "x"] (by decide +kernel) ⟨PtAt.kpo (KpO.same s2) _ p1, p2, True.intro⟩ fun H3 x s3 n3 p3 => ?_
  refine ⟨by show 2 ≤ sizeLine; omega, fun p np => ?_⟩
  rw [show V.str "Num(\"1\"), x" = V.str (txP (.nd true "Num" [.tx "1"], .vr 0 "x")) from congrArg V.str (by decide +kernel)]
  have s4 : Same H3 (upd H3 p (.tup [.ref x, .str (txP (.nd true "Num" [.tx "1"], .vr 0 "x"))])) := same_upd (Same.refl H3) np
  have v4 : (upd H3 p (.tup [.ref x, .str (txP (.nd true "Num" [.tx "1"], .vr 0 "x"))])) p = some (.tup [.ref x, .str (txP (.nd true "Num" [.tx "1"], .vr 0 "x"))]) := upd_same
  generalize upd H3 p (.tup [.ref x, .str (txP (.nd true "Num" [.tx "1"], .vr 0 "x"))]) = H4 at s4 v4 ⊢
  have s04 := s1.trans (s2.trans (s3.trans s4))
  have hS4 := s04 _ _ hS
  have M4 := M.same s04
  refine ⟨S, _, _, rfl, rfl, hS4, by rw [List.length_map]; omega, ?_⟩
  have R5 : RR m lg S S H4 (upd H4 S (.lst (as.map V.ref ++ [.ref p]))) := RR.s
  have K5 := R5.kpo M4 hS4 hS4
  have M5 : MA m lc lg n (upd H4 S (.lst (as.map V.ref ++ [.ref p]))) := M4.offL nS.1 nS.2.1 nS.2.2
  have K05 := (KpO.same s04).trans K5
  refine k _ p ((RR.same s04).trans R5) K05 M5 (by rw [upd_same, List.map_append]; rfl) ?_
  exact paired_app (Paired.mapP pA fun a b q => q.kpo K05) (.cons ⟨.ref x, K5 _ _ rfl v4, (p3.kpo (KpO.same s4)).kpo K5⟩ .nil)
theorem eqr4 (TR : TxtG P w K mg base C CI CP a) (NR : TxtNR P w K mg base C CP a d) (LK : TxtLK P w K mg base C CP e) (EQ : TxtEQ P w K mg base C fTe) (hr : Room 8 (A.deeper (PyProof.Rows.envOfC "_law_equal_right" (defScope sEqualRight) s.heap.objs.size f cdv))) (hG : A.guards = some []) (gR : mg "range" = none) (gRp : mg "repr" = none) :
    ∃ t : TS, PS (cxOf CX0 P w K mg base NEQ "_law_equal_right" (defScope sEqualRight) f cdv A outer s H0 E).nox (stEQ 4) t ∧ ∀ (Z : Ends) (H : Hp) (m G S : Addr) (v3 v4 v5 : Option V) (as : List Addr) (ps : List (Tr × Tr)), H S = some (.lst (as.map V.ref)) → Paired (ItAt C H) as ps →
      (∀ (H' : Hp) (v6 v7 : Option V), Same H H' → Z.nx [some (.ref m), some (.ref G), some (.ref S), v3, v4, v5, v6, v7, none] H') → t Z [some (.ref m), some (.ref G), some (.ref S), v3, v4, v5, none, none, none] H := by
  have hr6 : Room 6 _ := hr.mono (by decide)
  have hr5 : Room 5 _ := hr.mono (by decide)
  have hr4 : Room 4 _ := hr.mono (by decide)
  have hr3 : Room 3 _ := hr.mono (by decide)
  have hr2 : Room 2 _ := hr.mono (by decide)
  have hr1 : Room 1 _ := hr.mono (by decide)
  have hu80 : (A.deeper (PyProof.Rows.envOfC "_law_equal_right" (defScope sEqualRight) s.heap.objs.size f cdv)).units + 80 < cLine := by have := hr.un; omega
  have big : (1000000 : Nat) < sizeLine := by decide
  refine ⟨_, (ps_for PassesOwn.never rfl (pi_list (pv 2)) (pg_name (i := 6) scEQ.nd rfl (.inl rfl)) (pss_one (ps_for PassesOwn.never rfl (pi_list (pv 2)) (pg_name (i := 7) scEQ.nd rfl (.inl rfl)) (pss_one (ps_if (pt_cmpR op_ne (pe_callB (call_reprD hG hu80) (by rfl) gRp PyProof.Rows.boot_repr (pa_cons (pe_lst (pa_cons (pe_cmpR (op_eqO (E := E0) NR.OL NR.EL hr1 pass0) (pe_ix ix_tup (pv 6) pe_int (fun _ _ => rfl)) (pe_ix ix_tup (pv 7) pe_int (fun _ _ => rfl)) (nomark _)) (pa_cons (pe_cmpR (op_neO (E := E0) NR.OL NR.NL NR.EL hr3 pass0) (pe_ix ix_tup (pv 6) pe_int (fun _ _ => rfl)) (pe_ix ix_tup (pv 7) pe_int (fun _ _ => rfl)) (nomark _)) pa_nil))) pa_nil)) (pe_callB (call_reprD hG hu80) (by rfl) gRp PyProof.Rows.boot_repr (pa_cons (pe_lst (pa_cons (pe_cmpR op_eq (pe_ix ix_tup (pv 6) pe_int (fun _ _ => rfl)) (pe_ix ix_tup (pv 7) pe_int (fun _ _ => rfl)) (nomark _)) (pa_cons (pe_cmpR op_ne (pe_ix ix_tup (pv 6) pe_int (fun _ _ => rfl)) (pe_ix ix_tup (pv 7) pe_int (fun _ _ => rfl)) (nomark _)) pa_nil))) pa_nil)) (nomark _)) (pss_one (ps_ret pe_bl)) pss_nil))))), ?_⟩
  rintro Z H m G S v3 v4 v5 as ps hS pA k
  refine ⟨_, rfl, S, rfl, ⟨_, SqL.of hS⟩, for_list (K := K) (a := S) (xs := as.map V.ref) (fun i σ H' => ∃ v6 v7 : Option V, σ = [some (.ref m), some (.ref G), some (.ref S), v3, v4, v5, v6, v7, none] ∧ Same H H') ⟨_, _, rfl, Same.refl _⟩ (fun i σ H' _ ⟨_, _, _, s'⟩ => SqL.of (s' _ _ hS)) ?_ (fun σ H' ⟨v6, v7, e, s'⟩ => by rw [e]; exact k H' v6 v7 s')⟩
  rintro i x σ H1 hx ⟨v6, v7, rfl, s1⟩
  rw [List.getElem?_map] at hx
  cases ha : as[i]? with
  | none => rw [ha] at hx; cases hx
  | some a1 =>
    rw [ha] at hx
    have hx : V.ref a1 = x := Option.some.inj hx
    subst hx
    obtain ⟨p, _, u1, g1, pt1⟩ := LiI.paired_get pA ha
    refine ⟨_, rfl, S, rfl, ⟨_, SqL.of (s1 _ _ hS)⟩, for_list (K := K) (a := S) (xs := as.map V.ref) (fun i σ H' => ∃ v7 : Option V, σ = [some (.ref m), some (.ref G), some (.ref S), v3, v4, v5, some (.ref a1), v7, none] ∧ Same H H') ⟨_, rfl, s1⟩ (fun i σ H' _ ⟨_, _, s'⟩ => SqL.of (s' _ _ hS)) ?_ (fun σ H' ⟨v7, e, s'⟩ => by rw [e]; exact ⟨_, _, rfl, s'⟩)⟩
    rintro j y σ H2 hy ⟨v7, rfl, s2⟩
    rw [List.getElem?_map] at hy
    cases hb : as[j]? with
    | none => rw [hb] at hy; cases hy
    | some a2 =>
      rw [hb] at hy
      have hy : V.ref a2 = y := Option.some.inj hy
      subst hy
      obtain ⟨q, _, u2, g2, pt2⟩ := LiI.paired_get pA hb
      have n1 : ∀ {H'}, Same H H' → SqT K H' a1 [u1, .str (txP p)] := fun s' => SqT.of (s' _ _ g1)
      have n2 : ∀ {H'}, Same H H' → SqT K H' a2 [u2, .str (txP q)] := fun s' => SqT.of (s' _ _ g2)
      have P1 : ∀ {H'}, Same H H' → PtAt C H' u1 (ndP p) := fun s' => PtAt.kpo (KpO.same s') _ pt1
      have P2 : ∀ {H'}, Same H H' → PtAt C H' u2 (ndP q) := fun s' => PtAt.kpo (KpO.same s') _ pt2
      have at0 : ∀ {p x : V}, atI [p, x] 0 = some p := fun {p x} => atI_nat (j := 0) rfl
      have at1 : ∀ {p x : V}, atI [p, x] 1 = some x := fun {p x} => atI_nat (j := 1) rfl
      obtain ⟨w1, w2, w3, w4⟩ := two_ok (decide (txP p = txP q)) (!decide (txP p = txP q))
      refine ⟨_, rfl, _, _, _, _, rfl, rfl, n1 s2, at0, _, rfl, _, _, _, _, rfl, rfl, n2 s2, at0, eq_pt (j := 3) TR.T5 NR.n5 (P1 s2) (P2 s2) rfl (by decide) ?_⟩
      refine ⟨_, rfl, _, _, _, _, rfl, rfl, n1 s2, at0, _, rfl, _, _, _, _, rfl, rfl, n2 s2, at0, ne_pt (j := 3) TR.T5 NR.n5 (P1 s2) (P2 s2) rfl (by decide) ?_⟩
      rw [eqT_ndP]
      refine ⟨by show 2 ≤ sizeLine; omega, fun l1 nl1 => ?_⟩
      have s3 : Same H2 (upd H2 l1 (.lst [.bl (decide (txP p = txP q)), .bl (!decide (txP p = txP q))])) := same_upd (Same.refl H2) nl1
      have v3' : (upd H2 l1 (.lst [.bl (decide (txP p = txP q)), .bl (!decide (txP p = txP q))])) l1 = some (.lst [.bl (decide (txP p = txP q)), .bl (!decide (txP p = txP q))]) := upd_same
      generalize upd H2 l1 (.lst [.bl (decide (txP p = txP q)), .bl (!decide (txP p = txP q))]) = H3 at s3 v3' ⊢
      have s03 := s2.trans s3
      refine ⟨l1, _, rfl, .lst (SqL.of v3') (.cons (.bl _) (.cons (.bl _) .nil)), w1, w2, w3, by omega, ?_⟩
      refine ⟨_, rfl, _, _, _, _, rfl, rfl, n1 s03, at1, _, rfl, _, _, _, _, rfl, rfl, n2 s03, at1, rfl, ?_⟩
      refine ⟨_, rfl, _, _, _, _, rfl, rfl, n1 s03, at1, _, rfl, _, _, _, _, rfl, rfl, n2 s03, at1, rfl, ?_⟩
      rw [dec_str]
      refine ⟨by show 2 ≤ sizeLine; omega, fun l2 nl2 => ?_⟩
      have s4 : Same H3 (upd H3 l2 (.lst [.bl (decide (txP p = txP q)), .bl (!decide (txP p = txP q))])) := same_upd (Same.refl H3) nl2
      have v4' : (upd H3 l2 (.lst [.bl (decide (txP p = txP q)), .bl (!decide (txP p = txP q))])) l2 = some (.lst [.bl (decide (txP p = txP q)), .bl (!decide (txP p = txP q))]) := upd_same
      generalize upd H3 l2 (.lst [.bl (decide (txP p = txP q)), .bl (!decide (txP p = txP q))]) = H4 at s4 v4' ⊢
      refine ⟨l2, _, rfl, .lst (SqL.of v4') (.cons (.bl _) (.cons (.bl _) .nil)), w1, w2, w3, by omega, ?_⟩
      refine ⟨rfl, _, rfl, ?_⟩
      rw [decide_eq_true rfl]
      refine iteF ?_
      exact ⟨_, rfl, s03.trans s4⟩
theorem eqr5 (TR : TxtG P w K mg base C CI CP a) (NR : TxtNR P w K mg base C CP a d) (LK : TxtLK P w K mg base C CP e) (EQ : TxtEQ P w K mg base C fTe) (hr : Room 8 (A.deeper (PyProof.Rows.envOfC "_law_equal_right" (defScope sEqualRight) s.heap.objs.size f cdv))) (hG : A.guards = some []) (gR : mg "range" = none) (gRp : mg "repr" = none) :
    ∃ t : TS, PS (cxOf CX0 P w K mg base NEQ "_law_equal_right" (defScope sEqualRight) f cdv A outer s H0 E).nox (stEQ 5) t ∧ ∀ (Z : Ends) (H : Hp) (σ : L2.St), (∀ (H' : Hp) (lf : Addr), Same H H' → PtAt C H' (.ref lf) leafT → Z.nx (σ.set 8 (some (.ref lf))) H') → t Z σ H := by
  have hr6 : Room 6 _ := hr.mono (by decide)
  have hr5 : Room 5 _ := hr.mono (by decide)
  have hr4 : Room 4 _ := hr.mono (by decide)
  have hr3 : Room 3 _ := hr.mono (by decide)
  have hr2 : Room 2 _ := hr.mono (by decide)
  have hr1 : Room 1 _ := hr.mono (by decide)
  have hu80 : (A.deeper (PyProof.Rows.envOfC "_law_equal_right" (defScope sEqualRight) s.heap.objs.size f cdv)).units + 80 < cLine := by have := hr.un; omega
  have big : (1000000 : Nat) < sizeLine := by decide
  refine ⟨_, (ps_set (i := 8) scEQ.nd rfl (Or.inl rfl) (pe_mkT (E := E0) TR.MT TR.GT hr5 rfl TR.gT passL (pa_cons pe_str (pa_cons pe_str pa_nil)))), ?_⟩
  rintro Z H σ k
  exact mkT_c [.tx "1"] (by decide +kernel) ⟨rfl, True.intro⟩ fun H1 x1 s1 n1 p1 _ => k H1 x1 s1 p1
theorem eqr6 (TR : TxtG P w K mg base C CI CP a) (NR : TxtNR P w K mg base C CP a d) (LK : TxtLK P w K mg base C CP e) (EQ : TxtEQ P w K mg base C fTe) (hr : Room 8 (A.deeper (PyProof.Rows.envOfC "_law_equal_right" (defScope sEqualRight) s.heap.objs.size f cdv))) (hG : A.guards = some []) (gR : mg "range" = none) (gRp : mg "repr" = none) :
    ∃ t : TS, PS (cxOf CX0 P w K mg base NEQ "_law_equal_right" (defScope sEqualRight) f cdv A outer s H0 E).nox (stEQ 6) t ∧ ∀ (Z : Ends) (H : Hp) (σ : L2.St) (lf : Addr), σ[8]? = some (some (.ref lf)) → PtAt C H (.ref lf) leafT → (∀ H', Same H H' → Z.rt (.bl true) H') → t Z σ H := by
  have hr6 : Room 6 _ := hr.mono (by decide)
  have hr5 : Room 5 _ := hr.mono (by decide)
  have hr4 : Room 4 _ := hr.mono (by decide)
  have hr3 : Room 3 _ := hr.mono (by decide)
  have hr2 : Room 2 _ := hr.mono (by decide)
  have hr1 : Room 1 _ := hr.mono (by decide)
  have hu80 : (A.deeper (PyProof.Rows.envOfC "_law_equal_right" (defScope sEqualRight) s.heap.objs.size f cdv)).units + 80 < cLine := by have := hr.un; omega
  have big : (1000000 : Nat) < sizeLine := by decide
  refine ⟨_, (ps_ret (pe_and (pe_not (pe_cmpR (op_eqO (E := E0) EQ.OT EQ.ET hr1 pass0) (pv 8) (pe_mkL (E := E0) TR.ML TR.GL hr5 rfl TR.gL passL (pa_cons pe_str (pa_cons pe_str pa_nil))) (nomark _))) (pe_and (pe_cmpR (op_neO (E := E0) NR.OL NR.NL NR.EL hr3 pass0) (pe_mkL (E := E0) TR.ML TR.GL hr5 rfl TR.gL passL (pa_cons pe_str (pa_cons pe_str pa_nil))) (pv 8) (nomark _)) (pe_one (pe_cmpR (op_eqO (E := E0) NR.OL NR.EL hr1 pass0) (pe_mkL (E := E0) TR.ML TR.GL hr5 rfl TR.gL passL (pa_cons pe_str (pa_cons pe_str pa_nil))) (pe_mkL (E := E0) TR.ML TR.GL hr5 rfl TR.gL passL (pa_cons pe_str (pa_cons pe_str pa_nil))) (nomark _)))))), ?_⟩
  rintro Z H σ lf h8 plf k
  have mk : ∀ {H : Hp} {Q : VK}, (∀ H' x, Same H H' → PtAt C H' (.ref x) (.nd true "Num" [.tx "1"]) → Q (.ref x) H') → MkL K C CP [.str "Num", .str "1"] H Q E0 := fun h => mkL_c [.tx "1"] (by decide +kernel) ⟨rfl, True.intro⟩ fun H' x s _ p => h H' x s p
  refine ⟨_, h8, mk fun H1 x1 s1 p1 => ?_⟩
  have L1 := PtAt.kpo (KpO.same s1) _ plf
  obtain ⟨y, dy, fy, ey, hy⟩ := ins_of L1 (show clsN leafT ≤ 4 by decide)
  cases ey
  refine ⟨lf, dy, fy, _, rfl, hy, PtAt.ty TR.T5 p1, nf_pt NR.n5 (C.n_mem false) _, .ref lf, .ref x1, leafT, rfl, L1, rfl, .inr ⟨_, PtAt.ty TR.T5 p1, kit_T TR.T5 _, _, rfl, ?_⟩⟩
  refine ⟨_, rfl, _, rfl, ?_⟩
  refine iteT ?_
  refine mk fun H2 x2 s2 p2 => ?_
  have L2 := PtAt.kpo (KpO.same s2) _ L1
  refine ⟨_, h8, ne_pt (j := 3) TR.T5 NR.n5 p2 L2 rfl (by decide) ?_⟩
  rw [show eqT (.nd true "Num" [.tx "1"]) leafT = false from by unfold eqT; rw [decide_eq_false (show ¬ clsN (.nd true "Num" [.tx "1"]) = clsN leafT from (by decide : ¬ 3 = 4))]; rfl]
  refine ⟨_, rfl, ?_⟩
  refine iteT ?_
  refine mk fun H3 x3 s3 p3 => mk fun H4 x4 s4 p4 => ?_
  refine eq_pt (j := 3) TR.T5 NR.n5 (PtAt.kpo (KpO.same s4) _ p3) p4 rfl (by decide) ?_
  rw [eqT_self]
  exact k H4 (s1.trans (s2.trans (s3.trans s4)))
end
end K3

namespace K3
open PySem PySem.Spec PyProof.Rows PySem.SeqAt L2 E0 EG
open LamX (ExtN Tabs TabS TabB LamS lamS_by lamSB)
section
variable {P : Program} {w : World} {K : PySem.W.Frag} {mg : Str → Option Value} {base : Heap}
def spEqualRight (T : List (Addr × Str)) : Sp := fun vs H Q _ => ∃ (m lc lg : Addr) (n : Int), vs = [.ref m] ∧ MA m lc lg n H ∧ n + 100 ≤ 1000000 ∧ Tabs T H ∧
  ∀ H' n', FD m lg H H' → MA m lc lg n' H' → n ≤ n' → n' ≤ n + 16 → Tabs T H' → Q (.bl true) H'
theorem ok_equalRight {C : Cl5} {CI CP f fTe : Addr} {fd : FuncData} {a : AdG} {d : AdN} {e : AdK} {T : List (Addr × Str)} (F : Fun K "_law_equal_right" "_law_equal_right" sEqualRight f fd) (TR : TxtG P w K mg base C CI CP a) (NR : TxtNR P w K mg base C CP a d) (LK : TxtLK P w K mg base C CP e) (EQ : TxtEQ P w K mg base C fTe)
    (gR : mg "range" = none) (gRp : mg "repr" = none) : FnG P w K mg base CX0 9 f fd ["_law_m"] (spEqualRight T) := by
  refine okG F scEQ (fun vs H Q E h => ?_) (fun cdv A outer s H vs Q E hr hG h => ?_)
  · obtain ⟨m, lc, lg, n, rfl, _⟩ := h
    rfl
  · obtain ⟨m, lc, lg, n, rfl, M, hn, tabs, k⟩ := h
    obtain ⟨t0, p0, r0⟩ := eqr0 (P := P) (w := w) (mg := mg) (base := base) (f := f) (cdv := cdv) (A := A) (outer := outer) (s := s) (H0 := H) (E := E) TR NR LK EQ hr hG gR gRp
    obtain ⟨t1, p1, r1⟩ := eqr1 (P := P) (w := w) (mg := mg) (base := base) (f := f) (cdv := cdv) (A := A) (outer := outer) (s := s) (H0 := H) (E := E) TR NR LK EQ hr hG gR gRp
    obtain ⟨t2, p2, r2⟩ := eqr2 (P := P) (w := w) (mg := mg) (base := base) (f := f) (cdv := cdv) (A := A) (outer := outer) (s := s) (H0 := H) (E := E) TR NR LK EQ hr hG gR gRp
    obtain ⟨t3, p3, r3⟩ := eqr3 (P := P) (w := w) (mg := mg) (base := base) (f := f) (cdv := cdv) (A := A) (outer := outer) (s := s) (H0 := H) (E := E) TR NR LK EQ hr hG gR gRp
    obtain ⟨t4, p4, r4⟩ := eqr4 (P := P) (w := w) (mg := mg) (base := base) (f := f) (cdv := cdv) (A := A) (outer := outer) (s := s) (H0 := H) (E := E) TR NR LK EQ hr hG gR gRp
    obtain ⟨t5, p5, r5⟩ := eqr5 (P := P) (w := w) (mg := mg) (base := base) (f := f) (cdv := cdv) (A := A) (outer := outer) (s := s) (H0 := H) (E := E) TR NR LK EQ hr hG gR gRp
    obtain ⟨t6, p6, r6⟩ := eqr6 (P := P) (w := w) (mg := mg) (base := base) (f := f) (cdv := cdv) (A := A) (outer := outer) (s := s) (H0 := H) (E := E) TR NR LK EQ hr hG gR gRp
    refine ⟨_, pss_cons p0 (pss_cons p1 (pss_cons p2 (pss_cons p3 (pss_cons p4 (pss_cons p5 (pss_one p6)))))), ?_⟩
    refine r0 _ H m fun H1 G S ga s1 nG nS nGS hG gG hS => ?_
    have M1 := M.same s1
    have nGl := M.nl nG
    have nSl := M.nl nS
    refine r1 _ H1 m lc lg G S n ga M1 (by omega) hG gG hS nSl ⟨nGl.1, nGl.2.1, nGS⟩ fun H2 as ps n' v3 v4 v5 M2 l1 l2 R2 K2 hS2 pA pl => ?_
    have F02 : FD m lg H H2 := (FD.same s1).rr R2 nS nS
    have tb2 : Tabs T H2 := RR.tabs (tabs.ext s1) R2 M1 hS hS
    refine r2 _ H2 m lc lg S _ n' as ps rfl M2 hS2 pA (by omega) nSl fun H3 p R3 K3 M3 hS3 pA3 => ?_
    have F03 : FD m lg H H3 := F02.rr R3 nS nS
    have tb3 : Tabs T H3 := RR.tabs tb2 R3 M2 hS2 hS2
    refine r3 _ H3 m lc lg S _ n' _ _ rfl M3 hS3 pA3 (by rw [List.length_append, pl]; decide) nSl fun H4 p2 R4 K4 M4 hS4 pA4 => ?_
    have F04 : FD m lg H H4 := F03.rr R4 nS nS
    have tb4 : Tabs T H4 := RR.tabs tb3 R4 M3 hS3 hS3
    refine r4 _ H4 m G S v3 v4 v5 _ _ hS4 pA4 fun H5 v6 v7 s5 => ?_
    refine r5 _ H5 _ fun H6 lf s6 plf => ?_
    refine r6 _ H6 _ lf rfl plf fun H7 s7 => ?_
    have s47 := s5.trans (s6.trans s7)
    exact k H7 n' (F04.trans (FD.same s47)) (M4.same s47) l1 l2 (tb4.ext s47)
end
end K3

namespace K3
open PySem PySem.Spec PyProof.Rows PySem.SeqAt L2 E0
open LamX (ExtN Tabs TabS TabB LamS lamS_by lamSB)

/-! ### nodes of patterns in a call that is judged -/
def dueB (z : Str) (ts : List Tr) : DK := if nameS z = true then (if 60 < 1 + sizes ts ∨ 8 < levelss ts + 1 then .size else .ok) else .form
theorem dueB_ok {z : Str} {ts : List Tr} : likeDue (.str z) (ts.map PI.good) = (dueB z ts).opt := by
  unfold dueB
  by_cases h : nameS z = true
  · rw [if_pos h, due_good (show nameV (.str z) = true from h)]
    by_cases q : 60 < 1 + sizes ts ∨ 8 < levelss ts + 1
    · rw [if_pos q, if_pos q]; rfl
    · rw [if_neg q, if_neg q]; rfl
  · rw [if_neg h, due_form (show nameV (.str z) = false from by cases e : nameS z with | true => exact absurd e h | false => exact e)]
    rfl
def mkRB (z : Str) (ts : List Tr) : Bool := decide (z.length ≤ 1000) && PyData.strOk z && ts.all okLB && decide (ts.length ≤ 1000) && decide (joinB ts ≤ 16000000)
section
variable {K : PySem.W.Frag} {C : Cl5} {CI : Addr} {z : Str} {xs : List V} {pis : List PI} {kk : DK} {H : Hp} {Q : VK} {E : XK} {tl : XK → Hp → VK → Prop} {n : V}
theorem mkL_res (ts : List Tr) (h : mkRB z ts = true) (hp : PtsAt C H xs ts) (res : LikeRes C CI (.str z) xs (ts.map PI.good) E H Q) : MkL K C CI (.str z :: xs) H Q E := by
  unfold mkRB at h
  simp only [Bool.and_eq_true, decide_eq_true_eq] at h
  obtain ⟨⟨⟨⟨a, b⟩, c⟩, d⟩, e⟩ := h
  exact ⟨.str z, xs, _, rfl, .inl ⟨z, rfl, a, b⟩, li_good hp (okA_all c), by rw [List.length_map]; exact d, by rw [parts_good]; exact e, res⟩
/-- the same where the parts are made in the call -/
theorem fault_xs (due : likeDue n pis = kk.opt) (ht : ∀ H1 E' Q', Same H H1 → (∀ xs, LikeRes C CI n xs pis E' H1 Q') → tl E' H1 Q') (k : ∀ H' p, Same H H' → H p = none → H' p = some (.tup kk.val) → Q (.ref p) H') : TFault CI tl H Q := by
  intro E' Q' hE hQ
  refine ht H E' Q' (Same.refl H) fun xs => ?_
  unfold LikeRes
  rw [due]
  cases kk with
  | ok => exact fun H' x z ez s nx at_ hp => hQ (.ref x) H' fun H'' p s' np hp => k H'' p (s.trans s') (s.free np) hp
  | form => exact fun H' dd s nd hd => hE dd _ H' hd fun H'' p s' np hp => k H'' p (s.trans s') (s.free np) hp
  | size => exact fun H' dd s nd hd => hE dd _ H' hd fun H'' p s' np hp => k H'' p (s.trans s') (s.free np) hp
  | name => exact fun H' dd s nd hd => hE dd _ H' hd fun H'' p s' np hp => k H'' p (s.trans s') (s.free np) hp
  | «at» i => exact fun H' dd s nd hd => hE dd _ H' hd fun H'' p s' np hp => k H'' p (s.trans s') (s.free np) hp
theorem fault_g (ts : List Tr) (kk : DK) (hk : dueB z ts = kk) (ht : ∀ H1 E' Q', Same H H1 → (∀ xs, LikeRes C CI (.str z) xs (ts.map PI.good) E' H1 Q') → tl E' H1 Q') (k : ∀ H' p, Same H H' → H p = none → H' p = some (.tup kk.val) → Q (.ref p) H') : TFault CI tl H Q :=
  fault_xs (by rw [dueB_ok, hk]) ht k
end
theorem pts_rep {C : Cl5} {H : Hp} {v : V} {t : Tr} (h : PtAt C H v t) : ∀ n, PtsAt C H (List.replicate n v) (List.replicate n t)
  | 0 => True.intro
  | n + 1 => ⟨h, pts_rep h n⟩
theorem flat_rep {α : Type} (x : α) : ∀ n : Nat, (List.replicate n [x]).flatten = List.replicate n x
  | 0 => rfl
  | n + 1 => by
    rw [List.replicate_succ, List.replicate_succ, List.flatten_cons, flat_rep x n]
    rfl
/-! ### the tall node -/
def tallP (n : Nat) (t : Tr) : List Tr := if n < 3 then [t] else [.tx "-", .row [t, .vr 2 "r"]]
def tallL : Nat → Tr
  | 0 => .vr 0 "x"
  | n + 1 => .nd true "Neg" (tallP n (tallL n))
theorem tall_ok : ∀ n, n < 6 → mkLB "Neg" (tallP n (tallL n)) = true := fun n h => by
  have q : ((List.range 6).all fun n => mkLB "Neg" (tallP n (tallL n))) = true := by decide +kernel
  exact List.all_eq_true.mp q n (List.mem_range.mpr h)
theorem tall6 : mkRB "Neg" [tallL 6] = true ∧ dueB "Neg" [tallL 6] = .ok ∧ mkLB "Neg" [tallL 6] = true ∧ mkRB "Neg" [.nd true "Neg" [tallL 6]] = true ∧ dueB "Neg" [.nd true "Neg" [tallL 6]] = .size := by decide +kernel
/-! ### the law's def -/
def NLM : List Str := ["_law_leaf", "_law_tall", "_law_n", "_law_told", "_law_sign", "_law_lowest", "_law_deep", "_law_wide", "_law_words", "_law_due", "_law_high"]
theorem scLM : FnScope NLM [] (defScope sLimitsRight) := ⟨rfl, rfl, rfl, by decide +kernel, rfl, by decide +kernel, by decide +kernel⟩
abbrev qLM : Str := "_law_limits_right.<locals>.<lambda>"
def stLM (i : Nat) : Stmt := (defBody sLimitsRight).getD i (.Pass ⟨0, 0, 0, 0⟩)
section
variable {P : Program} {w : World} {K : PySem.W.Frag} {mg : Str → Option Value} {base : Heap} {C : Cl5} {CI CP CS f c fA Pt : Addr} {fdA : FuncData} {T : List (Addr × Str)} {a : AdG} {A : Around} {outer : List Env} {s : Shared} {H0 : Hp} {E : XK}
theorem lm0 (TR : TxtG P w K mg base C CI CP a) (FA : TxtA K mg CP CS fA fdA) (TB : TabB base mg c Pt) (hmT : (Pt, qLM) ∈ T) (hu : ∀ p ∈ T, p.1 = Pt → p.2 = qLM) (hr : Room 7 (A.deeper (PyProof.Rows.envOfC "_law_limits_right" (defScope sLimitsRight) s.heap.objs.size f (.ref c)))) (gR : mg "range" = none) :
    ∃ t : TS, PS (cxOf CX0 P w K mg base NLM "_law_limits_right" (defScope sLimitsRight) f (.ref c) A outer s H0 E).nox (stLM 0) t ∧ ∀ (Z : Ends) (H : Hp), (∀ (H' : Hp) (lf tl : Addr), Same H H' → PtAt C H' (.ref lf) leafT → PtAt C H' (.ref tl) (tallL 0) → Z.nx [some (.ref lf), some (.ref tl), none, none, none, none, none, none, none, none, none] H') → t Z [none, none, none, none, none, none, none, none, none, none, none] H := by
  have hr5 : Room 5 _ := hr.mono (by decide)
  have hr4 : Room 4 _ := hr.mono (by decide)
  have hu64 : (A.deeper (PyProof.Rows.envOfC "_law_limits_right" (defScope sLimitsRight) s.heap.objs.size f (.ref c))).units + 64 < cLine := by have := hr.un; omega
  have big : (1000000 : Nat) < sizeLine := by decide
  refine ⟨_, (ps_asg (pe_tup (pa_cons (pe_mkT (E := E0) TR.MT TR.GT hr5 rfl TR.gT passL (pa_cons pe_str (pa_cons pe_str pa_nil))) (pa_cons (pe_mkV (E := E0) (j := 0) TR.MV TR.GV hr4 rfl TR.gV TR.BV passL (pa_cons pe_str pa_nil)) pa_nil))) (pg_tup (by rfl) (pgs_cons (pg_name (i := 0) scLM.nd rfl (.inr rfl)) (pgs_cons (pg_name (i := 1) scLM.nd rfl (.inr rfl)) pgs_nil)))), ?_⟩
  rintro Z H k
  refine mkT_c [.tx "1"] (by decide +kernel) ⟨rfl, True.intro⟩ fun H1 lf s1 _ p1 _ => ?_
  refine mkV_c (by decide +kernel) fun H2 tl s2 _ p2 => ?_
  refine ⟨by show 2 ≤ sizeLine; omega, fun t nt => ?_⟩
  have s3 : Same H2 (upd H2 t (.tup [.ref lf, .ref tl])) := same_upd (Same.refl H2) nt
  have v3 : (upd H2 t (.tup [.ref lf, .ref tl])) t = some (.tup [.ref lf, .ref tl]) := upd_same
  generalize upd H2 t (.tup [.ref lf, .ref tl]) = H3 at s3 v3 ⊢
  refine ⟨t, _, rfl, .inl (.inl v3), rfl, _, _, rfl, ?_⟩
  refine ⟨_, _, rfl, rfl, ?_⟩
  exact k H3 lf tl (s1.trans (s2.trans s3)) (PtAt.kpo (KpO.same (s2.trans s3)) _ p1) (PtAt.kpo (KpO.same s3) _ p2)
theorem lm1 (TR : TxtG P w K mg base C CI CP a) (FA : TxtA K mg CP CS fA fdA) (TB : TabB base mg c Pt) (hmT : (Pt, qLM) ∈ T) (hu : ∀ p ∈ T, p.1 = Pt → p.2 = qLM) (hr : Room 7 (A.deeper (PyProof.Rows.envOfC "_law_limits_right" (defScope sLimitsRight) s.heap.objs.size f (.ref c)))) (gR : mg "range" = none) :
    ∃ t : TS, PS (cxOf CX0 P w K mg base NLM "_law_limits_right" (defScope sLimitsRight) f (.ref c) A outer s H0 E).nox (stLM 1) t ∧ ∀ (Z : Ends) (H : Hp) (lf tl : Addr), PtAt C H (.ref tl) (tallL 0) → (∀ (H' : Hp) (tl' : Addr) (v2 : Option V), Same H H' → PtAt C H' (.ref tl') (tallL 6) → Z.nx [some (.ref lf), some (.ref tl'), v2, none, none, none, none, none, none, none, none] H') → t Z [some (.ref lf), some (.ref tl), none, none, none, none, none, none, none, none, none] H := by
  have hr5 : Room 5 _ := hr.mono (by decide)
  have hr4 : Room 4 _ := hr.mono (by decide)
  have hu64 : (A.deeper (PyProof.Rows.envOfC "_law_limits_right" (defScope sLimitsRight) s.heap.objs.size f (.ref c))).units + 64 < cLine := by have := hr.un; omega
  have big : (1000000 : Nat) < sizeLine := by decide
  refine ⟨_, (ps_for PassesOwn.never rfl (pi_range1 rfl gR (pa_cons pe_int pa_nil)) (pg_name (i := 2) scLM.nd rfl (.inl rfl)) (pss_one (ps_set (i := 1) scLM.nd rfl (Or.inr rfl) (pe_ifExp (pt_cmpR op_lt (pv 2) pe_int (nomark _)) (pe_mkL (E := E0) TR.ML TR.GL hr5 rfl TR.gL passL (pa_cons pe_str (pa_cons (pv 1) pa_nil))) (pe_mkL (E := E0) TR.ML TR.GL hr5 rfl TR.gL passL (pa_cons pe_str (pa_cons pe_str (pa_cons (pe_tup (pa_cons (pv 1) (pa_cons (pe_mkV (E := E0) (j := 2) TR.MR TR.GR hr4 rfl TR.gRe TR.BR passL (pa_cons pe_str pa_nil)) pa_nil))) pa_nil)))))))), ?_⟩
  rintro Z H lf tl pt k
  refine ⟨6, rfl, by decide, by decide, for_range (lo := 0) (n := 6) (fun i σ H' => ∃ (tl' : Addr) (v2 : Option V), σ = [some (.ref lf), some (.ref tl'), v2, none, none, none, none, none, none, none, none] ∧ Same H H' ∧ PtAt C H' (.ref tl') (tallL i)) ⟨tl, _, rfl, Same.refl _, pt⟩ ?_ (fun σ H' ⟨tl', v2, e, s', p'⟩ => by rw [e]; exact k H' tl' v2 s' p')⟩
  rintro i σ H1 hi ⟨tl', v2, rfl, s1, p1⟩
  have ok := tall_ok i hi
  refine ⟨_, rfl, _, _, rfl, rfl, _, rfl, ?_⟩
  have ed : decide ((0 : Int) + (i : Int) < 3) = decide (i < 3) := decide_eq_decide.mpr (by omega)
  rw [ed]
  by_cases h : i < 3
  · have en : tallP i (tallL i) = [tallL i] := if_pos h
    rw [decide_eq_true h]
    refine iteT ?_
    refine ⟨_, rfl, mkL_c (tallP i (tallL i)) ok (by rw [en]; exact ⟨p1, True.intro⟩) fun H2 x s2 _ p2 => ?_⟩
    exact ⟨x, _, rfl, s1.trans s2, p2⟩
  · have en : tallP i (tallL i) = [.tx "-", .row [tallL i, .vr 2 "r"]] := if_neg h
    rw [decide_eq_false h]
    refine iteF ?_
    refine ⟨_, rfl, mkV_c (by decide +kernel) fun H2 y s2 _ p2 => ?_⟩
    refine ⟨by show 2 ≤ sizeLine; omega, fun t nt => ?_⟩
    have s3 : Same H2 (upd H2 t (.tup [.ref tl', .ref y])) := same_upd (Same.refl H2) nt
    have v3 : (upd H2 t (.tup [.ref tl', .ref y])) t = some (.tup [.ref tl', .ref y]) := upd_same
    generalize upd H2 t (.tup [.ref tl', .ref y]) = H3 at s3 v3 ⊢
    refine mkL_c (tallP i (tallL i)) ok (by rw [en]; exact ⟨rfl, ⟨_, _, rfl, v3, PtAt.kpo (KpO.same (s2.trans s3)) _ p1, PtAt.kpo (KpO.same s3) _ p2, True.intro⟩, True.intro⟩) fun H4 x s4 _ p4 => ?_
    exact ⟨x, _, rfl, s1.trans (s2.trans (s3.trans s4)), p4⟩
theorem lm2 (TR : TxtG P w K mg base C CI CP a) (FA : TxtA K mg CP CS fA fdA) (TB : TabB base mg c Pt) (hmT : (Pt, qLM) ∈ T) (hu : ∀ p ∈ T, p.1 = Pt → p.2 = qLM) (hr : Room 7 (A.deeper (PyProof.Rows.envOfC "_law_limits_right" (defScope sLimitsRight) s.heap.objs.size f (.ref c)))) (gR : mg "range" = none) :
    ∃ t : TS, PS (cxOf CX0 P w K mg base NLM "_law_limits_right" (defScope sLimitsRight) f (.ref c) A outer s H0 E).nox (stLM 2) t ∧ ∀ (Z : Ends) (H : Hp) (lf tl : Addr) (v2 : Option V), Tabs T H → PtAt C H (.ref tl) (tallL 6) → (∀ (H' : Hp) (L q1 q2 : Addr), ExtN H H' → Tabs T H' → H' L = some (.lst [.ref q1, .ref q2]) → H' q1 = some (.tup (DK.val .ok)) → H' q2 = some (.tup (DK.val .size)) → Z.nx [some (.ref lf), some (.ref tl), v2, some (.ref L), none, none, none, none, none, none, none] H') → t Z [some (.ref lf), some (.ref tl), v2, none, none, none, none, none, none, none, none] H := by
  have hr5 : Room 5 _ := hr.mono (by decide)
  have hr4 : Room 4 _ := hr.mono (by decide)
  have hu64 : (A.deeper (PyProof.Rows.envOfC "_law_limits_right" (defScope sLimitsRight) s.heap.objs.size f (.ref c))).units + 64 < cLine := by have := hr.un; omega
  have big : (1000000 : Nat) < sizeLine := by decide
  refine ⟨_, (ps_set (i := 3) scLM.nd rfl (Or.inl rfl) (pe_lst (pa_cons (pe_fault (t := (fun E => (tMkL K C CP E (tCons (tC (.str "Neg")) (tCons (tVar 1) tNil))))) (k := 5) FA rfl TB rfl hmT hu hr (lamS_by (sc := defScope sLimitsRight) (by decide +kernel)) rfl (fun _ _ _ _ _ => rfl) (fun _ _ _ _ E _ _ hr' => (pe_mkL (E := E) TR.ML TR.GL hr' rfl TR.gL (passes_call (takes_of rfl rfl rfl rfl) (fun _ _ _ _ q => q)) (pa_cons pe_str (pa_cons (pv 1) pa_nil))))) (pa_cons (pe_faultW (jj := 2) (t := (fun E => (tMkL K C CP E (tCons (tC (.str "Neg")) (tCons (tMkL K C CP E (tCons (tC (.str "Neg")) (tCons (tVar 1) tNil))) tNil))))) (k := 5) scLM.nd FA rfl TB rfl hmT hu hr (lamW_by (sc := defScope sLimitsRight) (N := NLM) (y := "_law_n") (j := 2) (by decide +kernel)) rfl rfl (fun _ _ _ _ _ _ _ => ⟨_, rfl, rfl⟩) (fun _ _ _ _ E _ _ hr' => (pe_mkL (E := E) TR.ML TR.GL hr' rfl TR.gL (passes_call (takes_of rfl rfl rfl rfl) (fun _ _ _ _ q => q)) (pa_cons pe_str (pa_cons (pe_mkL (E := E) TR.ML TR.GL hr' rfl TR.gL (passes_call (takes_of rfl rfl rfl rfl) (fun _ _ _ _ q => q)) (pa_cons pe_str (pa_cons (pv 1) pa_nil))) pa_nil))))) pa_nil)))), ?_⟩
  rintro Z H lf tl v2 tb pt k
  obtain ⟨a1, a2, a3, a4, a5⟩ := tall6
  refine ⟨tb, fun H1 e1 tb1 => fault_g (C := C) (z := "Neg") [tallL 6] .ok a2 (fun H2 E' Q' s2 res => ?_) (fun H2 q1 s2 nq1 told1 => ?_)⟩
  · exact ⟨_, rfl, mkL_res [tallL 6] a1 ⟨PtAt.kpo (KpO.same s2) _ (PtAt.kpo (KpO.ext e1) _ pt), True.intro⟩ (res _)⟩
  have pt2 := PtAt.kpo (KpO.same s2) _ (PtAt.kpo (KpO.ext e1) _ pt)
  refine ⟨tb1.ext s2, fun H3 e3 tb3 => fault_g (C := C) (z := "Neg") [.nd true "Neg" [tallL 6]] .size a5 (fun H4 E' Q' s4 res => ?_) (fun H4 q2 s4 nq2 told2 => ?_)⟩
  · refine ⟨_, rfl, mkL_c [tallL 6] a3 ⟨PtAt.kpo (KpO.same s4) _ (PtAt.kpo (KpO.ext e3) _ pt2), True.intro⟩ fun H5 x s5 _ p5 => ?_⟩
    exact mkL_res [.nd true "Neg" [tallL 6]] a4 ⟨p5, True.intro⟩ ((res _).same s5)
  refine ⟨by show 2 ≤ sizeLine; omega, fun L nL => ?_⟩
  have s5 : Same H4 (upd H4 L (.lst [.ref q1, .ref q2])) := same_upd (Same.refl H4) nL
  have v5 : (upd H4 L (.lst [.ref q1, .ref q2])) L = some (.lst [.ref q1, .ref q2]) := upd_same
  generalize upd H4 L (.lst [.ref q1, .ref q2]) = H5 at s5 v5 ⊢
  have e25 := e3.trans (ExtN.of (s4.trans s5))
  exact k H5 L q1 q2 (e1.trans ((ExtN.of s2).trans e25)) ((tb3.ext s4).ext s5) v5 (e25 _ _ told1 fun _ => nofun) (s5 _ _ told2)
theorem lm3 (TR : TxtG P w K mg base C CI CP a) (FA : TxtA K mg CP CS fA fdA) (TB : TabB base mg c Pt) (hmT : (Pt, qLM) ∈ T) (hu : ∀ p ∈ T, p.1 = Pt → p.2 = qLM) (hr : Room 7 (A.deeper (PyProof.Rows.envOfC "_law_limits_right" (defScope sLimitsRight) s.heap.objs.size f (.ref c)))) (gR : mg "range" = none) :
    ∃ t : TS, PS (cxOf CX0 P w K mg base NLM "_law_limits_right" (defScope sLimitsRight) f (.ref c) A outer s H0 E).nox (stLM 3) t ∧ ∀ (Z : Ends) (H : Hp) (σ : L2.St) (L q1 q2 : Addr), σ[3]? = some (some (.ref L)) → H L = some (.lst [.ref q1, .ref q2]) → H q1 = some (.tup (DK.val .ok)) → H q2 = some (.tup (DK.val .size)) → (∀ H', Same H H' → Z.nx σ H') → t Z σ H := by
  have hr5 : Room 5 _ := hr.mono (by decide)
  have hr4 : Room 4 _ := hr.mono (by decide)
  have hu64 : (A.deeper (PyProof.Rows.envOfC "_law_limits_right" (defScope sLimitsRight) s.heap.objs.size f (.ref c))).units + 64 < cLine := by have := hr.un; omega
  have big : (1000000 : Nat) < sizeLine := by decide
  refine ⟨_, (ps_if (pt_cmpR (op_neD hu64) (pv 3) (pe_lst (pa_cons (pe_tup pa_nil) (pa_cons (pe_tup (pa_cons pe_str (pa_cons pe_str pa_nil))) pa_nil))) (nomark _)) (pss_one (ps_ret pe_bl)) pss_nil), ?_⟩
  rintro Z H σ L q1 q2 h3 hL h1 h2 k
  refine ⟨_, h3, ?_⟩
  refine ⟨by show 0 ≤ sizeLine; omega, fun ta0 nta0 => ?_⟩
  have sa0 : Same H (upd H ta0 (.tup [])) := same_upd (Same.refl H) nta0
  have va0 : (upd H ta0 (.tup [])) ta0 = some (.tup []) := upd_same
  generalize upd H ta0 (.tup []) = Ha0 at sa0 va0 ⊢
  refine ⟨by show 2 ≤ sizeLine; omega, fun ta1 nta1 => ?_⟩
  have sa1 : Same Ha0 (upd Ha0 ta1 (.tup [.str "wrong", .str "size"])) := same_upd (Same.refl Ha0) nta1
  have va1 : (upd Ha0 ta1 (.tup [.str "wrong", .str "size"])) ta1 = some (.tup [.str "wrong", .str "size"]) := upd_same
  generalize upd Ha0 ta1 (.tup [.str "wrong", .str "size"]) = Ha1 at sa1 va1 ⊢
  refine ⟨by show 2 ≤ sizeLine; omega, fun taL ntaL => ?_⟩
  have saL : Same Ha1 (upd Ha1 taL (.lst [.ref ta0, .ref ta1])) := same_upd (Same.refl Ha1) ntaL
  have vaL : (upd Ha1 taL (.lst [.ref ta0, .ref ta1])) taL = some (.lst [.ref ta0, .ref ta1]) := upd_same
  generalize upd Ha1 taL (.lst [.ref ta0, .ref ta1]) = HaL at saL vaL ⊢
  have Sa : Same H HaL := (sa0.trans (sa1.trans saL))
  have sha : SeqAt.shaped (.list [.tuple (DK.dat .ok), .tuple (DK.dat .size)]) = true := by decide +kernel
  refine ⟨_, _, .lst (SqL.of (Sa _ _ hL)) (.cons (DK.dp (k := .ok) (Sa _ _ h1)) (.cons (DK.dp (k := .size) (Sa _ _ h2)) DpAll.nil)), .lst (SqL.of vaL) (.cons (DK.dp (k := .ok) ((sa1.trans saL) _ _ va0)) (.cons (DK.dp (k := .size) (saL _ _ va1)) DpAll.nil)), sha, sha, _, rfl, ?_⟩
  rw [SeqAt.eqv_refl _ (lay_of sha)]
  refine iteF ?_
  exact k HaL Sa
end
end K3

namespace K3
open PySem PySem.Spec PyProof.Rows PySem.SeqAt L2 E0
open LamX (ExtN Tabs TabS TabB LamS lamS_by lamSB)
def signs : List Str := ["\"", "\\", "\n", "[", " "]

def sgB (z : Str) : Bool := decide (1 ≤ z.length) && decide (z.length ≤ 100) && decide ((timesS z 60).length ≤ 60) && decide (60 < (timesS z 61).length) && decide ((timesS z 61).length ≤ 1000) && PyData.strOk (timesS z 60) && mkRB "Num" [.tx (timesS z 60)] && decide (dueB "Num" [.tx (timesS z 60)] = .ok) && mkLB "Num" [.tx (timesS z 60)]
theorem signs_ok : ∀ z ∈ signs, 1 ≤ z.length ∧ z.length ≤ 100 ∧ (timesS z 60).length ≤ 60 ∧ 60 < (timesS z 61).length ∧ (timesS z 61).length ≤ 1000 ∧ PyData.strOk (timesS z 60) = true ∧ mkRB "Num" [.tx (timesS z 60)] = true ∧ dueB "Num" [.tx (timesS z 60)] = .ok ∧ mkLB "Num" [.tx (timesS z 60)] = true := by
  have h : (signs.all sgB) = true := by decide +kernel
  intro z hz
  have q := List.all_eq_true.mp h z hz
  unfold sgB at q
  simp only [Bool.and_eq_true, decide_eq_true_eq] at q
  obtain ⟨⟨⟨⟨⟨⟨⟨⟨a, b⟩, c⟩, d⟩, e⟩, f⟩, g⟩, h⟩, i⟩ := q
  exact ⟨a, b, c, d, e, f, g, h, i⟩
/-! ### the lowest nodes, and those above them -/
def lowTs : List Tr := [leafT, .nd true "Num" [.vr 1 "w"], .nd true "Num" [.tx "1"], .nd true "Row" [.row [.vr 2 "r"]], .nd false "Row" [.row []]]
def deepL (t : Tr) : Nat → Tr
  | 0 => t
  | n + 1 => .nd true "Neg" [deepL t n]
def lowB (t : Tr) : Bool := ((List.range 6).all fun n => mkLB "Neg" [deepL t n]) && mkRB "Neg" [.tx "-", deepL t 6] && decide (dueB "Neg" [.tx "-", deepL t 6] = .ok) && mkLB "Neg" [deepL t 6] && mkRB "Neg" [.row [.nd true "Neg" [deepL t 6]]] && decide (dueB "Neg" [.row [.nd true "Neg" [deepL t 6]]] = .size)
theorem low_ok : ∀ t ∈ lowTs, (∀ n, n < 6 → mkLB "Neg" [deepL t n] = true) ∧ mkRB "Neg" [.tx "-", deepL t 6] = true ∧ dueB "Neg" [.tx "-", deepL t 6] = .ok ∧ mkLB "Neg" [deepL t 6] = true ∧ mkRB "Neg" [.row [.nd true "Neg" [deepL t 6]]] = true ∧ dueB "Neg" [.row [.nd true "Neg" [deepL t 6]]] = .size := by
  have h : (lowTs.all lowB) = true := by decide +kernel
  intro t ht
  have q := List.all_eq_true.mp h t ht
  unfold lowB at q
  simp only [Bool.and_eq_true, decide_eq_true_eq] at q
  obtain ⟨⟨⟨⟨⟨a, b⟩, c⟩, d⟩, e⟩, f⟩ := q
  exact ⟨fun n hn => List.all_eq_true.mp a n (List.mem_range.mpr hn), b, c, d, e, f⟩
section
variable {P : Program} {w : World} {K : PySem.W.Frag} {mg : Str → Option Value} {base : Heap} {C : Cl5} {CI CP CS f c fA Pt : Addr} {fdA : FuncData} {T : List (Addr × Str)} {a : AdG} {A : Around} {outer : List Env} {s : Shared} {H0 : Hp} {E : XK}
theorem lm4 (TR : TxtG P w K mg base C CI CP a) (FA : TxtA K mg CP CS fA fdA) (TB : TabB base mg c Pt) (hmT : (Pt, qLM) ∈ T) (hu : ∀ p ∈ T, p.1 = Pt → p.2 = qLM) (hr : Room 7 (A.deeper (PyProof.Rows.envOfC "_law_limits_right" (defScope sLimitsRight) s.heap.objs.size f (.ref c)))) (gR : mg "range" = none) :
    ∃ t : TS, PS (cxOf CX0 P w K mg base NLM "_law_limits_right" (defScope sLimitsRight) f (.ref c) A outer s H0 E).nox (stLM 4) t ∧ ∀ (Z : Ends) (H : Hp) (lf tl : Addr) (v2 v3 : Option V), Tabs T H → (∀ (H' : Hp) (v3 v4 : Option V), ExtN H H' → Tabs T H' → Z.nx [some (.ref lf), some (.ref tl), v2, v3, v4, none, none, none, none, none, none] H') → t Z [some (.ref lf), some (.ref tl), v2, v3, none, none, none, none, none, none, none] H := by
  have hr5 : Room 5 _ := hr.mono (by decide)
  have hr4 : Room 4 _ := hr.mono (by decide)
  have hu64 : (A.deeper (PyProof.Rows.envOfC "_law_limits_right" (defScope sLimitsRight) s.heap.objs.size f (.ref c))).units + 64 < cLine := by have := hr.un; omega
  have big : (1000000 : Nat) < sizeLine := by decide
  refine ⟨_, (ps_for PassesOwn.never rfl (pi_tup (pe_tup (pa_cons pe_str (pa_cons pe_str (pa_cons pe_str (pa_cons pe_str (pa_cons pe_str pa_nil))))))) (pg_name (i := 4) scLM.nd rfl (.inr rfl)) (pss_cons (ps_set (i := 3) scLM.nd rfl (Or.inl rfl) (pe_lst (pa_cons (pe_fault (t := (fun E => (tMkL K C CP E (tCons (tC (.str "Num")) (tCons (tOp rMulS (tVar 4) (tC (.int 60))) tNil))))) (k := 5) FA rfl TB rfl hmT hu hr (lamS_by (sc := defScope sLimitsRight) (by decide +kernel)) rfl (fun _ _ _ _ _ => rfl) (fun _ _ _ _ E _ _ hr' => (pe_mkL (E := E) TR.ML TR.GL hr' rfl TR.gL (passes_call (takes_of rfl rfl rfl rfl) (fun _ _ _ _ q => q)) (pa_cons pe_str (pa_cons (pe_op op_mul_str (pv 4) pe_int) pa_nil))))) (pa_cons (pe_faultW (jj := 2) (t := (fun E => (tMkL K C CP E (tCons (tC (.str "Num")) (tCons (tC (.str "")) (tCons (tOp rMulS (tVar 4) (tC (.int 61))) tNil)))))) (k := 5) scLM.nd FA rfl TB rfl hmT hu hr (lamW_by (sc := defScope sLimitsRight) (N := NLM) (y := "_law_n") (j := 2) (by decide +kernel)) rfl rfl (fun _ _ _ _ _ _ _ => ⟨_, rfl, rfl⟩) (fun _ _ _ _ E _ _ hr' => (pe_mkL (E := E) TR.ML TR.GL hr' rfl TR.gL (passes_call (takes_of rfl rfl rfl rfl) (fun _ _ _ _ q => q)) (pa_cons pe_str (pa_cons pe_str (pa_cons (pe_op op_mul_str (pv 4) pe_int) pa_nil)))))) pa_nil)))) (pss_one (ps_if (PW.pt (pw_or (pt_cmpR (op_neD hu64) (pv 3) (pe_lst (pa_cons (pe_tup pa_nil) (pa_cons (pe_tup (pa_cons pe_str (pa_cons pe_int pa_nil))) pa_nil))) (nomark _)) (pw_or1 (pt_cmpR (op_neD hu64) (pe_fld (pe_mkL (E := E0) TR.ML TR.GL hr5 rfl TR.gL passL (pa_cons pe_str (pa_cons (pe_op op_mul_str (pv 4) pe_int) pa_nil))) rfl) (pe_tup (pa_cons (pe_op op_mul_str (pv 4) pe_int) pa_nil)) (nomark _))))) (pss_one (ps_ret pe_bl)) pss_nil)))), ?_⟩
  rintro Z H lf tl v2 v3 tabs k
  have mL : C.L ∈ C.all := C.n_mem true
  have cl := (TR.T5.own _ mL).cl
  have na := TR.N5.na _ mL
  have u1 : nameS "Num" = true := by decide +kernel
  have u2 : PyData.strOk "Num" = true := by decide +kernel
  refine ⟨by show 5 ≤ sizeLine; omega, fun tp ntp => ?_⟩
  have s1 : Same H (upd H tp (.tup [.str "\"", .str "\\", .str "\n", .str "[", .str " "])) := same_upd (Same.refl H) ntp
  have v1' : (upd H tp (.tup [.str "\"", .str "\\", .str "\n", .str "[", .str " "])) tp = some (.tup [.str "\"", .str "\\", .str "\n", .str "[", .str " "]) := upd_same
  generalize upd H tp (.tup [.str "\"", .str "\\", .str "\n", .str "[", .str " "]) = H1 at s1 v1' ⊢
  have v1 : H1 tp = some (.tup (signs.map V.str)) := v1'
  refine ⟨tp, rfl, ⟨_, SqT.of v1⟩, for_tup (K := K) (a := tp) (xs := signs.map V.str) (fun i σ H' => ∃ v3 v4 : Option V, σ = [some (.ref lf), some (.ref tl), v2, v3, v4, none, none, none, none, none, none] ∧ ExtN H1 H' ∧ Tabs T H') ⟨_, _, rfl, ExtN.refl _, tabs.ext s1⟩ (fun i σ H' _ ⟨_, _, _, e', _⟩ => SqT.of (e' _ _ v1 fun _ => nofun)) ?_ (fun σ H' ⟨v3, v4, e, e', tb'⟩ => by rw [e]; exact k H' v3 v4 ((ExtN.of s1).trans e') tb')⟩
  rintro i x σ H2 hx ⟨v3, v4, rfl, e2, tb2⟩
  rw [List.getElem?_map] at hx
  cases hz : signs[i]? with
  | none => rw [hz] at hx; cases hx
  | some z =>
    rw [hz] at hx
    have hx : V.str z = x := Option.some.inj hx
    subst hx
    obtain ⟨g1, g2, g3, g4, g5, g6, g7, g8, g9⟩ := signs_ok z (List.mem_of_getElem? hz)
    refine ⟨tb2, fun H3 e3 tb3 => fault_g (C := C) (z := "Num") [.tx (timesS z 60)] .ok g8 (fun H4 E' Q' s4 res => ?_) (fun H4 q1 s4 nq1 told1 => ?_)⟩
    · exact ⟨_, rfl, z, 60, rfl, rfl, by decide, by decide, g1, g2, by omega, mkL_res [.tx (timesS z 60)] g7 ⟨rfl, True.intro⟩ (res _)⟩
    refine ⟨tb3.ext s4, fun H5 e5 tb5 => fault_xs (C := C) (n := .str "Num") (pis := [.good (.tx ""), .bad]) (kk := .at 1) (due_bad (i := 1) (show nameV (.str "Num") = true from u1) rfl) (fun H6 E' Q' s6 res => ?_) (fun H6 q2 s6 nq2 told2 => ?_)⟩
    · exact ⟨_, rfl, z, 61, rfl, rfl, by decide, by decide, g1, g2, by omega, .str "Num", [.str "", .str (timesS z 61)], [.good (.tx ""), .bad], rfl, val_nm u1 u2, .cons ⟨rfl, by decide +kernel, by decide +kernel, by show ("" : Str).length ≤ 1000; decide +kernel⟩ (.cons (.inl ⟨_, rfl, g4, g5⟩) .nil), by decide, by decide +kernel, res _⟩
    refine ⟨by show 2 ≤ sizeLine; omega, fun L nL => ?_⟩
    have s7 : Same H6 (upd H6 L (.lst [.ref q1, .ref q2])) := same_upd (Same.refl H6) nL
    have v7 : (upd H6 L (.lst [.ref q1, .ref q2])) L = some (.lst [.ref q1, .ref q2]) := upd_same
    generalize upd H6 L (.lst [.ref q1, .ref q2]) = H7 at s7 v7 ⊢
    refine ⟨_, rfl, ?_⟩
    refine ⟨by show 0 ≤ sizeLine; omega, fun ta0 nta0 => ?_⟩
    have sa0 : Same H7 (upd H7 ta0 (.tup [])) := same_upd (Same.refl H7) nta0
    have va0 : (upd H7 ta0 (.tup [])) ta0 = some (.tup []) := upd_same
    generalize upd H7 ta0 (.tup []) = Ha0 at sa0 va0 ⊢
    refine ⟨by show 2 ≤ sizeLine; omega, fun ta1 nta1 => ?_⟩
    have sa1 : Same Ha0 (upd Ha0 ta1 (.tup [.str "wrong", .int 1])) := same_upd (Same.refl Ha0) nta1
    have va1 : (upd Ha0 ta1 (.tup [.str "wrong", .int 1])) ta1 = some (.tup [.str "wrong", .int 1]) := upd_same
    generalize upd Ha0 ta1 (.tup [.str "wrong", .int 1]) = Ha1 at sa1 va1 ⊢
    refine ⟨by show 2 ≤ sizeLine; omega, fun taL ntaL => ?_⟩
    have saL : Same Ha1 (upd Ha1 taL (.lst [.ref ta0, .ref ta1])) := same_upd (Same.refl Ha1) ntaL
    have vaL : (upd Ha1 taL (.lst [.ref ta0, .ref ta1])) taL = some (.lst [.ref ta0, .ref ta1]) := upd_same
    generalize upd Ha1 taL (.lst [.ref ta0, .ref ta1]) = HaL at saL vaL ⊢
    have Sa : Same H7 HaL := (sa0.trans (sa1.trans saL))
    have sha : SeqAt.shaped (.list [.tuple (DK.dat .ok), .tuple (DK.dat (.at 1))]) = true := by decide +kernel
    refine ⟨_, _, .lst (SqL.of (Sa _ _ v7)) (.cons (DK.dp (k := .ok) (Sa _ _ (s7 _ _ (s6 _ _ (e5 _ _ told1 fun _ => nofun))))) (.cons (DK.dp (k := (.at 1)) (Sa _ _ (s7 _ _ told2))) DpAll.nil)), .lst (SqL.of vaL) (.cons (DK.dp (k := .ok) ((sa1.trans saL) _ _ va0)) (.cons (DK.dp (k := (.at 1)) (saL _ _ va1)) DpAll.nil)), sha, sha, _, rfl, ?_⟩
    rw [SeqAt.eqv_refl _ (lay_of sha)]
    refine iteF ?_
    refine ⟨_, rfl, z, 60, rfl, rfl, by decide, by decide, g1, g2, by omega, ?_⟩
    refine mkL_c [.tx (timesS z 60)] g9 ⟨rfl, True.intro⟩ fun H11 y s11 _ py => ?_
    obtain ⟨y', dx, fs, pa, xs, ey, i2, i3, i4, i5, i6, _⟩ := id py
    cases ey
    have exs : xs = [.str (timesS z 60)] := by
      match xs, i6 with
      | [v], h => rw [show v = V.str (timesS z 60) from h.1]
    rw [exs] at i5
    refine ⟨y, C.L, dx, fs, _, rfl, i2, cl, na _ (by decide +kernel), i4, ?_⟩
    refine ⟨_, rfl, z, 60, rfl, rfl, by decide, by decide, g1, g2, by omega, by show 1 ≤ sizeLine; omega, fun u nu => ?_⟩
    have s12 : Same H11 (upd H11 u (.tup [.str (timesS z 60)])) := same_upd (Same.refl H11) nu
    have v12 : (upd H11 u (.tup [.str (timesS z 60)])) u = some (.tup [.str (timesS z 60)]) := upd_same
    generalize upd H11 u (.tup [.str (timesS z 60)]) = H12 at s12 v12 ⊢
    have sh2 : SeqAt.shaped (.tuple [.str (timesS z 60)]) = true := by
      simp [SeqAt.shaped, PyData.canLay0, PyData.canLayAll0, PyData.depth, PyData.depthAll, g6]
    refine ⟨_, _, .tup (SqT.of (s12 _ _ i5)) (.cons (.str _) .nil), .tup (SqT.of v12) (.cons (.str _) .nil), sh2, sh2, _, rfl, ?_⟩
    rw [SeqAt.eqv_refl _ (lay_of sh2)]
    refine iteF ?_
    have s712 := s7.trans (Sa.trans (s11.trans s12))
    exact ⟨_, _, rfl, e2.trans (e3.trans ((ExtN.of s4).trans (e5.trans (ExtN.of (s6.trans s712))))), (tb5.ext s6).ext s712⟩
theorem lm5 (TR : TxtG P w K mg base C CI CP a) (FA : TxtA K mg CP CS fA fdA) (TB : TabB base mg c Pt) (hmT : (Pt, qLM) ∈ T) (hu : ∀ p ∈ T, p.1 = Pt → p.2 = qLM) (hr : Room 7 (A.deeper (PyProof.Rows.envOfC "_law_limits_right" (defScope sLimitsRight) s.heap.objs.size f (.ref c)))) (gR : mg "range" = none) :
    ∃ t : TS, PS (cxOf CX0 P w K mg base NLM "_law_limits_right" (defScope sLimitsRight) f (.ref c) A outer s H0 E).nox (stLM 5) t ∧ ∀ (Z : Ends) (H : Hp) (lf tl : Addr) (v2 v3 v4 : Option V), Tabs T H → PtAt C H (.ref lf) leafT → (∀ (H' : Hp) (v2 v3 v5 v6 : Option V), ExtN H H' → Tabs T H' → Z.nx [some (.ref lf), some (.ref tl), v2, v3, v4, v5, v6, none, none, none, none] H') → t Z [some (.ref lf), some (.ref tl), v2, v3, v4, none, none, none, none, none, none] H := by
  have hr5 : Room 5 _ := hr.mono (by decide)
  have hr4 : Room 4 _ := hr.mono (by decide)
  have hu64 : (A.deeper (PyProof.Rows.envOfC "_law_limits_right" (defScope sLimitsRight) s.heap.objs.size f (.ref c))).units + 64 < cLine := by have := hr.un; omega
  have big : (1000000 : Nat) < sizeLine := by decide
  refine ⟨_, (ps_for PassesOwn.never rfl (pi_tup (pe_tup (pa_cons (pv 0) (pa_cons (pe_mkL (E := E0) TR.ML TR.GL hr5 rfl TR.gL passL (pa_cons pe_str (pa_cons (pe_mkV (E := E0) (j := 1) TR.MW TR.GWo hr4 rfl TR.gW TR.BW passL (pa_cons pe_str pa_nil)) pa_nil))) (pa_cons (pe_mkL (E := E0) TR.ML TR.GL hr5 rfl TR.gL passL (pa_cons pe_str (pa_cons pe_str pa_nil))) (pa_cons (pe_mkL (E := E0) TR.ML TR.GL hr5 rfl TR.gL passL (pa_cons pe_str (pa_cons (pe_tup (pa_cons (pe_mkV (E := E0) (j := 2) TR.MR TR.GR hr4 rfl TR.gRe TR.BR passL (pa_cons pe_str pa_nil)) pa_nil)) pa_nil))) (pa_cons (pe_mkT (E := E0) TR.MT TR.GT hr5 rfl TR.gT passL (pa_cons pe_str (pa_cons (pe_tup pa_nil) pa_nil))) pa_nil))))))) (pg_name (i := 5) scLM.nd rfl (.inl rfl)) (pss_cons (ps_set (i := 6) scLM.nd rfl (Or.inr rfl) (pv 5)) (pss_cons (ps_for PassesOwn.never rfl (pi_range1 rfl gR (pa_cons pe_int pa_nil)) (pg_name (i := 2) scLM.nd rfl (.inl rfl)) (pss_one (ps_set (i := 6) scLM.nd rfl (Or.inr rfl) (pe_mkL (E := E0) TR.ML TR.GL hr5 rfl TR.gL passL (pa_cons pe_str (pa_cons (pv 6) pa_nil)))))) (pss_cons (ps_set (i := 3) scLM.nd rfl (Or.inl rfl) (pe_lst (pa_cons (pe_fault (t := (fun E => (tMkL K C CP E (tCons (tC (.str "Neg")) (tCons (tC (.str "-")) (tCons (tVar 6) tNil)))))) (k := 5) FA rfl TB rfl hmT hu hr (lamS_by (sc := defScope sLimitsRight) (by decide +kernel)) rfl (fun _ _ _ _ _ => rfl) (fun _ _ _ _ E _ _ hr' => (pe_mkL (E := E) TR.ML TR.GL hr' rfl TR.gL (passes_call (takes_of rfl rfl rfl rfl) (fun _ _ _ _ q => q)) (pa_cons pe_str (pa_cons pe_str (pa_cons (pv 6) pa_nil)))))) (pa_cons (pe_faultW (jj := 2) (t := (fun E => (tMkL K C CP E (tCons (tC (.str "Neg")) (tCons (tTup (tCons (tMkL K C CP E (tCons (tC (.str "Neg")) (tCons (tVar 6) tNil))) tNil)) tNil))))) (k := 5) scLM.nd FA rfl TB rfl hmT hu hr (lamW_by (sc := defScope sLimitsRight) (N := NLM) (y := "_law_n") (j := 2) (by decide +kernel)) rfl rfl (fun _ _ _ _ _ _ _ => ⟨_, rfl, rfl⟩) (fun _ _ _ _ E _ _ hr' => (pe_mkL (E := E) TR.ML TR.GL hr' rfl TR.gL (passes_call (takes_of rfl rfl rfl rfl) (fun _ _ _ _ q => q)) (pa_cons pe_str (pa_cons (pe_tup (pa_cons (pe_mkL (E := E) TR.ML TR.GL hr' rfl TR.gL (passes_call (takes_of rfl rfl rfl rfl) (fun _ _ _ _ q => q)) (pa_cons pe_str (pa_cons (pv 6) pa_nil))) pa_nil)) pa_nil))))) pa_nil)))) (pss_one (ps_if (pt_cmpR (op_neD hu64) (pv 3) (pe_lst (pa_cons (pe_tup pa_nil) (pa_cons (pe_tup (pa_cons pe_str (pa_cons pe_str pa_nil))) pa_nil))) (nomark _)) (pss_one (ps_ret pe_bl)) pss_nil)))))), ?_⟩
  rintro Z H lf tl v2 v3 v4 tabs plf k
  refine ⟨_, rfl, mkV_c (by decide +kernel) fun G1 w1 s1 _ p1 => ?_⟩
  refine mkL_c [.vr 1 "w"] (by decide +kernel) ⟨p1, True.intro⟩ fun G2 b1 s2 _ p2 => ?_
  refine mkL_c [.tx "1"] (by decide +kernel) ⟨rfl, True.intro⟩ fun G3 b2 s3 _ p3 => ?_
  refine mkV_c (by decide +kernel) fun G4 w4 s4 _ p4 => ?_
  refine ⟨by show 1 ≤ sizeLine; omega, fun u5 nu5 => ?_⟩
  have s5 : Same G4 (upd G4 u5 (.tup [.ref w4])) := same_upd (Same.refl G4) nu5
  have v5' : (upd G4 u5 (.tup [.ref w4])) u5 = some (.tup [.ref w4]) := upd_same
  generalize upd G4 u5 (.tup [.ref w4]) = G5 at s5 v5' ⊢
  refine mkL_c [.row [.vr 2 "r"]] (by decide +kernel) ⟨⟨_, _, rfl, v5', PtAt.kpo (KpO.same s5) _ p4, True.intro⟩, True.intro⟩ fun G6 b3 s6 _ p6 => ?_
  refine ⟨by show 0 ≤ sizeLine; omega, fun u7 nu7 => ?_⟩
  have s7 : Same G6 (upd G6 u7 (.tup [])) := same_upd (Same.refl G6) nu7
  have v7' : (upd G6 u7 (.tup [])) u7 = some (.tup []) := upd_same
  generalize upd G6 u7 (.tup []) = G7 at s7 v7' ⊢
  refine mkT_c [.row []] (by decide +kernel) ⟨⟨_, _, rfl, v7', True.intro⟩, True.intro⟩ fun G8 b4 s8 _ p8 _ => ?_
  refine ⟨by show 5 ≤ sizeLine; omega, fun tp ntp => ?_⟩
  have s9 : Same G8 (upd G8 tp (.tup [.ref lf, .ref b1, .ref b2, .ref b3, .ref b4])) := same_upd (Same.refl G8) ntp
  have v9' : (upd G8 tp (.tup [.ref lf, .ref b1, .ref b2, .ref b3, .ref b4])) tp = some (.tup [.ref lf, .ref b1, .ref b2, .ref b3, .ref b4]) := upd_same
  generalize upd G8 tp (.tup [.ref lf, .ref b1, .ref b2, .ref b3, .ref b4]) = G9 at s9 v9' ⊢
  have t79 := s7.trans (s8.trans s9)
  have t39 := s4.trans (s5.trans (s6.trans t79))
  have t29 := s3.trans t39
  have t09 := s1.trans (s2.trans t29)
  have pts : PtsAt C G9 [.ref lf, .ref b1, .ref b2, .ref b3, .ref b4] lowTs := ⟨PtAt.kpo (KpO.same t09) _ plf, PtAt.kpo (KpO.same t29) _ p2, PtAt.kpo (KpO.same t39) _ p3, PtAt.kpo (KpO.same t79) _ p6, PtAt.kpo (KpO.same s9) _ p8, True.intro⟩
  refine ⟨tp, rfl, ⟨_, SqT.of v9'⟩, for_tup (K := K) (a := tp) (xs := [.ref lf, .ref b1, .ref b2, .ref b3, .ref b4]) (fun i σ H' => ∃ v2 v3 v5 v6 : Option V, σ = [some (.ref lf), some (.ref tl), v2, v3, v4, v5, v6, none, none, none, none] ∧ ExtN G9 H' ∧ Tabs T H') ⟨_, _, _, _, rfl, ExtN.refl _, tabs.ext t09⟩ (fun i σ H' _ ⟨_, _, _, _, _, e', _⟩ => SqT.of (e' _ _ v9' fun _ => nofun)) ?_ (fun σ H' ⟨v2, v3, v5, v6, e, e', tb'⟩ => by rw [e]; exact k H' v2 v3 v5 v6 ((ExtN.of t09).trans e') tb')⟩
  rintro i x σ H2 hx ⟨v2, v3, v5, v6, rfl, e2, tb2⟩
  obtain ⟨t, et, ptx⟩ := pts_get pts hx
  obtain ⟨g1, g2, g3, g4, g5, g6⟩ := low_ok t (List.mem_of_getElem? et)
  have ptx := PtAt.kpo (KpO.ext e2) _ ptx
  refine ⟨_, rfl, ?_⟩
  refine ⟨6, rfl, by decide, by decide, for_range (lo := 0) (n := 6) (fun i σ H' => ∃ (y : V) (v2 : Option V), σ = [some (.ref lf), some (.ref tl), v2, v3, v4, some x, some y, none, none, none, none] ∧ Same H2 H' ∧ PtAt C H' y (deepL t i)) ⟨x, _, rfl, Same.refl _, ptx⟩ ?_ ?_⟩
  · rintro n σ H3 hn ⟨y, v2, rfl, s3, p3⟩
    refine ⟨_, rfl, mkL_c [deepL t n] (g1 n hn) ⟨p3, True.intro⟩ fun H4 z s4 _ p4 => ?_⟩
    exact ⟨_, _, rfl, s3.trans s4, p4⟩
  rintro σ H3 ⟨y, v2, rfl, s3, p3⟩
  have tb3 := tb2.ext s3
  refine ⟨tb3, fun H5 e5 tb5 => fault_g (C := C) (z := "Neg") [.tx "-", deepL t 6] .ok g3 (fun H6 E' Q' s6 res => ?_) (fun H6 q1 s6 nq1 told1 => ?_)⟩
  · exact ⟨_, rfl, mkL_res [.tx "-", deepL t 6] g2 ⟨rfl, PtAt.kpo (KpO.same s6) _ (PtAt.kpo (KpO.ext e5) _ p3), True.intro⟩ (res _)⟩
  have p6 := PtAt.kpo (KpO.same s6) _ (PtAt.kpo (KpO.ext e5) _ p3)
  refine ⟨tb5.ext s6, fun H7 e7 tb7 => fault_g (C := C) (z := "Neg") [.row [.nd true "Neg" [deepL t 6]]] .size g6 (fun H8 E' Q' s8 res => ?_) (fun H8 q2 s8 nq2 told2 => ?_)⟩
  · refine ⟨_, rfl, mkL_c [deepL t 6] g4 ⟨PtAt.kpo (KpO.same s8) _ (PtAt.kpo (KpO.ext e7) _ p6), True.intro⟩ fun H9 z s9 _ p9 => ?_⟩
    refine ⟨by show 1 ≤ sizeLine; omega, fun u nu => ?_⟩
    have s10 : Same H9 (upd H9 u (.tup [.ref z])) := same_upd (Same.refl H9) nu
    have v10 : (upd H9 u (.tup [.ref z])) u = some (.tup [.ref z]) := upd_same
    generalize upd H9 u (.tup [.ref z]) = H10 at s10 v10 ⊢
    exact mkL_res [.row [.nd true "Neg" [deepL t 6]]] g5 ⟨⟨_, _, rfl, v10, PtAt.kpo (KpO.same s10) _ p9, True.intro⟩, True.intro⟩ ((res _).same (s9.trans s10))
  refine ⟨by show 2 ≤ sizeLine; omega, fun L nL => ?_⟩
  have s9 : Same H8 (upd H8 L (.lst [.ref q1, .ref q2])) := same_upd (Same.refl H8) nL
  have v9 : (upd H8 L (.lst [.ref q1, .ref q2])) L = some (.lst [.ref q1, .ref q2]) := upd_same
  generalize upd H8 L (.lst [.ref q1, .ref q2]) = H9 at s9 v9 ⊢
  refine ⟨_, rfl, ?_⟩
  refine ⟨by show 0 ≤ sizeLine; omega, fun ta0 nta0 => ?_⟩
  have sa0 : Same H9 (upd H9 ta0 (.tup [])) := same_upd (Same.refl H9) nta0
  have va0 : (upd H9 ta0 (.tup [])) ta0 = some (.tup []) := upd_same
  generalize upd H9 ta0 (.tup []) = Ha0 at sa0 va0 ⊢
  refine ⟨by show 2 ≤ sizeLine; omega, fun ta1 nta1 => ?_⟩
  have sa1 : Same Ha0 (upd Ha0 ta1 (.tup [.str "wrong", .str "size"])) := same_upd (Same.refl Ha0) nta1
  have va1 : (upd Ha0 ta1 (.tup [.str "wrong", .str "size"])) ta1 = some (.tup [.str "wrong", .str "size"]) := upd_same
  generalize upd Ha0 ta1 (.tup [.str "wrong", .str "size"]) = Ha1 at sa1 va1 ⊢
  refine ⟨by show 2 ≤ sizeLine; omega, fun taL ntaL => ?_⟩
  have saL : Same Ha1 (upd Ha1 taL (.lst [.ref ta0, .ref ta1])) := same_upd (Same.refl Ha1) ntaL
  have vaL : (upd Ha1 taL (.lst [.ref ta0, .ref ta1])) taL = some (.lst [.ref ta0, .ref ta1]) := upd_same
  generalize upd Ha1 taL (.lst [.ref ta0, .ref ta1]) = HaL at saL vaL ⊢
  have Sa : Same H9 HaL := (sa0.trans (sa1.trans saL))
  have sha : SeqAt.shaped (.list [.tuple (DK.dat .ok), .tuple (DK.dat .size)]) = true := by decide +kernel
  refine ⟨_, _, .lst (SqL.of (Sa _ _ v9)) (.cons (DK.dp (k := .ok) (Sa _ _ (s9 _ _ (s8 _ _ (e7 _ _ told1 fun _ => nofun))))) (.cons (DK.dp (k := .size) (Sa _ _ (s9 _ _ told2))) DpAll.nil)), .lst (SqL.of vaL) (.cons (DK.dp (k := .ok) ((sa1.trans saL) _ _ va0)) (.cons (DK.dp (k := .size) (saL _ _ va1)) DpAll.nil)), sha, sha, _, rfl, ?_⟩
  rw [SeqAt.eqv_refl _ (lay_of sha)]
  refine iteF ?_
  have sE := s9.trans Sa
  exact ⟨_, _, _, _, rfl, e2.trans ((ExtN.of s3).trans (e5.trans ((ExtN.of s6).trans (e7.trans (ExtN.of (s8.trans sE)))))), (tb7.ext s8).ext sE⟩
end
end K3

namespace K3
open PySem PySem.Spec PyProof.Rows PySem.SeqAt L2 E0
open LamX (ExtN Tabs TabS TabB LamS lamS_by lamSB)

def wideTs : List Tr := List.replicate 30 leafT ++ List.replicate 29 (.vr 0 "x")
def wideXs (lf x : Addr) : List V := List.replicate 30 (.ref lf) ++ List.replicate 29 (.ref x)
theorem wideXs_len {lf x : Addr} : (wideXs lf x).length = 59 := by unfold wideXs; rw [List.length_append, List.length_replicate, List.length_replicate]
theorem wide_pts {C : Cl5} {H : Hp} {lf x : Addr} (h : PtAt C H (.ref lf) leafT) (g : PtAt C H (.ref x) (.vr 0 "x")) : PtsAt C H (wideXs lf x) wideTs := pts_app (pts_rep h 30) (pts_rep g 29)
theorem row_app {C : Cl5} {H : Hp} {xs : List V} {v : V} {ts : List Tr} {t : Tr} {p : Addr} (h : H p = some (.tup (xs ++ [v]))) (g : PtsAt C H xs ts) (k : PtAt C H v t) : PtAt C H (.ref p) (.row (ts ++ [t])) := by
  have q : PtsAt C H [v] [t] := ⟨k, True.intro⟩
  exact ⟨p, xs ++ [v], rfl, h, pts_app g q⟩
theorem wide_ok : mkRB "Row" [.row wideTs] = true ∧ dueB "Row" [.row wideTs] = .ok ∧ mkRB "Row" [.row wideTs, leafT] = true ∧ dueB "Row" [.row wideTs, leafT] = .size ∧ mkRB "Row" [.row (wideTs ++ [.vr 0 "y"])] = true ∧ dueB "Row" [.row (wideTs ++ [.vr 0 "y"])] = .size ∧ mkRB "Row" [.row (wideTs ++ [.vr 2 "r"])] = true ∧ dueB "Row" [.row (wideTs ++ [.vr 2 "r"])] = .ok ∧ mkRB "Row" [.vr 1 "w", .vr 1 "w", .row wideTs] = true ∧ dueB "Row" [.vr 1 "w", .vr 1 "w", .row wideTs] = .ok := by decide +kernel
theorem wide_ok2 : mkRB "1" [.row wideTs, leafT] = true ∧ dueB "1" [.row wideTs, leafT] = .form ∧ (([.row wideTs, leafT] : List Tr).all okLB) = true ∧ joinB [.row wideTs, leafT] ≤ 16000000 ∧ mkTB "Row" [.row (List.replicate 59 leafT)] = true ∧ mkRB "Row" [.nd false "Row" [.row (List.replicate 59 leafT)]] = true ∧ dueB "Row" [.nd false "Row" [.row (List.replicate 59 leafT)]] = .size := by decide +kernel
/-! ### the high tree -/
def highT : Nat → Tr
  | 0 => leafT
  | n + 1 => .nd false "Neg" [highT n]
theorem high_ok : ∀ n, n < 7 → mkTB "Neg" [highT n] = true := fun n h => by
  have q : ((List.range 7).all fun n => mkTB "Neg" [highT n]) = true := by decide +kernel
  exact List.all_eq_true.mp q n (List.mem_range.mpr h)
theorem high7 : mkRB "Neg" [highT 7] = true ∧ dueB "Neg" [highT 7] = .size ∧ levelss [highT 6] + 1 = 8 := by decide +kernel
/-- all that is not the list L stands -/
def ExtL (L : Addr) (H H' : Hp) : Prop := ∀ b o, b ≠ L → H b = some o → (∀ ps, o ≠ .tbl ps) → H' b = some o
theorem ExtL.trans {L : Addr} {H H1 H2 : Hp} (a : ExtL L H H1) (b : ExtL L H1 H2) : ExtL L H H2 := fun c o n e t => b c o n (a c o n e t) t
theorem ExtL.ext {L : Addr} {H H' : Hp} (e : ExtN H H') : ExtL L H H' := fun b o _ q t => e b o q t
theorem ExtL.upd {L : Addr} {H : Hp} {u : HO} : ExtL L H (upd H L u) := fun b o n q _ => by rw [upd_ne n]; exact q
theorem ExtL.kpo {L : Addr} {H H' : Hp} {xs : List V} (e : ExtL L H H') (h : H L = some (.lst xs)) : KpO H H' := fun b o t q => e b o (fun z => by rw [z, h] at q; cases q; cases t) q fun ps z => by rw [z] at t; cases t
section
variable {P : Program} {w : World} {K : PySem.W.Frag} {mg : Str → Option Value} {base : Heap} {C : Cl5} {CI CP CS f c fA Pt : Addr} {fdA : FuncData} {T : List (Addr × Str)} {a : AdG} {A : Around} {outer : List Env} {s : Shared} {H0 : Hp} {E : XK}
theorem lm6 (TR : TxtG P w K mg base C CI CP a) (no : NoL K C) (FA : TxtA K mg CP CS fA fdA) (TB : TabB base mg c Pt) (hmT : (Pt, qLM) ∈ T) (hu : ∀ p ∈ T, p.1 = Pt → p.2 = qLM) (hr : Room 7 (A.deeper (PyProof.Rows.envOfC "_law_limits_right" (defScope sLimitsRight) s.heap.objs.size f (.ref c)))) (gR : mg "range" = none) :
    ∃ t : TS, PS (cxOf CX0 P w K mg base NLM "_law_limits_right" (defScope sLimitsRight) f (.ref c) A outer s H0 E).nox (stLM 6) t ∧ ∀ (Z : Ends) (H : Hp) (lf tl : Addr) (v2 v3 v4 v5 v6 : Option V), PtAt C H (.ref lf) leafT → (∀ (H' : Hp) (wd : Addr), Same H H' → PtAt C H' (.ref wd) (.row wideTs) → Z.nx [some (.ref lf), some (.ref tl), v2, v3, v4, v5, v6, some (.ref wd), none, none, none] H') → t Z [some (.ref lf), some (.ref tl), v2, v3, v4, v5, v6, none, none, none, none] H := by
  have hr5 : Room 5 _ := hr.mono (by decide)
  have hr4 : Room 4 _ := hr.mono (by decide)
  have hu64 : (A.deeper (PyProof.Rows.envOfC "_law_limits_right" (defScope sLimitsRight) s.heap.objs.size f (.ref c))).units + 64 < cLine := by have := hr.un; omega
  have big : (1000000 : Nat) < sizeLine := by decide
  refine ⟨_, (ps_set (i := 7) scLM.nd rfl (Or.inr rfl) (pe_op op_catT (pe_op op_repT (pe_tup (pa_cons (pv 0) pa_nil)) pe_int) (pe_op op_repT (pe_tup (pa_cons (pe_mkV (E := E0) (j := 0) TR.MV TR.GV hr4 rfl TR.gV TR.BV passL (pa_cons pe_str pa_nil)) pa_nil)) pe_int))), ?_⟩
  rintro Z H lf tl v2 v3 v4 v5 v6 plf k
  refine ⟨_, rfl, ?_⟩
  refine ⟨by show 1 ≤ sizeLine; omega, fun a na => ?_⟩
  have saa : Same H (upd H a (.tup [.ref lf])) := same_upd (Same.refl H) na
  have vaa : (upd H a (.tup [.ref lf])) a = some (.tup [.ref lf]) := upd_same
  generalize upd H a (.tup [.ref lf]) = Gaa at saa vaa ⊢
  refine ⟨a, 30, _, rfl, rfl, SqT.of vaa, by simp, by decide, by decide, by show 1 ≤ 1000; omega, fun pa npa => ?_⟩
  rw [show ((30 : Int)).toNat = 30 from rfl, flat_rep]
  have sba : Same Gaa (upd Gaa pa (.tup (List.replicate 30 (.ref lf)))) := same_upd (Same.refl Gaa) npa
  have vba : (upd Gaa pa (.tup (List.replicate 30 (.ref lf)))) pa = some (.tup (List.replicate 30 (.ref lf))) := upd_same
  generalize upd Gaa pa (.tup (List.replicate 30 (.ref lf))) = Gab at sba vba ⊢
  refine mkV_c (by decide +kernel) fun H2 x s2 _ px => ?_
  refine ⟨by show 1 ≤ sizeLine; omega, fun c nc => ?_⟩
  have sac : Same H2 (upd H2 c (.tup [.ref x])) := same_upd (Same.refl H2) nc
  have vac : (upd H2 c (.tup [.ref x])) c = some (.tup [.ref x]) := upd_same
  generalize upd H2 c (.tup [.ref x]) = Gca at sac vac ⊢
  refine ⟨c, 29, _, rfl, rfl, SqT.of vac, by simp, by decide, by decide, by show 1 ≤ 1000; omega, fun pc npc => ?_⟩
  rw [show ((29 : Int)).toNat = 29 from rfl, flat_rep]
  have sbc : Same Gca (upd Gca pc (.tup (List.replicate 29 (.ref x)))) := same_upd (Same.refl Gca) npc
  have vbc : (upd Gca pc (.tup (List.replicate 29 (.ref x)))) pc = some (.tup (List.replicate 29 (.ref x))) := upd_same
  generalize upd Gca pc (.tup (List.replicate 29 (.ref x))) = Gcb at sbc vbc ⊢
  have s0c := s2.trans (sac.trans sbc)
  refine ⟨pa, pc, _, _, rfl, rfl, SqT.of (s0c _ _ vba), SqT.of vbc, by simp, by rw [List.length_replicate, List.length_replicate]; omega, fun e => absurd e (by simp), fun _ wd nwd => ?_⟩
  have s5 : Same Gcb (upd Gcb wd (.tup (List.replicate 30 (V.ref lf) ++ List.replicate 29 (V.ref x)))) := same_upd (Same.refl Gcb) nwd
  have v5' : (upd Gcb wd (.tup (List.replicate 30 (V.ref lf) ++ List.replicate 29 (V.ref x)))) wd = some (.tup (List.replicate 30 (V.ref lf) ++ List.replicate 29 (V.ref x))) := upd_same
  generalize upd Gcb wd (.tup (List.replicate 30 (V.ref lf) ++ List.replicate 29 (V.ref x))) = H5 at s5 v5' ⊢
  exact k H5 wd ((saa.trans sba).trans (s0c.trans s5)) ⟨_, _, rfl, v5', wide_pts (PtAt.kpo (KpO.same ((saa.trans sba).trans (s0c.trans s5))) _ plf) (PtAt.kpo (KpO.same ((sac.trans sbc).trans s5)) _ px)⟩
theorem lm7 (TR : TxtG P w K mg base C CI CP a) (no : NoL K C) (FA : TxtA K mg CP CS fA fdA) (TB : TabB base mg c Pt) (hmT : (Pt, qLM) ∈ T) (hu : ∀ p ∈ T, p.1 = Pt → p.2 = qLM) (hr : Room 7 (A.deeper (PyProof.Rows.envOfC "_law_limits_right" (defScope sLimitsRight) s.heap.objs.size f (.ref c)))) (gR : mg "range" = none) :
    ∃ t : TS, PS (cxOf CX0 P w K mg base NLM "_law_limits_right" (defScope sLimitsRight) f (.ref c) A outer s H0 E).nox (stLM 7) t ∧ ∀ (Z : Ends) (H : Hp) (lf tl wd : Addr) (v2 v3 v4 v5 v6 : Option V), (∀ (H' : Hp) (ws wx : Addr), Same H H' → H' ws = some (.tup [.ref wx, .ref wx]) → PtAt C H' (.ref wx) (.vr 1 "w") → Z.nx [some (.ref lf), some (.ref tl), v2, v3, v4, v5, v6, some (.ref wd), some (.ref ws), none, none] H') → t Z [some (.ref lf), some (.ref tl), v2, v3, v4, v5, v6, some (.ref wd), none, none, none] H := by
  have hr5 : Room 5 _ := hr.mono (by decide)
  have hr4 : Room 4 _ := hr.mono (by decide)
  have hu64 : (A.deeper (PyProof.Rows.envOfC "_law_limits_right" (defScope sLimitsRight) s.heap.objs.size f (.ref c))).units + 64 < cLine := by have := hr.un; omega
  have big : (1000000 : Nat) < sizeLine := by decide
  refine ⟨_, (ps_set (i := 8) scLM.nd rfl (Or.inr rfl) (pe_op op_repT (pe_tup (pa_cons (pe_mkV (E := E0) (j := 1) TR.MW TR.GWo hr4 rfl TR.gW TR.BW passL (pa_cons pe_str pa_nil)) pa_nil)) pe_int)), ?_⟩
  rintro Z H lf tl wd v2 v3 v4 v5 v6 k
  refine mkV_c (by decide +kernel) fun H2 x s2 _ px => ?_
  refine ⟨by show 1 ≤ sizeLine; omega, fun u nu => ?_⟩
  have s3 : Same H2 (upd H2 u (.tup [.ref x])) := same_upd (Same.refl H2) nu
  have v3' : (upd H2 u (.tup [.ref x])) u = some (.tup [.ref x]) := upd_same
  generalize upd H2 u (.tup [.ref x]) = H3 at s3 v3' ⊢
  refine ⟨u, 2, _, rfl, rfl, SqT.of v3', by simp, by decide, by decide, by show 1 ≤ 1000; omega, fun p np => ?_⟩
  rw [show (List.replicate ((2 : Int)).toNat [V.ref x]).flatten = [V.ref x, V.ref x] from rfl]
  have s4 : Same H3 (upd H3 p (.tup [.ref x, .ref x])) := same_upd (Same.refl H3) np
  have v4' : (upd H3 p (.tup [.ref x, .ref x])) p = some (.tup [.ref x, .ref x]) := upd_same
  generalize upd H3 p (.tup [.ref x, .ref x]) = H4 at s4 v4' ⊢
  exact k H4 p x (s2.trans (s3.trans s4)) v4' (PtAt.kpo (KpO.same (s3.trans s4)) _ px)
theorem lm8 (TR : TxtG P w K mg base C CI CP a) (no : NoL K C) (FA : TxtA K mg CP CS fA fdA) (TB : TabB base mg c Pt) (hmT : (Pt, qLM) ∈ T) (hu : ∀ p ∈ T, p.1 = Pt → p.2 = qLM) (hr : Room 7 (A.deeper (PyProof.Rows.envOfC "_law_limits_right" (defScope sLimitsRight) s.heap.objs.size f (.ref c)))) (gR : mg "range" = none) :
    ∃ t : TS, PS (cxOf CX0 P w K mg base NLM "_law_limits_right" (defScope sLimitsRight) f (.ref c) A outer s H0 E).nox (stLM 8) t ∧ ∀ (Z : Ends) (H : Hp) (lf tl wd ws : Addr) (v2 v3 v4 v5 v6 : Option V), Tabs T H → PtAt C H (.ref lf) leafT → PtAt C H (.ref wd) (.row wideTs) → (∀ (H' : Hp) (L q1 q2 : Addr), ExtN H H' → Tabs T H' → (∀ b o, H b = some o → (∀ ps, o ≠ .tbl ps) → b ≠ L) → H' L = some (.lst [.ref q1, .ref q2]) → H' q1 = some (.tup (DK.val .ok)) → H' q2 = some (.tup (DK.val .size)) → Z.nx [some (.ref lf), some (.ref tl), v2, some (.ref L), v4, v5, v6, some (.ref wd), some (.ref ws), none, none] H') → t Z [some (.ref lf), some (.ref tl), v2, v3, v4, v5, v6, some (.ref wd), some (.ref ws), none, none] H := by
  have hr5 : Room 5 _ := hr.mono (by decide)
  have hr4 : Room 4 _ := hr.mono (by decide)
  have hu64 : (A.deeper (PyProof.Rows.envOfC "_law_limits_right" (defScope sLimitsRight) s.heap.objs.size f (.ref c))).units + 64 < cLine := by have := hr.un; omega
  have big : (1000000 : Nat) < sizeLine := by decide
  refine ⟨_, (ps_set (i := 3) scLM.nd rfl (Or.inl rfl) (pe_lst (pa_cons (pe_fault (t := (fun E => (tMkL K C CP E (tCons (tC (.str "Row")) (tCons (tVar 7) tNil))))) (k := 5) FA rfl TB rfl hmT hu hr (lamS_by (sc := defScope sLimitsRight) (by decide +kernel)) rfl (fun _ _ _ _ _ => rfl) (fun _ _ _ _ E _ _ hr' => (pe_mkL (E := E) TR.ML TR.GL hr' rfl TR.gL (passes_call (takes_of rfl rfl rfl rfl) (fun _ _ _ _ q => q)) (pa_cons pe_str (pa_cons (pv 7) pa_nil))))) (pa_cons (pe_faultW (jj := 2) (t := (fun E => (tMkL K C CP E (tCons (tC (.str "Row")) (tCons (tVar 7) (tCons (tVar 0) tNil)))))) (k := 5) scLM.nd FA rfl TB rfl hmT hu hr (lamW_by (sc := defScope sLimitsRight) (N := NLM) (y := "_law_n") (j := 2) (by decide +kernel)) rfl rfl (fun _ _ _ _ _ _ _ => ⟨_, rfl, rfl⟩) (fun _ _ _ _ E _ _ hr' => (pe_mkL (E := E) TR.ML TR.GL hr' rfl TR.gL (passes_call (takes_of rfl rfl rfl rfl) (fun _ _ _ _ q => q)) (pa_cons pe_str (pa_cons (pv 7) (pa_cons (pv 0) pa_nil)))))) pa_nil)))), ?_⟩
  rintro Z H lf tl wd ws v2 v3 v4 v5 v6 tb plf pwd k
  obtain ⟨a1, a2, a3, a4, _⟩ := wide_ok
  refine ⟨tb, fun H1 e1 tb1 => fault_g (C := C) (z := "Row") [.row wideTs] .ok a2 (fun H2 E' Q' s2 res => ?_) (fun H2 q1 s2 nq1 told1 => ?_)⟩
  · exact ⟨_, rfl, mkL_res [.row wideTs] a1 ⟨PtAt.kpo (KpO.same s2) _ (PtAt.kpo (KpO.ext e1) _ pwd), True.intro⟩ (res _)⟩
  have e2 := e1.trans (ExtN.of s2)
  refine ⟨tb1.ext s2, fun H3 e3 tb3 => fault_g (C := C) (z := "Row") [.row wideTs, leafT] .size a4 (fun H4 E' Q' s4 res => ?_) (fun H4 q2 s4 nq2 told2 => ?_)⟩
  · have e4 := KpO.ext (e2.trans (e3.trans (ExtN.of s4)))
    exact ⟨_, rfl, _, rfl, mkL_res [.row wideTs, leafT] a3 ⟨PtAt.kpo e4 _ pwd, PtAt.kpo e4 _ plf, True.intro⟩ (res _)⟩
  refine ⟨by show 2 ≤ sizeLine; omega, fun L nL => ?_⟩
  have s5 : Same H4 (upd H4 L (.lst [.ref q1, .ref q2])) := same_upd (Same.refl H4) nL
  have v5' : (upd H4 L (.lst [.ref q1, .ref q2])) L = some (.lst [.ref q1, .ref q2]) := upd_same
  generalize upd H4 L (.lst [.ref q1, .ref q2]) = H5 at s5 v5' ⊢
  have e25 := e3.trans (ExtN.of (s4.trans s5))
  exact k H5 L q1 q2 (e2.trans e25) ((tb3.ext s4).ext s5) (fun b o q t z => by rw [z] at q; rw [(e2.trans (e3.trans (ExtN.of s4))) _ _ q t] at nL; cases nL) v5' (e25 _ _ told1 fun _ => nofun) (s5 _ _ told2)
theorem lm9 (TR : TxtG P w K mg base C CI CP a) (no : NoL K C) (FA : TxtA K mg CP CS fA fdA) (TB : TabB base mg c Pt) (hmT : (Pt, qLM) ∈ T) (hu : ∀ p ∈ T, p.1 = Pt → p.2 = qLM) (hr : Room 7 (A.deeper (PyProof.Rows.envOfC "_law_limits_right" (defScope sLimitsRight) s.heap.objs.size f (.ref c)))) (gR : mg "range" = none) :
    ∃ t : TS, PS (cxOf CX0 P w K mg base NLM "_law_limits_right" (defScope sLimitsRight) f (.ref c) A outer s H0 E).nox (stLM 9) t ∧ ∀ (Z : Ends) (H : Hp) (lf tl L wd ws wx : Addr) (v2 v4 v5 v6 : Option V) (xs : List V), Tabs T H → H L = some (.lst xs) → xs.length ≤ 10 → PtAt C H (.ref lf) leafT → PtAt C H (.ref wd) (.row wideTs) → H ws = some (.tup [.ref wx, .ref wx]) → PtAt C H (.ref wx) (.vr 1 "w") →
      (∀ (H' : Hp) (q : Addr), ExtL L H H' → Tabs T H' → H' L = some (.lst (xs ++ [.ref q])) → H' q = some (.tup (DK.val .size)) → Z.nx [some (.ref lf), some (.ref tl), v2, some (.ref L), v4, v5, v6, some (.ref wd), some (.ref ws), none, none] H') → t Z [some (.ref lf), some (.ref tl), v2, some (.ref L), v4, v5, v6, some (.ref wd), some (.ref ws), none, none] H := by
  have hr5 : Room 5 _ := hr.mono (by decide)
  have hr4 : Room 4 _ := hr.mono (by decide)
  have hu64 : (A.deeper (PyProof.Rows.envOfC "_law_limits_right" (defScope sLimitsRight) s.heap.objs.size f (.ref c))).units + 64 < cLine := by have := hr.un; omega
  have big : (1000000 : Nat) < sizeLine := by decide
  refine ⟨_, (ps_expr (pe_bm PySem.F.plainAttrs_list PySem.F.slot_list_append PySem.F.type_list_append mt_append (pv 3) (pa_cons (pe_fault (t := (fun E => (tMkL K C CP E (tCons (tC (.str "Row")) (tCons (tOp (rCatT K) (tVar 7) (tTup (tCons (tMkV K C CP 0 E (tCons (tC (.str "y")) tNil)) tNil))) tNil))))) (k := 5) FA rfl TB rfl hmT hu hr (lamS_by (sc := defScope sLimitsRight) (by decide +kernel)) rfl (fun _ _ _ _ _ => rfl) (fun _ _ _ _ E _ _ hr' => (pe_mkL (E := E) TR.ML TR.GL hr' rfl TR.gL (passes_call (takes_of rfl rfl rfl rfl) (fun _ _ _ _ q => q)) (pa_cons pe_str (pa_cons (pe_op op_catT (pv 7) (pe_tup (pa_cons (pe_mkV (E := E) (j := 0) TR.MV TR.GV (hr'.mono (by decide)) rfl TR.gV TR.BV (passes_call (takes_of rfl rfl rfl rfl) (fun _ _ _ _ q => q)) (pa_cons pe_str pa_nil)) pa_nil))) pa_nil))))) pa_nil))), ?_⟩
  rintro Z H lf tl L wd ws wx v2 v4 v5 v6 xs tabs hL xl plf pwd hws pwx k
  obtain ⟨a1, a2, a3, a4, a5, a6, a7, a8, a9, a10⟩ := wide_ok
  obtain ⟨b1, b2, b3, b4, b5, b6, b7⟩ := wide_ok2
  refine ⟨_, rfl, .inl ⟨rfl, _, SqL.of hL⟩, tabs, fun H1 e1 tb1 => fault_g (C := C) (z := "Row") [.row (wideTs ++ [.vr 0 "y"])] .size a6 (fun H2 E' Q' s2 res => ?_) (fun H3 q s3 nq told => ?_)⟩
  · have kk := (KpO.ext e1).trans (KpO.same s2)
    have F2 := PtAt.kpo kk _ plf
    have W2 := PtAt.kpo kk _ pwd
    have X2 := PtAt.kpo kk _ pwx
    have S2 := kk _ _ rfl hws
    obtain ⟨wa, wxs, ewa, hwa, wp⟩ := id W2
    cases ewa
    have wl : wxs.length = 59 := by rw [pts_len wp]; rfl
    refine ⟨_, rfl, mkV_c (by decide +kernel) fun H4 y s4 _ py => ?_⟩
    refine ⟨by show 1 ≤ sizeLine; omega, fun u nu => ?_⟩
    have s5 : Same H4 (upd H4 u (.tup [.ref y])) := same_upd (Same.refl H4) nu
    have v5' : (upd H4 u (.tup [.ref y])) u = some (.tup [.ref y]) := upd_same
    generalize upd H4 u (.tup [.ref y]) = H5 at s5 v5' ⊢
    refine ⟨wd, u, _, _, rfl, rfl, SqT.of ((s4.trans s5) _ _ hwa), SqT.of v5', (fun z => by rw [z] at wl; cases wl), by rw [wl]; show 59 + 1 ≤ sizeLine; omega, nofun, fun _ p np => ?_⟩
    have s6 : Same H5 (upd H5 p (.tup (wxs ++ [.ref y]))) := same_upd (Same.refl H5) np
    have v6' : (upd H5 p (.tup (wxs ++ [.ref y]))) p = some (.tup (wxs ++ [.ref y])) := upd_same
    generalize upd H5 p (.tup (wxs ++ [.ref y])) = H6 at s6 v6' ⊢
    have pw := row_app v6' (PtsAt.kpo (KpO.same (s4.trans (s5.trans s6))) _ wp) (PtAt.kpo (KpO.same (s5.trans s6)) _ py)
    have s46 := s4.trans (s5.trans s6)
    generalize wideTs ++ [Tr.vr 0 "y"] = WT at a5 res pw
    exact mkL_res [.row WT] a5 ⟨pw, True.intro⟩ (LikeRes.same (res _) s46)
  · have hL1 := e1 _ _ hL fun _ => nofun
    have hL3 := s3 _ _ hL1
    have nqL : q ≠ L := fun z => by rw [z, hL1] at nq; cases nq
    refine ⟨L, _, _, rfl, rfl, hL3, by omega, ?_⟩
    exact k _ q ((ExtL.ext (e1.trans (ExtN.of s3))).trans ExtL.upd) (tabs_lst' (tb1.ext s3) hL3) upd_same (by rw [upd_ne nqL]; exact told)
theorem lm10 (TR : TxtG P w K mg base C CI CP a) (no : NoL K C) (FA : TxtA K mg CP CS fA fdA) (TB : TabB base mg c Pt) (hmT : (Pt, qLM) ∈ T) (hu : ∀ p ∈ T, p.1 = Pt → p.2 = qLM) (hr : Room 7 (A.deeper (PyProof.Rows.envOfC "_law_limits_right" (defScope sLimitsRight) s.heap.objs.size f (.ref c)))) (gR : mg "range" = none) :
    ∃ t : TS, PS (cxOf CX0 P w K mg base NLM "_law_limits_right" (defScope sLimitsRight) f (.ref c) A outer s H0 E).nox (stLM 10) t ∧ ∀ (Z : Ends) (H : Hp) (lf tl L wd ws wx : Addr) (v2 v4 v5 v6 : Option V) (xs : List V), Tabs T H → H L = some (.lst xs) → xs.length ≤ 10 → PtAt C H (.ref lf) leafT → PtAt C H (.ref wd) (.row wideTs) → H ws = some (.tup [.ref wx, .ref wx]) → PtAt C H (.ref wx) (.vr 1 "w") →
      (∀ (H' : Hp) (q : Addr), ExtL L H H' → Tabs T H' → H' L = some (.lst (xs ++ [.ref q])) → H' q = some (.tup (DK.val .ok)) → Z.nx [some (.ref lf), some (.ref tl), v2, some (.ref L), v4, v5, v6, some (.ref wd), some (.ref ws), none, none] H') → t Z [some (.ref lf), some (.ref tl), v2, some (.ref L), v4, v5, v6, some (.ref wd), some (.ref ws), none, none] H := by
  have hr5 : Room 5 _ := hr.mono (by decide)
  have hr4 : Room 4 _ := hr.mono (by decide)
  have hu64 : (A.deeper (PyProof.Rows.envOfC "_law_limits_right" (defScope sLimitsRight) s.heap.objs.size f (.ref c))).units + 64 < cLine := by have := hr.un; omega
  have big : (1000000 : Nat) < sizeLine := by decide
  refine ⟨_, (ps_expr (pe_bm PySem.F.plainAttrs_list PySem.F.slot_list_append PySem.F.type_list_append mt_append (pv 3) (pa_cons (pe_fault (t := (fun E => (tMkL K C CP E (tCons (tC (.str "Row")) (tCons (tOp (rCatT K) (tVar 7) (tTup (tCons (tMkV K C CP 2 E (tCons (tC (.str "r")) tNil)) tNil))) tNil))))) (k := 5) FA rfl TB rfl hmT hu hr (lamS_by (sc := defScope sLimitsRight) (by decide +kernel)) rfl (fun _ _ _ _ _ => rfl) (fun _ _ _ _ E _ _ hr' => (pe_mkL (E := E) TR.ML TR.GL hr' rfl TR.gL (passes_call (takes_of rfl rfl rfl rfl) (fun _ _ _ _ q => q)) (pa_cons pe_str (pa_cons (pe_op op_catT (pv 7) (pe_tup (pa_cons (pe_mkV (E := E) (j := 2) TR.MR TR.GR (hr'.mono (by decide)) rfl TR.gRe TR.BR (passes_call (takes_of rfl rfl rfl rfl) (fun _ _ _ _ q => q)) (pa_cons pe_str pa_nil)) pa_nil))) pa_nil))))) pa_nil))), ?_⟩
  rintro Z H lf tl L wd ws wx v2 v4 v5 v6 xs tabs hL xl plf pwd hws pwx k
  obtain ⟨a1, a2, a3, a4, a5, a6, a7, a8, a9, a10⟩ := wide_ok
  obtain ⟨b1, b2, b3, b4, b5, b6, b7⟩ := wide_ok2
  refine ⟨_, rfl, .inl ⟨rfl, _, SqL.of hL⟩, tabs, fun H1 e1 tb1 => fault_g (C := C) (z := "Row") [.row (wideTs ++ [.vr 2 "r"])] .ok a8 (fun H2 E' Q' s2 res => ?_) (fun H3 q s3 nq told => ?_)⟩
  · have kk := (KpO.ext e1).trans (KpO.same s2)
    have F2 := PtAt.kpo kk _ plf
    have W2 := PtAt.kpo kk _ pwd
    have X2 := PtAt.kpo kk _ pwx
    have S2 := kk _ _ rfl hws
    obtain ⟨wa, wxs, ewa, hwa, wp⟩ := id W2
    cases ewa
    have wl : wxs.length = 59 := by rw [pts_len wp]; rfl
    refine ⟨_, rfl, mkV_c (by decide +kernel) fun H4 y s4 _ py => ?_⟩
    refine ⟨by show 1 ≤ sizeLine; omega, fun u nu => ?_⟩
    have s5 : Same H4 (upd H4 u (.tup [.ref y])) := same_upd (Same.refl H4) nu
    have v5' : (upd H4 u (.tup [.ref y])) u = some (.tup [.ref y]) := upd_same
    generalize upd H4 u (.tup [.ref y]) = H5 at s5 v5' ⊢
    refine ⟨wd, u, _, _, rfl, rfl, SqT.of ((s4.trans s5) _ _ hwa), SqT.of v5', (fun z => by rw [z] at wl; cases wl), by rw [wl]; show 59 + 1 ≤ sizeLine; omega, nofun, fun _ p np => ?_⟩
    have s6 : Same H5 (upd H5 p (.tup (wxs ++ [.ref y]))) := same_upd (Same.refl H5) np
    have v6' : (upd H5 p (.tup (wxs ++ [.ref y]))) p = some (.tup (wxs ++ [.ref y])) := upd_same
    generalize upd H5 p (.tup (wxs ++ [.ref y])) = H6 at s6 v6' ⊢
    have pw := row_app v6' (PtsAt.kpo (KpO.same (s4.trans (s5.trans s6))) _ wp) (PtAt.kpo (KpO.same (s5.trans s6)) _ py)
    have s46 := s4.trans (s5.trans s6)
    generalize wideTs ++ [Tr.vr 2 "r"] = WT at a7 res pw
    exact mkL_res [.row WT] a7 ⟨pw, True.intro⟩ (LikeRes.same (res _) s46)
  · have hL1 := e1 _ _ hL fun _ => nofun
    have hL3 := s3 _ _ hL1
    have nqL : q ≠ L := fun z => by rw [z, hL1] at nq; cases nq
    refine ⟨L, _, _, rfl, rfl, hL3, by omega, ?_⟩
    exact k _ q ((ExtL.ext (e1.trans (ExtN.of s3))).trans ExtL.upd) (tabs_lst' (tb1.ext s3) hL3) upd_same (by rw [upd_ne nqL]; exact told)
theorem lm11 (TR : TxtG P w K mg base C CI CP a) (no : NoL K C) (FA : TxtA K mg CP CS fA fdA) (TB : TabB base mg c Pt) (hmT : (Pt, qLM) ∈ T) (hu : ∀ p ∈ T, p.1 = Pt → p.2 = qLM) (hr : Room 7 (A.deeper (PyProof.Rows.envOfC "_law_limits_right" (defScope sLimitsRight) s.heap.objs.size f (.ref c)))) (gR : mg "range" = none) :
    ∃ t : TS, PS (cxOf CX0 P w K mg base NLM "_law_limits_right" (defScope sLimitsRight) f (.ref c) A outer s H0 E).nox (stLM 11) t ∧ ∀ (Z : Ends) (H : Hp) (lf tl L wd ws wx : Addr) (v2 v4 v5 v6 : Option V) (xs : List V), Tabs T H → H L = some (.lst xs) → xs.length ≤ 10 → PtAt C H (.ref lf) leafT → PtAt C H (.ref wd) (.row wideTs) → H ws = some (.tup [.ref wx, .ref wx]) → PtAt C H (.ref wx) (.vr 1 "w") →
      (∀ (H' : Hp) (q : Addr), ExtL L H H' → Tabs T H' → H' L = some (.lst (xs ++ [.ref q])) → H' q = some (.tup (DK.val .ok)) → Z.nx [some (.ref lf), some (.ref tl), v2, some (.ref L), v4, v5, v6, some (.ref wd), some (.ref ws), none, none] H') → t Z [some (.ref lf), some (.ref tl), v2, some (.ref L), v4, v5, v6, some (.ref wd), some (.ref ws), none, none] H := by
  have hr5 : Room 5 _ := hr.mono (by decide)
  have hr4 : Room 4 _ := hr.mono (by decide)
  have hu64 : (A.deeper (PyProof.Rows.envOfC "_law_limits_right" (defScope sLimitsRight) s.heap.objs.size f (.ref c))).units + 64 < cLine := by have := hr.un; omega
  have big : (1000000 : Nat) < sizeLine := by decide
  refine ⟨_, (ps_expr (pe_bm PySem.F.plainAttrs_list PySem.F.slot_list_append PySem.F.type_list_append mt_append (pv 3) (pa_cons (pe_fault (t := (fun E => (tMkL K C CP E (tCons (tC (.str "Row")) (tCons (tOp (rIxT K) (tVar 8) (tC (.int 0))) (tCons (tOp (rIxT K) (tVar 8) (tC (.int 1))) (tCons (tVar 7) tNil))))))) (k := 5) FA rfl TB rfl hmT hu hr (lamS_by (sc := defScope sLimitsRight) (by decide +kernel)) rfl (fun _ _ _ _ _ => rfl) (fun _ _ _ _ E _ _ hr' => (pe_mkL (E := E) TR.ML TR.GL hr' rfl TR.gL (passes_call (takes_of rfl rfl rfl rfl) (fun _ _ _ _ q => q)) (pa_cons pe_str (pa_cons (pe_ix ix_tup (pv 8) pe_int (fun _ _ => rfl)) (pa_cons (pe_ix ix_tup (pv 8) pe_int (fun _ _ => rfl)) (pa_cons (pv 7) pa_nil))))))) pa_nil))), ?_⟩
  rintro Z H lf tl L wd ws wx v2 v4 v5 v6 xs tabs hL xl plf pwd hws pwx k
  obtain ⟨a1, a2, a3, a4, a5, a6, a7, a8, a9, a10⟩ := wide_ok
  obtain ⟨b1, b2, b3, b4, b5, b6, b7⟩ := wide_ok2
  refine ⟨_, rfl, .inl ⟨rfl, _, SqL.of hL⟩, tabs, fun H1 e1 tb1 => fault_g (C := C) (z := "Row") [.vr 1 "w", .vr 1 "w", .row wideTs] .ok a10 (fun H2 E' Q' s2 res => ?_) (fun H3 q s3 nq told => ?_)⟩
  · have kk := (KpO.ext e1).trans (KpO.same s2)
    have F2 := PtAt.kpo kk _ plf
    have W2 := PtAt.kpo kk _ pwd
    have X2 := PtAt.kpo kk _ pwx
    have S2 := kk _ _ rfl hws
    exact ⟨_, rfl, ws, _, _, _, rfl, rfl, SqT.of S2, rfl, _, rfl, ws, _, _, _, rfl, rfl, SqT.of S2, rfl, _, rfl, mkL_res [.vr 1 "w", .vr 1 "w", .row wideTs] a9 ⟨X2, X2, W2, True.intro⟩ (res _)⟩
  · have hL1 := e1 _ _ hL fun _ => nofun
    have hL3 := s3 _ _ hL1
    have nqL : q ≠ L := fun z => by rw [z, hL1] at nq; cases nq
    refine ⟨L, _, _, rfl, rfl, hL3, by omega, ?_⟩
    exact k _ q ((ExtL.ext (e1.trans (ExtN.of s3))).trans ExtL.upd) (tabs_lst' (tb1.ext s3) hL3) upd_same (by rw [upd_ne nqL]; exact told)
theorem lm12 (TR : TxtG P w K mg base C CI CP a) (no : NoL K C) (FA : TxtA K mg CP CS fA fdA) (TB : TabB base mg c Pt) (hmT : (Pt, qLM) ∈ T) (hu : ∀ p ∈ T, p.1 = Pt → p.2 = qLM) (hr : Room 7 (A.deeper (PyProof.Rows.envOfC "_law_limits_right" (defScope sLimitsRight) s.heap.objs.size f (.ref c)))) (gR : mg "range" = none) :
    ∃ t : TS, PS (cxOf CX0 P w K mg base NLM "_law_limits_right" (defScope sLimitsRight) f (.ref c) A outer s H0 E).nox (stLM 12) t ∧ ∀ (Z : Ends) (H : Hp) (lf tl L wd ws wx : Addr) (v2 v4 v5 v6 : Option V) (xs : List V), Tabs T H → H L = some (.lst xs) → xs.length ≤ 10 → PtAt C H (.ref lf) leafT → PtAt C H (.ref wd) (.row wideTs) → H ws = some (.tup [.ref wx, .ref wx]) → PtAt C H (.ref wx) (.vr 1 "w") →
      (∀ (H' : Hp) (q : Addr), ExtL L H H' → Tabs T H' → H' L = some (.lst (xs ++ [.ref q])) → H' q = some (.tup (DK.val .form)) → Z.nx [some (.ref lf), some (.ref tl), v2, some (.ref L), v4, v5, v6, some (.ref wd), some (.ref ws), none, none] H') → t Z [some (.ref lf), some (.ref tl), v2, some (.ref L), v4, v5, v6, some (.ref wd), some (.ref ws), none, none] H := by
  have hr5 : Room 5 _ := hr.mono (by decide)
  have hr4 : Room 4 _ := hr.mono (by decide)
  have hu64 : (A.deeper (PyProof.Rows.envOfC "_law_limits_right" (defScope sLimitsRight) s.heap.objs.size f (.ref c))).units + 64 < cLine := by have := hr.un; omega
  have big : (1000000 : Nat) < sizeLine := by decide
  refine ⟨_, (ps_expr (pe_bm PySem.F.plainAttrs_list PySem.F.slot_list_append PySem.F.type_list_append mt_append (pv 3) (pa_cons (pe_fault (t := (fun E => (tMkL K C CP E (tCons (tC (.str "1")) (tCons (tVar 7) (tCons (tVar 0) tNil)))))) (k := 5) FA rfl TB rfl hmT hu hr (lamS_by (sc := defScope sLimitsRight) (by decide +kernel)) rfl (fun _ _ _ _ _ => rfl) (fun _ _ _ _ E _ _ hr' => (pe_mkL (E := E) TR.ML TR.GL hr' rfl TR.gL (passes_call (takes_of rfl rfl rfl rfl) (fun _ _ _ _ q => q)) (pa_cons pe_str (pa_cons (pv 7) (pa_cons (pv 0) pa_nil)))))) pa_nil))), ?_⟩
  rintro Z H lf tl L wd ws wx v2 v4 v5 v6 xs tabs hL xl plf pwd hws pwx k
  obtain ⟨a1, a2, a3, a4, a5, a6, a7, a8, a9, a10⟩ := wide_ok
  obtain ⟨b1, b2, b3, b4, b5, b6, b7⟩ := wide_ok2
  refine ⟨_, rfl, .inl ⟨rfl, _, SqL.of hL⟩, tabs, fun H1 e1 tb1 => fault_g (C := C) (z := "1") [.row wideTs, leafT] .form b2 (fun H2 E' Q' s2 res => ?_) (fun H3 q s3 nq told => ?_)⟩
  · have kk := (KpO.ext e1).trans (KpO.same s2)
    have F2 := PtAt.kpo kk _ plf
    have W2 := PtAt.kpo kk _ pwd
    have X2 := PtAt.kpo kk _ pwx
    have S2 := kk _ _ rfl hws
    exact ⟨_, rfl, _, rfl, mkL_res [.row wideTs, leafT] b1 ⟨W2, F2, True.intro⟩ (res _)⟩
  · have hL1 := e1 _ _ hL fun _ => nofun
    have hL3 := s3 _ _ hL1
    have nqL : q ≠ L := fun z => by rw [z, hL1] at nq; cases nq
    refine ⟨L, _, _, rfl, rfl, hL3, by omega, ?_⟩
    exact k _ q ((ExtL.ext (e1.trans (ExtN.of s3))).trans ExtL.upd) (tabs_lst' (tb1.ext s3) hL3) upd_same (by rw [upd_ne nqL]; exact told)
theorem lm13 (TR : TxtG P w K mg base C CI CP a) (no : NoL K C) (FA : TxtA K mg CP CS fA fdA) (TB : TabB base mg c Pt) (hmT : (Pt, qLM) ∈ T) (hu : ∀ p ∈ T, p.1 = Pt → p.2 = qLM) (hr : Room 7 (A.deeper (PyProof.Rows.envOfC "_law_limits_right" (defScope sLimitsRight) s.heap.objs.size f (.ref c)))) (gR : mg "range" = none) :
    ∃ t : TS, PS (cxOf CX0 P w K mg base NLM "_law_limits_right" (defScope sLimitsRight) f (.ref c) A outer s H0 E).nox (stLM 13) t ∧ ∀ (Z : Ends) (H : Hp) (lf tl L wd ws wx : Addr) (v2 v4 v5 v6 : Option V) (xs : List V), Tabs T H → H L = some (.lst xs) → xs.length ≤ 10 → PtAt C H (.ref lf) leafT → PtAt C H (.ref wd) (.row wideTs) → H ws = some (.tup [.ref wx, .ref wx]) → PtAt C H (.ref wx) (.vr 1 "w") →
      (∀ (H' : Hp) (q : Addr), ExtL L H H' → Tabs T H' → H' L = some (.lst (xs ++ [.ref q])) → H' q = some (.tup (DK.val (.at 2))) → Z.nx [some (.ref lf), some (.ref tl), v2, some (.ref L), v4, v5, v6, some (.ref wd), some (.ref ws), none, none] H') → t Z [some (.ref lf), some (.ref tl), v2, some (.ref L), v4, v5, v6, some (.ref wd), some (.ref ws), none, none] H := by
  have hr5 : Room 5 _ := hr.mono (by decide)
  have hr4 : Room 4 _ := hr.mono (by decide)
  have hu64 : (A.deeper (PyProof.Rows.envOfC "_law_limits_right" (defScope sLimitsRight) s.heap.objs.size f (.ref c))).units + 64 < cLine := by have := hr.un; omega
  have big : (1000000 : Nat) < sizeLine := by decide
  refine ⟨_, (ps_expr (pe_bm PySem.F.plainAttrs_list PySem.F.slot_list_append PySem.F.type_list_append mt_append (pv 3) (pa_cons (pe_fault (t := (fun E => (tMkL K C CP E (tCons (tC (.str "Row")) (tCons (tVar 7) (tCons (tVar 0) (tCons (tC .non) tNil))))))) (k := 5) FA rfl TB rfl hmT hu hr (lamS_by (sc := defScope sLimitsRight) (by decide +kernel)) rfl (fun _ _ _ _ _ => rfl) (fun _ _ _ _ E _ _ hr' => (pe_mkL (E := E) TR.ML TR.GL hr' rfl TR.gL (passes_call (takes_of rfl rfl rfl rfl) (fun _ _ _ _ q => q)) (pa_cons pe_str (pa_cons (pv 7) (pa_cons (pv 0) (pa_cons pe_non pa_nil))))))) pa_nil))), ?_⟩
  rintro Z H lf tl L wd ws wx v2 v4 v5 v6 xs tabs hL xl plf pwd hws pwx k
  obtain ⟨a1, a2, a3, a4, a5, a6, a7, a8, a9, a10⟩ := wide_ok
  obtain ⟨b1, b2, b3, b4, b5, b6, b7⟩ := wide_ok2
  refine ⟨_, rfl, .inl ⟨rfl, _, SqL.of hL⟩, tabs, fun H1 e1 tb1 => fault_xs (C := C) (n := .str "Row") (pis := [.good (.row wideTs), .good leafT, .bad]) (kk := .at 2) (due_bad (i := 2) (show nameV (.str "Row") = true by decide +kernel) rfl) (fun H2 E' Q' s2 res => ?_) (fun H3 q s3 nq told => ?_)⟩
  · have kk := (KpO.ext e1).trans (KpO.same s2)
    have F2 := PtAt.kpo kk _ plf
    have W2 := PtAt.kpo kk _ pwd
    have X2 := PtAt.kpo kk _ pwx
    have S2 := kk _ _ rfl hws
    have lg := okA_all b3
    exact ⟨_, rfl, _, rfl, .str "Row", [.ref wd, .ref lf, .non], [.good (.row wideTs), .good leafT, .bad], rfl, val_nm (by decide +kernel) (by decide +kernel), paired_app (li_good (xs := [.ref wd, .ref lf]) (ts := [.row wideTs, leafT]) ⟨W2, F2, True.intro⟩ lg) (.cons (bad_non (N := fun _ => True) no).bad .nil), by show 3 ≤ 1000; omega, b4, res _⟩
  · have hL1 := e1 _ _ hL fun _ => nofun
    have hL3 := s3 _ _ hL1
    have nqL : q ≠ L := fun z => by rw [z, hL1] at nq; cases nq
    refine ⟨L, _, _, rfl, rfl, hL3, by omega, ?_⟩
    exact k _ q ((ExtL.ext (e1.trans (ExtN.of s3))).trans ExtL.upd) (tabs_lst' (tb1.ext s3) hL3) upd_same (by rw [upd_ne nqL]; exact told)
theorem lm14 (TR : TxtG P w K mg base C CI CP a) (no : NoL K C) (FA : TxtA K mg CP CS fA fdA) (TB : TabB base mg c Pt) (hmT : (Pt, qLM) ∈ T) (hu : ∀ p ∈ T, p.1 = Pt → p.2 = qLM) (hr : Room 7 (A.deeper (PyProof.Rows.envOfC "_law_limits_right" (defScope sLimitsRight) s.heap.objs.size f (.ref c)))) (gR : mg "range" = none) :
    ∃ t : TS, PS (cxOf CX0 P w K mg base NLM "_law_limits_right" (defScope sLimitsRight) f (.ref c) A outer s H0 E).nox (stLM 14) t ∧ ∀ (Z : Ends) (H : Hp) (lf tl L wd ws wx : Addr) (v2 v4 v5 v6 : Option V) (xs : List V), Tabs T H → H L = some (.lst xs) → xs.length ≤ 10 → PtAt C H (.ref lf) leafT → PtAt C H (.ref wd) (.row wideTs) → H ws = some (.tup [.ref wx, .ref wx]) → PtAt C H (.ref wx) (.vr 1 "w") →
      (∀ (H' : Hp) (q : Addr), ExtL L H H' → Tabs T H' → H' L = some (.lst (xs ++ [.ref q])) → H' q = some (.tup (DK.val .size)) → Z.nx [some (.ref lf), some (.ref tl), v2, some (.ref L), v4, v5, v6, some (.ref wd), some (.ref ws), none, none] H') → t Z [some (.ref lf), some (.ref tl), v2, some (.ref L), v4, v5, v6, some (.ref wd), some (.ref ws), none, none] H := by
  have hr5 : Room 5 _ := hr.mono (by decide)
  have hr4 : Room 4 _ := hr.mono (by decide)
  have hu64 : (A.deeper (PyProof.Rows.envOfC "_law_limits_right" (defScope sLimitsRight) s.heap.objs.size f (.ref c))).units + 64 < cLine := by have := hr.un; omega
  have big : (1000000 : Nat) < sizeLine := by decide
  refine ⟨_, (ps_expr (pe_bm PySem.F.plainAttrs_list PySem.F.slot_list_append PySem.F.type_list_append mt_append (pv 3) (pa_cons (pe_fault (t := (fun E => (tMkL K C CP E (tCons (tC (.str "Row")) (tCons (tMkT K C CI E (tCons (tC (.str "Row")) (tCons (tOp (rRepT K) (tTup (tCons (tVar 0) tNil)) (tC (.int 59))) tNil))) tNil))))) (k := 5) FA rfl TB rfl hmT hu hr (lamS_by (sc := defScope sLimitsRight) (by decide +kernel)) rfl (fun _ _ _ _ _ => rfl) (fun _ _ _ _ E _ _ hr' => (pe_mkL (E := E) TR.ML TR.GL hr' rfl TR.gL (passes_call (takes_of rfl rfl rfl rfl) (fun _ _ _ _ q => q)) (pa_cons pe_str (pa_cons (pe_mkT (E := E) TR.MT TR.GT hr' rfl TR.gT (passes_call (takes_of rfl rfl rfl rfl) (fun _ _ _ _ q => q)) (pa_cons pe_str (pa_cons (pe_op op_repT (pe_tup (pa_cons (pv 0) pa_nil)) pe_int) pa_nil))) pa_nil))))) pa_nil))), ?_⟩
  rintro Z H lf tl L wd ws wx v2 v4 v5 v6 xs tabs hL xl plf pwd hws pwx k
  obtain ⟨a1, a2, a3, a4, a5, a6, a7, a8, a9, a10⟩ := wide_ok
  obtain ⟨b1, b2, b3, b4, b5, b6, b7⟩ := wide_ok2
  refine ⟨_, rfl, .inl ⟨rfl, _, SqL.of hL⟩, tabs, fun H1 e1 tb1 => fault_g (C := C) (z := "Row") [.nd false "Row" [.row (List.replicate 59 leafT)]] .size b7 (fun H2 E' Q' s2 res => ?_) (fun H3 q s3 nq told => ?_)⟩
  · have kk := (KpO.ext e1).trans (KpO.same s2)
    have F2 := PtAt.kpo kk _ plf
    have W2 := PtAt.kpo kk _ pwd
    have X2 := PtAt.kpo kk _ pwx
    have S2 := kk _ _ rfl hws
    refine ⟨_, rfl, ?_⟩
    refine ⟨by show 1 ≤ sizeLine; omega, fun a na => ?_⟩
    have saa : Same H2 (upd H2 a (.tup [.ref lf])) := same_upd (Same.refl H2) na
    have vaa : (upd H2 a (.tup [.ref lf])) a = some (.tup [.ref lf]) := upd_same
    generalize upd H2 a (.tup [.ref lf]) = Gaa at saa vaa ⊢
    refine ⟨a, 59, _, rfl, rfl, SqT.of vaa, by simp, by decide, by decide, by show 1 ≤ 1000; omega, fun pa npa => ?_⟩
    rw [show ((59 : Int)).toNat = 59 from rfl, flat_rep]
    have sba : Same Gaa (upd Gaa pa (.tup (List.replicate 59 (.ref lf)))) := same_upd (Same.refl Gaa) npa
    have vba : (upd Gaa pa (.tup (List.replicate 59 (.ref lf)))) pa = some (.tup (List.replicate 59 (.ref lf))) := upd_same
    generalize upd Gaa pa (.tup (List.replicate 59 (.ref lf))) = Gab at sba vba ⊢
    refine mkT_c [.row (List.replicate 59 leafT)] b5 ⟨⟨_, _, rfl, vba, pts_rep (PtAt.kpo (KpO.same (saa.trans sba)) _ F2) 59⟩, True.intro⟩ fun H5 y s5 _ py _ => ?_
    exact mkL_res [.nd false "Row" [.row (List.replicate 59 leafT)]] b6 ⟨py, True.intro⟩ ((res _).same ((saa.trans sba).trans s5))
  · have hL1 := e1 _ _ hL fun _ => nofun
    have hL3 := s3 _ _ hL1
    have nqL : q ≠ L := fun z => by rw [z, hL1] at nq; cases nq
    refine ⟨L, _, _, rfl, rfl, hL3, by omega, ?_⟩
    exact k _ q ((ExtL.ext (e1.trans (ExtN.of s3))).trans ExtL.upd) (tabs_lst' (tb1.ext s3) hL3) upd_same (by rw [upd_ne nqL]; exact told)
end
end K3

namespace K3
open PySem PySem.Spec PyProof.Rows PySem.SeqAt L2 E0
open LamX (ExtN Tabs TabS TabB LamS lamS_by lamSB)
section
variable {P : Program} {w : World} {K : PySem.W.Frag} {mg : Str → Option Value} {base : Heap} {C : Cl5} {CI CP CS f c fA Pt : Addr} {fdA : FuncData} {T : List (Addr × Str)} {a : AdG} {A : Around} {outer : List Env} {s : Shared} {H0 : Hp} {E : XK}
theorem lm15 (TR : TxtG P w K mg base C CI CP a) (no : NoL K C) (FA : TxtA K mg CP CS fA fdA) (TB : TabB base mg c Pt) (hmT : (Pt, qLM) ∈ T) (hu : ∀ p ∈ T, p.1 = Pt → p.2 = qLM) (hr : Room 7 (A.deeper (PyProof.Rows.envOfC "_law_limits_right" (defScope sLimitsRight) s.heap.objs.size f (.ref c)))) (gR : mg "range" = none) :
    ∃ t : TS, PS (cxOf CX0 P w K mg base NLM "_law_limits_right" (defScope sLimitsRight) f (.ref c) A outer s H0 E).nox (stLM 15) t ∧ ∀ (Z : Ends) (H : Hp) (lf tl L wd ws : Addr) (v2 v4 v5 v6 : Option V), (∀ (H' : Hp) (D g0 g1 g2 g3 g4 g5 g6 g7 : Addr), Same H H' → H' D = some (.lst [.ref g0, .ref g1, .ref g2, .ref g3, .ref g4, .ref g5, .ref g6, .ref g7]) → H' g0 = some (.tup (DK.val .ok)) → H' g1 = some (.tup (DK.val .size)) → H' g2 = some (.tup (DK.val .size)) → H' g3 = some (.tup (DK.val .ok)) → H' g4 = some (.tup (DK.val .ok)) → H' g5 = some (.tup (DK.val .form)) → H' g6 = some (.tup (DK.val (.at 2))) → H' g7 = some (.tup (DK.val .size)) → Z.nx [some (.ref lf), some (.ref tl), v2, some (.ref L), v4, v5, v6, some (.ref wd), some (.ref ws), some (.ref D), none] H') → t Z [some (.ref lf), some (.ref tl), v2, some (.ref L), v4, v5, v6, some (.ref wd), some (.ref ws), none, none] H := by
  have hr5 : Room 5 _ := hr.mono (by decide)
  have hr4 : Room 4 _ := hr.mono (by decide)
  have hu64 : (A.deeper (PyProof.Rows.envOfC "_law_limits_right" (defScope sLimitsRight) s.heap.objs.size f (.ref c))).units + 64 < cLine := by have := hr.un; omega
  have big : (1000000 : Nat) < sizeLine := by decide
  refine ⟨_, (ps_set (i := 9) scLM.nd rfl (Or.inl rfl) (pe_lst (pa_cons (pe_tup pa_nil) (pa_cons (pe_tup (pa_cons pe_str (pa_cons pe_str pa_nil))) (pa_cons (pe_tup (pa_cons pe_str (pa_cons pe_str pa_nil))) (pa_cons (pe_tup pa_nil) (pa_cons (pe_tup pa_nil) (pa_cons (pe_tup (pa_cons pe_str (pa_cons pe_str pa_nil))) (pa_cons (pe_tup (pa_cons pe_str (pa_cons pe_int pa_nil))) (pa_cons (pe_tup (pa_cons pe_str (pa_cons pe_str pa_nil))) pa_nil)))))))))), ?_⟩
  rintro Z H lf tl L wd ws v2 v4 v5 v6 k
  refine ⟨by show 0 ≤ sizeLine; omega, fun g0 ng0 => ?_⟩
  have s0 : Same H (upd H g0 (.tup [])) := same_upd (Same.refl H) ng0
  have w0 : (upd H g0 (.tup [])) g0 = some (.tup []) := upd_same
  generalize upd H g0 (.tup []) = H1 at s0 w0 ⊢
  refine ⟨by show 2 ≤ sizeLine; omega, fun g1 ng1 => ?_⟩
  have s1 : Same H1 (upd H1 g1 (.tup [.str "wrong", .str "size"])) := same_upd (Same.refl H1) ng1
  have w1 : (upd H1 g1 (.tup [.str "wrong", .str "size"])) g1 = some (.tup [.str "wrong", .str "size"]) := upd_same
  generalize upd H1 g1 (.tup [.str "wrong", .str "size"]) = H2 at s1 w1 ⊢
  refine ⟨by show 2 ≤ sizeLine; omega, fun g2 ng2 => ?_⟩
  have s2 : Same H2 (upd H2 g2 (.tup [.str "wrong", .str "size"])) := same_upd (Same.refl H2) ng2
  have w2 : (upd H2 g2 (.tup [.str "wrong", .str "size"])) g2 = some (.tup [.str "wrong", .str "size"]) := upd_same
  generalize upd H2 g2 (.tup [.str "wrong", .str "size"]) = H3 at s2 w2 ⊢
  refine ⟨by show 0 ≤ sizeLine; omega, fun g3 ng3 => ?_⟩
  have s3 : Same H3 (upd H3 g3 (.tup [])) := same_upd (Same.refl H3) ng3
  have w3 : (upd H3 g3 (.tup [])) g3 = some (.tup []) := upd_same
  generalize upd H3 g3 (.tup []) = H4 at s3 w3 ⊢
  refine ⟨by show 0 ≤ sizeLine; omega, fun g4 ng4 => ?_⟩
  have s4 : Same H4 (upd H4 g4 (.tup [])) := same_upd (Same.refl H4) ng4
  have w4 : (upd H4 g4 (.tup [])) g4 = some (.tup []) := upd_same
  generalize upd H4 g4 (.tup []) = H5 at s4 w4 ⊢
  refine ⟨by show 2 ≤ sizeLine; omega, fun g5 ng5 => ?_⟩
  have s5 : Same H5 (upd H5 g5 (.tup [.str "wrong", .str "form"])) := same_upd (Same.refl H5) ng5
  have w5 : (upd H5 g5 (.tup [.str "wrong", .str "form"])) g5 = some (.tup [.str "wrong", .str "form"]) := upd_same
  generalize upd H5 g5 (.tup [.str "wrong", .str "form"]) = H6 at s5 w5 ⊢
  refine ⟨by show 2 ≤ sizeLine; omega, fun g6 ng6 => ?_⟩
  have s6 : Same H6 (upd H6 g6 (.tup [.str "wrong", .int 2])) := same_upd (Same.refl H6) ng6
  have w6 : (upd H6 g6 (.tup [.str "wrong", .int 2])) g6 = some (.tup [.str "wrong", .int 2]) := upd_same
  generalize upd H6 g6 (.tup [.str "wrong", .int 2]) = H7 at s6 w6 ⊢
  refine ⟨by show 2 ≤ sizeLine; omega, fun g7 ng7 => ?_⟩
  have s7 : Same H7 (upd H7 g7 (.tup [.str "wrong", .str "size"])) := same_upd (Same.refl H7) ng7
  have w7 : (upd H7 g7 (.tup [.str "wrong", .str "size"])) g7 = some (.tup [.str "wrong", .str "size"]) := upd_same
  generalize upd H7 g7 (.tup [.str "wrong", .str "size"]) = H8 at s7 w7 ⊢
  refine ⟨by show 8 ≤ sizeLine; omega, fun D nD => ?_⟩
  have s8 : Same H8 (upd H8 D (.lst [.ref g0, .ref g1, .ref g2, .ref g3, .ref g4, .ref g5, .ref g6, .ref g7])) := same_upd (Same.refl H8) nD
  have wD : (upd H8 D (.lst [.ref g0, .ref g1, .ref g2, .ref g3, .ref g4, .ref g5, .ref g6, .ref g7])) D = some (.lst [.ref g0, .ref g1, .ref g2, .ref g3, .ref g4, .ref g5, .ref g6, .ref g7]) := upd_same
  generalize upd H8 D (.lst [.ref g0, .ref g1, .ref g2, .ref g3, .ref g4, .ref g5, .ref g6, .ref g7]) = HD at s8 wD ⊢
  have r8 := s8
  have r7 := s7.trans r8
  have r6 := s6.trans r7
  have r5 := s5.trans r6
  have r4 := s4.trans r5
  have r3 := s3.trans r4
  have r2 := s2.trans r3
  have r1 := s1.trans r2
  have r0 := s0.trans r1
  exact k HD D g0 g1 g2 g3 g4 g5 g6 g7 r0 wD (r1 _ _ w0) (r2 _ _ w1) (r3 _ _ w2) (r4 _ _ w3) (r5 _ _ w4) (r6 _ _ w5) (r7 _ _ w6) (r8 _ _ w7)
theorem lm16 (TR : TxtG P w K mg base C CI CP a) (no : NoL K C) (FA : TxtA K mg CP CS fA fdA) (TB : TabB base mg c Pt) (hmT : (Pt, qLM) ∈ T) (hu : ∀ p ∈ T, p.1 = Pt → p.2 = qLM) (hr : Room 7 (A.deeper (PyProof.Rows.envOfC "_law_limits_right" (defScope sLimitsRight) s.heap.objs.size f (.ref c)))) (gR : mg "range" = none) :
    ∃ t : TS, PS (cxOf CX0 P w K mg base NLM "_law_limits_right" (defScope sLimitsRight) f (.ref c) A outer s H0 E).nox (stLM 16) t ∧ ∀ (Z : Ends) (H : Hp) (lf tl L wd ws D : Addr) (v2 v4 v5 v6 : Option V), (∀ (H' : Hp) (hi : Addr), Same H H' → PtAt C H' (.ref hi) (highT 0) → Z.nx [some (.ref lf), some (.ref tl), v2, some (.ref L), v4, v5, v6, some (.ref wd), some (.ref ws), some (.ref D), some (.ref hi)] H') → t Z [some (.ref lf), some (.ref tl), v2, some (.ref L), v4, v5, v6, some (.ref wd), some (.ref ws), some (.ref D), none] H := by
  have hr5 : Room 5 _ := hr.mono (by decide)
  have hr4 : Room 4 _ := hr.mono (by decide)
  have hu64 : (A.deeper (PyProof.Rows.envOfC "_law_limits_right" (defScope sLimitsRight) s.heap.objs.size f (.ref c))).units + 64 < cLine := by have := hr.un; omega
  have big : (1000000 : Nat) < sizeLine := by decide
  refine ⟨_, (ps_set (i := 10) scLM.nd rfl (Or.inr rfl) (pe_mkT (E := E0) TR.MT TR.GT hr5 rfl TR.gT passL (pa_cons pe_str (pa_cons pe_str pa_nil)))), ?_⟩
  rintro Z H lf tl L wd ws D v2 v4 v5 v6 k
  refine mkT_c [.tx "1"] (by decide +kernel) ⟨rfl, True.intro⟩ fun H1 hi s1 _ p1 _ => ?_
  exact k H1 hi s1 p1
theorem lm17 (TR : TxtG P w K mg base C CI CP a) (no : NoL K C) (FA : TxtA K mg CP CS fA fdA) (TB : TabB base mg c Pt) (hmT : (Pt, qLM) ∈ T) (hu : ∀ p ∈ T, p.1 = Pt → p.2 = qLM) (hr : Room 7 (A.deeper (PyProof.Rows.envOfC "_law_limits_right" (defScope sLimitsRight) s.heap.objs.size f (.ref c)))) (gR : mg "range" = none) :
    ∃ t : TS, PS (cxOf CX0 P w K mg base NLM "_law_limits_right" (defScope sLimitsRight) f (.ref c) A outer s H0 E).nox (stLM 17) t ∧ ∀ (Z : Ends) (H : Hp) (lf tl L wd ws D hi : Addr) (v2 v4 v5 v6 : Option V), PtAt C H (.ref hi) (highT 0) → (∀ (H' : Hp) (hi : Addr) (v2 : Option V), Same H H' → PtAt C H' (.ref hi) (highT 7) → Z.nx [some (.ref lf), some (.ref tl), v2, some (.ref L), v4, v5, v6, some (.ref wd), some (.ref ws), some (.ref D), some (.ref hi)] H') → t Z [some (.ref lf), some (.ref tl), v2, some (.ref L), v4, v5, v6, some (.ref wd), some (.ref ws), some (.ref D), some (.ref hi)] H := by
  have hr5 : Room 5 _ := hr.mono (by decide)
  have hr4 : Room 4 _ := hr.mono (by decide)
  have hu64 : (A.deeper (PyProof.Rows.envOfC "_law_limits_right" (defScope sLimitsRight) s.heap.objs.size f (.ref c))).units + 64 < cLine := by have := hr.un; omega
  have big : (1000000 : Nat) < sizeLine := by decide
  refine ⟨_, (ps_for PassesOwn.never rfl (pi_range1 rfl gR (pa_cons pe_int pa_nil)) (pg_name (i := 2) scLM.nd rfl (.inl rfl)) (pss_one (ps_set (i := 10) scLM.nd rfl (Or.inr rfl) (pe_mkT (E := E0) TR.MT TR.GT hr5 rfl TR.gT passL (pa_cons pe_str (pa_cons (pv 10) pa_nil)))))), ?_⟩
  rintro Z H lf tl L wd ws D hi v2 v4 v5 v6 ph k
  refine ⟨7, rfl, by decide, by decide, for_range (lo := 0) (n := 7) (fun i σ H' => ∃ (hi : Addr) (v2 : Option V), σ = [some (.ref lf), some (.ref tl), v2, some (.ref L), v4, v5, v6, some (.ref wd), some (.ref ws), some (.ref D), some (.ref hi)] ∧ Same H H' ∧ PtAt C H' (.ref hi) (highT i)) ⟨hi, _, rfl, Same.refl _, ph⟩ ?_ (fun σ H' ⟨hi, v2, e, s', p'⟩ => by rw [e]; exact k H' hi v2 s' p')⟩
  rintro i σ H1 hlt ⟨hi, v2, rfl, s1, p1⟩
  refine ⟨_, rfl, mkT_c [highT i] (high_ok i hlt) ⟨p1, True.intro⟩ fun H2 x s2 _ p2 _ => ?_⟩
  exact ⟨x, _, rfl, s1.trans s2, p2⟩
theorem lm18 (TR : TxtG P w K mg base C CI CP a) (no : NoL K C) (FA : TxtA K mg CP CS fA fdA) (TB : TabB base mg c Pt) (hmT : (Pt, qLM) ∈ T) (hu : ∀ p ∈ T, p.1 = Pt → p.2 = qLM) (hr : Room 7 (A.deeper (PyProof.Rows.envOfC "_law_limits_right" (defScope sLimitsRight) s.heap.objs.size f (.ref c)))) (gR : mg "range" = none) :
    ∃ t : TS, PS (cxOf CX0 P w K mg base NLM "_law_limits_right" (defScope sLimitsRight) f (.ref c) A outer s H0 E).nox (stLM 18) t ∧ ∀ (Z : Ends) (H : Hp) (lf tl L wd ws D hi a0 a1 a2 a3 a4 a5 a6 a7 g0 g1 g2 g3 g4 g5 g6 g7 : Addr) (v2 v4 v5 v6 : Option V), Tabs T H → PtAt C H (.ref hi) (highT 7) → H L = some (.lst [.ref a0, .ref a1, .ref a2, .ref a3, .ref a4, .ref a5, .ref a6, .ref a7]) → H a0 = some (.tup (DK.val .ok)) → H a1 = some (.tup (DK.val .size)) → H a2 = some (.tup (DK.val .size)) → H a3 = some (.tup (DK.val .ok)) → H a4 = some (.tup (DK.val .ok)) → H a5 = some (.tup (DK.val .form)) → H a6 = some (.tup (DK.val (.at 2))) → H a7 = some (.tup (DK.val .size)) → H D = some (.lst [.ref g0, .ref g1, .ref g2, .ref g3, .ref g4, .ref g5, .ref g6, .ref g7]) → H g0 = some (.tup (DK.val .ok)) → H g1 = some (.tup (DK.val .size)) → H g2 = some (.tup (DK.val .size)) → H g3 = some (.tup (DK.val .ok)) → H g4 = some (.tup (DK.val .ok)) → H g5 = some (.tup (DK.val .form)) → H g6 = some (.tup (DK.val (.at 2))) → H g7 = some (.tup (DK.val .size)) → (∀ H', ExtN H H' → Tabs T H' → Z.rt (.bl true) H') → t Z [some (.ref lf), some (.ref tl), v2, some (.ref L), v4, v5, v6, some (.ref wd), some (.ref ws), some (.ref D), some (.ref hi)] H := by
  have hr5 : Room 5 _ := hr.mono (by decide)
  have hr4 : Room 4 _ := hr.mono (by decide)
  have hu64 : (A.deeper (PyProof.Rows.envOfC "_law_limits_right" (defScope sLimitsRight) s.heap.objs.size f (.ref c))).units + 64 < cLine := by have := hr.un; omega
  have big : (1000000 : Nat) < sizeLine := by decide
  refine ⟨_, (ps_ret (pe_and (pe_cmpR (op_eqD hu64) (pv 3) (pv 9) (nomark _)) (pe_and (pe_cmpR (op_eqD hu64) (pe_fault (t := (fun E => (tMkL K C CP E (tCons (tC (.str "Neg")) (tCons (tVar 10) tNil))))) (k := 5) FA rfl TB rfl hmT hu hr (lamS_by (sc := defScope sLimitsRight) (by decide +kernel)) rfl (fun _ _ _ _ _ => rfl) (fun _ _ _ _ E _ _ hr' => (pe_mkL (E := E) TR.ML TR.GL hr' rfl TR.gL (passes_call (takes_of rfl rfl rfl rfl) (fun _ _ _ _ q => q)) (pa_cons pe_str (pa_cons (pv 10) pa_nil))))) (pe_tup (pa_cons pe_str (pa_cons pe_str pa_nil))) (nomark _)) (pe_one (pe_cmpR op_eq (pe_fld (pv 10) rfl) pe_int (nomark _)))))), ?_⟩
  rintro Z H lf tl L wd ws D hi a0 a1 a2 a3 a4 a5 a6 a7 g0 g1 g2 g3 g4 g5 g6 g7 v2 v4 v5 v6 tb ph hL e0' e1' e2' e3' e4' e5' e6' e7' hD h0' h1' h2' h3' h4' h5' h6' h7' k
  have mT : C.T ∈ C.all := C.n_mem false
  have cl := (TR.T5.own _ mT).cl
  have na := TR.N5.na _ mT
  obtain ⟨c1, c2, c3⟩ := high7
  have sh : SeqAt.shaped (.list [.tuple (DK.dat .ok), .tuple (DK.dat .size), .tuple (DK.dat .size), .tuple (DK.dat .ok), .tuple (DK.dat .ok), .tuple (DK.dat .form), .tuple (DK.dat (.at 2)), .tuple (DK.dat .size)]) = true := by decide +kernel
  refine ⟨_, rfl, _, rfl, _, _, .lst (SqL.of hL) (.cons (DK.dp (k := .ok) e0') (.cons (DK.dp (k := .size) e1') (.cons (DK.dp (k := .size) e2') (.cons (DK.dp (k := .ok) e3') (.cons (DK.dp (k := .ok) e4') (.cons (DK.dp (k := .form) e5') (.cons (DK.dp (k := (.at 2)) e6') (.cons (DK.dp (k := .size) e7') DpAll.nil)))))))), .lst (SqL.of hD) (.cons (DK.dp (k := .ok) h0') (.cons (DK.dp (k := .size) h1') (.cons (DK.dp (k := .size) h2') (.cons (DK.dp (k := .ok) h3') (.cons (DK.dp (k := .ok) h4') (.cons (DK.dp (k := .form) h5') (.cons (DK.dp (k := (.at 2)) h6') (.cons (DK.dp (k := .size) h7') DpAll.nil)))))))), sh, sh, _, rfl, ?_⟩
  rw [SeqAt.eqv_refl _ (lay_of sh)]
  refine iteT ?_
  refine ⟨tb, fun H1 e1 tb1 => fault_g (C := C) (z := "Neg") [highT 7] .size c2 (fun H2 E' Q' s2 res => ?_) (fun H2 q1 s2 nq1 told1 => ?_)⟩
  · exact ⟨_, rfl, mkL_res [highT 7] c1 ⟨PtAt.kpo (KpO.same s2) _ (PtAt.kpo (KpO.ext e1) _ ph), True.intro⟩ (res _)⟩
  refine ⟨by show 2 ≤ sizeLine; omega, fun u nu => ?_⟩
  have s3 : Same H2 (upd H2 u (.tup [.str "wrong", .str "size"])) := same_upd (Same.refl H2) nu
  have v3' : (upd H2 u (.tup [.str "wrong", .str "size"])) u = some (.tup [.str "wrong", .str "size"]) := upd_same
  generalize upd H2 u (.tup [.str "wrong", .str "size"]) = H3 at s3 v3' ⊢
  have sh2 : SeqAt.shaped (.tuple (DK.dat .size)) = true := by decide +kernel
  refine ⟨_, _, DK.dp (k := .size) (s3 _ _ told1), DK.dp (k := .size) v3', sh2, sh2, _, rfl, ?_⟩
  rw [SeqAt.eqv_refl _ (lay_of sh2)]
  refine iteT ?_
  have e3 := e1.trans (ExtN.of (s2.trans s3))
  have p3 := PtAt.kpo (KpO.ext e3) _ ph
  obtain ⟨x, dx, fs, pa, xs, ex, i2, i3, i4, i5, i6, i7, i8, _⟩ := id p3
  cases ex
  rw [c3] at i8
  refine ⟨_, rfl, hi, C.T, dx, fs, _, rfl, i2, cl, na _ (by decide +kernel), i8, ?_⟩
  refine ⟨rfl, ?_⟩
  show Z.rt (V.bl (decide (V.int ((8 : Nat) : Int) = V.int 8))) H3
  rw [show decide (V.int ((8 : Nat) : Int) = V.int 8) = true from decide_eq_true rfl]
  exact k H3 e3 ((tb1.ext s2).ext s3)
end
section
variable {P : Program} {w : World} {K : PySem.W.Frag} {mg : Str → Option Value} {base : Heap}
def spLimits (T : List (Addr × Str)) : Sp := fun vs H Q _ => vs = [] ∧ Tabs T H ∧ ∀ H', ExtN H H' → Tabs T H' → Q (.bl true) H'
theorem ok_limitsRight {C : Cl5} {CI CP CS fA f c Pt : Addr} {fd fdA : FuncData} {a : AdG} {T : List (Addr × Str)} (F : FunC K "_law_limits_right" "_law_limits_right" sLimitsRight f fd c) (TR : TxtG P w K mg base C CI CP a) (no : NoL K C)
    (FA : TxtA K mg CP CS fA fdA) (TB : TabB base mg c Pt) (hmT : (Pt, qLM) ∈ T) (hu : ∀ p ∈ T, p.1 = Pt → p.2 = qLM) (gR : mg "range" = none) : FnOk P w K mg base CX0 8 f fd [] (spLimits T) := by
  refine F.ok scLM (fun vs H Q E h => ?_) (fun A outer s H vs Q E hr h => ?_)
  · obtain ⟨rfl, _⟩ := h
    rfl
  · obtain ⟨rfl, tabs, k⟩ := h
    obtain ⟨t0, p0, r0⟩ := lm0 (P := P) (w := w) (mg := mg) (base := base) (C := C) (CI := CI) (CS := CS) (f := f) (c := c) (A := A) (outer := outer) (s := s) (H0 := H) (E := E)  TR FA TB hmT hu hr gR
    obtain ⟨t1, p1, r1⟩ := lm1 (P := P) (w := w) (mg := mg) (base := base) (C := C) (CI := CI) (CS := CS) (f := f) (c := c) (A := A) (outer := outer) (s := s) (H0 := H) (E := E)  TR FA TB hmT hu hr gR
    obtain ⟨t2, p2, r2⟩ := lm2 (P := P) (w := w) (mg := mg) (base := base) (C := C) (CI := CI) (CS := CS) (f := f) (c := c) (A := A) (outer := outer) (s := s) (H0 := H) (E := E)  TR FA TB hmT hu hr gR
    obtain ⟨t3, p3, r3⟩ := lm3 (P := P) (w := w) (mg := mg) (base := base) (C := C) (CI := CI) (CS := CS) (f := f) (c := c) (A := A) (outer := outer) (s := s) (H0 := H) (E := E)  TR FA TB hmT hu hr gR
    obtain ⟨t4, p4, r4⟩ := lm4 (P := P) (w := w) (mg := mg) (base := base) (C := C) (CI := CI) (CS := CS) (f := f) (c := c) (A := A) (outer := outer) (s := s) (H0 := H) (E := E)  TR FA TB hmT hu hr gR
    obtain ⟨t5, p5, r5⟩ := lm5 (P := P) (w := w) (mg := mg) (base := base) (C := C) (CI := CI) (CS := CS) (f := f) (c := c) (A := A) (outer := outer) (s := s) (H0 := H) (E := E)  TR FA TB hmT hu hr gR
    obtain ⟨t6, p6, r6⟩ := lm6 (P := P) (w := w) (mg := mg) (base := base) (C := C) (CI := CI) (CS := CS) (f := f) (c := c) (A := A) (outer := outer) (s := s) (H0 := H) (E := E)  TR no FA TB hmT hu hr gR
    obtain ⟨t7, p7, r7⟩ := lm7 (P := P) (w := w) (mg := mg) (base := base) (C := C) (CI := CI) (CS := CS) (f := f) (c := c) (A := A) (outer := outer) (s := s) (H0 := H) (E := E)  TR no FA TB hmT hu hr gR
    obtain ⟨t8, p8, r8⟩ := lm8 (P := P) (w := w) (mg := mg) (base := base) (C := C) (CI := CI) (CS := CS) (f := f) (c := c) (A := A) (outer := outer) (s := s) (H0 := H) (E := E)  TR no FA TB hmT hu hr gR
    obtain ⟨t9, p9, r9⟩ := lm9 (P := P) (w := w) (mg := mg) (base := base) (C := C) (CI := CI) (CS := CS) (f := f) (c := c) (A := A) (outer := outer) (s := s) (H0 := H) (E := E)  TR no FA TB hmT hu hr gR
    obtain ⟨t10, p10, r10⟩ := lm10 (P := P) (w := w) (mg := mg) (base := base) (C := C) (CI := CI) (CS := CS) (f := f) (c := c) (A := A) (outer := outer) (s := s) (H0 := H) (E := E)  TR no FA TB hmT hu hr gR
    obtain ⟨t11, p11, r11⟩ := lm11 (P := P) (w := w) (mg := mg) (base := base) (C := C) (CI := CI) (CS := CS) (f := f) (c := c) (A := A) (outer := outer) (s := s) (H0 := H) (E := E)  TR no FA TB hmT hu hr gR
    obtain ⟨t12, p12, r12⟩ := lm12 (P := P) (w := w) (mg := mg) (base := base) (C := C) (CI := CI) (CS := CS) (f := f) (c := c) (A := A) (outer := outer) (s := s) (H0 := H) (E := E)  TR no FA TB hmT hu hr gR
    obtain ⟨t13, p13, r13⟩ := lm13 (P := P) (w := w) (mg := mg) (base := base) (C := C) (CI := CI) (CS := CS) (f := f) (c := c) (A := A) (outer := outer) (s := s) (H0 := H) (E := E)  TR no FA TB hmT hu hr gR
    obtain ⟨t14, p14, r14⟩ := lm14 (P := P) (w := w) (mg := mg) (base := base) (C := C) (CI := CI) (CS := CS) (f := f) (c := c) (A := A) (outer := outer) (s := s) (H0 := H) (E := E)  TR no FA TB hmT hu hr gR
    obtain ⟨t15, p15, r15⟩ := lm15 (P := P) (w := w) (mg := mg) (base := base) (C := C) (CI := CI) (CS := CS) (f := f) (c := c) (A := A) (outer := outer) (s := s) (H0 := H) (E := E)  TR no FA TB hmT hu hr gR
    obtain ⟨t16, p16, r16⟩ := lm16 (P := P) (w := w) (mg := mg) (base := base) (C := C) (CI := CI) (CS := CS) (f := f) (c := c) (A := A) (outer := outer) (s := s) (H0 := H) (E := E)  TR no FA TB hmT hu hr gR
    obtain ⟨t17, p17, r17⟩ := lm17 (P := P) (w := w) (mg := mg) (base := base) (C := C) (CI := CI) (CS := CS) (f := f) (c := c) (A := A) (outer := outer) (s := s) (H0 := H) (E := E)  TR no FA TB hmT hu hr gR
    obtain ⟨t18, p18, r18⟩ := lm18 (P := P) (w := w) (mg := mg) (base := base) (C := C) (CI := CI) (CS := CS) (f := f) (c := c) (A := A) (outer := outer) (s := s) (H0 := H) (E := E)  TR no FA TB hmT hu hr gR
    refine ⟨_, pss_cons p0 (pss_cons p1 (pss_cons p2 (pss_cons p3 (pss_cons p4 (pss_cons p5 (pss_cons p6 (pss_cons p7 (pss_cons p8 (pss_cons p9 (pss_cons p10 (pss_cons p11 (pss_cons p12 (pss_cons p13 (pss_cons p14 (pss_cons p15 (pss_cons p16 (pss_cons p17 (pss_one p18)))))))))))))))))), ?_⟩
    refine r0 _ H fun H1 lf tl0 s1 plf1 ptl1 => ?_
    refine r1 _ H1 lf tl0 ptl1 fun H2 tl v2 s2 ptl2 => ?_
    have plf2 := PtAt.kpo (KpO.same s2) _ plf1
    have tabs2 := (tabs.ext s1).ext s2
    refine r2 _ H2 lf tl v2 tabs2 ptl2 fun H3 L0 q1 q2 e3 tb3 hL3 h31 h32 => ?_
    have plf3 := PtAt.kpo (KpO.ext e3) _ plf2
    refine r3 _ H3 _ L0 q1 q2 rfl hL3 h31 h32 fun H4 s4 => ?_
    have plf4 := PtAt.kpo (KpO.same s4) _ plf3
    have tb4 := tb3.ext s4
    refine r4 _ H4 lf tl v2 _ tb4 fun H5 v3 v4 e5 tb5 => ?_
    have plf5 := PtAt.kpo (KpO.ext e5) _ plf4
    refine r5 _ H5 lf tl v2 v3 v4 tb5 plf5 fun H6 v2 v3 v5 v6 e6 tb6 => ?_
    have plf6 := PtAt.kpo (KpO.ext e6) _ plf5
    refine r6 _ H6 lf tl v2 v3 v4 v5 v6 plf6 fun H7 wd s7 pwd7 => ?_
    refine r7 _ H7 lf tl wd v2 v3 v4 v5 v6 fun H8 ws wx s8 hws8 pwx8 => ?_
    have s78 := s7.trans s8
    have plf8 := PtAt.kpo (KpO.same s78) _ plf6
    have pwd8 := PtAt.kpo (KpO.same s8) _ pwd7
    have tb8 := tb6.ext s78
    have E8 : ExtN H H8 := (ExtN.of (s1.trans s2)).trans (e3.trans ((ExtN.of s4).trans (e5.trans (e6.trans (ExtN.of s78)))))
    refine r8 _ H8 lf tl wd ws v2 v3 v4 v5 v6 tb8 plf8 pwd8 fun H9 L b1 b2 e9 tb9 nL hL9 h1 h2 => ?_
    have plf9 := PtAt.kpo (KpO.ext e9) _ plf8
    have pwd9 := PtAt.kpo (KpO.ext e9) _ pwd8
    have pwx9 := PtAt.kpo (KpO.ext e9) _ pwx8
    have hws9 := e9 _ _ hws8 fun _ => nofun
    refine r9 _ H9 lf tl L wd ws wx v2 v4 v5 v6 _ tb9 hL9 (by show 2 ≤ 10; omega) plf9 pwd9 hws9 pwx9 fun H10 b3 e10 tb10 hL10 h3 => ?_
    have k10 := e10.kpo hL9
    have plf10 := PtAt.kpo k10 _ plf9
    have pwd10 := PtAt.kpo k10 _ pwd9
    have pwx10 := PtAt.kpo k10 _ pwx9
    have hws10 := k10 _ _ rfl hws9
    refine r10 _ H10 lf tl L wd ws wx v2 v4 v5 v6 _ tb10 hL10 (by show 3 ≤ 10; omega) plf10 pwd10 hws10 pwx10 fun H11 b4 e11 tb11 hL11 h4 => ?_
    have k11 := e11.kpo hL10
    have plf11 := PtAt.kpo k11 _ plf10
    have pwd11 := PtAt.kpo k11 _ pwd10
    have pwx11 := PtAt.kpo k11 _ pwx10
    have hws11 := k11 _ _ rfl hws10
    refine r11 _ H11 lf tl L wd ws wx v2 v4 v5 v6 _ tb11 hL11 (by show 4 ≤ 10; omega) plf11 pwd11 hws11 pwx11 fun H12 b5 e12 tb12 hL12 h5 => ?_
    have k12 := e12.kpo hL11
    have plf12 := PtAt.kpo k12 _ plf11
    have pwd12 := PtAt.kpo k12 _ pwd11
    have pwx12 := PtAt.kpo k12 _ pwx11
    have hws12 := k12 _ _ rfl hws11
    refine r12 _ H12 lf tl L wd ws wx v2 v4 v5 v6 _ tb12 hL12 (by show 5 ≤ 10; omega) plf12 pwd12 hws12 pwx12 fun H13 b6 e13 tb13 hL13 h6 => ?_
    have k13 := e13.kpo hL12
    have plf13 := PtAt.kpo k13 _ plf12
    have pwd13 := PtAt.kpo k13 _ pwd12
    have pwx13 := PtAt.kpo k13 _ pwx12
    have hws13 := k13 _ _ rfl hws12
    refine r13 _ H13 lf tl L wd ws wx v2 v4 v5 v6 _ tb13 hL13 (by show 6 ≤ 10; omega) plf13 pwd13 hws13 pwx13 fun H14 b7 e14 tb14 hL14 h7 => ?_
    have k14 := e14.kpo hL13
    have plf14 := PtAt.kpo k14 _ plf13
    have pwd14 := PtAt.kpo k14 _ pwd13
    have pwx14 := PtAt.kpo k14 _ pwx13
    have hws14 := k14 _ _ rfl hws13
    refine r14 _ H14 lf tl L wd ws wx v2 v4 v5 v6 _ tb14 hL14 (by show 7 ≤ 10; omega) plf14 pwd14 hws14 pwx14 fun H15 b8 e15 tb15 hL15 h8 => ?_
    have k15 := e15.kpo hL14
    refine r15 _ H15 lf tl L wd ws v2 v4 v5 v6 fun H16 D g0 g1 g2 g3 g4 g5 g6 g7 s16 hD16 y0 y1 y2 y3 y4 y5 y6 y7 => ?_
    refine r16 _ H16 lf tl L wd ws D v2 v4 v5 v6 fun H17 hi0 s17 ph17 => ?_
    refine r17 _ H17 lf tl L wd ws D hi0 v2 v4 v5 v6 ph17 fun H18 hi v2 s18 ph18 => ?_
    have s1718 := s17.trans s18
    have s1618 := s16.trans s1718
    have K15 := KpO.same s1618
    have K14 := k15.trans K15
    have K13 := k14.trans K14
    have K12 := k13.trans K13
    have K11 := k12.trans K12
    have K10 := k11.trans K11
    have K9 := k10.trans K10
    refine r18 _ H18 lf tl L wd ws D hi b1 b2 b3 b4 b5 b6 b7 b8 g0 g1 g2 g3 g4 g5 g6 g7 v2 v4 v5 v6 (tb15.ext s1618) ph18 (s1618 _ _ hL15) (K9 _ _ rfl h1) (K9 _ _ rfl h2) (K10 _ _ rfl h3) (K11 _ _ rfl h4) (K12 _ _ rfl h5) (K13 _ _ rfl h6) (K14 _ _ rfl h7) (K15 _ _ rfl h8) (s1718 _ _ hD16) (s1718 _ _ y0) (s1718 _ _ y1) (s1718 _ _ y2) (s1718 _ _ y3) (s1718 _ _ y4) (s1718 _ _ y5) (s1718 _ _ y6) (s1718 _ _ y7) fun H19 e19 tb19 => ?_
    have eL : ExtL L H9 H19 := e10.trans (e11.trans (e12.trans (e13.trans (e14.trans (e15.trans (ExtL.ext ((ExtN.of s1618).trans e19)))))))
    refine k H19 (fun b o q t => ?_) tb19
    have q6 := E8 b o q t
    exact eL b o (nL b o q6 t) (e9 b o q6 t) t
end
end K3

namespace K3
open PySem PySem.Spec PyProof.Rows PySem.SeqAt L2 E0 EG
open LamX (ExtN Tabs TabS TabB LamS lamS_by lamSB)

theorem ife {b : Bool} {t u : TE} {σ : L2.St} {H : Hp} {Q : VK} (R : V → Hp → Prop) (ht : ∀ Q' : VK, (∀ v H', R v H' → Q' v H') → t σ H Q') (hu : ∀ Q' : VK, (∀ v H', R v H' → Q' v H') → u σ H Q') (hQ : ∀ v H', R v H' → Q v H') : if b = true then t σ H Q else u σ H Q := by
  cases b
  · exact iteF (hu Q hQ)
  · exact iteT (ht Q hQ)
theorem val_at {l : List V} {d : Int} (h0 : 0 ≤ d) (h1 : d < (l.length : Int)) : ∃ z, z ∈ l ∧ atI l d = some z := by
  obtain ⟨k, rfl⟩ := Int.eq_ofNat_of_zero_le h0
  have hk : k < l.length := by omega
  exact ⟨l[k], List.getElem_mem hk, atI_nat (j := k) (List.getElem?_eq_getElem hk)⟩
def wordXB (z : Str) : Bool := !(nameS z) || decide (20 ≤ z.length) || (nameS (z ++ "x") && PyData.strOk (z ++ "x"))
theorem wordX_str {z : Str} (h : wordXB z = true) : WordX (.str z) := by
  intro y e hn hl
  cases e
  unfold wordXB at h
  simp only [Bool.or_eq_true, Bool.not_eq_true', decide_eq_true_eq, Bool.and_eq_true] at h
  rcases h with (h | h) | h
  · rw [h] at hn; cases hn
  · exact absurd h (by omega)
  · exact h
theorem wordX_of {v : V} (h : ∀ z, v ≠ .str z) : WordX v := fun z e => absurd e (h z)
/-- the words that are tried -/
def wordsL (t q : Addr) : List V := [.str "A", .str (timesS "a" 20), .str (timesS "a" 21), .str "", .str "1a", .str "_a", .str "a b", .non, .bl true, .int 5, .ref t, .ref q, .str "z_9", .str "raw_x"]
def moreL (l d q : Addr) : List V := [.str "x", .str "*r", .str "$w", .ref l, .ref d, .ref q, .str "text"]
def NLW : List Str := ["_law_script", "_law_m", "_law_words", "_law_word", "_law_turn"]
theorem scLW : FnScope NLW ["_law_script"] (defScope sLaw) := ⟨rfl, rfl, rfl, by decide +kernel, rfl, by decide +kernel, by decide +kernel⟩
structure TxtLw (P : Program) (w : World) (K : PySem.W.Frag) (mg : Str → Option Value) (base : Heap) (C : Cl5) (fBg fNr fLr fEq fLi : Addr) (fdBg fdNr fdLr fdEq fdLi : FuncData) (T : List (Addr × Str)) : Prop where
  GBg : FnOk P w K mg base CX0 2 fBg fdBg ["_law_script"] (spBegun K)
  ABg : DefA K mg "_law_begun" ["_law_script"] fBg fdBg
  GNr : FnOk P w K mg base CX0 8 fNr fdNr ["_law_word"] (spNames K T)
  ANr : DefA K mg "_law_names_right" ["_law_word"] fNr fdNr
  GLr : FnOk P w K mg base CX0 9 fLr fdLr ["_law_m", "_law_word"] (spLikeRight K T)
  ALr : DefA K mg "_law_like_right" ["_law_m", "_law_word"] fLr fdLr
  GEq : FnG P w K mg base CX0 9 fEq fdEq ["_law_m"] (spEqualRight T)
  AEq : DefA K mg "_law_equal_right" ["_law_m"] fEq fdEq
  GLi : FnOk P w K mg base CX0 8 fLi fdLi [] (spLimits T)
  ALi : DefA K mg "_law_limits_right" [] fLi fdLi
  mx : ∃ mc t1 t2, ClX.CRead K C.L mc ∧ ClX.CVal K C.L mc "MAX_SIZE" (.int 60) (.int 60 t1) ∧ ClX.CVal K C.L mc "MAX_LEVELS" (.int 8) (.int 8 t2)
section
variable {P : Program} {w : World} {K : PySem.W.Frag} {mg : Str → Option Value} {base : Heap}
def spLaw (K : PySem.W.Frag) (T : List (Addr × Str)) : Sp := fun vs H Q _ => ∃ (a : Addr) (ns : List Int), vs = [.ref a] ∧ SqL K H a (ns.map V.int) ∧ ns.length ≤ 63 ∧ Tabs T H ∧ ∀ H', Q (.bl true) H'
theorem ok_law {C : Cl5} {CI CP f fBg fNr fLr fEq fLi : Addr} {fd fdBg fdNr fdLr fdEq fdLi : FuncData} {a : AdG} {e : AdK} {T : List (Addr × Str)} (F : Fun K "law" "law" sLaw f fd) (TR : TxtG P w K mg base C CI CP a) (LK : TxtLK P w K mg base C CP e) (TL : TxtLw P w K mg base C fBg fNr fLr fEq fLi fdBg fdNr fdLr fdEq fdLi T)
    (gR : mg "range" = none) : FnG P w K mg base CX0 11 f fd ["_law_script"] (spLaw K T) := by
  refine okG F scLW (fun vs H Q E h => ?_) (fun cdv A outer s H vs Q E hr hG h => ?_)
  · obtain ⟨a, ns, rfl, _⟩ := h
    rfl
  · obtain ⟨sa, ns, rfl, hS, hl, tabs, k⟩ := h
    have hr9 : Room 9 _ := hr.mono (by decide)
    have hr8 : Room 8 _ := hr.mono (by decide)
    have hr2 : Room 2 _ := hr.mono (by decide)
    have hr1 : Room 1 _ := hr.mono (by decide)
    have hu64 : (A.deeper (PyProof.Rows.envOfC "law" (defScope sLaw) s.heap.objs.size f cdv)).units + 64 < cLine := by have := hr.un; omega
    have big : (1000000 : Nat) < sizeLine := by decide
    refine ⟨_, (pss_cons (ps_set (i := 1) scLW.nd rfl (Or.inl rfl) (pe_call TL.GBg hr2 rfl TL.ABg.g TL.ABg.k TL.ABg.b .nil pass0 (pa_cons (pv 0) pa_nil))) (pss_cons (ps_set (i := 2) scLW.nd rfl (Or.inl rfl) (pe_lst (pa_cons pe_str (pa_cons (pe_op op_mul_str pe_str pe_int) (pa_cons (pe_op op_mul_str pe_str pe_int) (pa_cons pe_str (pa_cons pe_str (pa_cons pe_str (pa_cons pe_str (pa_cons pe_non (pa_cons pe_bl (pa_cons pe_int (pa_cons (pe_tup (pa_cons pe_str pa_nil)) (pa_cons (pe_call LK.GDb hr1 rfl LK.ADb.g LK.ADb.k LK.ADb.b .nil pass0 (pa_cons pe_int pa_nil)) (pa_cons pe_str (pa_cons pe_str pa_nil)))))))))))))))) (pss_cons (ps_for PassesOwn.never rfl (pi_list (pe_op op_cat (pv 2) (pe_lst (pa_cons pe_str (pa_cons pe_str (pa_cons pe_str (pa_cons (pe_lst (pa_cons pe_str pa_nil)) (pa_cons pe_dnewK (pa_cons (pe_call LK.GDb hr1 rfl LK.ADb.g LK.ADb.k LK.ADb.b .nil pass0 (pa_cons pe_int pa_nil)) (pa_cons pe_str pa_nil)))))))))) (pg_name (i := 3) scLW.nd rfl (.inl rfl)) (pss_one (ps_if (pt_not (pt_val (pe_call TL.GNr hr8 rfl TL.ANr.g TL.ANr.k TL.ANr.b .nil pass0 (pa_cons (pv 3) pa_nil)))) (pss_one (ps_ret pe_bl)) pss_nil))) (pss_cons (ps_for PassesOwn.never rfl (pi_range1 rfl gR (pa_cons pe_int pa_nil)) (pg_name (i := 4) scLW.nd rfl (.inl rfl)) (pss_cons (ps_set (i := 3) scLW.nd rfl (Or.inl rfl) (pe_ifExp (pt_cmpR op_eq (pe_call LK.GD hr2 rfl LK.AD.g LK.AD.k LK.AD.b .nil pass0 (pa_cons (pv 1) (pa_cons pe_int pa_nil))) pe_int (nomark _)) (pe_ix ix_list (pv 2) (pe_call LK.GD hr2 rfl LK.AD.g LK.AD.k LK.AD.b .nil pass0 (pa_cons (pv 1) (pa_cons pe_int pa_nil))) (fun _ _ => rfl)) pe_str)) (pss_one (ps_if (PW.pt (pw_or (pt_not (pt_val (pe_call TL.GLr hr9 rfl TL.ALr.g TL.ALr.k TL.ALr.b .nil pass0 (pa_cons (pv 1) (pa_cons (pv 3) pa_nil))))) (pw_or1 (pt_not (pt_val (pe_callG TL.GEq hr9 hG rfl TL.AEq.g TL.AEq.k TL.AEq.b .nil pass0 (pa_cons (pv 1) pa_nil))))))) (pss_one (ps_ret pe_bl)) pss_nil)))) (pss_one (ps_ret (pe_and (pe_cmpR (op_eqD hu64) (pe_lst (pa_cons (ClX.pe_cval (pe_glob (v := .ref C.L) rfl TR.gL rfl)) (pa_cons (ClX.pe_cval (pe_glob (v := .ref C.L) rfl TR.gL rfl)) pa_nil))) (pe_lst (pa_cons pe_int (pa_cons pe_int pa_nil))) (nomark _)) (pe_one (pe_call0 (E := E0) TL.GLi hr8 rfl TL.ALi.g TL.ALi.k TL.ALi.b .nil pass0))))))))), ?_⟩
    refine ⟨_, rfl, sa, ns, rfl, hS, hl, fun H1 m lc lg s1 nm nlg M1 => ?_⟩
    have T1 : Tabs T H1 := tabs.ext s1
    refine ⟨"a", 20, rfl, rfl, by decide, by decide, by decide +kernel, by decide +kernel, by decide +kernel, "a", 21, rfl, rfl, by decide, by decide, by decide +kernel, by decide +kernel, by decide +kernel, ?_⟩
    refine ⟨by show 1 ≤ sizeLine; omega, fun t nt => ?_⟩
    have s2 : Same H1 (upd H1 t (.tup [.str "A"])) := same_upd (Same.refl H1) nt
    have v2 : (upd H1 t (.tup [.str "A"])) t = some (.tup [.str "A"]) := upd_same
    generalize upd H1 t (.tup [.str "A"]) = H2 at s2 v2 ⊢
    refine ⟨0, by decide, rfl, fun H3 q xs3 s3 nq w3 _ => ?_⟩
    rw [if_pos rfl] at w3
    refine ⟨by show 14 ≤ sizeLine; omega, fun W nW => ?_⟩
    have s4 : Same H3 (upd H3 W (.lst (wordsL t q))) := same_upd (Same.refl H3) nW
    have v4 : (upd H3 W (.lst (wordsL t q))) W = some (.lst (wordsL t q)) := upd_same
    show tSeq _ _ _ _ (upd H3 W (.lst (wordsL t q)))
    generalize upd H3 W (.lst (wordsL t q)) = H4 at s4 v4 ⊢
    have M2 := M1.same s2
    have M3 := M2.same s3
    have M4 := M3.same s4
    have z14 := s2.trans (s3.trans s4)
    have T4 : Tabs T H4 := T1.ext z14
    have nWm := M3.nm nW
    have ok : ∀ {r : Addr}, ValB K H4 (.ref r) → r ≠ m ∧ r ≠ lg → OkV K m lg H4 (.ref r) := fun {r} h n => ⟨h, fun q => n.1 (by cases q; rfl), fun q => n.2 (by cases q; rfl)⟩
    have LW4 : LsV K m lg H4 W (wordsL t q) := by
      refine ⟨v4, nWm.1, nWm.2, fun x hx => ?_⟩
      unfold wordsL at hx
      simp only [List.mem_cons, List.not_mem_nil, or_false] at hx
      rcases hx with rfl | rfl | rfl | rfl | rfl | rfl | rfl | rfl | rfl | rfl | rfl | rfl | rfl | rfl
      · exact okV_str (by decide +kernel)
      · exact okV_str (by decide +kernel)
      · exact okV_str (by decide +kernel)
      · exact okV_str (by decide +kernel)
      · exact okV_str (by decide +kernel)
      · exact okV_str (by decide +kernel)
      · exact okV_str (by decide +kernel)
      · exact okV_of valB_non nofun
      · exact okV_of valB_bl nofun
      · exact okV_of valB_int nofun
      · exact ok (valB_tup ((s3.trans s4) _ _ v2)) (M1.nm nt)
      · exact ok (valB_tup (s4 _ _ w3)) (M2.nm nq)
      · exact okV_str (by decide +kernel)
      · exact okV_str (by decide +kernel)
    have WX : ∀ x ∈ wordsL t q, WordX x ∧ x ≠ .str "other_name" := by
      intro x hx
      unfold wordsL at hx
      simp only [List.mem_cons, List.not_mem_nil, or_false] at hx
      have st : ∀ {z : Str}, wordXB z = true → decide (z = "other_name") = false → WordX (.str z) ∧ V.str z ≠ .str "other_name" := fun {z} h1 h2 => ⟨wordX_str h1, fun e => by cases e; exact absurd h2 (by decide +kernel)⟩
      rcases hx with rfl | rfl | rfl | rfl | rfl | rfl | rfl | rfl | rfl | rfl | rfl | rfl | rfl | rfl
      · exact st (by decide +kernel) (by decide +kernel)
      · exact st (by decide +kernel) (by decide +kernel)
      · exact st (by decide +kernel) (by decide +kernel)
      · exact st (by decide +kernel) (by decide +kernel)
      · exact st (by decide +kernel) (by decide +kernel)
      · exact st (by decide +kernel) (by decide +kernel)
      · exact st (by decide +kernel) (by decide +kernel)
      · exact ⟨wordX_of nofun, nofun⟩
      · exact ⟨wordX_of nofun, nofun⟩
      · exact ⟨wordX_of nofun, nofun⟩
      · exact ⟨wordX_of nofun, nofun⟩
      · exact ⟨wordX_of nofun, nofun⟩
      · exact st (by decide +kernel) (by decide +kernel)
      · exact st (by decide +kernel) (by decide +kernel)
    have wl : (wordsL t q).length = 14 := rfl
    generalize wordsL t q = ws at LW4 WX wl v4 ⊢
    -- further words
    refine ⟨_, rfl, ?_⟩
    refine ⟨by show 1 ≤ sizeLine; omega, fun l5 nl5 => ?_⟩
    have s5 : Same H4 (upd H4 l5 (.lst [.str "x"])) := same_upd (Same.refl H4) nl5
    have v5 : (upd H4 l5 (.lst [.str "x"])) l5 = some (.lst [.str "x"]) := upd_same
    generalize upd H4 l5 (.lst [.str "x"]) = H5 at s5 v5 ⊢
    refine fun d6 nd6 => ?_
    have s6 : Same H5 (upd H5 d6 (.dK [])) := same_upd (Same.refl H5) nd6
    have v6 : (upd H5 d6 (.dK [])) d6 = some (.dK []) := upd_same
    generalize upd H5 d6 (.dK []) = H6 at s6 v6 ⊢
    refine ⟨1, by decide, rfl, fun H7 q7 xs7 s7 nq7 w7 _ => ?_⟩
    rw [if_neg (by decide)] at w7
    refine ⟨by show 7 ≤ sizeLine; omega, fun X nX => ?_⟩
    have s8 : Same H7 (upd H7 X (.lst [.str "x", .str "*r", .str "$w", .ref l5, .ref d6, .ref q7, .str "text"])) := same_upd (Same.refl H7) nX
    have v8 : (upd H7 X (.lst [.str "x", .str "*r", .str "$w", .ref l5, .ref d6, .ref q7, .str "text"])) X = some (.lst (moreL l5 d6 q7)) := upd_same
    generalize upd H7 X (.lst [.str "x", .str "*r", .str "$w", .ref l5, .ref d6, .ref q7, .str "text"]) = H8 at s8 v8 ⊢
    have t58 := s6.trans (s7.trans s8)
    have t48 := s5.trans t58
    refine ⟨W, X, ws, moreL l5 d6 q7, rfl, rfl, t48 _ _ v4, v8, by rw [wl]; show 14 + 7 ≤ sizeLine; omega, fun p np => ?_⟩
    have s9 : Same H8 (upd H8 p (.lst (ws ++ moreL l5 d6 q7))) := same_upd (Same.refl H8) np
    have v9 : (upd H8 p (.lst (ws ++ moreL l5 d6 q7))) p = some (.lst (ws ++ moreL l5 d6 q7)) := upd_same
    generalize upd H8 p (.lst (ws ++ moreL l5 d6 q7)) = H9 at s9 v9 ⊢
    have t49 := t48.trans s9
    have T9 : Tabs T H9 := T4.ext t49
    have A9 : ∀ x ∈ ws ++ moreL l5 d6 q7, ValB K H9 x ∧ x ≠ .str "other_name" := by
      intro x hx
      rcases List.mem_append.mp hx with hx | hx
      · exact ⟨((LW4.ok x hx).b).same t49, (WX x hx).2⟩
      · unfold moreL at hx
        simp only [List.mem_cons, List.not_mem_nil, or_false] at hx
        have st : ∀ {z : Str}, keyB z = true → decide (z = "other_name") = false → ValB K H9 (.str z) ∧ V.str z ≠ .str "other_name" := fun {z} h1 h2 => ⟨(okV_str (m := m) (lg := lg) h1).b, fun e => by cases e; exact absurd h2 (by decide +kernel)⟩
        rcases hx with rfl | rfl | rfl | rfl | rfl | rfl | rfl
        · exact st (by decide +kernel) (by decide +kernel)
        · exact st (by decide +kernel) (by decide +kernel)
        · exact st (by decide +kernel) (by decide +kernel)
        · exact ⟨valB_lst ((t58.trans s9) _ _ v5), nofun⟩
        · exact ⟨valB_dK ((s7.trans (s8.trans s9)) _ _ v6), nofun⟩
        · exact ⟨valB_lst ((s8.trans s9) _ _ w7), nofun⟩
        · exact st (by decide +kernel) (by decide +kernel)
    generalize ws ++ moreL l5 d6 q7 = all at A9 v9 ⊢
    -- the words, one by one
    refine ⟨p, rfl, ⟨_, SqL.of v9⟩, for_list (K := K) (a := p) (xs := all) (fun i σ H' => ∃ v3 : Option V, σ = [some (.ref sa), some (.ref m), some (.ref W), v3, none] ∧ ExtN H9 H' ∧ Tabs T H') ⟨_, rfl, ExtN.refl _, T9⟩ (fun i σ H' _ ⟨_, _, e', _⟩ => SqL.of (e' _ _ v9 fun _ => nofun)) ?_ ?_⟩
    · rintro i x σ H5 hx ⟨v3, rfl, e5, tb5⟩
      obtain ⟨ox, nx⟩ := A9 x (List.mem_of_getElem? hx)
      refine ⟨_, rfl, x, rfl, ox.ext e5, nx, tb5, fun H6 e6 tb6 => ⟨_, rfl, ?_⟩⟩
      refine iteF ?_
      exact ⟨_, rfl, e5.trans e6, tb6⟩
    · rintro σ H5 ⟨v3, rfl, e5, tb5⟩
      have e45 : ExtN H4 H5 := (ExtN.of t49).trans e5
      have F5 : FD m lg H4 H5 := FD.ext e45
      refine ⟨24, rfl, by decide, by decide, for_range (lo := 0) (n := 24) (fun i σ H' => ∃ (v3 v4 : Option V) (n : Int), σ = [some (.ref sa), some (.ref m), some (.ref W), v3, v4] ∧ FD m lg H4 H' ∧ MA m lc lg n H' ∧ n ≤ 118 * (i : Int) ∧ 0 ≤ n ∧ Tabs T H') ⟨_, _, 0, rfl, F5, M4.ext e45, by omega, by omega, tb5⟩ ?_ ?_⟩
      · rintro i σ H6 hi ⟨v3, v4, n, rfl, F6, M6, n1, n0, tb6⟩
        refine ⟨_, rfl, m, lc, lg, n, 4, rfl, M6, by omega, by decide, by decide, fun H7 d d0 d1 M7 e7 => ⟨rfl, _, rfl, ?_⟩⟩
        have F7 := F6.trans (FD.draw e7)
        have tb7 := tabs_draw tb6 M6 e7
        refine ife (fun v H' => OkV K m lg H' v ∧ WordX v ∧ FD m lg H4 H' ∧ Tabs T H' ∧ ∃ n', MA m lc lg n' H' ∧ n ≤ n' ∧ n' ≤ n + 2) (fun Q' kk => ?_) (fun Q' kk => ?_) ?_
        · refine ⟨_, rfl, _, rfl, m, lc, lg, n + 1, 14, rfl, M7, by omega, by decide, by decide, fun H8 d2 d20 d21 M8 e8 => ?_⟩
          have F8 := F7.trans (FD.draw e8)
          obtain ⟨z, hz, ez⟩ := val_at (l := ws) d20 (by rw [wl]; exact d21)
          exact ⟨W, ws, _, z, rfl, rfl, SqL.of (LW4.fd F8).at_, ez, kk _ _ ⟨(LW4.fd F8).ok z hz, (WX z hz).1, F8, tabs_draw tb7 M7 e8, _, M8, by omega, by omega⟩⟩
        · exact kk _ _ ⟨okV_str (by decide +kernel), wordX_str (by decide +kernel), F7, tb7, _, M7, by omega, by omega⟩
        rintro x H8 ⟨ox, wx, F8, tb8, n', M8, l1, l2⟩
        refine ⟨_, rfl, _, rfl, m, lc, lg, n', x, rfl, M8, by omega, ox, wx, tb8, fun H9 n9 F9 M9 l3 l4 tb9 => ⟨_, rfl, ?_⟩⟩
        refine iteF ?_
        refine ⟨_, rfl, m, lc, lg, n9, rfl, M9, by omega, tb9, fun H10 n10 F10 M10 l5 l6 tb10 => ⟨_, rfl, ?_⟩⟩
        refine iteF ?_
        exact ⟨_, _, n10, rfl, F8.trans (F9.trans F10), M10, by omega, by omega, tb10⟩
      · rintro σ H6 ⟨v3, v4, n, rfl, F6, M6, n1, n0, tb6⟩
        obtain ⟨mc, t1, t2, cr, cv1, cv2⟩ := TL.mx
        refine ⟨C.L, mc, _, _, rfl, cr, cv1, C.L, mc, _, _, rfl, cr, cv2, by show 2 ≤ sizeLine; omega, fun l1 nl1 => ?_⟩
        have s1 : Same H6 (upd H6 l1 (.lst [.int 60, .int 8])) := same_upd (Same.refl H6) nl1
        have v1 : (upd H6 l1 (.lst [.int 60, .int 8])) l1 = some (.lst [.int 60, .int 8]) := upd_same
        generalize upd H6 l1 (.lst [.int 60, .int 8]) = H7 at s1 v1 ⊢
        refine ⟨by show 2 ≤ sizeLine; omega, fun l2 nl2 => ?_⟩
        have s2 : Same H7 (upd H7 l2 (.lst [.int 60, .int 8])) := same_upd (Same.refl H7) nl2
        have v2 : (upd H7 l2 (.lst [.int 60, .int 8])) l2 = some (.lst [.int 60, .int 8]) := upd_same
        generalize upd H7 l2 (.lst [.int 60, .int 8]) = H8 at s2 v2 ⊢
        have sh2 : SeqAt.shaped (.list [.int 60, .int 8]) = true := by decide +kernel
        refine ⟨_, _, .lst (SqL.of (s2 _ _ v1)) (.cons (.int _) (.cons (.int _) .nil)), .lst (SqL.of v2) (.cons (.int _) (.cons (.int _) .nil)), sh2, sh2, _, rfl, ?_⟩
        rw [SeqAt.eqv_refl _ (lay_of sh2)]
        refine iteT ?_
        exact ⟨rfl, (tb6.ext (s1.trans s2)), fun H' _ _ => k H'⟩
end
end K3

namespace K3
open PySem L2 E0 EG
open LamX (ExtN Tabs TabS TabB)
theorem raw_of {P : Program} {w : World} {K : PySem.W.Frag} {mg : Str → Option Value} {base : Heap} {CX : CXT} {k : Nat} {f : Addr} {fd : FuncData} {ps : List Str} {sp : Sp} (G : FnOk P w K mg base CX k f fd ps sp) (b : Binds K fd ps []) : FnR P w K mg base CX k f sp := (G.raw b .nil).imp fun vs H Q E h => by rw [List.append_nil]; exact h
theorem uni3 {a b c : Addr} {qa qb qc : Str} (h1 : a ≠ b) (h2 : a ≠ c) (h3 : b ≠ c) : (∀ p ∈ [(a, qa), (b, qb), (c, qc)], p.1 = a → p.2 = qa) ∧ (∀ p ∈ [(a, qa), (b, qb), (c, qc)], p.1 = b → p.2 = qb) ∧ (∀ p ∈ [(a, qa), (b, qb), (c, qc)], p.1 = c → p.2 = qc) := by
  refine ⟨fun p hp e => ?_, fun p hp e => ?_, fun p hp e => ?_⟩ <;> (simp only [List.mem_cons, List.not_mem_nil, or_false] at hp; rcases hp with z | z | z <;> rw [z] at e ⊢)
  · exact absurd e.symm h1
  · exact absurd e.symm h2
  · exact absurd e h1
  · exact absurd e.symm h3
  · exact absurd e h2
  · exact absurd e h3
theorem all_mk {l : PySem.W.OpenLaw} {w : World} {K : PySem.W.Frag} {h : Heap} {mg : Str → Option Value} {fa : Addr} {P : Program}
    {fN : Addr} {ocN kVN dcN pmN ctN cdN : Value} {odN anN : Option Addr} {slN : Array (Option Value)}
    {fNd : Addr} {ocNd kVNd dcNd pmNd ctNd cdNd : Value} {odNd anNd : Option Addr} {slNd : Array (Option Value)}
    {fTP : Addr} {ocTP kVTP dcTP pmTP ctTP cdTP : Value} {odTP anTP : Option Addr} {slTP : Array (Option Value)}
    {fLP : Addr} {ocLP kVLP dcLP pmLP ctLP cdLP : Value} {odLP anLP : Option Addr} {slLP : Array (Option Value)}
    {fLR : Addr} {ocLR kVLR dcLR pmLR ctLR cdLR : Value} {odLR anLR : Option Addr} {slLR : Array (Option Value)}
    {fRI : Addr} {ocRI kVRI dcRI pmRI ctRI cdRI : Value} {odRI anRI : Option Addr} {slRI : Array (Option Value)}
    {fNA : Addr} {ocNA kVNA dcNA pmNA ctNA cdNA : Value} {odNA anNA : Option Addr} {slNA : Array (Option Value)}
    {fMS : Addr} {ocMS kVMS dcMS pmMS ctMS cdMS : Value} {odMS anMS : Option Addr} {slMS : Array (Option Value)}
    {fAt : Addr} {ocAt kVAt dcAt pmAt ctAt cdAt : Value} {odAt anAt : Option Addr} {slAt : Array (Option Value)}
    {fNX : Addr} {ocNX kVNX dcNX pmNX ctNX cdNX : Value} {odNX anNX : Option Addr} {slNX : Array (Option Value)}
    {fPT : Addr} {ocPT kVPT dcPT pmPT ctPT cdPT : Value} {odPT anPT : Option Addr} {slPT : Array (Option Value)}
    {fQ : Addr} {ocQ kVQ dcQ pmQ ctQ cdQ : Value} {odQ anQ : Option Addr} {slQ : Array (Option Value)}
    {fM : Addr} {ocM kVM dcM pmM ctM cdM : Value} {odM anM : Option Addr} {slM : Array (Option Value)}
    {fFo : Addr} {ocFo kVFo dcFo pmFo ctFo cdFo : Value} {odFo anFo : Option Addr} {slFo : Array (Option Value)}
    {fDr : Addr} {ocDr kVDr dcDr pmDr ctDr cdDr : Value} {odDr anDr : Option Addr} {slDr : Array (Option Value)}
    {fBg : Addr} {ocBg kVBg dcBg pmBg ctBg cdBg : Value} {odBg anBg : Option Addr} {slBg : Array (Option Value)}
    {fD2 : Addr} {ocD2 kVD2 dcD2 pmD2 ctD2 cdD2 : Value} {odD2 anD2 : Option Addr} {slD2 : Array (Option Value)}
    {fIN : Addr} {ocIN kVIN dcIN pmIN ctIN cdIN : Value} {odIN anIN : Option Addr} {slIN : Array (Option Value)}
    {fFa : Addr} {ocFa kVFa dcFa pmFa ctFa cdFa : Value} {odFa anFa : Option Addr} {slFa : Array (Option Value)}
    {fNw : Addr} {ocNw kVNw dcNw pmNw ctNw cdNw : Value} {odNw anNw : Option Addr} {slNw : Array (Option Value)}
    {fNR : Addr} {ocNR kVNR dcNR pmNR ctNR : Value} {odNR anNR : Option Addr} {slNR : Array (Option Value)}
    {fGO : Addr} {ocGO kVGO dcGO pmGO ctGO cdGO : Value} {odGO anGO : Option Addr} {slGO : Array (Option Value)}
    {fOD : Addr} {ocOD kVOD dcOD pmOD ctOD cdOD : Value} {odOD anOD : Option Addr} {slOD : Array (Option Value)}
    {fLK : Addr} {ocLK kVLK dcLK pmLK ctLK : Value} {odLK anLK : Option Addr} {slLK : Array (Option Value)}
    {fEQ : Addr} {ocEQ kVEQ dcEQ pmEQ ctEQ cdEQ : Value} {odEQ anEQ : Option Addr} {slEQ : Array (Option Value)}
    {fLI : Addr} {ocLI kVLI dcLI pmLI ctLI : Value} {odLI anLI : Option Addr} {slLI : Array (Option Value)}
    {fL : Addr} {ocL kVL dcL pmL ctL cdL : Value} {odL anL : Option Addr} {slL : Array (Option Value)}
    {CT CL CV CW CR CI CP CS cNR cLK cLI pNR pLK pLI : Addr} {mc : Value} {tMx tLt tSg tMt tMN tML tMS tMV : Tok}
    {fIT : Addr} {ocIT kVIT dcIT pmIT ctIT cdIT : Value} {odIT anIT : Option Addr} {slIT : Array (Option Value)}
    {fIL : Addr} {ocIL kVIL dcIL pmIL ctIL cdIL : Value} {odIL anIL : Option Addr} {slIL : Array (Option Value)}
    {fIV : Addr} {ocIV kVIV dcIV pmIV ctIV cdIV : Value} {odIV anIV : Option Addr} {slIV : Array (Option Value)}
    {fIW : Addr} {ocIW kVIW dcIW pmIW ctIW cdIW : Value} {odIW anIW : Option Addr} {slIW : Array (Option Value)}
    {fIR : Addr} {ocIR kVIR dcIR pmIR ctIR cdIR : Value} {odIR anIR : Option Addr} {slIR : Array (Option Value)}
    {fTe : Addr} {ocTe kVTe dcTe pmTe ctTe cdTe : Value} {odTe anTe : Option Addr} {slTe : Array (Option Value)}
    {fVe : Addr} {ocVe kVVe dcVe pmVe ctVe cdVe : Value} {odVe anVe : Option Addr} {slVe : Array (Option Value)}
    {fWe : Addr} {ocWe kVWe dcWe pmWe ctWe cdWe : Value} {odWe anWe : Option Addr} {slWe : Array (Option Value)}
    {fRe : Addr} {ocRe kVRe dcRe pmRe ctRe cdRe : Value} {odRe anRe : Option Addr} {slRe : Array (Option Value)}
    {fLe : Addr} {ocLe kVLe dcLe pmLe ctLe cdLe : Value} {odLe anLe : Option Addr} {slLe : Array (Option Value)}
    {fTh : Addr} {ocTh kVTh dcTh pmTh ctTh cdTh : Value} {odTh anTh : Option Addr} {slTh : Array (Option Value)}
    {fPu : Addr} {ocPu kVPu dcPu pmPu ctPu cdPu : Value} {odPu anPu : Option Addr} {slPu : Array (Option Value)}
    {fE cdaE ccE NNE : Addr} {ocE kVE dcE pmE ctE cclE clE : Value} {odE anE cddE cldE : Option Addr} {slE ccsE cslE : Array (Option Value)} {cvsE : Array Value} {fileE : Str} {tfE : Tok} {nmE qE : Str} {bsE bmE : List Value} {snE : List Str} {subE : List Value} {abE : Bool} {colE : Option Bool} {ddE : Option Addr} {m0E m1E m2E m3E m5E : Option Value}
    {fP cdaP ccP NNP : Addr} {ocP kVP dcP pmP ctP cclP clP : Value} {odP anP cddP cldP : Option Addr} {slP ccsP cslP : Array (Option Value)} {cvsP : Array Value} {fileP : Str} {tfP : Tok} {nmP qP : Str} {bsP bmP : List Value} {snP : List Str} {subP : List Value} {abP : Bool} {colP : Option Bool} {ddP : Option Addr} {m0P m1P m2P m3P m5P : Option Value}
    (eP : l.prog = P) (X : K.In h) (G : h.Ns mainGlobals mg) (h1T : h.get? pNR = some (PySem.W.tabObj #[])) (h2T : h.get? pLK = some (PySem.W.tabObj #[])) (h3T : h.get? pLI = some (PySem.W.tabObj #[])) (hfa : mg "law" = some (.ref fa))
    (aN : PySem.W.nsIn K mainGlobals "is_name" = some (some (.ref fN)))
    (lN : K.lookup fN = some ⟨ocN, odN, .func (PySem.W.fnOf "is_name" "is_name" (defArgs sName) (defBody sName) (defScope sName) .none kVN dcN pmN anN cdN ctN), slN⟩)
    (cNd : PySem.W.codeIn K cdN "is_name" = true)
    (kN : PySem.W.keepIn K (.ref fN) = true)
    (aNd : PySem.W.nsIn K mainGlobals "is_node" = some (some (.ref fNd)))
    (lNd : K.lookup fNd = some ⟨ocNd, odNd, .func (PySem.W.fnOf "is_node" "is_node" (defArgs sIsNode) (defBody sIsNode) (defScope sIsNode) .none kVNd dcNd pmNd anNd cdNd ctNd), slNd⟩)
    (cNdd : PySem.W.codeIn K cdNd "is_node" = true)
    (kNd : PySem.W.keepIn K (.ref fNd) = true)
    (aTP : PySem.W.nsIn K mainGlobals "_is_tree_part" = some (some (.ref fTP)))
    (lTP : K.lookup fTP = some ⟨ocTP, odTP, .func (PySem.W.fnOf "_is_tree_part" "_is_tree_part" (defArgs sTreePart) (defBody sTreePart) (defScope sTreePart) .none kVTP dcTP pmTP anTP cdTP ctTP), slTP⟩)
    (cTPd : PySem.W.codeIn K cdTP "_is_tree_part" = true)
    (kTP : PySem.W.keepIn K (.ref fTP) = true)
    (aLP : PySem.W.nsIn K mainGlobals "_is_like_part" = some (some (.ref fLP)))
    (lLP : K.lookup fLP = some ⟨ocLP, odLP, .func (PySem.W.fnOf "_is_like_part" "_is_like_part" (defArgs sLikePart) (defBody sLikePart) (defScope sLikePart) .none kVLP dcLP pmLP anLP cdLP ctLP), slLP⟩)
    (cLPd : PySem.W.codeIn K cdLP "_is_like_part" = true)
    (kLP : PySem.W.keepIn K (.ref fLP) = true)
    (aLR : PySem.W.nsIn K mainGlobals "_is_like_row" = some (some (.ref fLR)))
    (lLR : K.lookup fLR = some ⟨ocLR, odLR, .func (PySem.W.fnOf "_is_like_row" "_is_like_row" (defArgs sLikeRow) (defBody sLikeRow) (defScope sLikeRow) .none kVLR dcLR pmLR anLR cdLR ctLR), slLR⟩)
    (cLRd : PySem.W.codeIn K cdLR "_is_like_row" = true)
    (kLR : PySem.W.keepIn K (.ref fLR) = true)
    (aRI : PySem.W.nsIn K mainGlobals "row_items" = some (some (.ref fRI)))
    (lRI : K.lookup fRI = some ⟨ocRI, odRI, .func (PySem.W.fnOf "row_items" "row_items" (defArgs sRowItems) (defBody sRowItems) (defScope sRowItems) .none kVRI dcRI pmRI anRI cdRI ctRI), slRI⟩)
    (cRId : PySem.W.codeIn K cdRI "row_items" = true)
    (kRI : PySem.W.keepIn K (.ref fRI) = true)
    (aNA : PySem.W.nsIn K mainGlobals "nodes_among" = some (some (.ref fNA)))
    (lNA : K.lookup fNA = some ⟨ocNA, odNA, .func (PySem.W.fnOf "nodes_among" "nodes_among" (defArgs sNodesAmong) (defBody sNodesAmong) (defScope sNodesAmong) .none kVNA dcNA pmNA anNA cdNA ctNA), slNA⟩)
    (cNAd : PySem.W.codeIn K cdNA "nodes_among" = true)
    (kNA : PySem.W.keepIn K (.ref fNA) = true)
    (aMS : PySem.W.nsIn K mainGlobals "_measures_above" = some (some (.ref fMS)))
    (lMS : K.lookup fMS = some ⟨ocMS, odMS, .func (PySem.W.fnOf "_measures_above" "_measures_above" (defArgs sMeasures) (defBody sMeasures) (defScope sMeasures) .none kVMS dcMS pmMS anMS cdMS ctMS), slMS⟩)
    (cMSd : PySem.W.codeIn K cdMS "_measures_above" = true)
    (kMS : PySem.W.keepIn K (.ref fMS) = true)
    (aAt : PySem.W.nsIn K mainGlobals "_node_at" = some (some (.ref fAt)))
    (lAt : K.lookup fAt = some ⟨ocAt, odAt, .func (PySem.W.fnOf "_node_at" "_node_at" (defArgs sNodeAt) (defBody sNodeAt) (defScope sNodeAt) .none kVAt dcAt pmAt anAt cdAt ctAt), slAt⟩)
    (cAtd : PySem.W.codeIn K cdAt "_node_at" = true)
    (kAt : PySem.W.keepIn K (.ref fAt) = true)
    (aNX : PySem.W.nsIn K mainGlobals "_node_text" = some (some (.ref fNX)))
    (lNX : K.lookup fNX = some ⟨ocNX, odNX, .func (PySem.W.fnOf "_node_text" "_node_text" (defArgs sNodeText) (defBody sNodeText) (defScope sNodeText) .none kVNX dcNX pmNX anNX cdNX ctNX), slNX⟩)
    (cNXd : PySem.W.codeIn K cdNX "_node_text" = true)
    (kNX : PySem.W.keepIn K (.ref fNX) = true)
    (aPT : PySem.W.nsIn K mainGlobals "part_text" = some (some (.ref fPT)))
    (lPT : K.lookup fPT = some ⟨ocPT, odPT, .func (PySem.W.fnOf "part_text" "part_text" (defArgs sPartText) (defBody sPartText) (defScope sPartText) .none kVPT dcPT pmPT anPT cdPT ctPT), slPT⟩)
    (cPTd : PySem.W.codeIn K cdPT "part_text" = true)
    (kPT : PySem.W.keepIn K (.ref fPT) = true)
    (aQ : PySem.W.nsIn K mainGlobals "_quoted" = some (some (.ref fQ)))
    (lQ : K.lookup fQ = some ⟨ocQ, odQ, .func (PySem.W.fnOf "_quoted" "_quoted" (defArgs sQuoted) (defBody sQuoted) (defScope sQuoted) .none kVQ dcQ pmQ anQ cdQ ctQ), slQ⟩)
    (cQd : PySem.W.codeIn K cdQ "_quoted" = true)
    (kQ : PySem.W.keepIn K (.ref fQ) = true)
    (aM : PySem.W.nsIn K mainGlobals "_law_mixed" = some (some (.ref fM)))
    (lM : K.lookup fM = some ⟨ocM, odM, .func (PySem.W.fnOf "_law_mixed" "_law_mixed" (defArgs sMixed) (defBody sMixed) (defScope sMixed) .none kVM dcM pmM anM cdM ctM), slM⟩)
    (cMd : PySem.W.codeIn K cdM "_law_mixed" = true)
    (kM : PySem.W.keepIn K (.ref fM) = true)
    (aFo : PySem.W.nsIn K mainGlobals "_law_folded" = some (some (.ref fFo)))
    (lFo : K.lookup fFo = some ⟨ocFo, odFo, .func (PySem.W.fnOf "_law_folded" "_law_folded" (defArgs sFolded) (defBody sFolded) (defScope sFolded) .none kVFo dcFo pmFo anFo cdFo ctFo), slFo⟩)
    (cFod : PySem.W.codeIn K cdFo "_law_folded" = true)
    (kFo : PySem.W.keepIn K (.ref fFo) = true)
    (aDr : PySem.W.nsIn K mainGlobals "_law_draw" = some (some (.ref fDr)))
    (lDr : K.lookup fDr = some ⟨ocDr, odDr, .func (PySem.W.fnOf "_law_draw" "_law_draw" (defArgs sDraw) (defBody sDraw) (defScope sDraw) .none kVDr dcDr pmDr anDr cdDr ctDr), slDr⟩)
    (cDrd : PySem.W.codeIn K cdDr "_law_draw" = true)
    (kDr : PySem.W.keepIn K (.ref fDr) = true)
    (aBg : PySem.W.nsIn K mainGlobals "_law_begun" = some (some (.ref fBg)))
    (lBg : K.lookup fBg = some ⟨ocBg, odBg, .func (PySem.W.fnOf "_law_begun" "_law_begun" (defArgs sBegun) (defBody sBegun) (defScope sBegun) .none kVBg dcBg pmBg anBg cdBg ctBg), slBg⟩)
    (cBgd : PySem.W.codeIn K cdBg "_law_begun" = true)
    (kBg : PySem.W.keepIn K (.ref fBg) = true)
    (aD2 : PySem.W.nsIn K mainGlobals "_law_doubled" = some (some (.ref fD2)))
    (lD2 : K.lookup fD2 = some ⟨ocD2, odD2, .func (PySem.W.fnOf "_law_doubled" "_law_doubled" (defArgs sDoubled) (defBody sDoubled) (defScope sDoubled) .none kVD2 dcD2 pmD2 anD2 cdD2 ctD2), slD2⟩)
    (cD2d : PySem.W.codeIn K cdD2 "_law_doubled" = true)
    (kD2 : PySem.W.keepIn K (.ref fD2) = true)
    (aIN : PySem.W.nsIn K mainGlobals "_law_is_name" = some (some (.ref fIN)))
    (lIN : K.lookup fIN = some ⟨ocIN, odIN, .func (PySem.W.fnOf "_law_is_name" "_law_is_name" (defArgs sIsName) (defBody sIsName) (defScope sIsName) .none kVIN dcIN pmIN anIN cdIN ctIN), slIN⟩)
    (cINd : PySem.W.codeIn K cdIN "_law_is_name" = true)
    (kIN : PySem.W.keepIn K (.ref fIN) = true)
    (aFa : PySem.W.nsIn K mainGlobals "_law_fault" = some (some (.ref fFa)))
    (lFa : K.lookup fFa = some ⟨ocFa, odFa, .func (PySem.W.fnOf "_law_fault" "_law_fault" (defArgs sFault) (defBody sFault) (defScope sFault) .none kVFa dcFa pmFa anFa cdFa ctFa), slFa⟩)
    (cFad : PySem.W.codeIn K cdFa "_law_fault" = true)
    (kFa : PySem.W.keepIn K (.ref fFa) = true)
    (aNw : PySem.W.nsIn K mainGlobals "_law_new" = some (some (.ref fNw)))
    (lNw : K.lookup fNw = some ⟨ocNw, odNw, .func (PySem.W.fnOf "_law_new" "_law_new" (defArgs sNew) (defBody sNew) (defScope sNew) .none kVNw dcNw pmNw anNw cdNw ctNw), slNw⟩)
    (cNwd : PySem.W.codeIn K cdNw "_law_new" = true)
    (kNw : PySem.W.keepIn K (.ref fNw) = true)
    (aNR : PySem.W.nsIn K mainGlobals "_law_names_right" = some (some (.ref fNR)))
    (lNR : K.lookup fNR = some ⟨ocNR, odNR, .func (PySem.W.fnOf "_law_names_right" "_law_names_right" (defArgs sNamesRight) (defBody sNamesRight) (defScope sNamesRight) .none kVNR dcNR pmNR anNR (.ref cNR) ctNR), slNR⟩)
    (cNRd : PySem.W.codeIn K (.ref cNR) "_law_names_right" = true)
    (kNR : PySem.W.keepIn K (.ref fNR) = true)
    (aGO : PySem.W.nsIn K mainGlobals "_law_goods" = some (some (.ref fGO)))
    (lGO : K.lookup fGO = some ⟨ocGO, odGO, .func (PySem.W.fnOf "_law_goods" "_law_goods" (defArgs sGoods) (defBody sGoods) (defScope sGoods) .none kVGO dcGO pmGO anGO cdGO ctGO), slGO⟩)
    (cGOd : PySem.W.codeIn K cdGO "_law_goods" = true)
    (kGO : PySem.W.keepIn K (.ref fGO) = true)
    (aOD : PySem.W.nsIn K mainGlobals "_law_odds" = some (some (.ref fOD)))
    (lOD : K.lookup fOD = some ⟨ocOD, odOD, .func (PySem.W.fnOf "_law_odds" "_law_odds" (defArgs sOdds) (defBody sOdds) (defScope sOdds) .none kVOD dcOD pmOD anOD cdOD ctOD), slOD⟩)
    (cODd : PySem.W.codeIn K cdOD "_law_odds" = true)
    (kOD : PySem.W.keepIn K (.ref fOD) = true)
    (aLK : PySem.W.nsIn K mainGlobals "_law_like_right" = some (some (.ref fLK)))
    (lLK : K.lookup fLK = some ⟨ocLK, odLK, .func (PySem.W.fnOf "_law_like_right" "_law_like_right" (defArgs sLikeRight) (defBody sLikeRight) (defScope sLikeRight) .none kVLK dcLK pmLK anLK (.ref cLK) ctLK), slLK⟩)
    (cLKd : PySem.W.codeIn K (.ref cLK) "_law_like_right" = true)
    (kLK : PySem.W.keepIn K (.ref fLK) = true)
    (aEQ : PySem.W.nsIn K mainGlobals "_law_equal_right" = some (some (.ref fEQ)))
    (lEQ : K.lookup fEQ = some ⟨ocEQ, odEQ, .func (PySem.W.fnOf "_law_equal_right" "_law_equal_right" (defArgs sEqualRight) (defBody sEqualRight) (defScope sEqualRight) .none kVEQ dcEQ pmEQ anEQ cdEQ ctEQ), slEQ⟩)
    (cEQd : PySem.W.codeIn K cdEQ "_law_equal_right" = true)
    (kEQ : PySem.W.keepIn K (.ref fEQ) = true)
    (aLI : PySem.W.nsIn K mainGlobals "_law_limits_right" = some (some (.ref fLI)))
    (lLI : K.lookup fLI = some ⟨ocLI, odLI, .func (PySem.W.fnOf "_law_limits_right" "_law_limits_right" (defArgs sLimitsRight) (defBody sLimitsRight) (defScope sLimitsRight) .none kVLI dcLI pmLI anLI (.ref cLI) ctLI), slLI⟩)
    (cLId : PySem.W.codeIn K (.ref cLI) "_law_limits_right" = true)
    (kLI : PySem.W.keepIn K (.ref fLI) = true)
    (aL : PySem.W.nsIn K mainGlobals "law" = some (some (.ref fL)))
    (lL : K.lookup fL = some ⟨ocL, odL, .func (PySem.W.fnOf "law" "law" (defArgs sLaw) (defBody sLaw) (defScope sLaw) .none kVL dcL pmL anL cdL ctL), slL⟩)
    (cLd : PySem.W.codeIn K cdL "law" = true)
    (kL : PySem.W.keepIn K (.ref fL) = true)
    (aCT : PySem.W.nsIn K mainGlobals "Tree" = some (some (.ref CT)))
    (qTpg : PySem.W.plainGet K CT Str.empty = true)
    (qThd : PySem.W.hasDictIn K CT = true)
    (qTpo : PySem.W.plainOver K CT = true)
    (qTsa : PySem.W.findIn K (.ref CT) "__setattr__" = some (some (.builtin "object.__setattr__")))
    (qTha : PySem.W.findIn K (.ref CT) "__class__" = some (some (.builtin "object.__class__")))
    (qTmo : PySem.W.mroIn K CT (.type "object") = some true)
    (qTmk : PySem.W.makesIn K CT = true)
    (qTkp : PySem.W.keepIn K (.ref CT) = true)
    (iIT : PySem.W.findIn K (.ref CT) "__init__" = some (some (.ref fIT)))
    (nIT : PySem.W.isFn K (.ref fIT) = true)
    (lIT : K.lookup fIT = some ⟨ocIT, odIT, .func (PySem.W.fnOf "__init__" "Tree.__init__" (defArgs sTreeInit) (defBody sTreeInit) (defScope sTreeInit) .none kVIT dcIT pmIT anIT cdIT ctIT), slIT⟩)
    (cITd : PySem.W.codeIn K cdIT "Tree.__init__" = true)
    (kIT : PySem.W.keepIn K (.ref fIT) = true)
    (naT0 : PySem.W.findIn K (.ref CT) "form" = some none)
    (naT1 : PySem.W.findIn K (.ref CT) "parts" = some none)
    (naT2 : PySem.W.findIn K (.ref CT) "children" = some none)
    (naT3 : PySem.W.findIn K (.ref CT) "size" = some none)
    (naT4 : PySem.W.findIn K (.ref CT) "levels" = some none)
    (naT5 : PySem.W.findIn K (.ref CT) "text" = some none)
    (naT6 : PySem.W.findIn K (.ref CT) "name" = some none)
    (stT : PySem.W.kitOne K (.ref CT) (.type "str") = some false)
    (tuT : PySem.W.kitOne K (.ref CT) (.type "tuple") = some false)
    (bsT : PySem.W.kitOne K (.type "str") (.ref CT) = some false)
    (btT : PySem.W.kitOne K (.type "tuple") (.ref CT) = some false)
    (ktTT : PySem.W.kitOne K (.ref CT) (.ref CT) = some true)
    (ktTL : PySem.W.kitOne K (.ref CT) (.ref CL) = some false)
    (ktTV : PySem.W.kitOne K (.ref CT) (.ref CV) = some false)
    (ktTW : PySem.W.kitOne K (.ref CT) (.ref CW) = some false)
    (ktTR : PySem.W.kitOne K (.ref CT) (.ref CR) = some false)
    (aCL : PySem.W.nsIn K mainGlobals "Like" = some (some (.ref CL)))
    (qLpg : PySem.W.plainGet K CL Str.empty = true)
    (qLhd : PySem.W.hasDictIn K CL = true)
    (qLpo : PySem.W.plainOver K CL = true)
    (qLsa : PySem.W.findIn K (.ref CL) "__setattr__" = some (some (.builtin "object.__setattr__")))
    (qLha : PySem.W.findIn K (.ref CL) "__class__" = some (some (.builtin "object.__class__")))
    (qLmo : PySem.W.mroIn K CL (.type "object") = some true)
    (qLmk : PySem.W.makesIn K CL = true)
    (qLkp : PySem.W.keepIn K (.ref CL) = true)
    (iIL : PySem.W.findIn K (.ref CL) "__init__" = some (some (.ref fIL)))
    (nIL : PySem.W.isFn K (.ref fIL) = true)
    (lIL : K.lookup fIL = some ⟨ocIL, odIL, .func (PySem.W.fnOf "__init__" "Like.__init__" (defArgs sLikeInit) (defBody sLikeInit) (defScope sLikeInit) .none kVIL dcIL pmIL anIL cdIL ctIL), slIL⟩)
    (cILd : PySem.W.codeIn K cdIL "Like.__init__" = true)
    (kIL : PySem.W.keepIn K (.ref fIL) = true)
    (naL0 : PySem.W.findIn K (.ref CL) "form" = some none)
    (naL1 : PySem.W.findIn K (.ref CL) "parts" = some none)
    (naL2 : PySem.W.findIn K (.ref CL) "children" = some none)
    (naL3 : PySem.W.findIn K (.ref CL) "size" = some none)
    (naL4 : PySem.W.findIn K (.ref CL) "levels" = some none)
    (naL5 : PySem.W.findIn K (.ref CL) "text" = some none)
    (naL6 : PySem.W.findIn K (.ref CL) "name" = some none)
    (stL : PySem.W.kitOne K (.ref CL) (.type "str") = some false)
    (tuL : PySem.W.kitOne K (.ref CL) (.type "tuple") = some false)
    (bsL : PySem.W.kitOne K (.type "str") (.ref CL) = some false)
    (btL : PySem.W.kitOne K (.type "tuple") (.ref CL) = some false)
    (ktLT : PySem.W.kitOne K (.ref CL) (.ref CT) = some false)
    (ktLL : PySem.W.kitOne K (.ref CL) (.ref CL) = some true)
    (ktLV : PySem.W.kitOne K (.ref CL) (.ref CV) = some false)
    (ktLW : PySem.W.kitOne K (.ref CL) (.ref CW) = some false)
    (ktLR : PySem.W.kitOne K (.ref CL) (.ref CR) = some false)
    (aCV : PySem.W.nsIn K mainGlobals "Var" = some (some (.ref CV)))
    (qVpg : PySem.W.plainGet K CV Str.empty = true)
    (qVhd : PySem.W.hasDictIn K CV = true)
    (qVpo : PySem.W.plainOver K CV = true)
    (qVsa : PySem.W.findIn K (.ref CV) "__setattr__" = some (some (.builtin "object.__setattr__")))
    (qVha : PySem.W.findIn K (.ref CV) "__class__" = some (some (.builtin "object.__class__")))
    (qVmo : PySem.W.mroIn K CV (.type "object") = some true)
    (qVmk : PySem.W.makesIn K CV = true)
    (qVkp : PySem.W.keepIn K (.ref CV) = true)
    (iIV : PySem.W.findIn K (.ref CV) "__init__" = some (some (.ref fIV)))
    (nIV : PySem.W.isFn K (.ref fIV) = true)
    (lIV : K.lookup fIV = some ⟨ocIV, odIV, .func (PySem.W.fnOf "__init__" "Var.__init__" (defArgs sVarInit) (defBody sVarInit) (defScope sVarInit) .none kVIV dcIV pmIV anIV cdIV ctIV), slIV⟩)
    (cIVd : PySem.W.codeIn K cdIV "Var.__init__" = true)
    (kIV : PySem.W.keepIn K (.ref fIV) = true)
    (naV0 : PySem.W.findIn K (.ref CV) "form" = some none)
    (naV1 : PySem.W.findIn K (.ref CV) "parts" = some none)
    (naV2 : PySem.W.findIn K (.ref CV) "children" = some none)
    (naV3 : PySem.W.findIn K (.ref CV) "size" = some none)
    (naV4 : PySem.W.findIn K (.ref CV) "levels" = some none)
    (naV5 : PySem.W.findIn K (.ref CV) "text" = some none)
    (naV6 : PySem.W.findIn K (.ref CV) "name" = some none)
    (stV : PySem.W.kitOne K (.ref CV) (.type "str") = some false)
    (tuV : PySem.W.kitOne K (.ref CV) (.type "tuple") = some false)
    (bsV : PySem.W.kitOne K (.type "str") (.ref CV) = some false)
    (btV : PySem.W.kitOne K (.type "tuple") (.ref CV) = some false)
    (ktVT : PySem.W.kitOne K (.ref CV) (.ref CT) = some false)
    (ktVL : PySem.W.kitOne K (.ref CV) (.ref CL) = some false)
    (ktVV : PySem.W.kitOne K (.ref CV) (.ref CV) = some true)
    (ktVW : PySem.W.kitOne K (.ref CV) (.ref CW) = some false)
    (ktVR : PySem.W.kitOne K (.ref CV) (.ref CR) = some false)
    (aCW : PySem.W.nsIn K mainGlobals "Word" = some (some (.ref CW)))
    (qWpg : PySem.W.plainGet K CW Str.empty = true)
    (qWhd : PySem.W.hasDictIn K CW = true)
    (qWpo : PySem.W.plainOver K CW = true)
    (qWsa : PySem.W.findIn K (.ref CW) "__setattr__" = some (some (.builtin "object.__setattr__")))
    (qWha : PySem.W.findIn K (.ref CW) "__class__" = some (some (.builtin "object.__class__")))
    (qWmo : PySem.W.mroIn K CW (.type "object") = some true)
    (qWmk : PySem.W.makesIn K CW = true)
    (qWkp : PySem.W.keepIn K (.ref CW) = true)
    (iIW : PySem.W.findIn K (.ref CW) "__init__" = some (some (.ref fIW)))
    (nIW : PySem.W.isFn K (.ref fIW) = true)
    (lIW : K.lookup fIW = some ⟨ocIW, odIW, .func (PySem.W.fnOf "__init__" "Word.__init__" (defArgs sWordInit) (defBody sWordInit) (defScope sWordInit) .none kVIW dcIW pmIW anIW cdIW ctIW), slIW⟩)
    (cIWd : PySem.W.codeIn K cdIW "Word.__init__" = true)
    (kIW : PySem.W.keepIn K (.ref fIW) = true)
    (naW0 : PySem.W.findIn K (.ref CW) "form" = some none)
    (naW1 : PySem.W.findIn K (.ref CW) "parts" = some none)
    (naW2 : PySem.W.findIn K (.ref CW) "children" = some none)
    (naW3 : PySem.W.findIn K (.ref CW) "size" = some none)
    (naW4 : PySem.W.findIn K (.ref CW) "levels" = some none)
    (naW5 : PySem.W.findIn K (.ref CW) "text" = some none)
    (naW6 : PySem.W.findIn K (.ref CW) "name" = some none)
    (stW : PySem.W.kitOne K (.ref CW) (.type "str") = some false)
    (tuW : PySem.W.kitOne K (.ref CW) (.type "tuple") = some false)
    (bsW : PySem.W.kitOne K (.type "str") (.ref CW) = some false)
    (btW : PySem.W.kitOne K (.type "tuple") (.ref CW) = some false)
    (ktWT : PySem.W.kitOne K (.ref CW) (.ref CT) = some false)
    (ktWL : PySem.W.kitOne K (.ref CW) (.ref CL) = some false)
    (ktWV : PySem.W.kitOne K (.ref CW) (.ref CV) = some false)
    (ktWW : PySem.W.kitOne K (.ref CW) (.ref CW) = some true)
    (ktWR : PySem.W.kitOne K (.ref CW) (.ref CR) = some false)
    (aCR : PySem.W.nsIn K mainGlobals "Rest" = some (some (.ref CR)))
    (qRpg : PySem.W.plainGet K CR Str.empty = true)
    (qRhd : PySem.W.hasDictIn K CR = true)
    (qRpo : PySem.W.plainOver K CR = true)
    (qRsa : PySem.W.findIn K (.ref CR) "__setattr__" = some (some (.builtin "object.__setattr__")))
    (qRha : PySem.W.findIn K (.ref CR) "__class__" = some (some (.builtin "object.__class__")))
    (qRmo : PySem.W.mroIn K CR (.type "object") = some true)
    (qRmk : PySem.W.makesIn K CR = true)
    (qRkp : PySem.W.keepIn K (.ref CR) = true)
    (iIR : PySem.W.findIn K (.ref CR) "__init__" = some (some (.ref fIR)))
    (nIR : PySem.W.isFn K (.ref fIR) = true)
    (lIR : K.lookup fIR = some ⟨ocIR, odIR, .func (PySem.W.fnOf "__init__" "Rest.__init__" (defArgs sRestInit) (defBody sRestInit) (defScope sRestInit) .none kVIR dcIR pmIR anIR cdIR ctIR), slIR⟩)
    (cIRd : PySem.W.codeIn K cdIR "Rest.__init__" = true)
    (kIR : PySem.W.keepIn K (.ref fIR) = true)
    (naR0 : PySem.W.findIn K (.ref CR) "form" = some none)
    (naR1 : PySem.W.findIn K (.ref CR) "parts" = some none)
    (naR2 : PySem.W.findIn K (.ref CR) "children" = some none)
    (naR3 : PySem.W.findIn K (.ref CR) "size" = some none)
    (naR4 : PySem.W.findIn K (.ref CR) "levels" = some none)
    (naR5 : PySem.W.findIn K (.ref CR) "text" = some none)
    (naR6 : PySem.W.findIn K (.ref CR) "name" = some none)
    (stR : PySem.W.kitOne K (.ref CR) (.type "str") = some false)
    (tuR : PySem.W.kitOne K (.ref CR) (.type "tuple") = some false)
    (bsR : PySem.W.kitOne K (.type "str") (.ref CR) = some false)
    (btR : PySem.W.kitOne K (.type "tuple") (.ref CR) = some false)
    (ktRT : PySem.W.kitOne K (.ref CR) (.ref CT) = some false)
    (ktRL : PySem.W.kitOne K (.ref CR) (.ref CL) = some false)
    (ktRV : PySem.W.kitOne K (.ref CR) (.ref CV) = some false)
    (ktRW : PySem.W.kitOne K (.ref CR) (.ref CW) = some false)
    (ktRR : PySem.W.kitOne K (.ref CR) (.ref CR) = some true)
    (ndC : [CT, CL, CV, CW, CR].Nodup)
    (no0W : PySem.W.kitOne K (.type "NoneType") (.ref CW) = some false)
    (no0R : PySem.W.kitOne K (.type "NoneType") (.ref CR) = some false)
    (no0A : PySem.W.kitAny K (.type "NoneType") [.ref CL, .ref CT, .ref CV] = some false)
    (no1W : PySem.W.kitOne K (.type "bool") (.ref CW) = some false)
    (no1R : PySem.W.kitOne K (.type "bool") (.ref CR) = some false)
    (no1A : PySem.W.kitAny K (.type "bool") [.ref CL, .ref CT, .ref CV] = some false)
    (no2W : PySem.W.kitOne K (.type "int") (.ref CW) = some false)
    (no2R : PySem.W.kitOne K (.type "int") (.ref CR) = some false)
    (no2A : PySem.W.kitAny K (.type "int") [.ref CL, .ref CT, .ref CV] = some false)
    (no3W : PySem.W.kitOne K (.type "list") (.ref CW) = some false)
    (no3R : PySem.W.kitOne K (.type "list") (.ref CR) = some false)
    (no3A : PySem.W.kitAny K (.type "list") [.ref CL, .ref CT, .ref CV] = some false)
    (no4W : PySem.W.kitOne K (.type "dict") (.ref CW) = some false)
    (no4R : PySem.W.kitOne K (.type "dict") (.ref CR) = some false)
    (no4A : PySem.W.kitAny K (.type "dict") [.ref CL, .ref CT, .ref CV] = some false)
    (no5W : PySem.W.kitOne K (.type "tuple") (.ref CW) = some false)
    (no5R : PySem.W.kitOne K (.type "tuple") (.ref CR) = some false)
    (no5A : PySem.W.kitAny K (.type "tuple") [.ref CL, .ref CT, .ref CV] = some false)
    (nfTT : PySem.W.notFirst K CT (.ref CT) = true)
    (nfTL : PySem.W.notFirst K CT (.ref CL) = true)
    (nfTV : PySem.W.notFirst K CT (.ref CV) = true)
    (nfTW : PySem.W.notFirst K CT (.ref CW) = true)
    (nfTR : PySem.W.notFirst K CT (.ref CR) = true)
    (nbT0 : PySem.W.notFirst K CT (.type "NoneType") = true)
    (nkT0 : PySem.W.kitOne K (.type "NoneType") (.ref CT) = some false)
    (nbT1 : PySem.W.notFirst K CT (.type "int") = true)
    (nkT1 : PySem.W.kitOne K (.type "int") (.ref CT) = some false)
    (nbT2 : PySem.W.notFirst K CT (.type "str") = true)
    (nkT2 : PySem.W.kitOne K (.type "str") (.ref CT) = some false)
    (nbT3 : PySem.W.notFirst K CT (.type "tuple") = true)
    (nkT3 : PySem.W.kitOne K (.type "tuple") (.ref CT) = some false)
    (nfLT : PySem.W.notFirst K CL (.ref CT) = true)
    (nfLL : PySem.W.notFirst K CL (.ref CL) = true)
    (nfLV : PySem.W.notFirst K CL (.ref CV) = true)
    (nfLW : PySem.W.notFirst K CL (.ref CW) = true)
    (nfLR : PySem.W.notFirst K CL (.ref CR) = true)
    (nbL0 : PySem.W.notFirst K CL (.type "NoneType") = true)
    (nkL0 : PySem.W.kitOne K (.type "NoneType") (.ref CL) = some false)
    (nbL1 : PySem.W.notFirst K CL (.type "int") = true)
    (nkL1 : PySem.W.kitOne K (.type "int") (.ref CL) = some false)
    (nbL2 : PySem.W.notFirst K CL (.type "str") = true)
    (nkL2 : PySem.W.kitOne K (.type "str") (.ref CL) = some false)
    (nbL3 : PySem.W.notFirst K CL (.type "tuple") = true)
    (nkL3 : PySem.W.kitOne K (.type "tuple") (.ref CL) = some false)
    (nfVT : PySem.W.notFirst K CV (.ref CT) = true)
    (nfVL : PySem.W.notFirst K CV (.ref CL) = true)
    (nfVV : PySem.W.notFirst K CV (.ref CV) = true)
    (nfVW : PySem.W.notFirst K CV (.ref CW) = true)
    (nfVR : PySem.W.notFirst K CV (.ref CR) = true)
    (nbV0 : PySem.W.notFirst K CV (.type "NoneType") = true)
    (nkV0 : PySem.W.kitOne K (.type "NoneType") (.ref CV) = some false)
    (nbV1 : PySem.W.notFirst K CV (.type "int") = true)
    (nkV1 : PySem.W.kitOne K (.type "int") (.ref CV) = some false)
    (nbV2 : PySem.W.notFirst K CV (.type "str") = true)
    (nkV2 : PySem.W.kitOne K (.type "str") (.ref CV) = some false)
    (nbV3 : PySem.W.notFirst K CV (.type "tuple") = true)
    (nkV3 : PySem.W.kitOne K (.type "tuple") (.ref CV) = some false)
    (nfWT : PySem.W.notFirst K CW (.ref CT) = true)
    (nfWL : PySem.W.notFirst K CW (.ref CL) = true)
    (nfWV : PySem.W.notFirst K CW (.ref CV) = true)
    (nfWW : PySem.W.notFirst K CW (.ref CW) = true)
    (nfWR : PySem.W.notFirst K CW (.ref CR) = true)
    (nbW0 : PySem.W.notFirst K CW (.type "NoneType") = true)
    (nkW0 : PySem.W.kitOne K (.type "NoneType") (.ref CW) = some false)
    (nbW1 : PySem.W.notFirst K CW (.type "int") = true)
    (nkW1 : PySem.W.kitOne K (.type "int") (.ref CW) = some false)
    (nbW2 : PySem.W.notFirst K CW (.type "str") = true)
    (nkW2 : PySem.W.kitOne K (.type "str") (.ref CW) = some false)
    (nbW3 : PySem.W.notFirst K CW (.type "tuple") = true)
    (nkW3 : PySem.W.kitOne K (.type "tuple") (.ref CW) = some false)
    (nfRT : PySem.W.notFirst K CR (.ref CT) = true)
    (nfRL : PySem.W.notFirst K CR (.ref CL) = true)
    (nfRV : PySem.W.notFirst K CR (.ref CV) = true)
    (nfRW : PySem.W.notFirst K CR (.ref CW) = true)
    (nfRR : PySem.W.notFirst K CR (.ref CR) = true)
    (nbR0 : PySem.W.notFirst K CR (.type "NoneType") = true)
    (nkR0 : PySem.W.kitOne K (.type "NoneType") (.ref CR) = some false)
    (nbR1 : PySem.W.notFirst K CR (.type "int") = true)
    (nkR1 : PySem.W.kitOne K (.type "int") (.ref CR) = some false)
    (nbR2 : PySem.W.notFirst K CR (.type "str") = true)
    (nkR2 : PySem.W.kitOne K (.type "str") (.ref CR) = some false)
    (nbR3 : PySem.W.notFirst K CR (.type "tuple") = true)
    (nkR3 : PySem.W.kitOne K (.type "tuple") (.ref CR) = some false)
    (Trd : PySem.W.readsIn K CT mc = true)
    (Tga : PySem.W.specialIn K (.ref CT) "__getattribute__" = some (some (.builtin "type.__getattribute__")))
    (Lrd : PySem.W.readsIn K CL mc = true)
    (Lga : PySem.W.specialIn K (.ref CL) "__getattribute__" = some (some (.builtin "type.__getattribute__")))
    (mxN : PySem.W.findCls K (.ref CT) mc "MAX_NODES" = some (.val (.int 400 tMN)))
    (mxL : PySem.W.findCls K (.ref CT) mc "MAX_LEVELS" = some (.val (.int 100 tML)))
    (lxS : PySem.W.findCls K (.ref CL) mc "MAX_SIZE" = some (.val (.int 60 tMS)))
    (lxL : PySem.W.findCls K (.ref CL) mc "MAX_LEVELS" = some (.val (.int 8 tMV)))
    (iTe : PySem.W.findIn K (.ref CT) "__eq__" = some (some (.ref fTe)))
    (nTe : PySem.W.isFn K (.ref fTe) = true)
    (wTe : PySem.W.fnIn K fTe = true)
    (lTe : K.lookup fTe = some ⟨ocTe, odTe, .func (PySem.W.fnOf "__eq__" "Tree.__eq__" (defArgs sTreeEq) (defBody sTreeEq) (defScope sTreeEq) .none kVTe dcTe pmTe anTe cdTe ctTe), slTe⟩)
    (cTed : PySem.W.codeIn K cdTe "Tree.__eq__" = true)
    (kTe : PySem.W.keepIn K (.ref fTe) = true)
    (Tene : PySem.W.findIn K (.ref CT) "__ne__" = some (some (.builtin "object.__ne__")))
    (iVe : PySem.W.findIn K (.ref CV) "__eq__" = some (some (.ref fVe)))
    (nVe : PySem.W.isFn K (.ref fVe) = true)
    (wVe : PySem.W.fnIn K fVe = true)
    (lVe : K.lookup fVe = some ⟨ocVe, odVe, .func (PySem.W.fnOf "__eq__" "Var.__eq__" (defArgs sVarEq) (defBody sVarEq) (defScope sVarEq) .none kVVe dcVe pmVe anVe cdVe ctVe), slVe⟩)
    (cVed : PySem.W.codeIn K cdVe "Var.__eq__" = true)
    (kVe : PySem.W.keepIn K (.ref fVe) = true)
    (Vene : PySem.W.findIn K (.ref CV) "__ne__" = some (some (.builtin "object.__ne__")))
    (iWe : PySem.W.findIn K (.ref CW) "__eq__" = some (some (.ref fWe)))
    (nWe : PySem.W.isFn K (.ref fWe) = true)
    (wWe : PySem.W.fnIn K fWe = true)
    (lWe : K.lookup fWe = some ⟨ocWe, odWe, .func (PySem.W.fnOf "__eq__" "Word.__eq__" (defArgs sWordEq) (defBody sWordEq) (defScope sWordEq) .none kVWe dcWe pmWe anWe cdWe ctWe), slWe⟩)
    (cWed : PySem.W.codeIn K cdWe "Word.__eq__" = true)
    (kWe : PySem.W.keepIn K (.ref fWe) = true)
    (Wene : PySem.W.findIn K (.ref CW) "__ne__" = some (some (.builtin "object.__ne__")))
    (iRe : PySem.W.findIn K (.ref CR) "__eq__" = some (some (.ref fRe)))
    (nRe : PySem.W.isFn K (.ref fRe) = true)
    (wRe : PySem.W.fnIn K fRe = true)
    (lRe : K.lookup fRe = some ⟨ocRe, odRe, .func (PySem.W.fnOf "__eq__" "Rest.__eq__" (defArgs sRestEq) (defBody sRestEq) (defScope sRestEq) .none kVRe dcRe pmRe anRe cdRe ctRe), slRe⟩)
    (cRed : PySem.W.codeIn K cdRe "Rest.__eq__" = true)
    (kRe : PySem.W.keepIn K (.ref fRe) = true)
    (Rene : PySem.W.findIn K (.ref CR) "__ne__" = some (some (.builtin "object.__ne__")))
    (iLe : PySem.W.findIn K (.ref CL) "__eq__" = some (some (.ref fLe)))
    (nLe : PySem.W.isFn K (.ref fLe) = true)
    (wLe : PySem.W.fnIn K fLe = true)
    (lLe : K.lookup fLe = some ⟨ocLe, odLe, .func (PySem.W.fnOf "__eq__" "Like.__eq__" (defArgs sLikeEq) (defBody sLikeEq) (defScope sLikeEq) .none kVLe dcLe pmLe anLe cdLe ctLe), slLe⟩)
    (cLed : PySem.W.codeIn K cdLe "Like.__eq__" = true)
    (kLe : PySem.W.keepIn K (.ref fLe) = true)
    (Lene : PySem.W.findIn K (.ref CL) "__ne__" = some (some (.builtin "object.__ne__")))
    (iTh : PySem.W.findIn K (.ref CT) "__contains__" = some (some (.ref fTh)))
    (nTh : PySem.W.isFn K (.ref fTh) = true)
    (wTh : PySem.W.fnIn K fTh = true)
    (lTh : K.lookup fTh = some ⟨ocTh, odTh, .func (PySem.W.fnOf "__contains__" "Tree.__contains__" (defArgs sTreeHas) (defBody sTreeHas) (defScope sTreeHas) .none kVTh dcTh pmTh anTh cdTh ctTh), slTh⟩)
    (cThd : PySem.W.codeIn K cdTh "Tree.__contains__" = true)
    (kTh : PySem.W.keepIn K (.ref fTh) = true)
    (iPu : PySem.W.findIn K (.ref CT) "put" = some (some (.ref fPu)))
    (nPu : PySem.W.isFn K (.ref fPu) = true)
    (wPu : PySem.W.fnIn K fPu = true)
    (lPu : K.lookup fPu = some ⟨ocPu, odPu, .func (PySem.W.fnOf "put" "Tree.put" (defArgs sPut) (defBody sPut) (defScope sPut) .none kVPu dcPu pmPu anPu cdPu ctPu), slPu⟩)
    (cPud : PySem.W.codeIn K cdPu "Tree.put" = true)
    (kPu : PySem.W.keepIn K (.ref fPu) = true)
    (aCS : PySem.W.nsIn K mainGlobals "RuleengineError" = some (some (.ref CS)))
    (aCE_ : PySem.W.nsIn K mainGlobals "InvalidTree" = some (some (.ref CI)))
    (xLE : K.lookup CI = some (excClassObj nmE qE CI NNE bsE bmE true snE subE abE colE ddE m0E m1E m2E m3E m5E "ValueError.__new__"))
    (rvE : HandSPX.refsVE bmE = true)
    (esaE : PySem.W.findIn K (.ref CI) "__setattr__" = some (some (.builtin "object.__setattr__")))
    (eexE : PySem.W.subIn K (.ref CI) (.type "BaseException") = some true)
    (etyE : PySem.W.typeIn K (.ref CI) = some (.type "type"))
    (ekpE : PySem.W.keepIn K (.ref CI) = true)
    (efiE : PySem.W.findIn K (.ref CI) "__init__" = some (some (.ref fE)))
    (etiE : PySem.W.typeIn K (.ref fE) = some (.type "function"))
    (lEE : K.lookup fE = some ⟨ocE, odE, .func (PySem.W.ksFn "__init__" "InvalidTree.__init__" (defArgs sErrInit) (defBody sErrInit) (defScope sErrInit) .none kVE dcE pmE anE (.ref cdaE) ctE ccE), slE⟩)
    (ecdE : PySem.W.codeIn K (.ref cdaE) "InvalidTree.__init__" = true)
    (xcE : K.lookup cdaE = some ⟨cclE, cddE, .fields cvsE, ccsE⟩)
    (v2E : cvsE[2]? = some (.str fileE tfE))
    (pfE : ((P.main.file : Str) == fileE) = true)
    (xccE : K.lookup ccE = some ⟨clE, cldE, .cell (some (.ref CI)), cslE⟩)
    (emrE : PySem.W.mroIn K CI (.ref CI) = some true)
    (ealE : PySem.W.alongIn K "__init__" bmE = some (some (.builtin "ValueError.__init__")))
    (eveE : PySem.W.subIn K (.ref CI) (.type "ValueError") = some true)
    (eeiE : PySem.W.excInitIn K CI [.type "ValueError", .type "Exception", .type "BaseException", .type "object"] "ValueError.__new__" = true)
    (enf0E : PySem.W.findIn K (.ref CI) "part" = some none)
    (egaE : PySem.W.findIn K (.ref CI) "__getattribute__" = some (some (.builtin "BaseException.__getattribute__")))
    (eggE : PySem.W.findIn K (.ref CI) "__getattr__" = some none)
    (ehdE : PySem.W.hasDictIn K CI = true)
    (ecaE : PySem.W.findIn K (.ref CI) "__class__" = some (some (.builtin "object.__class__")))
    (emoE : PySem.W.mroIn K CI (.type "object") = some true)
    (exmE : PySem.W.exmOne K (.ref CI) (.ref CS) = some true)
    (ekkE : PySem.W.kitOne K (.ref CI) (.ref CI) = some true)
    (aCP_ : PySem.W.nsIn K mainGlobals "InvalidPart" = some (some (.ref CP)))
    (xLP : K.lookup CP = some (excClassObj nmP qP CP NNP bsP bmP true snP subP abP colP ddP m0P m1P m2P m3P m5P "ValueError.__new__"))
    (rvP : HandSPX.refsVE bmP = true)
    (esaP : PySem.W.findIn K (.ref CP) "__setattr__" = some (some (.builtin "object.__setattr__")))
    (eexP : PySem.W.subIn K (.ref CP) (.type "BaseException") = some true)
    (etyP : PySem.W.typeIn K (.ref CP) = some (.type "type"))
    (ekpP : PySem.W.keepIn K (.ref CP) = true)
    (efiP : PySem.W.findIn K (.ref CP) "__init__" = some (some (.ref fP)))
    (etiP : PySem.W.typeIn K (.ref fP) = some (.type "function"))
    (lEP : K.lookup fP = some ⟨ocP, odP, .func (PySem.W.ksFn "__init__" "InvalidPart.__init__" (defArgs sPartErr) (defBody sPartErr) (defScope sPartErr) .none kVP dcP pmP anP (.ref cdaP) ctP ccP), slP⟩)
    (ecdP : PySem.W.codeIn K (.ref cdaP) "InvalidPart.__init__" = true)
    (xcP : K.lookup cdaP = some ⟨cclP, cddP, .fields cvsP, ccsP⟩)
    (v2P : cvsP[2]? = some (.str fileP tfP))
    (pfP : ((P.main.file : Str) == fileP) = true)
    (xccP : K.lookup ccP = some ⟨clP, cldP, .cell (some (.ref CP)), cslP⟩)
    (emrP : PySem.W.mroIn K CP (.ref CP) = some true)
    (ealP : PySem.W.alongIn K "__init__" bmP = some (some (.builtin "ValueError.__init__")))
    (eveP : PySem.W.subIn K (.ref CP) (.type "ValueError") = some true)
    (eeiP : PySem.W.excInitIn K CP [.type "ValueError", .type "Exception", .type "BaseException", .type "object"] "ValueError.__new__" = true)
    (enf0P : PySem.W.findIn K (.ref CP) "part" = some none)
    (egaP : PySem.W.findIn K (.ref CP) "__getattribute__" = some (some (.builtin "BaseException.__getattribute__")))
    (eggP : PySem.W.findIn K (.ref CP) "__getattr__" = some none)
    (ehdP : PySem.W.hasDictIn K CP = true)
    (ecaP : PySem.W.findIn K (.ref CP) "__class__" = some (some (.builtin "object.__class__")))
    (emoP : PySem.W.mroIn K CP (.type "object") = some true)
    (exmP : PySem.W.exmOne K (.ref CP) (.ref CS) = some true)
    (ekkP : PySem.W.kitOne K (.ref CP) (.ref CP) = some true)
    (sup : PySem.W.nsIn K mainGlobals "super" = some none)
    (opq : PySem.W.nsIn K cStatics "thirdparty.any" = some none)
    (etop : (P.main.scope.names.lookup ("super" : Str)).isSome = false)
    (ecg : PySem.W.specialIn K (.builtin "object.__class__") "__get__" = some (some (.builtin "getset_descriptor.__get__")))
    (etk : PySem.W.takesIn K (.builtin "object.__class__") = some true)
    (zI : PySem.W.nsIn K mainGlobals "isinstance" = some none)
    (zS : PySem.W.nsIn K mainGlobals "str" = some none)
    (zL : PySem.W.nsIn K mainGlobals "len" = some none)
    (zA : PySem.W.nsIn K mainGlobals "all" = some none)
    (zT : PySem.W.nsIn K mainGlobals "tuple" = some none)
    (zR : PySem.W.nsIn K mainGlobals "range" = some none)
    (zE : PySem.W.nsIn K mainGlobals "enumerate" = some none)
    (zLi : PySem.W.nsIn K mainGlobals "list" = some none)
    (zRp : PySem.W.nsIn K mainGlobals "repr" = some none)
    (zRv : PySem.W.nsIn K mainGlobals "reversed" = some none)
    (zZip : PySem.W.nsIn K mainGlobals "zip" = some none)
    (yMx : PySem.W.nsIn K mainGlobals "MAX_NAME" = some (some (.int 20 tMx)))
    (yLt : PySem.W.nsIn K mainGlobals "LETTERS" = some (some (.str LET tLt)))
    (ySg : PySem.W.nsIn K mainGlobals "NAME_SIGNS" = some (some (.str SIG tSg)))
    (yMt : PySem.W.nsIn K mainGlobals "MAX_TEXT" = some (some (.int 60 tMt)))
    (tNR : PySem.W.codeHdIn K cNR pNR = true)
    (nTNR : K.lookup pNR = none)
    (tLK : PySem.W.codeHdIn K cLK pLK = true)
    (nTLK : K.lookup pLK = none)
    (tLI : PySem.W.codeHdIn K cLI pLI = true)
    (nTLI : K.lookup pLI = none)
    (np1 : pNR ≠ pLK)
    (np2 : pNR ≠ pLI)
    (np3 : pLK ≠ pLI) :
    ∃ cs fd sp, TopG l.prog w K mg L2.CX0 11 fa "_law_script" cs fd sp h 63 := by
  have e := hfa.symm.trans (PySem.W.mg_of X G aL)
  cases e
  subst eP
  have FN0 := fun_mk (st := sName) lN cNd kN
  have FN := FN0
  have bN := FN0.binds (ps := ["value"]) fun _ _ _ _ _ _ us hl => match us, hl with | [_], _ => rfl
  have gN := PySem.W.mg_of X G aN
  have AN : DefA K mg "is_name" ["value"] fN _ := ⟨gN, kN, bN⟩
  have FNd0 := fun_mk (st := sIsNode) lNd cNdd kNd
  have FNd := FNd0
  have bNd := FNd0.binds (ps := ["value"]) fun _ _ _ _ _ _ us hl => match us, hl with | [_], _ => rfl
  have gNd := PySem.W.mg_of X G aNd
  have ANd : DefA K mg "is_node" ["value"] fNd _ := ⟨gNd, kNd, bNd⟩
  have FTP0 := fun_mk (st := sTreePart) lTP cTPd kTP
  have FTP := FTP0
  have bTP := FTP0.binds (ps := ["part"]) fun _ _ _ _ _ _ us hl => match us, hl with | [_], _ => rfl
  have gTP := PySem.W.mg_of X G aTP
  have ATP : DefA K mg "_is_tree_part" ["part"] fTP _ := ⟨gTP, kTP, bTP⟩
  have FLP0 := fun_mk (st := sLikePart) lLP cLPd kLP
  have FLP := FLP0
  have bLP := FLP0.binds (ps := ["part"]) fun _ _ _ _ _ _ us hl => match us, hl with | [_], _ => rfl
  have gLP := PySem.W.mg_of X G aLP
  have ALP : DefA K mg "_is_like_part" ["part"] fLP _ := ⟨gLP, kLP, bLP⟩
  have FLR0 := fun_mk (st := sLikeRow) lLR cLRd kLR
  have FLR := FLR0
  have bLR := FLR0.binds (ps := ["row"]) fun _ _ _ _ _ _ us hl => match us, hl with | [_], _ => rfl
  have gLR := PySem.W.mg_of X G aLR
  have ALR : DefA K mg "_is_like_row" ["row"] fLR _ := ⟨gLR, kLR, bLR⟩
  have FRI0 := fun_mk (st := sRowItems) lRI cRId kRI
  have FRI := FRI0
  have bRI := FRI0.binds (ps := ["row"]) fun _ _ _ _ _ _ us hl => match us, hl with | [_], _ => rfl
  have gRI := PySem.W.mg_of X G aRI
  have ARI : DefA K mg "row_items" ["row"] fRI _ := ⟨gRI, kRI, bRI⟩
  have FNA0 := fun_mk (st := sNodesAmong) lNA cNAd kNA
  have FNA := FNA0
  have bNA := FNA0.binds (ps := ["parts"]) fun _ _ _ _ _ _ us hl => match us, hl with | [_], _ => rfl
  have gNA := PySem.W.mg_of X G aNA
  have ANA : DefA K mg "nodes_among" ["parts"] fNA _ := ⟨gNA, kNA, bNA⟩
  have FMS0 := fun_mk (st := sMeasures) lMS cMSd kMS
  have FMS := FMS0
  have bMS := FMS0.binds (ps := ["nodes"]) fun _ _ _ _ _ _ us hl => match us, hl with | [_], _ => rfl
  have gMS := PySem.W.mg_of X G aMS
  have AMS : DefA K mg "_measures_above" ["nodes"] fMS _ := ⟨gMS, kMS, bMS⟩
  have FAt0 := fun_mk (st := sNodeAt) lAt cAtd kAt
  have FAt := FAt0
  have bAt := FAt0.binds (ps := ["tree", "path"]) fun _ _ _ _ _ _ us hl => match us, hl with | [_, _], _ => rfl
  have gAt := PySem.W.mg_of X G aAt
  have AAt : DefA K mg "_node_at" ["tree", "path"] fAt _ := ⟨gAt, kAt, bAt⟩
  have FNX0 := fun_mk (st := sNodeText) lNX cNXd kNX
  have FNX := FNX0
  have bNX := FNX0.binds (ps := ["form", "parts"]) fun _ _ _ _ _ _ us hl => match us, hl with | [_, _], _ => rfl
  have gNX := PySem.W.mg_of X G aNX
  have ANX : DefA K mg "_node_text" ["form", "parts"] fNX _ := ⟨gNX, kNX, bNX⟩
  have FPT0 := fun_mk (st := sPartText) lPT cPTd kPT
  have FPT := FPT0
  have bPT := FPT0.binds (ps := ["part"]) fun _ _ _ _ _ _ us hl => match us, hl with | [_], _ => rfl
  have gPT := PySem.W.mg_of X G aPT
  have APT : DefA K mg "part_text" ["part"] fPT _ := ⟨gPT, kPT, bPT⟩
  have FQ0 := fun_mk (st := sQuoted) lQ cQd kQ
  have FQ := FQ0
  have bQ := FQ0.binds (ps := ["text"]) fun _ _ _ _ _ _ us hl => match us, hl with | [_], _ => rfl
  have gQ := PySem.W.mg_of X G aQ
  have AQ : DefA K mg "_quoted" ["text"] fQ _ := ⟨gQ, kQ, bQ⟩
  have FM0 := fun_mk (st := sMixed) lM cMd kM
  have FM := FM0
  have bM := FM0.binds (ps := ["_law_cell", "_law_n"]) fun _ _ _ _ _ _ us hl => match us, hl with | [_, _], _ => rfl
  have gM := PySem.W.mg_of X G aM
  have AM : DefA K mg "_law_mixed" ["_law_cell", "_law_n"] fM _ := ⟨gM, kM, bM⟩
  have FFo0 := fun_mk (st := sFolded) lFo cFod kFo
  have FFo := FFo0
  have bFo := FFo0.binds (ps := ["_law_script"]) fun _ _ _ _ _ _ us hl => match us, hl with | [_], _ => rfl
  have gFo := PySem.W.mg_of X G aFo
  have AFo : DefA K mg "_law_folded" ["_law_script"] fFo _ := ⟨gFo, kFo, bFo⟩
  have FDr0 := fun_mk (st := sDraw) lDr cDrd kDr
  have FDr := FDr0
  have bDr := FDr0.binds (ps := ["_law_m", "_law_top"]) fun _ _ _ _ _ _ us hl => match us, hl with | [_, _], _ => rfl
  have gDr := PySem.W.mg_of X G aDr
  have ADr : DefA K mg "_law_draw" ["_law_m", "_law_top"] fDr _ := ⟨gDr, kDr, bDr⟩
  have FBg0 := fun_mk (st := sBegun) lBg cBgd kBg
  have FBg := FBg0
  have bBg := FBg0.binds (ps := ["_law_script"]) fun _ _ _ _ _ _ us hl => match us, hl with | [_], _ => rfl
  have gBg := PySem.W.mg_of X G aBg
  have ABg : DefA K mg "_law_begun" ["_law_script"] fBg _ := ⟨gBg, kBg, bBg⟩
  have FD20 := fun_mk (st := sDoubled) lD2 cD2d kD2
  have FD2 := FD20
  have bD2 := FD20.binds (ps := ["_law_kind_of"]) fun _ _ _ _ _ _ us hl => match us, hl with | [_], _ => rfl
  have gD2 := PySem.W.mg_of X G aD2
  have AD2 : DefA K mg "_law_doubled" ["_law_kind_of"] fD2 _ := ⟨gD2, kD2, bD2⟩
  have FIN0 := fun_mk (st := sIsName) lIN cINd kIN
  have FIN := FIN0
  have bIN := FIN0.binds (ps := ["_law_thing"]) fun _ _ _ _ _ _ us hl => match us, hl with | [_], _ => rfl
  have gIN := PySem.W.mg_of X G aIN
  have AIN : DefA K mg "_law_is_name" ["_law_thing"] fIN _ := ⟨gIN, kIN, bIN⟩
  have FFa0 := fun_mk (st := sFault) lFa cFad kFa
  have FFa := FFa0
  have bFa := FFa0.binds (ps := ["_law_call"]) fun _ _ _ _ _ _ us hl => match us, hl with | [_], _ => rfl
  have gFa := PySem.W.mg_of X G aFa
  have AFa : DefA K mg "_law_fault" ["_law_call"] fFa _ := ⟨gFa, kFa, bFa⟩
  have FNw0 := fun_mk (st := sNew) lNw cNwd kNw
  have FNw := FNw0
  have bNw := FNw0.binds (ps := ["_law_word", "_law_r"]) fun _ _ _ _ _ _ us hl => match us, hl with | [_, _], _ => rfl
  have gNw := PySem.W.mg_of X G aNw
  have ANw : DefA K mg "_law_new" ["_law_word", "_law_r"] fNw _ := ⟨gNw, kNw, bNw⟩
  have FNR0 := fun_mk (st := sNamesRight) lNR cNRd kNR
  have FNR : FunC K "_law_names_right" "_law_names_right" sNamesRight fNR _ cNR := ⟨⟨_, _, _, _, _, _, _, _, rfl, lNR, cNRd⟩, kNR⟩
  have bNR := FNR0.binds (ps := ["_law_word"]) fun _ _ _ _ _ _ us hl => match us, hl with | [_], _ => rfl
  have gNR := PySem.W.mg_of X G aNR
  have ANR : DefA K mg "_law_names_right" ["_law_word"] fNR _ := ⟨gNR, kNR, bNR⟩
  have FGO0 := fun_mk (st := sGoods) lGO cGOd kGO
  have FGO := FGO0
  have bGO := FGO0.binds (ps := []) fun _ _ _ _ _ _ us hl => match us, hl with | [], _ => rfl
  have gGO := PySem.W.mg_of X G aGO
  have AGO : DefA K mg "_law_goods" [] fGO _ := ⟨gGO, kGO, bGO⟩
  have FOD0 := fun_mk (st := sOdds) lOD cODd kOD
  have FOD := FOD0
  have bOD := FOD0.binds (ps := []) fun _ _ _ _ _ _ us hl => match us, hl with | [], _ => rfl
  have gOD := PySem.W.mg_of X G aOD
  have AOD : DefA K mg "_law_odds" [] fOD _ := ⟨gOD, kOD, bOD⟩
  have FLK0 := fun_mk (st := sLikeRight) lLK cLKd kLK
  have FLK : FunC K "_law_like_right" "_law_like_right" sLikeRight fLK _ cLK := ⟨⟨_, _, _, _, _, _, _, _, rfl, lLK, cLKd⟩, kLK⟩
  have bLK := FLK0.binds (ps := ["_law_m", "_law_word"]) fun _ _ _ _ _ _ us hl => match us, hl with | [_, _], _ => rfl
  have gLK := PySem.W.mg_of X G aLK
  have ALK : DefA K mg "_law_like_right" ["_law_m", "_law_word"] fLK _ := ⟨gLK, kLK, bLK⟩
  have FEQ0 := fun_mk (st := sEqualRight) lEQ cEQd kEQ
  have FEQ := FEQ0
  have bEQ := FEQ0.binds (ps := ["_law_m"]) fun _ _ _ _ _ _ us hl => match us, hl with | [_], _ => rfl
  have gEQ := PySem.W.mg_of X G aEQ
  have AEQ : DefA K mg "_law_equal_right" ["_law_m"] fEQ _ := ⟨gEQ, kEQ, bEQ⟩
  have FLI0 := fun_mk (st := sLimitsRight) lLI cLId kLI
  have FLI : FunC K "_law_limits_right" "_law_limits_right" sLimitsRight fLI _ cLI := ⟨⟨_, _, _, _, _, _, _, _, rfl, lLI, cLId⟩, kLI⟩
  have bLI := FLI0.binds (ps := []) fun _ _ _ _ _ _ us hl => match us, hl with | [], _ => rfl
  have gLI := PySem.W.mg_of X G aLI
  have ALI : DefA K mg "_law_limits_right" [] fLI _ := ⟨gLI, kLI, bLI⟩
  have FL0 := fun_mk (st := sLaw) lL cLd kL
  have FL := FL0
  have bL := FL0.binds (ps := ["_law_script"]) fun _ _ _ _ _ _ us hl => match us, hl with | [_], _ => rfl
  have gL := PySem.W.mg_of X G aL
  have AL : DefA K mg "law" ["_law_script"] fa _ := ⟨gL, kL, bL⟩
  have FIV : Fun K "__init__" "Var.__init__" sVarInit fIV _ := fun_mk (st := sVarInit) lIV cIVd kIV
  have bIV := FIV.binds (ps := ["self", "name"]) fun _ _ _ _ _ _ us hl => match us, hl with | [_, _], _ => rfl
  have FIW : Fun K "__init__" "Word.__init__" sWordInit fIW _ := fun_mk (st := sWordInit) lIW cIWd kIW
  have bIW := FIW.binds (ps := ["self", "name"]) fun _ _ _ _ _ _ us hl => match us, hl with | [_, _], _ => rfl
  have FIR : Fun K "__init__" "Rest.__init__" sRestInit fIR _ := fun_mk (st := sRestInit) lIR cIRd kIR
  have bIR := FIR.binds (ps := ["self", "name"]) fun _ _ _ _ _ _ us hl => match us, hl with | [_, _], _ => rfl
  have FTe : Fun K "__eq__" "Tree.__eq__" sTreeEq fTe _ := fun_mk (st := sTreeEq) lTe cTed kTe
  have bTe := FTe.binds (ps := ["self", "other"]) fun _ _ _ _ _ _ us hl => match us, hl with | [_, _], _ => rfl
  have FVe : Fun K "__eq__" "Var.__eq__" sVarEq fVe _ := fun_mk (st := sVarEq) lVe cVed kVe
  have bVe := FVe.binds (ps := ["self", "other"]) fun _ _ _ _ _ _ us hl => match us, hl with | [_, _], _ => rfl
  have FWe : Fun K "__eq__" "Word.__eq__" sWordEq fWe _ := fun_mk (st := sWordEq) lWe cWed kWe
  have bWe := FWe.binds (ps := ["self", "other"]) fun _ _ _ _ _ _ us hl => match us, hl with | [_, _], _ => rfl
  have FRe : Fun K "__eq__" "Rest.__eq__" sRestEq fRe _ := fun_mk (st := sRestEq) lRe cRed kRe
  have bRe := FRe.binds (ps := ["self", "other"]) fun _ _ _ _ _ _ us hl => match us, hl with | [_, _], _ => rfl
  have FLe : Fun K "__eq__" "Like.__eq__" sLikeEq fLe _ := fun_mk (st := sLikeEq) lLe cLed kLe
  have bLe := FLe.binds (ps := ["self", "other"]) fun _ _ _ _ _ _ us hl => match us, hl with | [_, _], _ => rfl
  have FTh : Fun K "__contains__" "Tree.__contains__" sTreeHas fTh _ := fun_mk (st := sTreeHas) lTh cThd kTh
  have bTh := FTh.binds (ps := ["self", "x"]) fun _ _ _ _ _ _ us hl => match us, hl with | [_, _], _ => rfl
  have FPu : Fun K "put" "Tree.put" sPut fPu _ := fun_mk (st := sPut) lPu cPud kPu
  have bPu := FPu.binds (ps := ["self", "path", "other"]) fun _ _ _ _ _ _ us hl => match us, hl with | [_, _, _], _ => rfl
  have FIT : Fun K "__init__" "Tree.__init__" sTreeInit fIT _ := fun_mk (st := sTreeInit) lIT cITd kIT
  have FIL : Fun K "__init__" "Like.__init__" sLikeInit fIL _ := fun_mk (st := sLikeInit) lIL cILd kIL
  have none_of : ∀ {x : Str}, PySem.W.nsIn K mainGlobals x = some none → mg x = none := fun {x} z => PySem.W.mg_none_of X G z
  have TN : TxtN mg := ⟨none_of zI, none_of zS, none_of zL, none_of zA, ⟨_, PySem.W.mg_of X G yMx⟩, ⟨_, PySem.W.mg_of X G yLt⟩, ⟨_, PySem.W.mg_of X G ySg⟩⟩
  have hclE : PySem.W.clsIn K CI = some { name := nmE, bases := bsE, mro := .ref CI :: bmE, ns := NNE, qualname := qE, hasDict := true, slotNames := snE, subclasses := subE, abstract := abE, collection := colE, hasDel := false } := by
    unfold PySem.W.clsIn
    rw [xLE]
  have ECE : ErrC l.prog K mg CI fE cdaE ccE "part" "InvalidTree.__init__" sErrInit :=
    { ox := ⟨⟨nmE, qE, NNE, bsE, bmE, snE, subE, abE, colE, ddE, m0E, m1E, m2E, m3E, m5E, xLE, rvE⟩, esaE, eexE, etyE, ekpE⟩, fi := efiE, ti := etiE, fn := ⟨_, _, _, _, _, _, _, _, lEE⟩, cd := ecdE, cod := ⟨_, _, _, _, _, _, xcE, v2E, pfE⟩, cel := ⟨_, _, _, xccE⟩, mr := emrE,
      al := fun cd hc => by
        rw [hclE] at hc
        cases hc
        have e0 : (Value.ref CI :: bmE).dropWhile (fun x => x != Value.ref CI) = Value.ref CI :: bmE := by
          rw [List.dropWhile_cons, if_neg (by simp)]
        show PySem.W.alongIn K "__init__" (((Value.ref CI :: bmE).dropWhile (fun x => x != Value.ref CI)).drop 1) = _
        rw [e0]
        exact ealE
      sup := sup, opq := opq, ve := eveE, ei := eeiE, nf := enf0E, top := etop }
  have hclP : PySem.W.clsIn K CP = some { name := nmP, bases := bsP, mro := .ref CP :: bmP, ns := NNP, qualname := qP, hasDict := true, slotNames := snP, subclasses := subP, abstract := abP, collection := colP, hasDel := false } := by
    unfold PySem.W.clsIn
    rw [xLP]
  have ECP : ErrC l.prog K mg CP fP cdaP ccP "part" "InvalidPart.__init__" sPartErr :=
    { ox := ⟨⟨nmP, qP, NNP, bsP, bmP, snP, subP, abP, colP, ddP, m0P, m1P, m2P, m3P, m5P, xLP, rvP⟩, esaP, eexP, etyP, ekpP⟩, fi := efiP, ti := etiP, fn := ⟨_, _, _, _, _, _, _, _, lEP⟩, cd := ecdP, cod := ⟨_, _, _, _, _, _, xcP, v2P, pfP⟩, cel := ⟨_, _, _, xccP⟩, mr := emrP,
      al := fun cd hc => by
        rw [hclP] at hc
        cases hc
        have e0 : (Value.ref CP :: bmP).dropWhile (fun x => x != Value.ref CP) = Value.ref CP :: bmP := by
          rw [List.dropWhile_cons, if_neg (by simp)]
        show PySem.W.alongIn K "__init__" (((Value.ref CP :: bmP).dropWhile (fun x => x != Value.ref CP)).drop 1) = _
        rw [e0]
        exact ealP
      sup := sup, opq := opq, ve := eveP, ei := eeiP, nf := enf0P, top := etop }
  have own : ∀ a ∈ (Cl5.mk CT CL CV CW CR).all, Own K a := fun a ha => by
    simp only [Cl5.all, List.mem_cons, List.not_mem_nil, or_false] at ha
    rcases ha with rfl | rfl | rfl | rfl | rfl
    · exact ⟨⟨qTpg, qThd, qTpo, qTsa⟩, qTha, ecg, etk, qTmo⟩
    · exact ⟨⟨qLpg, qLhd, qLpo, qLsa⟩, qLha, ecg, etk, qLmo⟩
    · exact ⟨⟨qVpg, qVhd, qVpo, qVsa⟩, qVha, ecg, etk, qVmo⟩
    · exact ⟨⟨qWpg, qWhd, qWpo, qWsa⟩, qWha, ecg, etk, qWmo⟩
    · exact ⟨⟨qRpg, qRhd, qRpo, qRsa⟩, qRha, ecg, etk, qRmo⟩
  have kitP : ∀ a ∈ (Cl5.mk CT CL CV CW CR).all, ∀ b ∈ (Cl5.mk CT CL CV CW CR).all, PySem.W.kitOne K (.ref a) (.ref b) = some (decide (a = b)) := fun a ha b hb => by
    have nd := ndC
    simp only [List.nodup_cons, List.mem_cons, List.not_mem_nil, or_false, not_or, not_false_eq_true, List.nodup_nil, and_true] at nd
    obtain ⟨⟨n01, n02, n03, n04⟩, ⟨n12, n13, n14⟩, ⟨n23, n24⟩, n34⟩ := nd
    simp only [Cl5.all, List.mem_cons, List.not_mem_nil, or_false] at ha hb
    rcases ha with rfl | rfl | rfl | rfl | rfl
    · rcases hb with h | h | h | h | h
      · rw [h, decide_eq_true rfl]; exact ktTT
      · rw [h, decide_eq_false n01]; exact ktTL
      · rw [h, decide_eq_false n02]; exact ktTV
      · rw [h, decide_eq_false n03]; exact ktTW
      · rw [h, decide_eq_false n04]; exact ktTR
    · rcases hb with h | h | h | h | h
      · rw [h, decide_eq_false (Ne.symm n01)]; exact ktLT
      · rw [h, decide_eq_true rfl]; exact ktLL
      · rw [h, decide_eq_false n12]; exact ktLV
      · rw [h, decide_eq_false n13]; exact ktLW
      · rw [h, decide_eq_false n14]; exact ktLR
    · rcases hb with h | h | h | h | h
      · rw [h, decide_eq_false (Ne.symm n02)]; exact ktVT
      · rw [h, decide_eq_false (Ne.symm n12)]; exact ktVL
      · rw [h, decide_eq_true rfl]; exact ktVV
      · rw [h, decide_eq_false n23]; exact ktVW
      · rw [h, decide_eq_false n24]; exact ktVR
    · rcases hb with h | h | h | h | h
      · rw [h, decide_eq_false (Ne.symm n03)]; exact ktWT
      · rw [h, decide_eq_false (Ne.symm n13)]; exact ktWL
      · rw [h, decide_eq_false (Ne.symm n23)]; exact ktWV
      · rw [h, decide_eq_true rfl]; exact ktWW
      · rw [h, decide_eq_false n34]; exact ktWR
    · rcases hb with h | h | h | h | h
      · rw [h, decide_eq_false (Ne.symm n04)]; exact ktRT
      · rw [h, decide_eq_false (Ne.symm n14)]; exact ktRL
      · rw [h, decide_eq_false (Ne.symm n24)]; exact ktRV
      · rw [h, decide_eq_false (Ne.symm n34)]; exact ktRW
      · rw [h, decide_eq_true rfl]; exact ktRR
  have stP : ∀ a ∈ (Cl5.mk CT CL CV CW CR).all, PySem.W.kitOne K (.ref a) (.type "str") = some false := fun a ha => by
    simp only [Cl5.all, List.mem_cons, List.not_mem_nil, or_false] at ha
    rcases ha with rfl | rfl | rfl | rfl | rfl
    · exact stT
    · exact stL
    · exact stV
    · exact stW
    · exact stR
  have tuP : ∀ a ∈ (Cl5.mk CT CL CV CW CR).all, PySem.W.kitOne K (.ref a) (.type "tuple") = some false := fun a ha => by
    simp only [Cl5.all, List.mem_cons, List.not_mem_nil, or_false] at ha
    rcases ha with rfl | rfl | rfl | rfl | rfl
    · exact tuT
    · exact tuL
    · exact tuV
    · exact tuW
    · exact tuR
  have bsP : ∀ a ∈ (Cl5.mk CT CL CV CW CR).all, PySem.W.kitOne K (.type "str") (.ref a) = some false := fun a ha => by
    simp only [Cl5.all, List.mem_cons, List.not_mem_nil, or_false] at ha
    rcases ha with rfl | rfl | rfl | rfl | rfl
    · exact bsT
    · exact bsL
    · exact bsV
    · exact bsW
    · exact bsR
  have btP : ∀ a ∈ (Cl5.mk CT CL CV CW CR).all, PySem.W.kitOne K (.type "tuple") (.ref a) = some false := fun a ha => by
    simp only [Cl5.all, List.mem_cons, List.not_mem_nil, or_false] at ha
    rcases ha with rfl | rfl | rfl | rfl | rfl
    · exact btT
    · exact btL
    · exact btV
    · exact btW
    · exact btR
  have T5 : Ty5 K ⟨CT, CL, CV, CW, CR⟩ := ⟨own, ndC, kitP, stP, tuP, bsP, btP⟩
  have N5 : Na5 K ⟨CT, CL, CV, CW, CR⟩ := ⟨fun a ha f hf => by
    simp only [Cl5.all, List.mem_cons, List.not_mem_nil, or_false] at ha
    simp only [List.mem_cons, List.not_mem_nil, or_false] at hf
    rcases ha with rfl | rfl | rfl | rfl | rfl
    · rcases hf with h | h | h | h | h | h | h <;> rw [h]
      · exact naT0
      · exact naT1
      · exact naT2
      · exact naT3
      · exact naT4
      · exact naT5
      · exact naT6
    · rcases hf with h | h | h | h | h | h | h <;> rw [h]
      · exact naL0
      · exact naL1
      · exact naL2
      · exact naL3
      · exact naL4
      · exact naL5
      · exact naL6
    · rcases hf with h | h | h | h | h | h | h <;> rw [h]
      · exact naV0
      · exact naV1
      · exact naV2
      · exact naV3
      · exact naV4
      · exact naV5
      · exact naV6
    · rcases hf with h | h | h | h | h | h | h <;> rw [h]
      · exact naW0
      · exact naW1
      · exact naW2
      · exact naW3
      · exact naW4
      · exact naW5
      · exact naW6
    · rcases hf with h | h | h | h | h | h | h <;> rw [h]
      · exact naR0
      · exact naR1
      · exact naR2
      · exact naR3
      · exact naR4
      · exact naR5
      · exact naR6⟩
  have NF5x : NF5 K ⟨CT, CL, CV, CW, CR⟩ := ⟨fun a ha b hb => by
    simp only [Cl5.all, List.mem_cons, List.not_mem_nil, or_false] at ha hb
    rcases ha with rfl | rfl | rfl | rfl | rfl
    · rcases hb with h | h | h | h | h <;> rw [h]
      · exact nfTT
      · exact nfTL
      · exact nfTV
      · exact nfTW
      · exact nfTR
    · rcases hb with h | h | h | h | h <;> rw [h]
      · exact nfLT
      · exact nfLL
      · exact nfLV
      · exact nfLW
      · exact nfLR
    · rcases hb with h | h | h | h | h <;> rw [h]
      · exact nfVT
      · exact nfVL
      · exact nfVV
      · exact nfVW
      · exact nfVR
    · rcases hb with h | h | h | h | h <;> rw [h]
      · exact nfWT
      · exact nfWL
      · exact nfWV
      · exact nfWW
      · exact nfWR
    · rcases hb with h | h | h | h | h <;> rw [h]
      · exact nfRT
      · exact nfRL
      · exact nfRV
      · exact nfRW
      · exact nfRR, fun a ha s hs => by
    simp only [Cl5.all, List.mem_cons, List.not_mem_nil, or_false] at ha hs
    rcases ha with rfl | rfl | rfl | rfl | rfl
    · rcases hs with h | h | h | h <;> rw [h]
      · exact ⟨nbT0, nkT0⟩
      · exact ⟨nbT1, nkT1⟩
      · exact ⟨nbT2, nkT2⟩
      · exact ⟨nbT3, nkT3⟩
    · rcases hs with h | h | h | h <;> rw [h]
      · exact ⟨nbL0, nkL0⟩
      · exact ⟨nbL1, nkL1⟩
      · exact ⟨nbL2, nkL2⟩
      · exact ⟨nbL3, nkL3⟩
    · rcases hs with h | h | h | h <;> rw [h]
      · exact ⟨nbV0, nkV0⟩
      · exact ⟨nbV1, nkV1⟩
      · exact ⟨nbV2, nkV2⟩
      · exact ⟨nbV3, nkV3⟩
    · rcases hs with h | h | h | h <;> rw [h]
      · exact ⟨nbW0, nkW0⟩
      · exact ⟨nbW1, nkW1⟩
      · exact ⟨nbW2, nkW2⟩
      · exact ⟨nbW3, nkW3⟩
    · rcases hs with h | h | h | h <;> rw [h]
      · exact ⟨nbR0, nkR0⟩
      · exact ⟨nbR1, nkR1⟩
      · exact ⟨nbR2, nkR2⟩
      · exact ⟨nbR3, nkR3⟩⟩
  have ER : ErrF l.prog K mg CI := ⟨⟨_, _, _, ECE⟩, PySem.W.mg_of X G aCE_⟩
  have ERP : ErrP l.prog K mg CP := ⟨⟨_, _, _, ECP⟩, PySem.W.mg_of X G aCP_⟩
  have gT := PySem.W.mg_of X G aCT
  have gL_ := PySem.W.mg_of X G aCL
  have gV := PySem.W.mg_of X G aCV
  have gW := PySem.W.mg_of X G aCW
  have gR_ := PySem.W.mg_of X G aCR
  have gRg := none_of zR
  have gLe := none_of zL
  have TT : TxtT mg ⟨CT, CL, CV, CW, CR⟩ := ⟨none_of zI, none_of zS, none_of zT, gLe, none_of zA, ⟨_, PySem.W.mg_of X G yMt⟩, gT, gL_, gV, gW, gR_⟩
  have NOL : NoL K ⟨CT, CL, CV, CW, CR⟩ := ⟨fun s hs => by
    simp only [List.mem_cons, List.not_mem_nil, or_false] at hs
    rcases hs with rfl | rfl | rfl | rfl | rfl | rfl
    · exact ⟨no0W, no0R, no0A⟩
    · exact ⟨no1W, no1R, no1A⟩
    · exact ⟨no2W, no2R, no2A⟩
    · exact ⟨no3W, no3R, no3A⟩
    · exact ⟨no4W, no4R, no4A⟩
    · exact ⟨no5W, no5R, no5A⟩⟩
  have CRT : ClX.CRead K CT mc := ⟨Trd, Tga⟩
  have CRL : ClX.CRead K CL mc := ⟨Lrd, Lga⟩
  have MT : Mk K CT fIT := ⟨qTmk, iIT, nIT, qTkp⟩
  have ML : Mk K CL fIL := ⟨qLmk, iIL, nIL, qLkp⟩
  have MV : Mk K CV fIV := ⟨qVmk, iIV, nIV, qVkp⟩
  have MW : Mk K CW fIW := ⟨qWmk, iIW, nIW, qWkp⟩
  have MR : Mk K CR fIR := ⟨qRmk, iIR, nIR, qRkp⟩
  have OTe : OwnC K CT "__eq__" fTe := ⟨iTe, nTe, wTe⟩
  have OTh : OwnC K CT "__contains__" fTh := ⟨iTh, nTh, wTh⟩
  have MPu : Meth K CT "put" fPu := ⟨iPu, nPu, kPu⟩
  have ELP : ExcL K CP := ⟨by rw [hclP]; rfl, egaP, eggP, eexP, ehdP, ecaP, ecg, etk, emoP⟩
  have FA : TxtA K mg CP CS fFa _ := ⟨FFa, bFa, gFa, PySem.W.mg_of X G aCS, PySem.W.mg_of X G aCP_, none_of zI, ELP, enf0P, exmP, ekkP⟩
  have hd1 := PySem.W.codeHd_of_K X tNR
  have hd2 := PySem.W.codeHd_of_K X tLK
  have hd3 := PySem.W.codeHd_of_K X tLI
  obtain ⟨un1, un2, un3⟩ := uni3 (qa := qNR) (qb := qLK) (qc := qLM) np1 np2 np3
  refine ⟨[(cNR, pNR), (cLK, pLK), (cLI, pLI)], PySem.W.fnOf "law" "law" (defArgs sLaw) (defBody sLaw) (defScope sLaw) .none kVL dcL pmL anL cdL ctL, spLaw K [(pNR, qNR), (pLK, qLK), (pLI, qLM)], fun p hp => ?_, fun p hp => ?_, fun p hp => ?_, fun s v => .of_eq rfl, fun H a ns hl _ hT hS => ⟨a, ns, rfl, hS, hl, fun p hp => ?_, fun H' => rfl⟩, fun base X0 G0 hTB => ?_⟩
  · simp only [List.mem_cons, List.not_mem_nil, or_false] at hp
    rcases hp with z | z | z <;> rw [z]
    · exact h1T
    · exact h2T
    · exact h3T
  · simp only [List.mem_cons, List.not_mem_nil, or_false] at hp
    rcases hp with z | z | z <;> rw [z]
    · exact nTNR
    · exact nTLK
    · exact nTLI
  · simp only [List.mem_cons, List.not_mem_nil, or_false] at hp
    rcases hp with z | z | z <;> rw [z]
    · exact hd1
    · exact hd2
    · exact hd3
  · simp only [List.mem_cons, List.not_mem_nil, or_false] at hp
    rcases hp with z | z | z <;> rw [z]
    · exact TabS.nil (hT (cNR, pNR) (by simp))
    · exact TabS.nil (hT (cLK, pLK) (by simp))
    · exact TabS.nil (hT (cLI, pLI) (by simp))
  · have TB1 := hTB (cNR, pNR) (by simp)
    have TB2 := hTB (cLK, pLK) (by simp)
    have TB3 := hTB (cLI, pLI) (by simp)
    have GN := ok_name (P := l.prog) (w := w) (base := base) FN TN
    have GNd := ok_isNode (P := l.prog) (w := w) (base := base) FNd TT T5
    have GNdV := ok_isNodeV (P := l.prog) (w := w) (base := base) FNd TT (K := K) (C := ⟨CT, CL, CV, CW, CR⟩)
    have GRI := ok_rowItems (P := l.prog) (w := w) (base := base) FRI TT (K := K) (C := ⟨CT, CL, CV, CW, CR⟩)
    have GLR := ok_likeRow (P := l.prog) (w := w) (base := base) FLR TT GRI ARI GNdV ANd
    have GTP := ok_treePart (P := l.prog) (w := w) (base := base) FTP TT T5
    have GLP := ok_likePart (P := l.prog) (w := w) (base := base) FLP TT T5 GLR ALR GNdV ANd
    have GQ := ok_quoted (P := l.prog) (w := w) (mg := mg) (base := base) FQ
    have GPT := ok_partText (P := l.prog) (w := w) (base := base) FPT TT T5 N5 GQ gQ kQ bQ
    have GNX := ok_nodeText (P := l.prog) (w := w) (base := base) FNX GPT gPT kPT bPT
    have GMS := ok_measures (P := l.prog) (w := w) (mg := mg) (base := base) FMS T5 N5
    have GNA := ok_nodes (P := l.prog) (w := w) (base := base) FNA TT T5 GNd gNd kNd bNd
    have TI : TxtI l.prog w K mg base ⟨CT, CL, CV, CW, CR⟩ CI fN fTP fNA fMS fNX _ _ _ _ _ := ⟨ER, none_of zE, gT, ⟨mc, _, _, CRT, ⟨mxN, ⟨_, rfl⟩⟩, ⟨mxL, ⟨_, rfl⟩⟩⟩, GN, gN, kN, bN, GTP, gTP, kTP, bTP, GNA, gNA, kNA, bNA, GMS, gMS, kMS, bMS, GNX, gNX, kNX, bNX⟩
    have GIT := treeInit_fnR (P := l.prog) (w := w) (base := base) FIT TI T5 N5
    have mxl : ∃ mc t1 t2, ClX.CRead K CL mc ∧ ClX.CVal K CL mc "MAX_SIZE" (.int 60) (.int 60 t1) ∧ ClX.CVal K CL mc "MAX_LEVELS" (.int 8) (.int 8 t2) := ⟨mc, _, _, CRL, ⟨lxS, ⟨_, rfl⟩⟩, ⟨lxL, ⟨_, rfl⟩⟩⟩
    have TLk : K3.TxtL l.prog w K mg base ⟨CT, CL, CV, CW, CR⟩ CP fN fLP fNA fMS fNX _ _ _ _ _ := ⟨ERP, none_of zE, gL_, mxl, GN, AN, GLP, ALP, GNA, ANA, GMS, AMS, GNX, ANX⟩
    have GIL := likeInit_fnR (P := l.prog) (w := w) (base := base) FIL TLk T5 N5
    have GILk := likeInit_kw (P := l.prog) (w := w) (base := base) FIL TLk T5 N5
    have GIV := ok_varInit (P := l.prog) (w := w) (base := base) FIV ERP GN AN T5 N5
    have GIW := ok_wordInit (P := l.prog) (w := w) (base := base) FIW ERP GN AN T5 N5
    have GIR := ok_restInit (P := l.prog) (w := w) (base := base) FIR ERP GN AN T5 N5
    have GIVk := varInit_kw (P := l.prog) (w := w) (base := base) FIV ERP GN AN T5 N5
    have GIWk := wordInit_kw (P := l.prog) (w := w) (base := base) FIW ERP GN AN T5 N5
    have GIRk := restInit_kw (P := l.prog) (w := w) (base := base) FIR ERP GN AN T5 N5
    have GTe := ok_treeEq (P := l.prog) (w := w) (base := base) FTe TT T5 N5
    have GVe := ok_varEq (P := l.prog) (w := w) (base := base) FVe TT T5 N5
    have GWe := ok_wordEq (P := l.prog) (w := w) (base := base) FWe TT T5 N5
    have GRe := ok_restEq (P := l.prog) (w := w) (base := base) FRe TT T5 N5
    have GLe := ok_likeEq (P := l.prog) (w := w) (base := base) FLe TT T5 N5
    have GAt := ok_nodeAt (P := l.prog) (w := w) (base := base) FAt TT
    have GTh := ok_treeHas (P := l.prog) (w := w) (mg := mg) (base := base) (C := ⟨CT, CL, CV, CW, CR⟩) FTh GAt AAt
    have GPu := ok_put (P := l.prog) (w := w) (base := base) (C := ⟨CT, CL, CV, CW, CR⟩) (fdH := PySem.W.fnOf "law" "law" (defArgs sLaw) (defBody sLaw) (defScope sLaw) .none kVL dcL pmL anL cdL ctL) FPu OTh (raw_of GTh bTh) (none_of zRv) (none_of zLi) (none_of zZip)
    have GDr := ok_draw (P := l.prog) (w := w) (base := base) FDr FM bM gM gLe
    have GBg := ok_begun (P := l.prog) (w := w) (base := base) FBg FFo bFo gFo gRg (none_of zE)
    have GD2 := ok_doubled (P := l.prog) (w := w) (base := base) FD2 gRg
    have GIN := ok_lName (P := l.prog) (w := w) (base := base) FIN TN
    have GNw := ok_new (P := l.prog) (w := w) (base := base) FNw gL_ gLe ML GIL
    have TG : TxtG l.prog w K mg base ⟨CT, CL, CV, CW, CR⟩ CI CP ⟨fIT, fIL, fIV, fIW, fIR, fPu, (PySem.W.fnOf "__init__" "Var.__init__" (defArgs sVarInit) (defBody sVarInit) (defScope sVarInit) .none kVIV dcIV pmIV anIV cdIV ctIV), (PySem.W.fnOf "__init__" "Word.__init__" (defArgs sWordInit) (defBody sWordInit) (defScope sWordInit) .none kVIW dcIW pmIW anIW cdIW ctIW), (PySem.W.fnOf "__init__" "Rest.__init__" (defArgs sRestInit) (defBody sRestInit) (defScope sRestInit) .none kVIR dcIR pmIR anIR cdIR ctIR), (PySem.W.fnOf "put" "Tree.put" (defArgs sPut) (defBody sPut) (defScope sPut) .none kVPu dcPu pmPu anPu cdPu ctPu)⟩ :=
      ⟨TT, T5, N5, MT, GIT, gT, ML, GIL, gL_, MV, GIV, bIV, gV, MW, GIW, bIW, gW, MR, GIR, bIR, gR_, (T5.own _ (Cl5.n_mem (C := ⟨CT, CL, CV, CW, CR⟩) false)).cl, MPu, GPu, bPu⟩
    have GGO := ok_goods (P := l.prog) (w := w) (base := base) FGO TG
    have GOD := ok_odds (P := l.prog) (w := w) (base := base) FOD TG ⟨NOL, GD2, AD2⟩
    have TNR : TxtNR l.prog w K mg base ⟨CT, CL, CV, CW, CR⟩ CP ⟨fIT, fIL, fIV, fIW, fIR, fPu, (PySem.W.fnOf "__init__" "Var.__init__" (defArgs sVarInit) (defBody sVarInit) (defScope sVarInit) .none kVIV dcIV pmIV anIV cdIV ctIV), (PySem.W.fnOf "__init__" "Word.__init__" (defArgs sWordInit) (defBody sWordInit) (defScope sWordInit) .none kVIW dcIW pmIW anIW cdIW ctIW), (PySem.W.fnOf "__init__" "Rest.__init__" (defArgs sRestInit) (defBody sRestInit) (defScope sRestInit) .none kVIR dcIR pmIR anIR cdIR ctIR), (PySem.W.fnOf "put" "Tree.put" (defArgs sPut) (defBody sPut) (defScope sPut) .none kVPu dcPu pmPu anPu cdPu ctPu)⟩ ⟨fIN, fVe, fWe, fRe, fLe, _⟩ := ⟨NF5x, GIN, AIN, ⟨iVe, nVe, wVe⟩, ⟨iWe, nWe, wWe⟩, ⟨iRe, nRe, wRe⟩, ⟨iLe, nLe, wLe⟩, ⟨qVmo, Vene⟩, ⟨qWmo, Wene⟩, ⟨qRmo, Rene⟩, ⟨qLmo, Lene⟩, raw_of GVe bVe, raw_of GWe bWe, raw_of GRe bRe, raw_of GLe bLe, GIVk, GIWk, GIRk, GILk⟩
    have GNRr := ok_namesRight (P := l.prog) (w := w) (base := base) (T := [(pNR, qNR), (pLK, qLK), (pLI, qLM)]) FNR TG TNR NOL FA TB1 (by simp) un1 gRg
    have TLK : TxtLK l.prog w K mg base ⟨CT, CL, CV, CW, CR⟩ CP ⟨fDr, fGO, fOD, fNw, fD2, _, _, _, _, _⟩ := ⟨GDr, ADr, GGO, AGO, GOD, AOD, GNw, ANw, GD2, AD2⟩
    have GLKr := ok_likeRight (P := l.prog) (w := w) (base := base) (T := [(pNR, qNR), (pLK, qLK), (pLI, qLM)]) FLK TG TNR TLK FA TB2 (by simp) un2 gRg
    have GEQ := ok_equalRight (P := l.prog) (w := w) (base := base) (T := [(pNR, qNR), (pLK, qLK), (pLI, qLM)]) FEQ TG TNR TLK ⟨OTe, raw_of GTe bTe⟩ gRg (none_of zRp)
    have GLI := ok_limitsRight (P := l.prog) (w := w) (base := base) (T := [(pNR, qNR), (pLK, qLK), (pLI, qLM)]) FLI TG NOL FA TB3 (by simp) un3 gRg
    have TLw : TxtLw l.prog w K mg base ⟨CT, CL, CV, CW, CR⟩ fBg fNR fLK fEQ fLI _ _ _ _ _ [(pNR, qNR), (pLK, qLK), (pLI, qLM)] := ⟨GBg, ABg, GNRr, ANR, GLKr, ALK, GEQ, AEQ, GLI, ALI, mxl⟩
    exact ok_law (T := [(pNR, qNR), (pLK, qLK), (pLI, qLM)]) FL TG TLK TLw gRg
end K3

open PySem PySem.W PyProof.Rows
set_option maxRecDepth 100000 in
set_option maxHeartbeats 0 in
theorem PySem.Challenge.cw_ruleengine_k06_parts_checked_holds : PySem.Challenge.rw_ruleengine_k06_parts_checked.Holds := by
  w_on; o_law; k_head; (case hw => w_witness2)
  k_fill
  refine EG.walk_G (l := PySem.Challenge.rw_ruleengine_k06_parts_checked) (n := 63) (k := 11) (x := "_law_script") (CX := fun _ => L2.CX0) rfl (by decide) rfl ⟨rfl, by decide, by decide⟩ (fun w h Y => PySem.W.km_in_of Y) ?F (fun _ _ _ _ _ z => z)
  case F =>
    intro w mg fa h Y KX G hmg
    have t1 : h.get? 415 = some (tabObj #[]) := PySem.W.km_tabs_of Y 415 (by decide)
    have t2 : h.get? 434 = some (tabObj #[]) := PySem.W.km_tabs_of Y 434 (by decide)
    have t3 : h.get? 446 = some (tabObj #[]) := PySem.W.km_tabs_of Y 446 (by decide)
    refine' K3.all_mk (P := PySem.Challenge.pw_ruleengine_k06_parts_checked) (pNR := 415) (pLK := 434) (pLI := 446) (mc := .type "type") rfl KX G t1 t2 t3 hmg ?aN ?lN ?cNd ?kN ?aNd ?lNd ?cNdd ?kNd ?aTP ?lTP ?cTPd ?kTP ?aLP ?lLP ?cLPd ?kLP ?aLR ?lLR ?cLRd ?kLR ?aRI ?lRI ?cRId ?kRI ?aNA ?lNA ?cNAd ?kNA ?aMS ?lMS ?cMSd ?kMS ?aAt ?lAt ?cAtd ?kAt ?aNX ?lNX ?cNXd ?kNX ?aPT ?lPT ?cPTd ?kPT ?aQ ?lQ ?cQd ?kQ ?aM ?lM ?cMd ?kM ?aFo ?lFo ?cFod ?kFo ?aDr ?lDr ?cDrd ?kDr ?aBg ?lBg ?cBgd ?kBg ?aD2 ?lD2 ?cD2d ?kD2 ?aIN ?lIN ?cINd ?kIN ?aFa ?lFa ?cFad ?kFa ?aNw ?lNw ?cNwd ?kNw ?aNR ?lNR ?cNRd ?kNR ?aGO ?lGO ?cGOd ?kGO ?aOD ?lOD ?cODd ?kOD ?aLK ?lLK ?cLKd ?kLK ?aEQ ?lEQ ?cEQd ?kEQ ?aLI ?lLI ?cLId ?kLI ?aL ?lL ?cLd ?kL ?aCT ?qTpg ?qThd ?qTpo ?qTsa ?qTha ?qTmo ?qTmk ?qTkp ?iIT ?nIT ?lIT ?cITd ?kIT ?naT0 ?naT1 ?naT2 ?naT3 ?naT4 ?naT5 ?naT6 ?stT ?tuT ?bsT ?btT ?ktTT ?ktTL ?ktTV ?ktTW ?ktTR ?aCL ?qLpg ?qLhd ?qLpo ?qLsa ?qLha ?qLmo ?qLmk ?qLkp ?iIL ?nIL ?lIL ?cILd ?kIL ?naL0 ?naL1 ?naL2 ?naL3 ?naL4 ?naL5 ?naL6 ?stL ?tuL ?bsL ?btL ?ktLT ?ktLL ?ktLV ?ktLW ?ktLR ?aCV ?qVpg ?qVhd ?qVpo ?qVsa ?qVha ?qVmo ?qVmk ?qVkp ?iIV ?nIV ?lIV ?cIVd ?kIV ?naV0 ?naV1 ?naV2 ?naV3 ?naV4 ?naV5 ?naV6 ?stV ?tuV ?bsV ?btV ?ktVT ?ktVL ?ktVV ?ktVW ?ktVR ?aCW ?qWpg ?qWhd ?qWpo ?qWsa ?qWha ?qWmo ?qWmk ?qWkp ?iIW ?nIW ?lIW ?cIWd ?kIW ?naW0 ?naW1 ?naW2 ?naW3 ?naW4 ?naW5 ?naW6 ?stW ?tuW ?bsW ?btW ?ktWT ?ktWL ?ktWV ?ktWW ?ktWR ?aCR ?qRpg ?qRhd ?qRpo ?qRsa ?qRha ?qRmo ?qRmk ?qRkp ?iIR ?nIR ?lIR ?cIRd ?kIR ?naR0 ?naR1 ?naR2 ?naR3 ?naR4 ?naR5 ?naR6 ?stR ?tuR ?bsR ?btR ?ktRT ?ktRL ?ktRV ?ktRW ?ktRR ?ndC ?no0W ?no0R ?no0A ?no1W ?no1R ?no1A ?no2W ?no2R ?no2A ?no3W ?no3R ?no3A ?no4W ?no4R ?no4A ?no5W ?no5R ?no5A ?nfTT ?nfTL ?nfTV ?nfTW ?nfTR ?nbT0 ?nkT0 ?nbT1 ?nkT1 ?nbT2 ?nkT2 ?nbT3 ?nkT3 ?nfLT ?nfLL ?nfLV ?nfLW ?nfLR ?nbL0 ?nkL0 ?nbL1 ?nkL1 ?nbL2 ?nkL2 ?nbL3 ?nkL3 ?nfVT ?nfVL ?nfVV ?nfVW ?nfVR ?nbV0 ?nkV0 ?nbV1 ?nkV1 ?nbV2 ?nkV2 ?nbV3 ?nkV3 ?nfWT ?nfWL ?nfWV ?nfWW ?nfWR ?nbW0 ?nkW0 ?nbW1 ?nkW1 ?nbW2 ?nkW2 ?nbW3 ?nkW3 ?nfRT ?nfRL ?nfRV ?nfRW ?nfRR ?nbR0 ?nkR0 ?nbR1 ?nkR1 ?nbR2 ?nkR2 ?nbR3 ?nkR3 ?Trd ?Tga ?Lrd ?Lga ?mxN ?mxL ?lxS ?lxL ?iTe ?nTe ?wTe ?lTe ?cTed ?kTe ?Tene ?iVe ?nVe ?wVe ?lVe ?cVed ?kVe ?Vene ?iWe ?nWe ?wWe ?lWe ?cWed ?kWe ?Wene ?iRe ?nRe ?wRe ?lRe ?cRed ?kRe ?Rene ?iLe ?nLe ?wLe ?lLe ?cLed ?kLe ?Lene ?iTh ?nTh ?wTh ?lTh ?cThd ?kTh ?iPu ?nPu ?wPu ?lPu ?cPud ?kPu ?aCS ?aCE_ ?xLE ?rvE ?esaE ?eexE ?etyE ?ekpE ?efiE ?etiE ?lEE ?ecdE ?xcE ?v2E ?pfE ?xccE ?emrE ?ealE ?eveE ?eeiE ?enf0E ?egaE ?eggE ?ehdE ?ecaE ?emoE ?exmE ?ekkE ?aCP_ ?xLP ?rvP ?esaP ?eexP ?etyP ?ekpP ?efiP ?etiP ?lEP ?ecdP ?xcP ?v2P ?pfP ?xccP ?emrP ?ealP ?eveP ?eeiP ?enf0P ?egaP ?eggP ?ehdP ?ecaP ?emoP ?exmP ?ekkP ?sup ?opq ?etop ?ecg ?etk ?zI ?zS ?zL ?zA ?zT ?zR ?zE ?zLi ?zRp ?zRv ?zZip ?yMx ?yLt ?ySg ?yMt ?tNR ?nTNR ?tLK ?nTLK ?tLI ?nTLI ?np1 ?np2 ?np3
    (case aN => k_is)
    (case lN => k_is)
    (case cNd => k_is)
    (case kN => k_is)
    (case aNd => k_is)
    (case lNd => k_is)
    (case cNdd => k_is)
    (case kNd => k_is)
    (case aTP => k_is)
    (case lTP => k_is)
    (case cTPd => k_is)
    (case kTP => k_is)
    (case aLP => k_is)
    (case lLP => k_is)
    (case cLPd => k_is)
    (case kLP => k_is)
    (case aLR => k_is)
    (case lLR => k_is)
    (case cLRd => k_is)
    (case kLR => k_is)
    (case aRI => k_is)
    (case lRI => k_is)
    (case cRId => k_is)
    (case kRI => k_is)
    (case aNA => k_is)
    (case lNA => k_is)
    (case cNAd => k_is)
    (case kNA => k_is)
    (case aMS => k_is)
    (case lMS => k_is)
    (case cMSd => k_is)
    (case kMS => k_is)
    (case aAt => k_is)
    (case lAt => k_is)
    (case cAtd => k_is)
    (case kAt => k_is)
    (case aNX => k_is)
    (case lNX => k_is)
    (case cNXd => k_is)
    (case kNX => k_is)
    (case aPT => k_is)
    (case lPT => k_is)
    (case cPTd => k_is)
    (case kPT => k_is)
    (case aQ => k_is)
    (case lQ => k_is)
    (case cQd => k_is)
    (case kQ => k_is)
    (case aM => k_is)
    (case lM => k_is)
    (case cMd => k_is)
    (case kM => k_is)
    (case aFo => k_is)
    (case lFo => k_is)
    (case cFod => k_is)
    (case kFo => k_is)
    (case aDr => k_is)
    (case lDr => k_is)
    (case cDrd => k_is)
    (case kDr => k_is)
    (case aBg => k_is)
    (case lBg => k_is)
    (case cBgd => k_is)
    (case kBg => k_is)
    (case aD2 => k_is)
    (case lD2 => k_is)
    (case cD2d => k_is)
    (case kD2 => k_is)
    (case aIN => k_is)
    (case lIN => k_is)
    (case cINd => k_is)
    (case kIN => k_is)
    (case aFa => k_is)
    (case lFa => k_is)
    (case cFad => k_is)
    (case kFa => k_is)
    (case aNw => k_is)
    (case lNw => k_is)
    (case cNwd => k_is)
    (case kNw => k_is)
    (case aNR => k_is)
    (case lNR => k_is)
    (case cNRd => k_is)
    (case kNR => k_is)
    (case aGO => k_is)
    (case lGO => k_is)
    (case cGOd => k_is)
    (case kGO => k_is)
    (case aOD => k_is)
    (case lOD => k_is)
    (case cODd => k_is)
    (case kOD => k_is)
    (case aLK => k_is)
    (case lLK => k_is)
    (case cLKd => k_is)
    (case kLK => k_is)
    (case aEQ => k_is)
    (case lEQ => k_is)
    (case cEQd => k_is)
    (case kEQ => k_is)
    (case aLI => k_is)
    (case lLI => k_is)
    (case cLId => k_is)
    (case kLI => k_is)
    (case aL => k_is)
    (case lL => k_is)
    (case cLd => k_is)
    (case kL => k_is)
    (case aCT => k_is)
    (case qTpg => k_is)
    (case qThd => k_is)
    (case qTpo => k_is)
    (case qTsa => k_is)
    (case qTha => k_is)
    (case qTmo => k_is)
    (case qTmk => k_is)
    (case qTkp => k_is)
    (case iIT => k_is)
    (case nIT => k_is)
    (case lIT => k_is)
    (case cITd => k_is)
    (case kIT => k_is)
    (case naT0 => k_is)
    (case naT1 => k_is)
    (case naT2 => k_is)
    (case naT3 => k_is)
    (case naT4 => k_is)
    (case naT5 => k_is)
    (case naT6 => k_is)
    (case stT => first | kernel_rfl | rfl)
    (case tuT => first | kernel_rfl | rfl)
    (case bsT => first | kernel_rfl | rfl)
    (case btT => first | kernel_rfl | rfl)
    (case ktTT => first | kernel_rfl | rfl)
    (case ktTL => first | kernel_rfl | rfl)
    (case ktTV => first | kernel_rfl | rfl)
    (case ktTW => first | kernel_rfl | rfl)
    (case ktTR => first | kernel_rfl | rfl)
    (case aCL => k_is)
    (case qLpg => k_is)
    (case qLhd => k_is)
    (case qLpo => k_is)
    (case qLsa => k_is)
    (case qLha => k_is)
    (case qLmo => k_is)
    (case qLmk => k_is)
    (case qLkp => k_is)
    (case iIL => k_is)
    (case nIL => k_is)
    (case lIL => k_is)
    (case cILd => k_is)
    (case kIL => k_is)
    (case naL0 => k_is)
    (case naL1 => k_is)
    (case naL2 => k_is)
    (case naL3 => k_is)
    (case naL4 => k_is)
    (case naL5 => k_is)
    (case naL6 => k_is)
    (case stL => first | kernel_rfl | rfl)
    (case tuL => first | kernel_rfl | rfl)
    (case bsL => first | kernel_rfl | rfl)
    (case btL => first | kernel_rfl | rfl)
    (case ktLT => first | kernel_rfl | rfl)
    (case ktLL => first | kernel_rfl | rfl)
    (case ktLV => first | kernel_rfl | rfl)
    (case ktLW => first | kernel_rfl | rfl)
    (case ktLR => first | kernel_rfl | rfl)
    (case aCV => k_is)
    (case qVpg => k_is)
    (case qVhd => k_is)
    (case qVpo => k_is)
    (case qVsa => k_is)
    (case qVha => k_is)
    (case qVmo => k_is)
    (case qVmk => k_is)
    (case qVkp => k_is)
    (case iIV => k_is)
    (case nIV => k_is)
    (case lIV => k_is)
    (case cIVd => k_is)
    (case kIV => k_is)
    (case naV0 => k_is)
    (case naV1 => k_is)
    (case naV2 => k_is)
    (case naV3 => k_is)
    (case naV4 => k_is)
    (case naV5 => k_is)
    (case naV6 => k_is)
    (case stV => first | kernel_rfl | rfl)
    (case tuV => first | kernel_rfl | rfl)
    (case bsV => first | kernel_rfl | rfl)
    (case btV => first | kernel_rfl | rfl)
    (case ktVT => first | kernel_rfl | rfl)
    (case ktVL => first | kernel_rfl | rfl)
    (case ktVV => first | kernel_rfl | rfl)
    (case ktVW => first | kernel_rfl | rfl)
    (case ktVR => first | kernel_rfl | rfl)
    (case aCW => k_is)
    (case qWpg => k_is)
    (case qWhd => k_is)
    (case qWpo => k_is)
    (case qWsa => k_is)
    (case qWha => k_is)
    (case qWmo => k_is)
    (case qWmk => k_is)
    (case qWkp => k_is)
    (case iIW => k_is)
    (case nIW => k_is)
    (case lIW => k_is)
    (case cIWd => k_is)
    (case kIW => k_is)
    (case naW0 => k_is)
    (case naW1 => k_is)
    (case naW2 => k_is)
    (case naW3 => k_is)
    (case naW4 => k_is)
    (case naW5 => k_is)
    (case naW6 => k_is)
    (case stW => first | kernel_rfl | rfl)
    (case tuW => first | kernel_rfl | rfl)
    (case bsW => first | kernel_rfl | rfl)
    (case btW => first | kernel_rfl | rfl)
    (case ktWT => first | kernel_rfl | rfl)
    (case ktWL => first | kernel_rfl | rfl)
    (case ktWV => first | kernel_rfl | rfl)
    (case ktWW => first | kernel_rfl | rfl)
    (case ktWR => first | kernel_rfl | rfl)
    (case aCR => k_is)
    (case qRpg => k_is)
    (case qRhd => k_is)
    (case qRpo => k_is)
    (case qRsa => k_is)
    (case qRha => k_is)
    (case qRmo => k_is)
    (case qRmk => k_is)
    (case qRkp => k_is)
    (case iIR => k_is)
    (case nIR => k_is)
    (case lIR => k_is)
    (case cIRd => k_is)
    (case kIR => k_is)
    (case naR0 => k_is)
    (case naR1 => k_is)
    (case naR2 => k_is)
    (case naR3 => k_is)
    (case naR4 => k_is)
    (case naR5 => k_is)
    (case naR6 => k_is)
    (case stR => first | kernel_rfl | rfl)
    (case tuR => first | kernel_rfl | rfl)
    (case bsR => first | kernel_rfl | rfl)
    (case btR => first | kernel_rfl | rfl)
    (case ktRT => first | kernel_rfl | rfl)
    (case ktRL => first | kernel_rfl | rfl)
    (case ktRV => first | kernel_rfl | rfl)
    (case ktRW => first | kernel_rfl | rfl)
    (case ktRR => first | kernel_rfl | rfl)
    (case ndC => decide +kernel)
    (case no0W => first | kernel_rfl | rfl)
    (case no0R => first | kernel_rfl | rfl)
    (case no0A => first | kernel_rfl | rfl)
    (case no1W => first | kernel_rfl | rfl)
    (case no1R => first | kernel_rfl | rfl)
    (case no1A => first | kernel_rfl | rfl)
    (case no2W => first | kernel_rfl | rfl)
    (case no2R => first | kernel_rfl | rfl)
    (case no2A => first | kernel_rfl | rfl)
    (case no3W => first | kernel_rfl | rfl)
    (case no3R => first | kernel_rfl | rfl)
    (case no3A => first | kernel_rfl | rfl)
    (case no4W => first | kernel_rfl | rfl)
    (case no4R => first | kernel_rfl | rfl)
    (case no4A => first | kernel_rfl | rfl)
    (case no5W => first | kernel_rfl | rfl)
    (case no5R => first | kernel_rfl | rfl)
    (case no5A => first | kernel_rfl | rfl)
    (case nfTT => first | kernel_rfl | rfl)
    (case nfTL => first | kernel_rfl | rfl)
    (case nfTV => first | kernel_rfl | rfl)
    (case nfTW => first | kernel_rfl | rfl)
    (case nfTR => first | kernel_rfl | rfl)
    (case nbT0 => first | kernel_rfl | rfl)
    (case nkT0 => first | kernel_rfl | rfl)
    (case nbT1 => first | kernel_rfl | rfl)
    (case nkT1 => first | kernel_rfl | rfl)
    (case nbT2 => first | kernel_rfl | rfl)
    (case nkT2 => first | kernel_rfl | rfl)
    (case nbT3 => first | kernel_rfl | rfl)
    (case nkT3 => first | kernel_rfl | rfl)
    (case nfLT => first | kernel_rfl | rfl)
    (case nfLL => first | kernel_rfl | rfl)
    (case nfLV => first | kernel_rfl | rfl)
    (case nfLW => first | kernel_rfl | rfl)
    (case nfLR => first | kernel_rfl | rfl)
    (case nbL0 => first | kernel_rfl | rfl)
    (case nkL0 => first | kernel_rfl | rfl)
    (case nbL1 => first | kernel_rfl | rfl)
    (case nkL1 => first | kernel_rfl | rfl)
    (case nbL2 => first | kernel_rfl | rfl)
    (case nkL2 => first | kernel_rfl | rfl)
    (case nbL3 => first | kernel_rfl | rfl)
    (case nkL3 => first | kernel_rfl | rfl)
    (case nfVT => first | kernel_rfl | rfl)
    (case nfVL => first | kernel_rfl | rfl)
    (case nfVV => first | kernel_rfl | rfl)
    (case nfVW => first | kernel_rfl | rfl)
    (case nfVR => first | kernel_rfl | rfl)
    (case nbV0 => first | kernel_rfl | rfl)
    (case nkV0 => first | kernel_rfl | rfl)
    (case nbV1 => first | kernel_rfl | rfl)
    (case nkV1 => first | kernel_rfl | rfl)
    (case nbV2 => first | kernel_rfl | rfl)
    (case nkV2 => first | kernel_rfl | rfl)
    (case nbV3 => first | kernel_rfl | rfl)
    (case nkV3 => first | kernel_rfl | rfl)
    (case nfWT => first | kernel_rfl | rfl)
    (case nfWL => first | kernel_rfl | rfl)
    (case nfWV => first | kernel_rfl | rfl)
    (case nfWW => first | kernel_rfl | rfl)
    (case nfWR => first | kernel_rfl | rfl)
    (case nbW0 => first | kernel_rfl | rfl)
    (case nkW0 => first | kernel_rfl | rfl)
    (case nbW1 => first | kernel_rfl | rfl)
    (case nkW1 => first | kernel_rfl | rfl)
    (case nbW2 => first | kernel_rfl | rfl)
    (case nkW2 => first | kernel_rfl | rfl)
    (case nbW3 => first | kernel_rfl | rfl)
    (case nkW3 => first | kernel_rfl | rfl)
    (case nfRT => first | kernel_rfl | rfl)
    (case nfRL => first | kernel_rfl | rfl)
    (case nfRV => first | kernel_rfl | rfl)
    (case nfRW => first | kernel_rfl | rfl)
    (case nfRR => first | kernel_rfl | rfl)
    (case nbR0 => first | kernel_rfl | rfl)
    (case nkR0 => first | kernel_rfl | rfl)
    (case nbR1 => first | kernel_rfl | rfl)
    (case nkR1 => first | kernel_rfl | rfl)
    (case nbR2 => first | kernel_rfl | rfl)
    (case nkR2 => first | kernel_rfl | rfl)
    (case nbR3 => first | kernel_rfl | rfl)
    (case nkR3 => first | kernel_rfl | rfl)
    (case Trd => k_is)
    (case Tga => k_is)
    (case Lrd => k_is)
    (case Lga => k_is)
    (case mxN => k_is)
    (case mxL => k_is)
    (case lxS => k_is)
    (case lxL => k_is)
    (case iTe => k_is)
    (case nTe => k_is)
    (case wTe => k_is)
    (case lTe => k_is)
    (case cTed => k_is)
    (case kTe => k_is)
    (case Tene => k_is)
    (case iVe => k_is)
    (case nVe => k_is)
    (case wVe => k_is)
    (case lVe => k_is)
    (case cVed => k_is)
    (case kVe => k_is)
    (case Vene => k_is)
    (case iWe => k_is)
    (case nWe => k_is)
    (case wWe => k_is)
    (case lWe => k_is)
    (case cWed => k_is)
    (case kWe => k_is)
    (case Wene => k_is)
    (case iRe => k_is)
    (case nRe => k_is)
    (case wRe => k_is)
    (case lRe => k_is)
    (case cRed => k_is)
    (case kRe => k_is)
    (case Rene => k_is)
    (case iLe => k_is)
    (case nLe => k_is)
    (case wLe => k_is)
    (case lLe => k_is)
    (case cLed => k_is)
    (case kLe => k_is)
    (case Lene => k_is)
    (case iTh => k_is)
    (case nTh => k_is)
    (case wTh => k_is)
    (case lTh => k_is)
    (case cThd => k_is)
    (case kTh => k_is)
    (case iPu => k_is)
    (case nPu => k_is)
    (case wPu => k_is)
    (case lPu => k_is)
    (case cPud => k_is)
    (case kPu => k_is)
    (case aCS => k_is)
    (case aCE_ => k_is)
    (case xLE => k_is)
    (case rvE => decide +kernel)
    (case esaE => k_is)
    (case eexE => k_is)
    (case etyE => k_is)
    (case ekpE => k_is)
    (case efiE => k_is)
    (case etiE => k_is)
    (case lEE => k_is)
    (case ecdE => k_is)
    (case xcE => k_is)
    (case v2E => rfl)
    (case pfE => decide +kernel)
    (case xccE => k_is)
    (case emrE => k_is)
    (case ealE => first | kernel_rfl | rfl)
    (case eveE => k_is)
    (case eeiE => first | kernel_rfl | rfl)
    (case enf0E => k_is)
    (case egaE => k_is)
    (case eggE => k_is)
    (case ehdE => k_is)
    (case ecaE => k_is)
    (case emoE => k_is)
    (case exmE => first | kernel_rfl | rfl)
    (case ekkE => first | kernel_rfl | rfl)
    (case aCP_ => k_is)
    (case xLP => k_is)
    (case rvP => decide +kernel)
    (case esaP => k_is)
    (case eexP => k_is)
    (case etyP => k_is)
    (case ekpP => k_is)
    (case efiP => k_is)
    (case etiP => k_is)
    (case lEP => k_is)
    (case ecdP => k_is)
    (case xcP => k_is)
    (case v2P => rfl)
    (case pfP => decide +kernel)
    (case xccP => k_is)
    (case emrP => k_is)
    (case ealP => first | kernel_rfl | rfl)
    (case eveP => k_is)
    (case eeiP => first | kernel_rfl | rfl)
    (case enf0P => k_is)
    (case egaP => k_is)
    (case eggP => k_is)
    (case ehdP => k_is)
    (case ecaP => k_is)
    (case emoP => k_is)
    (case exmP => first | kernel_rfl | rfl)
    (case ekkP => first | kernel_rfl | rfl)
    (case sup => k_is)
    (case opq => k_is)
    (case etop => decide +kernel)
    (case ecg => k_is)
    (case etk => k_is)
    (case zI => k_is)
    (case zS => k_is)
    (case zL => k_is)
    (case zA => k_is)
    (case zT => k_is)
    (case zR => k_is)
    (case zE => k_is)
    (case zLi => k_is)
    (case zRp => k_is)
    (case zRv => k_is)
    (case zZip => k_is)
    (case yMx => k_is)
    (case yLt => k_is)
    (case ySg => k_is)
    (case yMt => k_is)
    (case tNR => first | kernel_rfl | rfl)
    (case nTNR => rfl)
    (case tLK => first | kernel_rfl | rfl)
    (case nTLK => rfl)
    (case tLI => first | kernel_rfl | rfl)
    (case nTLI => rfl)
    (case np1 => decide +kernel)
    (case np2 => decide +kernel)
    (case np3 => decide +kernel)
