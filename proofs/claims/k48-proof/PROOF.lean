import PyProof.Rows.All
import Wide.All
import OpenK.AllK
import Wide.FinOn
import HandS.ForMost
import HandS.ForExc
import HandS.Walk
import HandS.Iter
import PyProof.EnumMake
import PyProof.Draws
import HandS.EndTab
import HandS.Wide
import HandS.IsInst
import HandS.Head2
import KE.KNestM
import HandS.Text
import HandS.ExcInit
import HandS.TryOnly
import KE.KExcSuper
import HandS.ExcValue
import HandS.ExcField
import HandS.ExcIs
import KE.KExcIs
import HandS.Lambda
import HandS.ClsMeth
import HandS.ListItems
import HandS.Conv
import KE.KItemsList
import HandS.Star
import PyProof.InstEq
import PyProof.NeKinds
import KE.KParD
import PyProof.P3Eq
import HandS.DictComp
import HandS.MakeKwOnly
import HandS.DictTup
import KE.KeyNested
import PyProof.TupleKey
import KE.KDictCopyH
import PyProof.ReprRoads
import PyProof.CallFns
import PySem.Challenge.RW_ruleengine_k48_plans_and_flows_refused
set_option Elab.async false
set_option maxRecDepth 100000
set_option maxHeartbeats 4000000
namespace E0
open PySem PySem.Spec PyProof.Rows L2
open AutoSeq1 (wpAny_loadPart')
/-! ### enumerate of a tuple -/
theorem enum_newT (l : Addr) (items : Array Value) (n : Nat) (dct : Option Addr) (sl : Array (Option Value)) :
    Meets (Builtin.«enumerate.__new__» ⟨[.type "enumerate", .ref l], []⟩) (fun _ R s => s.heap.get? l = some { cls := .type "tuple", dict := dct, data := .seq items n, slots := sl } ∧
      R (.ok (.ret (.ref (s.heap.push { cls := .type "tuple_iterator", data := .fields #[.ref l, .int 0 0] }).objs.size)))
        { s with heap := (s.heap.push { cls := .type "tuple_iterator", data := .fields #[.ref l, .int 0 0] }).push { cls := .type "enumerate", data := .fields #[.none, .bool false, .ref s.heap.objs.size, rawInt 0, .none, .none] } }) :=
  .of_wp fun prog w A R s h => by
    obtain ⟨hp, g, d, tk, os⟩ := s
    obtain ⟨hl, h⟩ := h
    have hs := sub_enumerate
    have hT : Heap.IsTuple (Shared.heap ⟨hp, g, d, tk, os⟩) l items := ⟨_, hl, rfl, n, rfl⟩
    wp_walk using wpAny_loadPart' hl
    refine wpAny_stack_any fun st => wpAny_pure ?_
    split
    · rename_i c _ _ _ _ _
      cases (c == Value.type "enumerate")
      · wp_walk using wpAny_loadPart' hl, wpAny_pyIter_tuple hT
        exact ⟨_, rfl, h⟩
      · wp_walk using wpAny_loadPart' hl, wpAny_pyIter_tuple hT
        exact ⟨_, rfl, h⟩
    · wp_walk using wpAny_loadPart' hl, wpAny_pyIter_tuple hT
      exact ⟨_, rfl, h⟩
section
variable {prog : Program} {w : World} {A : Around} {E : Value → Shared → Prop} {s : Shared}
theorem call_enumT {l : Addr} {items : Array Value} {Q : Value → Shared → Prop} (hL : s.heap.IsTuple l items)
    (h : ∀ h', IsEnum h' (s.heap.objs.size + 1) s.heap.objs.size 0 .none → h'.IsTupleIter s.heap.objs.size l 0 → h'.objs.size = s.heap.objs.size + 2 → (∀ b o, s.heap.get? b = some o → h'.get? b = some o) → Q (.ref (s.heap.objs.size + 1)) { s with heap := h' }) :
    wpAny (model prog w) A (call (.type "enumerate") [.ref l]) Q E s := by
  obtain ⟨⟨c, dct, dt, sl⟩, hl, hc, n, hd⟩ := hL
  have hc' : c = .type "tuple" := hc
  have hd' : dt = .seq items n := hd
  subst hc' hd'
  refine callType_new F.called_enumerate (by decide) (F.typeCall_enumerate_1 _) (F.newCall_enumerate_1 _) (fun obj => F.args_object_init_2 obj _) F.entry_enumerate_new (enum_newT l items n dct sl) ⟨hl, ?_⟩
  have hz : (s.heap.push { cls := .type "tuple_iterator", data := .fields #[.ref l, .int 0 0] }).objs.size = s.heap.objs.size + 1 := Heap.size_push ..
  show _ ∧ _
  rw [hz]
  have he : IsEnum ((s.heap.push { cls := .type "tuple_iterator", data := .fields #[.ref l, .int 0 0] }).push
      { cls := .type "enumerate", data := .fields #[.none, .bool false, .ref s.heap.objs.size, rawInt 0, .none, .none] }) (s.heap.objs.size + 1) s.heap.objs.size 0 .none := by
    have e := Heap.get?_push_size (s.heap.push { cls := .type "tuple_iterator", data := .fields #[.ref l, .int 0 0] }) (o := { cls := .type "enumerate", data := .fields #[.none, .bool false, .ref s.heap.objs.size, rawInt 0, .none, .none] }) rfl
    rw [hz] at e
    exact e
  exact ⟨⟨_, he, rfl⟩, h _ he ⟨_, Heap.get?_push_of_some _ (Heap.get?_push_size _ rfl), rfl, rfl⟩ (by rw [Heap.size_push, hz]) fun b o x => Heap.get?_push_of_some _ (Heap.get?_push_of_some _ x)⟩
theorem next_tup {it t : Addr} {i : Nat} {items : Array Value} {x : Value} {Q : Value → Shared → Prop} (hit : s.heap.IsTupleIter it t i) (ht : s.heap.IsTuple t items) (hx : items[i]? = some x)
    (hQ : ∀ h', h'.IsTupleIter it t (i + 1) → Heap.SameBut it s.heap h' → Q x { s with heap := h' }) : wpAny (model prog w) A (Builtin.SmallTypes.nextOf (.ref it)) Q E s := by
  obtain ⟨o, ho, hc, hd⟩ := id hit
  obtain ⟨ol, hol, _, nl, hdl⟩ := ht
  unfold Builtin.SmallTypes.nextOf
  refine wpAny_bind (wpAny_callSpecial?_slot (name := Str.ofString "__next__") hit.typeIs F.slot_tuple_iterator_next (wpAny_call_entry F.slot_tuple_iterator_next hit.typeIs F.entry_tuple_iterator_next ?_ (F.args_tuple_iterator_next_1 _)))
  show wpAny _ _ (field (.ref it) 0 >>= _) _ _ s
  refine wpAny_bind (wpAny_field ho hd (x := .ref t) rfl ?_)
  show wpAny _ _ (if (Value.ref t == Value.none) = true then _ else _) _ _ s
  rw [if_neg (show ¬ ((Value.ref t == Value.none) = true) from Bool.false_ne_true)]
  show wpAny _ _ (field (.ref it) 1 >>= _) _ _ s
  refine wpAny_bind (wpAny_field ho hd (x := .int i 0) rfl ?_)
  show wpAny _ _ (seqItems? (.ref t) >>= _) _ _ s
  refine wpAny_bind (wpAny_seqItems hol hdl ?_)
  simp only [Int.toNat_natCast, hx]
  refine wpAny_bind (wpAny_setField ho hd (by simp) (wpAny_pure ⟨x, rfl, wpAny_pure (hQ _ ?_ (Heap.SameBut.update ..))⟩))
  exact ⟨_, Heap.get?_update_self _ ho (Obj.isFreed_of_fields (Obj.data_mapFields hd _)), (Obj.cls_mapFields ..).trans hc, by rw [Obj.data_mapFields hd]; simp [rawInt]⟩
theorem next_tup_end {it t : Addr} {i : Nat} {items : Array Value} {Q : Value → Shared → Prop} (hh : A.handled = none) (hit : s.heap.IsTupleIter it t i) (ht : s.heap.IsTuple t items) (hx : items[i]? = none)
    (hE : ∀ h' e, Heap.ExtBut it s.heap h' → (∃ o, h'.get? e = some o ∧ o.cls = .type "StopIteration") → E (.ref e) { s with heap := h' }) : wpAny (model prog w) A (Builtin.SmallTypes.nextOf (.ref it)) Q E s := by
  obtain ⟨o, ho, hc, hd⟩ := id hit
  obtain ⟨ol, hol, _, nl, hdl⟩ := ht
  unfold Builtin.SmallTypes.nextOf
  refine wpAny_bind (wpAny_callSpecial?_slot (name := Str.ofString "__next__") hit.typeIs F.slot_tuple_iterator_next (wpAny_call_entry F.slot_tuple_iterator_next hit.typeIs F.entry_tuple_iterator_next ?_ (F.args_tuple_iterator_next_1 _)))
  show wpAny _ _ (field (.ref it) 0 >>= _) _ _ s
  refine wpAny_bind (wpAny_field ho hd (x := .ref t) rfl ?_)
  show wpAny _ _ (if (Value.ref t == Value.none) = true then _ else _) _ _ s
  rw [if_neg (show ¬ ((Value.ref t == Value.none) = true) from Bool.false_ne_true)]
  show wpAny _ _ (field (.ref it) 1 >>= _) _ _ s
  refine wpAny_bind (wpAny_field ho hd (x := .int i 0) rfl ?_)
  show wpAny _ _ (seqItems? (.ref t) >>= _) _ _ s
  refine wpAny_bind (wpAny_seqItems hol hdl ?_)
  simp only [Int.toNat_natCast, hx]
  refine wpAny_bind (wpAny_rule (wpAny_bind (wpAny_setField ho hd (by simp) ?_)))
  show wpAny _ _ (newExc (.type "StopIteration") [] >>= _) _ _ _
  refine wpAny_bind ?_
  simp only [newExc, newTuple]
  refine wpAny_bind (wpAny_newObj_type ?_ (by size_fits))
  refine wpAny_bind (m := firstArgMember _ _) (wpAny_of_eq (a := Value.none) (by first | rfl | (simp only [firstArgMember]; rfl)) ?_)
  refine wpAny_newObj_type ?_ (by size_fits)
  simp only [raiseNew]
  refine wpAny_bind (wpAny_handled ?_)
  first | rw [show A.in1.handled = none from hh] | rw [hh]
  refine wpAny_bind (wpAny_pure (wpAny_throw ?_))
  exact hE _ _ (((Heap.SameBut.update ..).extBut.push _).push _) ⟨_, Heap.get?_push_size _ rfl, rfl⟩
end
theorem drawsT {prog : Program} {w : World} {A : Around} (hh : A.handled = none) (it l : Addr) (hne : l ≠ it) (items : Array Value) : Draws prog w A it [it, l] items.size (fun i v => items[i]? = some v) (fun i h => h.IsTupleIter it l i ∧ h.IsTuple l items) where
  live := fun _ _ st => let ⟨o, ho, _⟩ := st.1; ⟨o, ho⟩
  frame := fun _ _ _ st hk => ⟨let ⟨o, ho, r⟩ := st.1; ⟨o, hk it (by simp) o ho, r⟩, let ⟨o, ho, r⟩ := st.2; ⟨o, hk l (by simp) o ho, r⟩⟩
  item := fun i s Q E hi st hQ => by
    refine next_tup st.1 st.2 (x := items[i]) (by simp [hi]) fun h' hit' hs' => ?_
    exact hQ _ h' s.toks (by simp [hi]) ⟨hit', st.2.extBut hs'.extBut hne⟩ hs'
  done := fun s Q E st hE => next_tup_end hh st.1 st.2 (by simp) hE
end E0

namespace E0
open PySem PySem.Spec PyProof.Rows L2
/-- the tuple at a, each item in a new pair with its place -/
def IteT (K : PySem.W.Frag) (a : Addr) : It :=
  ⟨fun i H => ∃ (xs : List V) (x : V), SqT K H a xs ∧ xs[i]? = some x, fun i H v H' => ∃ T x, v = .ref T ∧ H T = none ∧ H' = upd H T (.tup [.int (i : Nat), x]) ∧ ∀ xs, SqT K H a xs → xs[i]? = some x, fun i H => ∃ xs : List V, SqT K H a xs ∧ xs.length ≤ i⟩
theorem turn_enumT {P : Program} {w : World} {K : PySem.W.Frag} {elts : List Expr} {kk : Nat} {tpos : Pos} (a e it : Addr) (hai : a ≠ it) :
    Turn P w K (.Tuple elts kk tpos) (IteT K a) [e, it] e (fun i h => (∃ old, IsEnum h e it ((i : Nat) : Int) old) ∧ h.IsTupleIter it a i ∧ e ≠ it) where
  mem := by simp
  obj := fun i h st b hb => by
    obtain ⟨⟨old, he⟩, ⟨o, ho, hc, hd⟩, _⟩ := st
    rcases (show b = e ∨ b = it by simpa using hb) with z | z
    · rw [z]; exact ⟨_, he, fun v q => nomatch q⟩
    · rw [z]; exact ⟨o, ho, fun v q => by rw [hd] at q; cases q⟩
  keep := fun i h h' st k => let ⟨⟨old, he⟩, ⟨o, ho, r⟩, hne⟩ := st; ⟨⟨old, k e (by simp) _ he⟩, ⟨o, k it (by simp) o ho, r⟩, hne⟩
  item := by
    intro X hP hw hK hc i pins s σ H E I hf st hg
    subst hP hw hK
    obtain ⟨⟨old, he⟩, hit, hne⟩ := st
    obtain ⟨xs, x, hq, hx⟩ := hg
    obtain ⟨its, rv, p, hz⟩ := I.tuple hq
    obtain ⟨u, hu, ru⟩ := rv.get hx
    have hel : e < s.heap.objs.size := Heap.lt_size he
    have hil : it < s.heap.objs.size := by obtain ⟨_, q, _⟩ := hit; exact Heap.lt_size q
    have pT : s.heap.IsTuple a its.toArray := p
    have hae : a ≠ e := fun z => by
      obtain ⟨o, ho, hcl, _⟩ := pT
      rw [z, he] at ho
      cases ho
      exact absurd hcl (by simp)
    have hlt : i < its.toArray.size := by
      have := (List.getElem?_eq_some_iff.mp hu).1
      simpa using this
    have D := drawsT (prog := X.prog) (w := X.w) (A := X.A.in1) (I.ok.hd hc) it a hai its.toArray
    refine wpAny_pyNext_enum_itemD D he ⟨hit, pT⟩ hlt hne (by simp [hne, hae.symm]) fun x2 h' tk hP ho hst hT hsz hk => ?_
    have ex : x2 = u := by
      have e1 : its.toArray[i]? = some u := by simpa using hu
      have e2 : its.toArray[i]? = some x2 := hP
      rw [e1] at e2
      exact (Option.some.inj e2).symm
    subst ex
    refine ⟨_, rfl, wpAny_letOwnedTupleGo_enum (s := { s with heap := h', toks := tk + 1 }) ho fun h'' he' sb => ?_⟩
    have hT2 : h''.get? s.heap.objs.size = some { cls := .type "tuple", data := .seq #[.int i tk, x2] } := (sb.2 _ (Nat.ne_of_gt hel)).trans hT
    have new : ObjOk X.prog X.w (upd H s.heap.objs.size (.tup [.int (i : Nat), x])) h'' s.heap.objs.size (.tup [.int (i : Nat), x]) := ⟨by show 2 ≤ sizeLine; decide, [.int i tk, x2], .cons ⟨_, rfl⟩ (.cons ru .nil), ⟨_, hT2, rfl, _, rfl⟩⟩
    have I1 : L2.Inv X pins σ (upd H s.heap.objs.size (.tup [.int (i : Nat), x])) { s with heap := h'', toks := tk + 1 } :=
      I.turnedNew (ch := [e, it]) (fun b ob hb q => (sb.2 b (fun z => hb (by simp [z]))).trans (hk b ob (fun z => hb (by simp [z])) (fun z => hb (by simp [z])) q)) hf (Nat.le_refl _) new
    have hit2 : h''.IsTupleIter it a (i + 1) := by
      obtain ⟨o, ho, r⟩ := hst.1
      exact ⟨o, (sb.2 it (Ne.symm hne)).trans ho, r⟩
    refine ⟨.ref s.heap.objs.size, _, I1, rfl, ⟨_, x, rfl, I.hok.fresh (Nat.le_refl _), rfl, fun ys hy => by rw [I.tuple_inj hy hq]; exact hx⟩, ⟨⟨x2, ?_⟩, hit2, hne⟩, fun b hb => ?_⟩
    · have e1 : ((i + 1 : Nat) : Int) = (i : Int) + 1 := by omega
      rw [e1]; exact he'
    · have hb' : b < s.heap.objs.size := by
        rcases (show b = e ∨ b = it by simpa using hb) with z | z
        · rw [z]; exact hel
        · rw [z]; exact hil
      rw [upd_ne (Nat.ne_of_lt hb')]
      exact (hf b hb).1
  done := by
    intro X hP hw hK hc i pins s σ H E I hf st hg
    subst hP hw hK
    obtain ⟨⟨old, he⟩, hit, hne⟩ := st
    obtain ⟨xs, hq, hx⟩ := hg
    obtain ⟨its, rv, p, hz⟩ := I.tuple hq
    obtain ⟨f0, f1, f2, f3, f4, f5⟩ := hf it (by simp)
    have hl := rv.length
    have pT : s.heap.IsTuple a its.toArray := p
    have hT : s.TypeIs (.ref e) "enumerate" := ⟨_, he, rfl⟩
    unfold pyNext
    refine wpAny_bind (wpAny_attempt (wpAny_callSpecial?_slot (name := Str.ofString "__next__") hT F.slot_enumerate_next (wpAny_call_entry F.slot_enumerate_next hT F.entry_enumerate_next ?_ (F.args_enumerate_next_1 _))))
    show wpAny _ _ (field (.ref e) 2 >>= _) _ _ _
    refine wpAny_bind (wpAny_field he rfl (x := .ref it) rfl ?_)
    refine wpAny_bind (next_tup_end (A := X.A.in1) (I.ok.hd hc) hit pT (by simp; omega) fun h' x eb hx' => ?_)
    obtain ⟨o, ho, hcl⟩ := hx'
    refine wpAny_bind (wpAny_isInstance (T := "StopIteration") (b := true) ⟨o, ho, hcl⟩ isSubtype_stop ?_)
    exact wpAny_pure ⟨rfl, I.turned (t' := s.toks) (fun b o hb q => eb b o hb q) f0 f1 f3 f4 f5⟩
  self := fun A i s Q E st h => let ⟨⟨_, he⟩, _⟩ := st; wpAny_pyIter_enum he h
def iEnumT (K : PySem.W.Frag) (ta : TA) : TI := fun σ H R => ta σ H fun vs H1 => ∃ a xs, vs = [.ref a] ∧ SqT K H1 a xs ∧ R (IteT K a) H1
theorem pi_enumT {X : Cx} {e : Expr} {ta : TA} {p pos tpos : Pos} {elts : List Expr} {kk : Nat} (hg : Gl X "enumerate") (hm : X.mg "enumerate" = none) (ha : PA X [e] ta) (hs : starEach [e] X.env = [(false, eval e X.env)] := by rfl) :
    PI X (.Tuple elts kk tpos) (.Call (.Name "enumerate" p) [e] [] pos) (iEnumT X.K ta) := by
  refine ⟨fun pins s σ H R I h => ?_⟩
  refine Call_ (ld_blt I hg hm boot_enumerate (callWith_type1 (thn (ha.run pos pins s σ H _ I h) fun us s1 ⟨vs, H1, I1, r1, q1⟩ => ?_) hs rfl))
  obtain ⟨a, xs, ex, hq, q⟩ := q1
  subst ex
  cases r1 with
  | cons r rr =>
    cases rr
    cases r
    obtain ⟨its, rv, p', hz⟩ := I1.tuple hq
    have pT : s1.heap.IsTuple a its.toArray := p'
    have hal : a < s1.heap.objs.size := by
      obtain ⟨o, ho, _⟩ := pT
      exact Heap.lt_size ho
    refine call_enumT pT fun h' he hit hsz hk => wpAny_pyIter_enum he ?_
    have I2 : L2.Inv X pins σ H1 { s1 with heap := h' } := I1.kept (t' := s1.toks) hk
    refine ⟨s1.heap.objs.size + 1, [s1.heap.objs.size + 1, s1.heap.objs.size], _, _, H1, rfl, I2, turn_enumT a (s1.heap.objs.size + 1) s1.heap.objs.size (Nat.ne_of_lt hal), ⟨⟨.none, he⟩, hit, Nat.succ_ne_self _⟩, fun b hb => ?_, q⟩
    have hle : s1.heap.objs.size ≤ b := by
      rcases (show b = s1.heap.objs.size + 1 ∨ b = s1.heap.objs.size by simpa using hb) with z | z
      · rw [z]; exact Nat.le_add_right _ _
      · rw [z]; exact Nat.le_refl _
    exact I1.fpOk hle (I1.hok.fresh hle)
theorem walk_enumT {K : PySem.W.Frag} {a : Addr} {xs : List V} : Walk (IteT K a) xs.length (fun H => SqT K H a xs) (YPair (fun i => some (.int (i : Nat))) (fun i => xs[i]?)) := by
  refine ⟨fun i _ hi q => ⟨xs, xs[i], q, by simp [hi]⟩, fun _ q => ⟨xs, q, Nat.le_refl _⟩, fun i H v H' _ q y => ?_⟩
  obtain ⟨T, x, h1, h2, h3, h4⟩ := y
  exact ⟨T, .int (i : Nat), x, h1, h2, h3, rfl, h4 xs q⟩
end E0

namespace EG
open PySem PySem.Spec PyProof.Rows L2
/-! ### promises of defs that are called where no repr is under way -/
structure FnG (P : Program) (w : World) (K : PySem.W.Frag) (mg : Str → Option Value) (base : Heap) (CX : CXT) (k : Nat) (f : Addr) (fd : FuncData) (ps : List Str) (sp : Sp) : Prop where
  lenG : ∀ vs H Q E, sp vs H Q E → vs.length = ps.length
  runG : ∀ (A : Around) (outer : List Env) (s : Shared) (H : Hp) (args : Args) (us : List Value) (vs : List V) (Q : VK) (E : XK), Room k A → A.guards = some [] →
    Env0 P w K mg base A outer s H → BindsTo s fd args (ps.zip us) → Vals vs us → sp vs H Q E → codeAny (model P w) A (.call (.ref f) args) (CR CX outer P w H s Q E) s
section
variable {CX : CXT} {P : Program} {w : World} {K : PySem.W.Frag} {mg : Str → Option Value} {base : Heap} {k : Nat} {f : Addr}
theorem fnG_of {name qual : Str} {params : Arguments} {body : List Stmt} {scope : Scope} {dV kV doc pm cdv ct oc : Value} {an od : Option Addr} {osl : Array (Option Value)} {N ps : List Str} {sp : Sp}
    (lk : K.lookup f = some ⟨oc, od, .func (PySem.W.fnOf name qual params body scope dV kV doc pm an cdv ct), osl⟩) (cd : PySem.W.codeIn K cdv qual = true) (S : FnScope N ps scope)
    (ln : ∀ vs H Q E, sp vs H Q E → vs.length = ps.length)
    (bd : ∀ (A : Around) (outer : List Env) (s : Shared) (H : Hp) (vs : List V) (Q : VK) (E : XK), Room k (A.deeper (envOfC qual scope s.heap.objs.size f cdv)) → A.guards = some [] → sp vs H Q E →
      ∃ t, PSs (cxOf CX P w K mg base N qual scope f cdv A outer s H E) body t ∧ t { nx := fun _ H' => Q .non H', rt := Q } (start N vs) H) :
    FnG P w K mg base CX (k + 1) f (PySem.W.fnOf name qual params body scope dV kV doc pm an cdv ct) ps sp where
  lenG := ln
  runG A outer s H args us vs Q E hr hG e0 hb r h := by
    have inK : K.In s.heap := e0.mod.kin.keeps fun b o e => (e0.bs b o e).1
    have kinds : ∀ y ∈ ps.zip us, scope.names.lookup y.1 = some .local ∨ (scope.names.lookup y.1 = some .cell ∧ ((cellsFrom (s.heap.objs.size + 1) scope.names []).lookup y.1).isSome = true) := by
      rintro ⟨n, v⟩ hy
      exact (S.par n (List.of_mem_zip hy).1).imp id fun q => ⟨q, PySem.W.cellsFrom_some _ _ _ (.inl q)⟩
    refine codeAny_call_function hr.depth (inK _ _ lk) rfl S.co S.gen rfl (PySem.W.codeRec_of inK cd) (hb _ _ _ _ (wpAny_newFunctionEnv_cells S.kind kinds fun env he s1 x => ?_))
    cases he
    refine ⟨(e0.mod.nolimit.keeps fun b o e => (e0.bs b o e).1).keeps x.toInCall.keep, codeAny_func ?_⟩
    obtain ⟨t, pt, q⟩ := bd A outer s H vs Q E (hr.deeper _) hG h
    refine wpAny_mono (pt.run [] s1 (start N vs) H _ (inv_start S hr.hd e0 (ln _ _ _ _ h) r x) q) (fun fl s' z => ?_) fun e s' z => z
    match fl, z with
    | .ret u, ⟨v, _, H', J, rv, q⟩ => exact ⟨v, H', J.os, J.bare, J.base, J.hok, rv, q⟩
    | .next, ⟨_, H', J, q⟩ => exact ⟨V.non, H', J.os, J.bare, J.base, J.hok, rfl, q⟩
    | .brk, ⟨_, _, _, q⟩ => exact q.elim
    | .cont, ⟨_, _, _, q⟩ => exact q.elim
end
section
variable {X : Cx} {CX : CXT} {k : Nat} {f : Addr} {fd : FuncData} {ps : List Str} {sp : Sp} {ds : List Value} {dvs : List V} {E : XK} {x : Str} {p pos : Pos} {e : Expr} {es : List Expr} {t : TA}
theorem fnG_run {pins : List (Addr × Obj)} {σ : L2.St} {H : Hp} {s : Shared} {Q : VK} {us : List Value} {vs : List V} (F : FnG X.prog X.w X.K X.mg X.base CX k f fd ps sp) (hr : Room k X.A) (hG : X.A.guards = some [])
    (hb : Binds X.K fd ps ds) (hd : Vals dvs ds) (hx : Passes CX X E) (I : Inv X pins σ H s) (r : Vals vs us) (h : sp (vs ++ dvs) H Q E) : wpAny (model X.prog X.w) X.A (call (.ref f) us) (EP X pins σ Q) X.xe s := by
  have r2 := r.append hd
  have both := F.runG X.A X.stack s H ⟨us, []⟩ (us ++ ds) (vs ++ dvs) Q E hr hG I.env0 (hb s us I.kIn (by rw [← r2.length]; exact F.lenG _ _ _ _ h)) r2 h
  refine wpAny_call (codeAny_mono both fun z s' hq => ?_)
  match z, hq with
  | .error e, hq => exact hx pins σ H s e s' I hq
  | .ok (.ret u), hq => exact I.after hq
theorem pe_callG (F : FnG X.prog X.w X.K X.mg X.base CX k f fd ps sp) (hr : Room k X.A) (hG : X.A.guards = some []) (hg : Gl X x) (hm : X.mg x = some (.ref f)) (hk : PySem.W.keepIn X.K (.ref f) = true)
    (hb : Binds X.K fd ps ds) (hd : Vals dvs ds) (hx : Passes CX X E) (ha : PA X (e :: es) t) (hdb : (x == ("__debug__" : Str)) = false := by decide)
    (he : starEach (e :: es) X.env = (false, eval e X.env) :: starEach es X.env := by rfl) (hpl : (backTo pos (starEach es X.env)).any (·.1) = false := by rfl) :
    PE X (.Call (.Name x p) (e :: es) [] pos) (tCall sp dvs E t) := ⟨fun pins s σ H Q I h =>
  wpAny_Call_Name_kw (ld_glob I hg hm
    (PySem.W.callWith_K (h₀ := X.base) I.ok.mod.kin hk (thn (ha.run pos pins s σ H _ I h) fun us s1 ⟨vs, H1, I1, r, q⟩ => ⟨I1.kIn, fnG_run F hr hG hb hd hx I1 r q⟩) he hpl) hdb)⟩
end
end EG

namespace EG
open PySem PySem.Spec PyProof.Rows L2 LamX
/-! ### the end of a law's row, where its def may ask that no repr is under way -/
/-- what is tracked when the law begins: the empty tables of its code objects, and the script where the module does not hold it -/
def H0 (K : PySem.W.Frag) (T : List Addr) (a : Addr) (ob : Obj) (xs : List V) : Hp := fun b =>
  if b ∈ T then some (.tbl #[]) else if b = a ∧ (K.lookup a).isNone = true then some (.frz ob (.lst xs)) else none
section
variable {K : PySem.W.Frag} {T : List Addr} {a : Addr} {ob : Obj} {xs : List V} {b : Addr}
theorem H0_tab (h : b ∈ T) : H0 K T a ob xs b = some (.tbl #[]) := if_pos h
theorem H0_scr (h : a ∉ T) (k : K.lookup a = none) : H0 K T a ob xs a = some (.frz ob (.lst xs)) := by
  unfold H0
  rw [if_neg h, if_pos ⟨rfl, by rw [k]; rfl⟩]
theorem H0_cases (b : Addr) : H0 K T a ob xs b = none ∨ (b ∈ T ∧ H0 K T a ob xs b = some (.tbl #[])) ∨ (b = a ∧ b ∉ T ∧ K.lookup a = none ∧ H0 K T a ob xs b = some (.frz ob (.lst xs))) := by
  by_cases h : b ∈ T
  · exact .inr (.inl ⟨h, H0_tab h⟩)
  · by_cases z : b = a ∧ (K.lookup a).isNone = true
    · obtain ⟨rfl, e⟩ := z
      have k : K.lookup b = none := Option.isNone_iff_eq_none.mp e
      exact .inr (.inr ⟨rfl, h, k, H0_scr h k⟩)
    · left
      unfold H0
      rw [if_neg h, if_neg z]
end
/-- a law's def: where its code objects' tables stand, how it binds, what it is promised -/
structure TopG (P : Program) (w : World) (K : PySem.W.Frag) (mg : Str → Option Value) (CX : CXT) (k : Nat) (fa : Addr) (x : Str) (cs : List (Addr × Addr)) (fd : FuncData) (sp : Sp) (h : Heap) (n : Nat) : Prop where
  emp : ∀ p ∈ cs, h.get? p.2 = some { cls := .none, data := .fields #[] }
  out : ∀ p ∈ cs, K.lookup p.2 = none
  hd : ∀ p ∈ cs, PySem.W.CodeHd h p.1 p.2
  bnd : ∀ (s : Shared) (u : Value), BindsTo s fd ⟨[u], []⟩ [(x, u)]
  ask : ∀ (H : Hp) (a : Addr) (ns : List Int), ns.length ≤ n → (∀ z ∈ ns, Builtin.Int.intBits z ≤ 1048576) → (∀ p ∈ cs, H p.2 = some (.tbl #[])) → SqL K H a (ns.map V.int) → sp [.ref a] H (fun v _ => v = .bl true) fun _ _ _ => False
  fn : ∀ base : Heap, K.In base → base.Ns mainGlobals mg → (∀ p ∈ cs, TabB base mg p.1 p.2) → FnG P w K mg base CX k fa fd [x] sp
theorem law_runG {P : Program} {w : World} {K : PySem.W.Frag} {mg mb : Str → Option Value} {CX : CXT} {k n : Nat} {fa a : Addr} {cs : List (Addr × Addr)} {fd : FuncData} {x : Str} {sp : Sp} {s : Shared} {vs : List Value} {ns : List Int}
    (T : TopG P w K mg CX k fa x cs fd sp s.heap n) (KX : K.In s.heap) (g : s.heap.Ns mainGlobals mg) (b : s.heap.Ns builtinsNs mb) (bb : ∀ x : Str, x ≠ "__name__" → mb x = bootBuiltins x) (lim : s.heap.NoLimit) (gen : s.gens = #[])
    (bm : ∃ (bm : Addr) (o : Obj), mg "__builtins__" = some (.ref bm) ∧ bm ≠ builtinsNs ∧ s.heap.get? bm = some o ∧ o.cls = .type "module" ∧ o.dict = some builtinsNs ∧ o.data = .plain)
    (ha : s.heap.get? a = some { cls := .type "list", data := .seq vs.toArray }) (hi : IntsAre vs ns) (hl : ns.length ≤ n) (hn : n ≤ sizeLine) (bits : ∀ z ∈ ns, Builtin.Int.intBits z ≤ 1048576) (hr : Room k callerA)
    (nx : ∀ H e s', CX [] H s (fun _ _ _ => False) e s' → False) :
    codeAny (model P w) callerA (.call (.ref fa) ⟨[.ref a], []⟩) (fun r s' => r = .ok (.ret (.bool true)) ∧ OldK s.heap s'.heap ∧ s'.os = s.os ∧ AllBare s'.gens) s := by
  have rel := vals_ints hi
  have len : ns.length ≤ sizeLine := Nat.le_trans hl hn
  have lens := hi.length
  have tab : ∀ c : Addr, c ∈ cs.map (·.2) → s.heap.get? c = some { cls := .none, data := .fields #[] } := by
    intro c hc
    obtain ⟨p, hp, rfl⟩ := List.mem_map.mp hc
    exact T.emp p hp
  have inT : ∀ p ∈ cs, p.2 ∈ cs.map (·.2) := fun p hp => List.mem_map.mpr ⟨p, hp, rfl⟩
  have na : a ∉ cs.map (·.2) := fun z => by
    have q : Data.seq vs.toArray _ = Data.fields #[] := congrArg Obj.data (Option.some.inj (ha.symm.trans (tab a z)))
    cases q
  obtain ⟨Hq, eH⟩ : ∃ Hq, Hq = H0 K (cs.map (·.2)) a { cls := .type "list", data := .seq vs.toArray } (ns.map V.int) := ⟨_, rfl⟩
  have cas : ∀ c, Hq c = none ∨ (c ∈ cs.map (·.2) ∧ Hq c = some (.tbl #[])) ∨ (c = a ∧ c ∉ cs.map (·.2) ∧ K.lookup a = none ∧ Hq c = some (.frz { cls := .type "list", data := .seq vs.toArray } (.lst (ns.map V.int)))) := by
    rw [eH]
    exact H0_cases
  have atT : ∀ p ∈ cs, Hq p.2 = some (.tbl #[]) := fun p hp => by
    rw [eH]
    exact H0_tab (inT p hp)
  -- the script, read
  have hS : SqL K Hq a (ns.map V.int) := by
    cases hk : K.lookup a with
    | none =>
      rw [eH]
      exact .inl (.inr ⟨_, H0_scr na hk⟩)
    | some o =>
      have e := (KX a o hk).symm.trans ha
      cases e
      exact .inr ⟨_, vs.toArray, _, hk, rfl, rfl, rfl, by rw [List.size_toArray, lens]; exact len, by simpa using rel⟩
  have hok : HOk P w Hq s.heap := fun c u z => by
    rcases cas c with q | ⟨hc, q⟩ | ⟨rfl, _, _, q⟩
    · rw [q] at z; cases z
    · rw [q] at z; cases z; exact tab c hc
    · rw [q] at z; cases z
      exact ⟨ha, by rw [List.length_map]; exact len, vs, _, rel, ha⟩
  -- what is not tracked
  have off : ∀ {c : Addr} {o : Obj}, s.heap.get? c = some o → (∀ l m, o.data ≠ .seq l m) → o.data ≠ .fields #[] → Hq c = none := fun {c o} e h1 h2 => by
    rcases cas c with q | ⟨hc, _⟩ | ⟨rfl, _, _, _⟩
    · exact q
    · rw [tab c hc] at e
      cases e
      exact absurd rfl h2
    · rw [ha] at e
      cases e
      exact absurd rfl (h1 _ _)
  have ns' : ∀ {c : Addr} {m : Str → Option Value}, s.heap.Ns c m → (hidT s.heap Hq).Ns c m := by
    rintro c m ⟨o, es, ep, e, d, r⟩
    exact ⟨o, es, ep, hidT_get e (off e (by rw [d]; exact fun _ _ => nofun) (by rw [d]; exact nofun)), d, r⟩
  have kin : K.In (hidT s.heap Hq) := fun c o e => hidT_get (KX c o e) (by
    rcases cas c with q | ⟨hc, _⟩ | ⟨rfl, _, k, _⟩
    · exact q
    · obtain ⟨p, hp, rfl⟩ := List.mem_map.mp hc
      rw [T.out p hp] at e
      cases e
    · rw [k] at e
      cases e)
  have modl : L2.Mod K mg (hidT s.heap Hq) := ⟨kin, ns' g, ⟨mb, ns' b, bb⟩, by
    obtain ⟨mc, l1, l2⟩ := lim
    exact ⟨mc, ns' l1, l2⟩⟩
  have tabs : ∀ p ∈ cs, TabB (hidT s.heap Hq) mg p.1 p.2 := fun p hp => by
    have et := T.emp p hp
    obtain ⟨o, es, ep, ge, gd, _⟩ := g
    constructor
    · obtain ⟨oc, us, file, tf, fl, tg, inF, text, tt, c1, c2, c3, c4, rest⟩ := T.hd p hp
      refine ⟨oc, us, file, tf, fl, tg, inF, text, tt, hidT_get c1 (off c1 (by rw [c3]; exact fun _ _ => nofun) fun z => ?_), c2, c3, c4, rest⟩
      rw [c3] at z
      cases z
      simp at c4
    · obtain ⟨m, om, m1, m2, m3, m4, m5, m6⟩ := bm
      refine ⟨m, om, m1, m2, ?_, ?_, hidT_get m3 (off m3 (by rw [m6]; exact fun _ _ => nofun) (by rw [m6]; exact nofun)), m4, m5, m6⟩
      · rintro rfl
        rw [ge] at m3
        cases m3
        rw [gd] at m6
        cases m6
      · rintro rfl
        rw [et] at m3
        cases m3
        cases m6
    · intro z
      rw [z, et] at ge
      cases ge
      cases gd
  have env : Env0 P w K mg (hidT s.heap Hq) callerA [] s Hq :=
    { frames := rfl, mod := modl, bs := fun c o e => of_hidT e, bsz := Nat.le_of_eq (hidT_size _ _), funs := trivial, frf := fun c hc => (by cases hc), hok := hok, bare := .of_eq gen }
  have run := (T.fn _ kin (ns' g) tabs).runG callerA [] s Hq ⟨[.ref a], []⟩ [.ref a] [.ref a] _ _ hr rfl env (T.bnd s (.ref a)) (.cons rfl .nil) (T.ask Hq a ns hl bits atT hS)
  refine codeAny_mono run fun r s' z => ?_
  match r, z with
  | .error e, z => exact (nx Hq e s' z).elim
  | .ok (.ret u), ⟨v, H', os, bare, un, hok', rv, q⟩ =>
    cases show v = .bl true from q
    cases show u = Value.bool true from rv
    have stay : ∀ c o, c ∉ cs.map (·.2) → s.heap.get? c = some o → s'.heap.get? c = some o := fun c o hc e => by
      rcases cas c with q | ⟨h, _⟩ | ⟨_, _, _, q⟩
      · exact un.keep c o e q (by intro z; cases z) (by intro z; cases z)
      · exact absurd h hc
      · have e1 := (hok c _ q).1
        rw [e] at e1
        cases e1
        exact (hok' c _ (un.frzs c _ _ q)).1
    have more : ∀ p ∈ cs, ∃ m : Array Value, s'.heap.get? p.2 = some { cls := .none, data := .fields m } := fun p hp => by
      obtain ⟨m, z⟩ := un.tbls p.2 #[] (atT p hp)
      exact ⟨_, hok' p.2 _ z⟩
    refine ⟨rfl, ⟨fun c o e => ?_, fun c o e => ?_⟩, os, bare⟩
    · by_cases hc : c ∈ cs.map (·.2)
      · obtain ⟨p, hp, rfl⟩ := List.mem_map.mp hc
        obtain ⟨m, hm⟩ := more p hp
        have e' := (T.emp p hp).symm.trans e
        cases e'
        exact .inr (.inl ⟨((T.hd p hp).tab (T.emp p hp)).isCodeTable, rfl, #[], m, rfl, by rw [Array.empty_append]; exact hm⟩)
      · exact .inl (stay c o hc e)
    · by_cases hc : c ∈ cs.map (·.2)
      · obtain ⟨p, hp, rfl⟩ := List.mem_map.mp hc
        obtain ⟨m, hm⟩ := more p hp
        exact ⟨_, hm⟩
      · exact ⟨o, stay c o hc e⟩
theorem walk_G {l : PySem.W.OpenLaw} {n k : Nat} {q : Program} {loose : List Str} {XP : (Str → Option Value) → Heap → Prop} {YP : World → Heap → Prop} {d : DefRec} {K : Params → PySem.W.Frag} {CX : World → CXT} {x : Str}
    (most : l.most = some n) (small : n ≤ sizeLine) (noD : d.params.defaults = []) (room : Room k callerA) (inY : ∀ (w : World) (h : Heap), YP w h → (K w.params).In h)
    (top : ∀ (w : World) (mg : Str → Option Value) (fa : Addr) (h : Heap), YP w h → (K w.params).In h → h.Ns mainGlobals mg → mg d.name = some (.ref fa) → ∃ cs fd sp, TopG l.prog w (K w.params) mg (CX w) k fa x cs fd sp h n)
    (noX : ∀ (w : World) (H : Hp) (s : Shared) (e : Value) (s' : Shared), CX w [] H s (fun _ _ _ => False) e s' → False) : PySem.W.WalkO q loose XP YP l.row.toRowW d [] (fun f vs => PySem.call f vs) :=
  Att.attach_callB most noD fun w _ s₁ mg _ fa _ _ _ _ _ _ _ G Y _ _ _ hmg hobj hints hlen hbits hg => by
    obtain ⟨cs, fd, sp, T⟩ := top w mg fa _ Y (inY w _ Y) G.T.g hmg
    exact law_runG T (inY w _ Y) G.T.g G.T.b G.T.builtins G.T.nolimit hg G.T.bmain hobj hints hlen small hbits room fun H e s' => noX w H s₁ e s'
end EG

namespace K2
open PySem L2
def top (i : Nat) : Stmt := PySem.Challenge.pw_ruleengine_k48_plans_and_flows_refused.main.body.getD i (.Pass ⟨0, 0, 0, 0⟩)

abbrev sMixed : Stmt := top 55
abbrev sFolded : Stmt := top 56
abbrev sDraw : Stmt := top 57
abbrev sBegun : Stmt := top 58
abbrev sName : Stmt := top 7
abbrev sSort : Stmt := top 8
abbrev sTaken : Stmt := top 9
abbrev sSortTaken : Stmt := top 10
abbrev sWordQ : Stmt := top 11
abbrev sErrInit : Stmt := inClass (top 14) 0
abbrev sSchErr : Stmt := inClass (top 15) 0
abbrev sUnkErr : Stmt := inClass (top 25) 0
abbrev sPlanErr : Stmt := inClass (top 27) 0
abbrev sFlowErr : Stmt := inClass (top 28) 0
abbrev sFormInit : Stmt := inClass (top 43) 1
abbrev sFormOf : Stmt := inClass (top 43) 2
abbrev sSchInit : Stmt := inClass (top 44) 1
abbrev sSchOf : Stmt := inClass (top 44) 2
abbrev sSchEq : Stmt := inClass (top 44) 3
abbrev sSchHas : Stmt := inClass (top 44) 4
abbrev sSchGet : Stmt := inClass (top 44) 5
abbrev sChecked : Stmt := top 45
abbrev sCheckForms : Stmt := top 46
abbrev sCheckSorts : Stmt := top 47
abbrev sSortsIn : Stmt := top 48
abbrev sPlanInit : Stmt := inClass (top 51) 0
abbrev sFlowInit : Stmt := inClass (top 52) 0
abbrev sFlowPlan : Stmt := inClass (top 52) 1
abbrev sCheckPlan : Stmt := top 53
abbrev sClass : Stmt := top 59
abbrev sValueClass : Stmt := top 60
abbrev sGot : Stmt := top 61
abbrev sBase : Stmt := top 62
abbrev sDoubled : Stmt := top 63
abbrev sIsIt : Stmt := top 64
abbrev sPlansRight : Stmt := top 65
abbrev sEntriesRight : Stmt := top 66
abbrev sFlowRight : Stmt := top 67
abbrev sLaw : Stmt := top 68
/-! ### readings, as equations for simp -/
@[simp] theorem x_tOp {r : R2} {ta tb : TE} {σ : L2.St} {H : Hp} {Q : VK} : tOp r ta tb σ H Q = ta σ H fun x H1 => tb σ H1 fun y H2 => r x y H2 Q := rfl
@[simp] theorem x_rI {C : Int → Int → Prop} {g : Int → Int → V} {x y : V} {H : Hp} {Q : VK} : rI C g x y H Q = ∃ i j, x = .int i ∧ y = .int j ∧ C i j ∧ Q (g i j) H := rfl
@[simp] theorem x_rI0 {g : Int → Int → V} {x y : V} {H : Hp} {Q : VK} : rI0 g x y H Q = ∃ i j, x = .int i ∧ y = .int j ∧ Q (g i j) H := rfl
@[simp] theorem x_rU {g : Int → V} {x : V} {H : Hp} {Q : VK} : rU g x H Q = ∃ i, x = .int i ∧ Q (g i) H := rfl
@[simp] theorem x_tVar {i : Nat} {σ : L2.St} {H : Hp} {Q : VK} : tVar i σ H Q = ∃ v, σ[i]? = some (some v) ∧ Q v H := rfl
@[simp] theorem x_tC {v : V} {σ : L2.St} {H : Hp} {Q : VK} : tC v σ H Q = Q v H := rfl
@[simp] theorem x_gName {i : Nat} {v : V} {σ : L2.St} {H : Hp} {Q : L2.St → Hp → Prop} : gName i v σ H Q = Q (σ.set i (some v)) H := rfl
@[simp] theorem x_tAsg {te : TE} {g : TG} {D : Ends} {σ : L2.St} {H : Hp} : tAsg te g D σ H = te σ H fun x H1 => g x σ H1 D.nx := rfl
@[simp] theorem x_tSeq {t u : TS} {D : Ends} {σ : L2.St} {H : Hp} : tSeq t u D σ H = t { D with nx := u D } σ H := rfl
@[simp] theorem x_tRet {te : TE} {D : Ends} {σ : L2.St} {H : Hp} : tRet te D σ H = te σ H D.rt := rfl
@[simp] theorem x_tNext {D : Ends} {σ : L2.St} {H : Hp} : tNext D σ H = D.nx σ H := rfl
@[simp] theorem x_tDrop {te : TE} {D : Ends} {σ : L2.St} {H : Hp} : tDrop te D σ H = te σ H fun _ H1 => D.nx σ H1 := rfl
@[simp] theorem x_tIfS {c : TT} {t u : TS} {D : Ends} {σ : L2.St} {H : Hp} : tIfS c t u D σ H = c σ H fun b H1 => if b = true then t D σ H1 else u D σ H1 := rfl
@[simp] theorem x_tIf {c : TT} {t u : TE} {Q : VK} {σ : L2.St} {H : Hp} : tIf c t u σ H Q = c σ H fun b H1 => if b = true then t σ H1 Q else u σ H1 Q := rfl
@[simp] theorem x_tB {t : TE} {σ : L2.St} {H : Hp} {Q : Bool → Hp → Prop} : tB t σ H Q = t σ H fun x H1 => ∃ c, x = .bl c ∧ Q c H1 := rfl
@[simp] theorem x_tTest {t : TE} {σ : L2.St} {H : Hp} {Q : Bool → Hp → Prop} : tTest t σ H Q = t σ H fun x H1 => ∃ c, x = .bl c ∧ Q c H1 := rfl
@[simp] theorem x_tAnd {t u : TT} {σ : L2.St} {H : Hp} {Q : Bool → Hp → Prop} : tAnd t u σ H Q = t σ H fun c H1 => if c = true then u σ H1 Q else Q false H1 := rfl
@[simp] theorem x_tOr {t u : TT} {σ : L2.St} {H : Hp} {Q : Bool → Hp → Prop} : tOr t u σ H Q = t σ H fun c H1 => if c = true then Q true H1 else u σ H1 Q := rfl
@[simp] theorem x_tNot {t : TT} {σ : L2.St} {H : Hp} {Q : Bool → Hp → Prop} : tNot t σ H Q = t σ H fun c H1 => Q (!c) H1 := rfl
@[simp] theorem x_tAndV {ta tb : TE} {σ : L2.St} {H : Hp} {Q : VK} : tAndV ta tb σ H Q = ta σ H fun x H1 => ∃ c, x = .bl c ∧ if c = true then tb σ H1 Q else Q (.bl false) H1 := rfl
@[simp] theorem x_tOrV {ta tb : TE} {σ : L2.St} {H : Hp} {Q : VK} : tOrV ta tb σ H Q = ta σ H fun x H1 => ∃ c, x = .bl c ∧ if c = true then Q (.bl true) H1 else tb σ H1 Q := rfl
@[simp] theorem x_tNotV {ta : TE} {σ : L2.St} {H : Hp} {Q : VK} : tNotV ta σ H Q = ta σ H fun x H1 => ∃ c, x = .bl c ∧ Q (.bl (!c)) H1 := rfl
@[simp] theorem x_tNil {σ : L2.St} {H : Hp} {Q : List V → Hp → Prop} : tNil σ H Q = Q [] H := rfl
@[simp] theorem x_tCons {ta : TE} {tr : TA} {σ : L2.St} {H : Hp} {Q : List V → Hp → Prop} : tCons ta tr σ H Q = ta σ H fun x H1 => tr σ H1 fun xs H2 => Q (x :: xs) H2 := rfl
@[simp] theorem x_tCB {r : List V → Hp → VK → Prop} {t : TA} {σ : L2.St} {H : Hp} {Q : VK} : tCB r t σ H Q = t σ H fun vs H1 => r vs H1 Q := rfl
@[simp] theorem x_tCall {sp : Sp} {dvs : List V} {E : XK} {t : TA} {σ : L2.St} {H : Hp} {Q : VK} : tCall sp dvs E t σ H Q = t σ H fun vs H1 => sp (vs ++ dvs) H1 Q E := rfl
@[simp] theorem x_tLst {t : TA} {σ : L2.St} {H : Hp} {Q : VK} : tLst t σ H Q = t σ H fun xs H1 => xs.length ≤ sizeLine ∧ ∀ p, H1 p = none → Q (.ref p) (upd H1 p (.lst xs)) := rfl
@[simp] theorem x_tTup {t : TA} {σ : L2.St} {H : Hp} {Q : VK} : tTup t σ H Q = t σ H fun xs H1 => xs.length ≤ sizeLine ∧ ∀ p, H1 p = none → Q (.ref p) (upd H1 p (.tup xs)) := rfl
@[simp] theorem x_tDGet {td ty : TE} {σ : L2.St} {H : Hp} {Q : VK} : tDGet td ty σ H Q = td σ H fun x H1 => ty σ H1 fun y H2 => ∃ a v, x = .ref a ∧ DGet H2 a y (some v) ∧ Q v H2 := rfl
@[simp] theorem x_sDPut {td ty tv : TE} {D : Ends} {σ : L2.St} {H : Hp} : sDPut td ty tv D σ H = tv σ H fun v H1 => td σ H1 fun x H2 => ty σ H2 fun y H3 => ∃ a H4, x = .ref a ∧ DPut H3 a y v H4 ∧ D.nx σ H4 := rfl
@[simp] theorem x_rNeD {K : PySem.W.Frag} {x y : V} {H : Hp} {Q : VK} : rNeD K x y H Q = ∃ d e, Dp K H x d ∧ Dp K H y e ∧ SeqAt.shaped d = true ∧ SeqAt.shaped e = true ∧ Q (.bl (!PyData.eqv d e)) H := rfl
@[simp] theorem x_rEqD {K : PySem.W.Frag} {x y : V} {H : Hp} {Q : VK} : rEqD K x y H Q = ∃ d e, Dp K H x d ∧ Dp K H y e ∧ SeqAt.shaped d = true ∧ SeqAt.shaped e = true ∧ Q (.bl (PyData.eqv d e)) H := rfl
@[simp] theorem x_rIxL {K : PySem.W.Frag} {x y : V} {H : Hp} {Q : VK} : rIxL K x y H Q = ∃ p xs i v, x = .ref p ∧ y = .int i ∧ SqL K H p xs ∧ atI xs i = some v ∧ Q v H := rfl
@[simp] theorem x_rSetL {o i v : V} {H : Hp} {Q : Hp → Prop} : rSetL o i v H Q = ∃ p xs k j, o = .ref p ∧ i = .int k ∧ H p = some (.lst xs) ∧ ixN xs.length k = some j ∧ Q (upd H p (.lst (xs.set j v))) := rfl
@[simp] theorem x_gSub {to ti : TE} {t : TSet} {v : V} {σ : L2.St} {H : Hp} {Q : L2.St → Hp → Prop} : gSub to ti t v σ H Q = to σ H fun o H1 => ti σ H1 fun i H2 => t o i v H2 fun H3 => Q σ H3 := rfl
@[simp] theorem x_rEq {x y : V} {H : Hp} {Q : VK} : rEq x y H Q = (scal x y = true ∧ Q (.bl (decide (x = y))) H) := rfl
@[simp] theorem x_rNe {x y : V} {H : Hp} {Q : VK} : rNe x y H Q = (scal x y = true ∧ Q (.bl (!decide (x = y))) H) := rfl
@[simp] theorem x_rIsi {K : PySem.W.Frag} {xs : List V} {H : Hp} {Q : VK} : rIsi K xs H Q = ∃ (x c : V) (t u : Value) (b : Bool), xs = [x, c] ∧ ClsV c u ∧ TyX K H x t ∧ PySem.W.kitOne K t u = some b ∧ Q (.bl b) H := rfl
@[simp] theorem x_start {N : List Str} {vs : List V} : L2.start N vs = vs.map some ++ List.replicate (N.length - vs.length) none := rfl
def mixed (c n : Int) : Int := ((c * (1 + 2 * n) * 48271 % 2147483647 + 7919 * n * n + 104729 * n) * 69621 % 2147483629) / 7
theorem mixed_nonneg (c n : Int) : 0 ≤ mixed c n := by
  unfold mixed
  exact Int.ediv_nonneg (Int.emod_nonneg _ (by decide)) (by decide)
theorem mixed_lt (c n : Int) : mixed c n < 2147483648 := by
  unfold mixed
  have h := Int.emod_lt_of_pos ((c * (1 + 2 * n) * 48271 % 2147483647 + 7919 * n * n + 104729 * n) * 69621) (show (0 : Int) < 2147483629 by decide)
  omega
def spMixed : Sp := fun vs H Q _ => ∃ c n : Int, vs = [.int c, .int n] ∧ -(2 ^ 62) ≤ c ∧ c ≤ 2 ^ 62 ∧ 0 ≤ n ∧ n ≤ 2 ^ 30 ∧ Q (.int (mixed c n)) H
theorem scMixed : FnScope ["_law_cell", "_law_n", "_law_turned"] ["_law_cell", "_law_n"] (defScope sMixed) := ⟨rfl, rfl, rfl, by decide +kernel, rfl, by decide +kernel, by decide +kernel⟩
section
variable {P : Program} {w : World} {K : PySem.W.Frag} {mg : Str → Option Value} {base : Heap}
theorem ok_mixed {f : Addr} {fd : FuncData} (F : Fun K "_law_mixed" "_law_mixed" sMixed f fd) : FnOk P w K mg base CX0 1 f fd ["_law_cell", "_law_n"] spMixed := by
  refine F.ok scMixed (fun vs H Q E h => ?_) (fun cdv A outer s H vs Q E hr h => ?_)
  · obtain ⟨c, n, rfl, _⟩ := h
    rfl
  · obtain ⟨c, n, rfl, c0, c1, n0, n1, k⟩ := h
    refine ⟨_, pss_cons (ps_set (i := 2) scMixed.nd rfl (Or.inl rfl)
        (pe_op op_add (pe_op op_add (pe_op op_mod (pe_op op_mul (pe_op op_mul (pv 0) (pe_op op_add pe_int (pe_op op_mul pe_int (pv 1)))) pe_int) pe_int)
          (pe_op op_mul (pe_op op_mul pe_int (pv 1)) (pv 1))) (pe_op op_mul pe_int (pv 1))))
      (pss_one (ps_ret (pe_op op_fdiv (pe_op op_mod (pe_op op_mul (pv 2) pe_int) pe_int) pe_int))), ?_⟩
    simp [CMul, CDiv]
    exact ⟨.inl ⟨by omega, by omega⟩, .inr ⟨by omega, by omega⟩, k⟩

theorem fm0 (a : Int) {b : Int} (h : 0 < b) : 0 ≤ Int.fmod a b := by
  rw [Int.fmod_eq_emod_of_nonneg _ (by omega)]
  exact Int.emod_nonneg _ (by omega)
theorem ixN_n {n j : Nat} (hj : j < n) : ixN n (j : Int) = some j := by
  unfold ixN
  rw [if_pos (by omega), if_pos (by omega)]
  simp
theorem dg {H : Hp} {a : Addr} {kvs : List (Key × V)} {k : Key} {v : V} (e : H a = some (.dK kvs)) (h : valV kvs k = some v) : DGet H a (kV k) (some v) := by
  rw [← h]
  exact DGet.k e
theorem dpInts {K : PySem.W.Frag} {H : Hp} : ∀ l : List Int, DpAll K H (l.map V.int) (l.map PyData.int)
  | [] => .nil
  | i :: l => .cons (.int i) (dpInts l)
theorem shInts (l : List Int) : SeqAt.shaped (.list (l.map PyData.int)) = true := by
  have h1 : ∀ l : List Int, PyData.canLayAll0 (l.map PyData.int) = true := fun l => by
    induction l with
    | nil => rfl
    | cons i l ih => simp [PyData.canLayAll0, PyData.canLay0, ih]
  have h2 : ∀ l : List Int, PyData.depthAll (l.map PyData.int) = 0 := fun l => by
    induction l with
    | nil => rfl
    | cons i l ih => simp [PyData.depthAll, PyData.depth, ih]
  simp [SeqAt.shaped, PyData.canLay0, PyData.depth, h1, h2]
theorem eqvNil (l : List Int) : PyData.eqv (.list (l.map PyData.int)) (.list []) = l.isEmpty := by
  cases l <;> rfl
theorem ce_ : ¬ ((Sum.inr "cells" : Key) = (Sum.inr "spot" : Key)) := by decide +kernel
theorem ge_ : ¬ ((Sum.inr "great" : Key) = (Sum.inr "spot" : Key)) := by decide +kernel
theorem cg_ : ¬ ((Sum.inr "cells" : Key) = (Sum.inr "great" : Key)) := by decide +kernel
theorem sg_ : ¬ ((Sum.inr "spot" : Key) = (Sum.inr "great" : Key)) := by decide +kernel
def mD (lc lg : Addr) (n : Int) : List (Key × V) := [(.inr "cells", .ref lc), (.inr "great", .ref lg), (.inr "spot", .int n)]
theorem mD_s {lc lg : Addr} {n : Int} : valV (mD lc lg n) (.inr "spot") = some (.int n) := by
  unfold mD
  rw [valV_neg ce_, valV_neg ge_, valV_pos rfl]
theorem mD_g {lc lg : Addr} {n : Int} : valV (mD lc lg n) (.inr "great") = some (.ref lg) := by
  unfold mD
  rw [valV_neg cg_, valV_pos rfl]
theorem mD_c {lc lg : Addr} {n : Int} : valV (mD lc lg n) (.inr "cells") = some (.ref lc) := by
  unfold mD
  rw [valV_pos rfl]
theorem mD_put {lc lg : Addr} {n k : Int} : putK (mD lc lg n) (.inr "spot") (.int k) = mD lc lg k := by
  simp only [putK, mD, List.any_cons, List.any_nil, List.map_cons, List.map_nil, if_neg ce_, if_neg ge_]
  simp
theorem mD_putg {lc lg l2 : Addr} {n : Int} : putK (mD lc lg n) (.inr "great") (.ref l2) = mD lc l2 n := by
  simp only [putK, mD, List.any_cons, List.any_nil, List.map_cons, List.map_nil, if_neg cg_, if_neg sg_]
  simp
/-! ### the drawing state -/
/-- at m: the dict of the drawing state, its lists at lc and lg, spot n -/
structure MA (m lc lg : Addr) (n : Int) (H : Hp) : Prop where
  hm : H m = some (.dK (mD lc lg n))
  ne : lc ≠ lg
  hc : ∃ cs : List Int, H lc = some (.lst (cs.map V.int)) ∧ cs.length = 64 ∧ ∀ c ∈ cs, 0 ≤ c ∧ c < 2147483648
  hg : ∃ gs : List Int, H lg = some (.lst (gs.map V.int)) ∧ gs.length ≤ 63
  n0 : 0 ≤ n
def spDraw : Sp := fun vs H Q _ => ∃ (m lc lg : Addr) (n t : Int), vs = [.ref m, .int t] ∧ MA m lc lg n H ∧ n ≤ 1000000 ∧ 0 < t ∧ t < 1000000 ∧
  ∀ H' d, 0 ≤ d → d < t → MA m lc lg (n + 1) H' → (∀ b o, b ≠ m → b ≠ lg → H b = some o → H' b = some o) → Q (.int d) H'
theorem scDraw : FnScope ["_law_m", "_law_top", "_law_n", "_law_at", "_law_cell"] ["_law_m", "_law_top"] (defScope sDraw) := ⟨rfl, rfl, rfl, by decide +kernel, rfl, by decide +kernel, by decide +kernel⟩
theorem ok_draw {f fM : Addr} {fd fdM : FuncData} (F : Fun K "_law_draw" "_law_draw" sDraw f fd) (FM : Fun K "_law_mixed" "_law_mixed" sMixed fM fdM) (bM : Binds K fdM ["_law_cell", "_law_n"] []) (gM : mg "_law_mixed" = some (.ref fM)) (gL : mg "len" = none) :
    FnOk P w K mg base CX0 2 f fd ["_law_m", "_law_top"] spDraw := by
  have GM : FnOk P w K mg base CX0 1 fM fdM ["_law_cell", "_law_n"] spMixed := ok_mixed FM
  refine F.ok scDraw (fun vs H Q E h => ?_) (fun cdv A outer s H vs Q E hr h => ?_)
  · obtain ⟨m, lc, lg, n, t, rfl, _⟩ := h
    rfl
  · obtain ⟨m, lc, lg, n, t, rfl, M, n1, t0, t1, k⟩ := h
    have hu := hu_of hr
    refine ⟨_, pss_cons (ps_set (i := 2) scDraw.nd rfl (Or.inl rfl) (pe_dget hu (pv 0) pe_str (fun _ _ => rfl)))
      (pss_cons (ps_dput hu (pv 0) pe_str (pe_op op_add (pv 2) pe_int) rfl)
      (pss_cons (ps_if (pt_cmpR (op_neD hr.units) (pe_dget hu (pv 0) pe_str (fun _ _ => rfl)) (pe_lst pa_nil) (nomark _))
        (pss_cons (ps_set (i := 3) scDraw.nd rfl (Or.inl rfl) (pe_op op_modN (pv 2) (pe_callB call_len_seq (by rfl) gL PySem.boot_len (pa_cons (pe_dget hu (pv 0) pe_str (fun _ _ => rfl)) pa_nil))))
        (pss_cons (ps_set (i := 4) scDraw.nd rfl (Or.inl rfl) (pe_ix ix_list (pe_dget hu (pv 0) pe_str (fun _ _ => rfl)) (pv 3) (fun _ _ => rfl)))
        (pss_one (ps_if (pt_cmpR op_gt (pv 4) pe_int (nomark _))
          (pss_cons (ps_asg (pe_op op_fdivN (pv 4) (pv 1)) (pg_sub (pe_dget hu (pv 0) pe_str (fun _ _ => rfl)) (pv 3) set_list))
          (pss_one (ps_ret (pe_op op_modN (pv 4) (pv 1)))))
          pss_nil))))
        pss_nil)
      (pss_one (ps_ret (pe_op op_modN (pe_call GM hr rfl gM FM.kp bM .nil pass0 (pa_cons
          (pe_call GM hr rfl gM FM.kp bM .nil pass0 (pa_cons (pe_op op_add (pe_ix ix_list (pe_dget hu (pv 0) pe_str (fun _ _ => rfl)) (pe_op op_modN (pv 2) pe_int) (fun _ _ => rfl)) (pe_op op_mul pe_int (pe_op op_fdivN (pv 2) pe_int))) (pa_cons (pv 2) pa_nil)))
          (pa_cons (pe_op op_add (pv 2) pe_int) pa_nil))) (pv 1))))))
      , ?_⟩
    obtain ⟨hm, ne, ⟨cs, hc, lcs, bcs⟩, ⟨gs, hg, lgs⟩, n0⟩ := M
    have nmc : m ≠ lc := ne_of hm hc (by intro q; cases q)
    have nmg : m ≠ lg := ne_of hm hg (by intro q; cases q)
    have tail : ∀ H2 : Hp, H2 m = some (.dK (mD lc lg (n + 1))) → H2 lc = some (.lst (cs.map V.int)) → H2 lg = some (.lst (gs.map V.int)) → (∀ b o, b ≠ m → H b = some o → H2 b = some o) → ∀ (v3 v4 : Option V),
        (fun σ H => tRet (tOp (rI (fun _ j => j ≠ 0) fun i j => V.int (i.fmod j)) (tCall spMixed [] E0 (tCons (tCall spMixed [] E0 (tCons (tOp (rI0 fun i j => V.int (i + j)) (tOp (rIxL K) (tDGet (tVar 0) (tC (.str "cells"))) (tOp (rI (fun _ j => j ≠ 0) fun i j => V.int (i.fmod j)) (tVar 2) (tC (.int 64)))) (tOp (rI CMul fun i j => V.int (i * j)) (tC (.int 31)) (tOp (rI CDivN fun i j => V.int (i.fdiv j)) (tVar 2) (tC (.int 64))))) (tCons (tVar 2) tNil))) (tCons (tOp (rI0 fun i j => V.int (i + j)) (tVar 2) (tC (.int 7))) tNil))) (tVar 1)) { nx := fun _ H' => Q .non H', rt := Q } σ H) [some (.ref m), some (.int t), some (.int n), v3, v4] H2 := by
      intro H2 hm2 hc2 hg2 o2 v3 v4
      have f0 : 0 ≤ Int.fmod n 64 := fm0 _ (by decide)
      have f1 : Int.fmod n 64 < 64 := Int.fmod_lt_of_pos n (by decide)
      obtain ⟨j, ej⟩ := Int.eq_ofNat_of_zero_le f0
      have jl : j < cs.length := by omega
      have hj : (cs.map V.int)[j]? = some (.int cs[j]) := by simp [jl]
      have bj := bcs cs[j] (List.getElem_mem jl)
      have ed : Int.fdiv n 64 = n / 64 := Int.fdiv_eq_ediv_of_nonneg n (by decide)
      refine ⟨_, rfl, m, _, rfl, dg (k := .inr "cells") hm2 mD_c, _, rfl, _, _, rfl, rfl, (by show (64 : Int) ≠ 0; decide), _, _, _, _, rfl, rfl, SqL.of hc2, at_of ej hj, _, rfl, _, _, rfl, rfl, ⟨by decide, by decide⟩, _, _, rfl, rfl, .inl ⟨by decide, by decide⟩, _, _, rfl, rfl, ?_⟩
      refine ⟨_, rfl, _, _, rfl, by omega, by omega, n0, by omega, ?_⟩
      refine ⟨_, rfl, _, _, rfl, rfl, ?_⟩
      have b0 := mixed_nonneg (cs[j] + 31 * Int.fdiv n 64) n
      have b1 := mixed_lt (cs[j] + 31 * Int.fdiv n 64) n
      refine ⟨_, _, rfl, by omega, by omega, by omega, by omega, ?_⟩
      refine ⟨_, rfl, _, _, rfl, rfl, (by omega), ?_⟩
      exact k _ _ (fm0 _ t0) (Int.fmod_lt_of_pos _ t0) ⟨hm2, ne, ⟨cs, hc2, lcs, bcs⟩, ⟨gs, hg2, lgs⟩, by omega⟩ (fun b o hb _ e => o2 b o hb e)
    -- n = m["spot"]; m["spot"] = n + 1
    refine ⟨_, rfl, m, _, rfl, dg (k := .inr "spot") hm mD_s, ?_⟩
    refine ⟨_, rfl, _, _, rfl, rfl, _, rfl, m, _, rfl, DPut.k (k := Sum.inr "spot") hm (by show 3 < sizeLine; decide), ?_⟩
    rw [mD_put]
    generalize eH1 : upd H m (.dK (mD lc lg (n + 1))) = H1
    have hm1 : H1 m = some (.dK (mD lc lg (n + 1))) := by rw [← eH1, upd_same]
    have hc1 : H1 lc = some (.lst (cs.map V.int)) := by rw [← eH1, upd_ne nmc.symm, hc]
    have hg1 : H1 lg = some (.lst (gs.map V.int)) := by rw [← eH1, upd_ne nmg.symm, hg]
    have o1 : ∀ b, b ≠ m → H1 b = H b := fun b hb => by rw [← eH1, upd_ne hb]
    -- m["great"] != []
    refine ⟨_, rfl, m, _, rfl, dg (k := .inr "great") hm1 mD_g, (by decide), fun p hp => ?_⟩
    generalize eH2 : upd H1 p (.lst []) = H2
    have np : ∀ b o, H1 b = some o → b ≠ p := fun b o h => ne_of_none h hp
    have hm2 : H2 m = some (.dK (mD lc lg (n + 1))) := by rw [← eH2, upd_ne (np _ _ hm1), hm1]
    have hc2 : H2 lc = some (.lst (cs.map V.int)) := by rw [← eH2, upd_ne (np _ _ hc1), hc1]
    have hg2 : H2 lg = some (.lst (gs.map V.int)) := by rw [← eH2, upd_ne (np _ _ hg1), hg1]
    have hp2 : H2 p = some (.lst []) := by rw [← eH2, upd_same]
    have o2 : ∀ b o, b ≠ m → H b = some o → H2 b = some o := fun b o hb e => by
      have e1 : H1 b = some o := (o1 b hb).trans e
      rw [← eH2, upd_ne (np _ _ e1), e1]
    have nlp : lg ≠ p := np _ _ hg1
    refine ⟨_, _, .lst (SqL.of hg2) (dpInts gs), .lst (xs := []) (SqL.of hp2) .nil, shInts gs, (by decide), _, rfl, ?_⟩
    rw [eqvNil]
    refine ite2 (fun h => ?_) (fun h => ?_)
    · have gl : 0 < gs.length := by
        cases gs with
        | nil => simp at h
        | cons a l => simp
      -- at = n % len(m["great"]); cell = m["great"][at]
      have gN : ((gs.map V.int).length : Int) ≠ 0 := by rw [List.length_map]; omega
      have f0 : 0 ≤ Int.fmod n ((gs.map V.int).length : Int) := fm0 _ (by rw [List.length_map]; omega)
      have f1 : Int.fmod n ((gs.map V.int).length : Int) < (gs.length : Int) := by
        have q := Int.fmod_lt_of_pos n (show (0 : Int) < ((gs.map V.int).length : Int) by rw [List.length_map]; omega)
        rw [List.length_map] at q ⊢
        exact q
      refine ⟨_, rfl, _, rfl, m, _, rfl, dg (k := .inr "great") hm2 mD_g, _, _, rfl, .inl (SqL.of hg2), _, _, rfl, rfl, gN, ?_⟩
      obtain ⟨j, ej⟩ := Int.eq_ofNat_of_zero_le f0
      have jl : j < gs.length := by omega
      have hj : (gs.map V.int)[j]? = some (.int gs[j]) := by simp [jl]
      refine ⟨_, rfl, m, _, rfl, dg (k := .inr "great") hm2 mD_g, _, rfl, _, _, _, _, rfl, rfl, SqL.of hg2, at_of ej hj, ?_⟩
      -- if cell > 0
      refine ⟨_, rfl, _, _, rfl, rfl, _, rfl, ?_⟩
      refine ite2 (fun h0 => ?_) (fun h0 => ?_)
      · refine ⟨_, rfl, _, rfl, _, _, rfl, rfl, ⟨by omega, by omega⟩, ?_⟩
        refine ⟨_, rfl, m, _, rfl, dg (k := .inr "great") hm2 mD_g, _, rfl, _, _, _, j, rfl, rfl, hg2, (by rw [ej]; exact ixN_n (by rw [List.length_map]; exact jl)), ?_⟩
        refine ⟨_, rfl, _, rfl, _, _, rfl, rfl, (by omega), ?_⟩
        refine k _ _ (fm0 _ t0) (Int.fmod_lt_of_pos _ t0) ⟨by rw [upd_ne nmg]; exact hm2, ne, ⟨cs, by rw [upd_ne ne]; exact hc2, lcs, bcs⟩, ⟨gs.set j ((gs[j]).fdiv t), ?_, by rw [List.length_set]; exact lgs⟩, by omega⟩ (fun b o hb hb2 e => ?_)
        · rw [upd_same, List.map_set]
        · rw [upd_ne hb2]
          exact o2 b o hb e
      · exact tail H2 hm2 hc2 hg2 o2 _ _
    · exact tail H2 hm2 hc2 hg2 o2 _ _
end
end K2

namespace KH
open PySem PySem.W L2
open K2 (top)
noncomputable section
abbrev S := PySem.Str.ofString
def o2 (P : Params) : Obj := ⟨.none, none, (.dict #[] 0), #[]⟩
def o3 (P : Params) : Obj := ⟨(.type "dict"), none, (.dict #[⟨PyData.keyHash P (S "__name__"), (.str (S "__name__") 165), (.str (S "law_ruleengine_k48_plans_and_flows_refused") 1348)⟩, ⟨PyData.keyHash P (S "__doc__"), (.str (S "__doc__") 166), .none⟩, ⟨PyData.keyHash P (S "__package__"), (.str (S "__package__") 167), .none⟩, ⟨PyData.keyHash P (S "__loader__"), (.str (S "__loader__") 168), (.builtin "__main__.__loader__#opaque")⟩, ⟨PyData.keyHash P (S "__spec__"), (.str (S "__spec__") 169), .none⟩, ⟨PyData.keyHash P (S "__annotations__"), (.str (S "__annotations__") 170), (.ref 6)⟩, ⟨PyData.keyHash P (S "__builtins__"), (.str (S "__builtins__") 171), (.ref 4)⟩, ⟨PyData.keyHash P (S "__file__"), (.str (S "__file__") 173), (.str (S "/claim/cut.py") 172)⟩, ⟨PyData.keyHash P (S "__cached__"), (.str (S "__cached__") 174), .none⟩, ⟨PyData.keyHash P (S "_wall"), (.str (S "_wall") 193), (.ref 21)⟩, ⟨PyData.keyHash P (S "LETTERS"), (.str (S "LETTERS") 197), (.str (S "ABCDEFGHIJKLMNOPQRSTUVWXYZabcdefghijklmnopqrstuvwxyz") 196)⟩, ⟨PyData.keyHash P (S "NAME_SIGNS"), (.str (S "NAME_SIGNS") 199), (.str (S "ABCDEFGHIJKLMNOPQRSTUVWXYZabcdefghijklmnopqrstuvwxyz0123456789_") 198)⟩, ⟨PyData.keyHash P (S "MAX_NAME"), (.str (S "MAX_NAME") 201), (.int (20) 200)⟩, ⟨PyData.keyHash P (S "TEXT"), (.str (S "TEXT") 203), (.str (S "text") 202)⟩, ⟨PyData.keyHash P (S "ROW_SIGN"), (.str (S "ROW_SIGN") 205), (.str (S "*") 204)⟩, ⟨PyData.keyHash P (S "is_name"), (.str (S "is_name") 211), (.ref 26)⟩, ⟨PyData.keyHash P (S "is_sort"), (.str (S "is_sort") 218), (.ref 33)⟩, ⟨PyData.keyHash P (S "is_taken"), (.str (S "is_taken") 225), (.ref 40)⟩, ⟨PyData.keyHash P (S "sort_taken"), (.str (S "sort_taken") 232), (.ref 47)⟩, ⟨PyData.keyHash P (S "is_word"), (.str (S "is_word") 240), (.ref 54)⟩, ⟨PyData.keyHash P (S "RuleengineError"), (.str (S "RuleengineError") 260), (.ref 64)⟩, ⟨PyData.keyHash P (S "InvalidForm"), (.str (S "InvalidForm") 287), (.ref 86)⟩, ⟨PyData.keyHash P (S "InvalidSchema"), (.str (S "InvalidSchema") 316), (.ref 108)⟩, ⟨PyData.keyHash P (S "InvalidTree"), (.str (S "InvalidTree") 343), (.ref 129)⟩, ⟨PyData.keyHash P (S "InvalidPath"), (.str (S "InvalidPath") 370), (.ref 150)⟩, ⟨PyData.keyHash P (S "InvalidPart"), (.str (S "InvalidPart") 397), (.ref 171)⟩, ⟨PyData.keyHash P (S "InvalidPattern"), (.str (S "InvalidPattern") 426), (.ref 193)⟩, ⟨PyData.keyHash P (S "InvalidRule"), (.str (S "InvalidRule") 457), (.ref 215)⟩, ⟨PyData.keyHash P (S "WrongTree"), (.str (S "WrongTree") 484), (.ref 236)⟩, ⟨PyData.keyHash P (S "OtherSchema"), (.str (S "OtherSchema") 509), (.ref 257)⟩, ⟨PyData.keyHash P (S "NoCommon"), (.str (S "NoCommon") 536), (.ref 278)⟩, ⟨PyData.keyHash P (S "TooLarge"), (.str (S "TooLarge") 563), (.ref 299)⟩, ⟨PyData.keyHash P (S "UnknownName"), (.str (S "UnknownName") 590), (.ref 320)⟩, ⟨PyData.keyHash P (S "InvalidAnswer"), (.str (S "InvalidAnswer") 617), (.ref 341)⟩, ⟨PyData.keyHash P (S "InvalidPlan"), (.str (S "InvalidPlan") 644), (.ref 362)⟩, ⟨PyData.keyHash P (S "InvalidFlow"), (.str (S "InvalidFlow") 673), (.ref 383)⟩, ⟨PyData.keyHash P (S "InvalidPoint"), (.str (S "InvalidPoint") 700), (.ref 404)⟩, ⟨PyData.keyHash P (S "NoDeed"), (.str (S "NoDeed") 727), (.ref 425)⟩, ⟨PyData.keyHash P (S "InvalidGuard"), (.str (S "InvalidGuard") 756), (.ref 446)⟩, ⟨PyData.keyHash P (S "InvalidTemplate"), (.str (S "InvalidTemplate") 787), (.ref 468)⟩, ⟨PyData.keyHash P (S "WrongFinding"), (.str (S "WrongFinding") 814), (.ref 489)⟩, ⟨PyData.keyHash P (S "Overlap"), (.str (S "Overlap") 843), (.ref 510)⟩, ⟨PyData.keyHash P (S "InvalidOrder"), (.str (S "InvalidOrder") 870), (.ref 531)⟩, ⟨PyData.keyHash P (S "TooLong"), (.str (S "TooLong") 897), (.ref 552)⟩, ⟨PyData.keyHash P (S "NotPlain"), (.str (S "NotPlain") 924), (.ref 573)⟩, ⟨PyData.keyHash P (S "LimitExceeded"), (.str (S "LimitExceeded") 951), (.ref 594)⟩, ⟨PyData.keyHash P (S "NothingToUndo"), (.str (S "NothingToUndo") 976), (.ref 615)⟩, ⟨PyData.keyHash P (S "RAW"), (.str (S "RAW") 980), (.str (S "raw_") 979)⟩, ⟨PyData.keyHash P (S "MAX_SORT"), (.str (S "MAX_SORT") 982), (.int (16) 981)⟩, ⟨PyData.keyHash P (S "Form"), (.str (S "Form") 1040), (.ref 644)⟩, ⟨PyData.keyHash P (S "Schema"), (.str (S "Schema") 1124), (.ref 701)⟩, ⟨PyData.keyHash P (S "_checked_slots"), (.str (S "_checked_slots") 1133), (.ref 712)⟩, ⟨PyData.keyHash P (S "_check_forms"), (.str (S "_check_forms") 1143), (.ref 719)⟩, ⟨PyData.keyHash P (S "_check_sorts"), (.str (S "_check_sorts") 1149), (.ref 724)⟩, ⟨PyData.keyHash P (S "_sorts_in"), (.str (S "_sorts_in") 1155), (.ref 729)⟩, ⟨PyData.keyHash P (S "ORDERS"), (.str (S "ORDERS") 1164), (.ref 730)⟩, ⟨PyData.keyHash P (S "Plan"), (.str (S "Plan") 1200), (.ref 749)⟩, ⟨PyData.keyHash P (S "Flow"), (.str (S "Flow") 1341), (.ref 859)⟩, ⟨PyData.keyHash P (S "_check_plan"), (.str (S "_check_plan") 1347), (.ref 868)⟩, ⟨PyData.keyHash P (S "_law_mixed"), (.str (S "_law_mixed") 1358), (.ref 875)⟩, ⟨PyData.keyHash P (S "_law_folded"), (.str (S "_law_folded") 1364), (.ref 880)⟩, ⟨PyData.keyHash P (S "_law_draw"), (.str (S "_law_draw") 1375), (.ref 887)⟩, ⟨PyData.keyHash P (S "_law_begun"), (.str (S "_law_begun") 1381), (.ref 892)⟩, ⟨PyData.keyHash P (S "_law_class"), (.str (S "_law_class") 1389), (.ref 899)⟩, ⟨PyData.keyHash P (S "_law_value_class"), (.str (S "_law_value_class") 1396), (.ref 906)⟩, ⟨PyData.keyHash P (S "_law_got"), (.str (S "_law_got") 1406), (.ref 913)⟩, ⟨PyData.keyHash P (S "_law_base"), (.str (S "_law_base") 1412), (.ref 918)⟩, ⟨PyData.keyHash P (S "_law_doubled"), (.str (S "_law_doubled") 1420), (.ref 925)⟩, ⟨PyData.keyHash P (S "_law_is_it"), (.str (S "_law_is_it") 1429), (.ref 932)⟩, ⟨PyData.keyHash P (S "_law_plans_right"), (.str (S "_law_plans_right") 1435), (.ref 937)⟩, ⟨PyData.keyHash P (S "_law_entries_right"), (.str (S "_law_entries_right") 1449), (.ref 944)⟩, ⟨PyData.keyHash P (S "_law_flow_right"), (.str (S "_law_flow_right") 1461), (.ref 951)⟩, ⟨PyData.keyHash P (S "law"), (.str (S "law") 1475), (.ref 958)⟩] 73), #[]⟩
def o15 (P : Params) : Obj := ⟨(.type "tuple"), none, (.seq #[] 0), #[]⟩
def o17 (P : Params) : Obj := ⟨(.type "tuple"), none, (.seq #[(.str (S "k") 190)] 0), #[]⟩
def o18 (P : Params) : Obj := ⟨(.type "tuple"), none, (.seq #[] 0), #[]⟩
def o20 (P : Params) : Obj := ⟨(.type "code"), none, (.fields #[(.str (S "_wall") 187), (.str (S "_wall") 188), (.str (S "/claim/cut.py") 189), (.int (1) 0), (.int (1) 0), (.int (0) 0), (.int (0) 0), (.int (3) 0), (.ref 15), (.bool true), (.int (181) 0), (.ref 16), .none, (.ref 17), (.ref 18), (.ref 19), (.int (191) 0), (.int (1) 0), (.str (S "/claim/cut.py") 192)]), #[]⟩
def o21 (P : Params) : Obj := ⟨(.type "function"), none, (.func ⟨(S "_wall"), (S "_wall"), defArgs (top 0), .stmts (defBody (top 0)), defScope (top 0), 3, [], .none, .none, .none, (.str (S "__main__") 164), none, (.ref 20), .none, 0⟩), #[]⟩
def o22 (P : Params) : Obj := ⟨(.type "tuple"), none, (.seq #[] 0), #[]⟩
def o25 (P : Params) : Obj := ⟨(.type "code"), none, (.fields #[(.str (S "is_name") 206), (.str (S "is_name") 207), (.str (S "/claim/cut.py") 208), (.int (10) 0), (.int (1) 0), (.int (0) 0), (.int (0) 0), (.int (3) 0), (.ref 22), (.bool true), (.int (181) 0), (.ref 23), .none, .none, .none, (.ref 24), (.int (209) 0), (.int (10) 0), (.str (S "/claim/cut.py") 210)]), #[]⟩
def o26 (P : Params) : Obj := ⟨(.type "function"), none, (.func ⟨(S "is_name"), (S "is_name"), defArgs (top 7), .stmts (defBody (top 7)), defScope (top 7), 3, [], .none, .none, .none, (.str (S "ruleengine.kinds") 194), none, (.ref 25), .none, 0⟩), #[]⟩
def o27 (P : Params) : Obj := ⟨(.type "tuple"), none, (.seq #[] 0), #[]⟩
def o29 (P : Params) : Obj := ⟨(.type "tuple"), none, (.seq #[(.str (S "value") 215)] 0), #[]⟩
def o30 (P : Params) : Obj := ⟨(.type "tuple"), none, (.seq #[] 0), #[]⟩
def o32 (P : Params) : Obj := ⟨(.type "code"), none, (.fields #[(.str (S "is_sort") 212), (.str (S "is_sort") 213), (.str (S "/claim/cut.py") 214), (.int (14) 0), (.int (1) 0), (.int (0) 0), (.int (0) 0), (.int (3) 0), (.ref 27), (.bool true), (.int (181) 0), (.ref 28), .none, (.ref 29), (.ref 30), (.ref 31), (.int (216) 0), (.int (14) 0), (.str (S "/claim/cut.py") 217)]), #[]⟩
def o33 (P : Params) : Obj := ⟨(.type "function"), none, (.func ⟨(S "is_sort"), (S "is_sort"), defArgs (top 8), .stmts (defBody (top 8)), defScope (top 8), 3, [], .none, .none, .none, (.str (S "ruleengine.kinds") 194), none, (.ref 32), .none, 0⟩), #[]⟩
def o34 (P : Params) : Obj := ⟨(.type "tuple"), none, (.seq #[] 0), #[]⟩
def o36 (P : Params) : Obj := ⟨(.type "tuple"), none, (.seq #[(.str (S "value") 222)] 0), #[]⟩
def o37 (P : Params) : Obj := ⟨(.type "tuple"), none, (.seq #[] 0), #[]⟩
def o39 (P : Params) : Obj := ⟨(.type "code"), none, (.fields #[(.str (S "is_taken") 219), (.str (S "is_taken") 220), (.str (S "/claim/cut.py") 221), (.int (16) 0), (.int (1) 0), (.int (0) 0), (.int (0) 0), (.int (3) 0), (.ref 34), (.bool true), (.int (181) 0), (.ref 35), .none, (.ref 36), (.ref 37), (.ref 38), (.int (223) 0), (.int (16) 0), (.str (S "/claim/cut.py") 224)]), #[]⟩
def o40 (P : Params) : Obj := ⟨(.type "function"), none, (.func ⟨(S "is_taken"), (S "is_taken"), defArgs (top 9), .stmts (defBody (top 9)), defScope (top 9), 3, [], .none, .none, .none, (.str (S "ruleengine.kinds") 194), none, (.ref 39), .none, 0⟩), #[]⟩
def o41 (P : Params) : Obj := ⟨(.type "tuple"), none, (.seq #[] 0), #[]⟩
def o43 (P : Params) : Obj := ⟨(.type "tuple"), none, (.seq #[(.str (S "takes") 229)] 0), #[]⟩
def o44 (P : Params) : Obj := ⟨(.type "tuple"), none, (.seq #[] 0), #[]⟩
def o46 (P : Params) : Obj := ⟨(.type "code"), none, (.fields #[(.str (S "sort_taken") 226), (.str (S "sort_taken") 227), (.str (S "/claim/cut.py") 228), (.int (20) 0), (.int (1) 0), (.int (0) 0), (.int (0) 0), (.int (3) 0), (.ref 41), (.bool true), (.int (181) 0), (.ref 42), .none, (.ref 43), (.ref 44), (.ref 45), (.int (230) 0), (.int (20) 0), (.str (S "/claim/cut.py") 231)]), #[]⟩
def o47 (P : Params) : Obj := ⟨(.type "function"), none, (.func ⟨(S "sort_taken"), (S "sort_taken"), defArgs (top 10), .stmts (defBody (top 10)), defScope (top 10), 3, [], .none, .none, .none, (.str (S "ruleengine.kinds") 194), none, (.ref 46), .none, 0⟩), #[]⟩
def o48 (P : Params) : Obj := ⟨(.type "tuple"), none, (.seq #[] 0), #[]⟩
def o50 (P : Params) : Obj := ⟨(.type "tuple"), none, (.seq #[(.str (S "value") 236), (.str (S "words") 237)] 0), #[]⟩
def o51 (P : Params) : Obj := ⟨(.type "tuple"), none, (.seq #[] 0), #[]⟩
def o53 (P : Params) : Obj := ⟨(.type "code"), none, (.fields #[(.str (S "is_word") 233), (.str (S "is_word") 234), (.str (S "/claim/cut.py") 235), (.int (24) 0), (.int (2) 0), (.int (0) 0), (.int (0) 0), (.int (3) 0), (.ref 48), (.bool true), (.int (181) 0), (.ref 49), .none, (.ref 50), (.ref 51), (.ref 52), (.int (238) 0), (.int (24) 0), (.str (S "/claim/cut.py") 239)]), #[]⟩
def o54 (P : Params) : Obj := ⟨(.type "function"), none, (.func ⟨(S "is_word"), (S "is_word"), defArgs (top 11), .stmts (defBody (top 11)), defScope (top 11), 3, [], .none, .none, .none, (.str (S "ruleengine.kinds") 194), none, (.ref 53), .none, 0⟩), #[]⟩
def o55 (P : Params) : Obj := ⟨(.type "tuple"), none, (.seq #[(.type "ValueError")] 0), #[]⟩
def o62 (P : Params) : Obj := ⟨(.type "tuple"), none, (.seq #[] 0), #[]⟩
def o63 (P : Params) : Obj := ⟨(.type "dict"), none, (.dict #[⟨PyData.keyHash P (S "__module__"), (.str (S "__module__") 250), (.str (S "ruleengine.errors") 241)⟩, ⟨PyData.keyHash P (S "__firstlineno__"), (.str (S "__firstlineno__") 254), (.int (27) 253)⟩, ⟨PyData.keyHash P (S "__static_attributes__"), (.str (S "__static_attributes__") 255), (.ref 62)⟩, ⟨PyData.keyHash P (S "__weakref__"), (.str (S "__weakref__") 257), (.ref 65)⟩, ⟨PyData.keyHash P (S "__doc__"), (.str (S "__doc__") 258), .none⟩] 3), #[]⟩
def o64 (P : Params) : Obj := ⟨(.type "type"), none, (.cls ⟨(S "RuleengineError"), [(.type "ValueError")], [(.ref 64), (.type "ValueError"), (.type "Exception"), (.type "BaseException"), (.type "object")], 63, (S "RuleengineError"), true, [], [(.ref 86), (.ref 108), (.ref 129), (.ref 150), (.ref 171), (.ref 193), (.ref 215), (.ref 236), (.ref 257), (.ref 278), (.ref 299), (.ref 320), (.ref 341), (.ref 362), (.ref 383), (.ref 404), (.ref 425), (.ref 446), (.ref 468), (.ref 489), (.ref 510), (.ref 531), (.ref 552), (.ref 573), (.ref 594), (.ref 615)], false, none, false⟩), #[(some (.ref 55)), none, (some (.str (S "RuleengineError") 243)), (some (.str (S "RuleengineError") 251)), (some (.builtin "ValueError.__new__")), (some (.bool true))]⟩
def o65 (P : Params) : Obj := ⟨(.type "getset_descriptor"), none, (.fields #[(.str (S "__weakref__") 256), (.ref 64), (.builtin "ExceptionGroup.__weakref__"), .none]), #[]⟩
def o68 (P : Params) : Obj := ⟨(.type "tuple"), none, (.seq #[(.ref 64)] 0), #[]⟩
def o71 (P : Params) : Obj := ⟨(.type "cell"), none, (.cell (some (.ref 86))), #[]⟩
def o76 (P : Params) : Obj := ⟨(.type "tuple"), none, (.seq #[(.ref 71)] 0), #[]⟩
def o77 (P : Params) : Obj := ⟨(.type "tuple"), none, (.seq #[(.str (S "__class__") 276)] 0), #[]⟩
def o79 (P : Params) : Obj := ⟨(.type "tuple"), none, (.seq #[(.str (S "self") 277), (.str (S "part") 278)] 0), #[]⟩
def o80 (P : Params) : Obj := ⟨(.type "tuple"), none, (.seq #[] 0), #[]⟩
def o82 (P : Params) : Obj := ⟨(.type "code"), none, (.fields #[(.str (S "__init__") 273), (.str (S "InvalidForm.__init__") 274), (.str (S "/claim/cut.py") 275), (.int (31) 0), (.int (2) 0), (.int (0) 0), (.int (0) 0), (.int (3) 0), (.ref 77), (.bool true), (.int (181) 0), (.ref 78), .none, (.ref 79), (.ref 80), (.ref 81), (.int (279) 0), (.int (31) 0), (.str (S "/claim/cut.py") 280)]), #[]⟩
def o83 (P : Params) : Obj := ⟨(.type "function"), none, (.func ⟨(S "__init__"), (S "InvalidForm.__init__"), defArgs (inClass (top 14) 0), .stmts (defBody (inClass (top 14) 0)), defScope (inClass (top 14) 0), 3, [((S "__class__"), 71)], .none, .none, .none, (.str (S "ruleengine.errors") 241), none, (.ref 82), (.ref 76), 0⟩), #[]⟩
def o84 (P : Params) : Obj := ⟨(.type "tuple"), none, (.seq #[(.str (S "part") 282)] 0), #[]⟩
def o85 (P : Params) : Obj := ⟨(.type "dict"), none, (.dict #[⟨PyData.keyHash P (S "__module__"), (.str (S "__module__") 268), (.str (S "ruleengine.errors") 241)⟩, ⟨PyData.keyHash P (S "__firstlineno__"), (.str (S "__firstlineno__") 272), (.int (29) 271)⟩, ⟨PyData.keyHash P (S "__init__"), (.str (S "__init__") 281), (.ref 83)⟩, ⟨PyData.keyHash P (S "__static_attributes__"), (.str (S "__static_attributes__") 283), (.ref 84)⟩, ⟨PyData.keyHash P (S "__doc__"), (.str (S "__doc__") 285), .none⟩] 3), #[]⟩
def o86 (P : Params) : Obj := ⟨(.type "type"), none, (.cls ⟨(S "InvalidForm"), [(.ref 64)], [(.ref 86), (.ref 64), (.type "ValueError"), (.type "Exception"), (.type "BaseException"), (.type "object")], 85, (S "InvalidForm"), true, [], [], false, none, false⟩), #[(some (.ref 68)), none, (some (.str (S "InvalidForm") 261)), (some (.str (S "InvalidForm") 269)), (some (.builtin "ValueError.__new__")), (some (.bool true))]⟩
def o89 (P : Params) : Obj := ⟨(.type "tuple"), none, (.seq #[(.ref 64)] 0), #[]⟩
def o92 (P : Params) : Obj := ⟨(.type "cell"), none, (.cell (some (.ref 108))), #[]⟩
def o97 (P : Params) : Obj := ⟨(.type "tuple"), none, (.seq #[.none] 0), #[]⟩
def o98 (P : Params) : Obj := ⟨(.type "tuple"), none, (.seq #[(.ref 92)] 0), #[]⟩
def o99 (P : Params) : Obj := ⟨(.type "tuple"), none, (.seq #[(.str (S "__class__") 303)] 0), #[]⟩
def o101 (P : Params) : Obj := ⟨(.type "tuple"), none, (.seq #[(.str (S "self") 304), (.str (S "fault") 305), (.str (S "item") 306)] 0), #[]⟩
def o102 (P : Params) : Obj := ⟨(.type "tuple"), none, (.seq #[] 0), #[]⟩
def o104 (P : Params) : Obj := ⟨(.type "code"), none, (.fields #[(.str (S "__init__") 300), (.str (S "InvalidSchema.__init__") 301), (.str (S "/claim/cut.py") 302), (.int (36) 0), (.int (3) 0), (.int (0) 0), (.int (0) 0), (.int (3) 0), (.ref 99), (.bool true), (.int (181) 0), (.ref 100), .none, (.ref 101), (.ref 102), (.ref 103), (.int (307) 0), (.int (36) 0), (.str (S "/claim/cut.py") 308)]), #[]⟩
def o105 (P : Params) : Obj := ⟨(.type "function"), none, (.func ⟨(S "__init__"), (S "InvalidSchema.__init__"), defArgs (inClass (top 15) 0), .stmts (defBody (inClass (top 15) 0)), defScope (inClass (top 15) 0), 3, [((S "__class__"), 92)], (.ref 97), .none, .none, (.str (S "ruleengine.errors") 241), none, (.ref 104), (.ref 98), 0⟩), #[]⟩
def o106 (P : Params) : Obj := ⟨(.type "tuple"), none, (.seq #[(.str (S "fault") 310), (.str (S "item") 311)] 0), #[]⟩
def o107 (P : Params) : Obj := ⟨(.type "dict"), none, (.dict #[⟨PyData.keyHash P (S "__module__"), (.str (S "__module__") 295), (.str (S "ruleengine.errors") 241)⟩, ⟨PyData.keyHash P (S "__firstlineno__"), (.str (S "__firstlineno__") 299), (.int (34) 298)⟩, ⟨PyData.keyHash P (S "__init__"), (.str (S "__init__") 309), (.ref 105)⟩, ⟨PyData.keyHash P (S "__static_attributes__"), (.str (S "__static_attributes__") 312), (.ref 106)⟩, ⟨PyData.keyHash P (S "__doc__"), (.str (S "__doc__") 314), .none⟩] 3), #[]⟩
def o108 (P : Params) : Obj := ⟨(.type "type"), none, (.cls ⟨(S "InvalidSchema"), [(.ref 64)], [(.ref 108), (.ref 64), (.type "ValueError"), (.type "Exception"), (.type "BaseException"), (.type "object")], 107, (S "InvalidSchema"), true, [], [], false, none, false⟩), #[(some (.ref 89)), none, (some (.str (S "InvalidSchema") 288)), (some (.str (S "InvalidSchema") 296)), (some (.builtin "ValueError.__new__")), (some (.bool true))]⟩
def o111 (P : Params) : Obj := ⟨(.type "tuple"), none, (.seq #[(.ref 64)] 0), #[]⟩
def o114 (P : Params) : Obj := ⟨(.type "cell"), none, (.cell (some (.ref 129))), #[]⟩
def o119 (P : Params) : Obj := ⟨(.type "tuple"), none, (.seq #[(.ref 114)] 0), #[]⟩
def o120 (P : Params) : Obj := ⟨(.type "tuple"), none, (.seq #[(.str (S "__class__") 332)] 0), #[]⟩
def o122 (P : Params) : Obj := ⟨(.type "tuple"), none, (.seq #[(.str (S "self") 333), (.str (S "part") 334)] 0), #[]⟩
def o123 (P : Params) : Obj := ⟨(.type "tuple"), none, (.seq #[] 0), #[]⟩
def o125 (P : Params) : Obj := ⟨(.type "code"), none, (.fields #[(.str (S "__init__") 329), (.str (S "InvalidTree.__init__") 330), (.str (S "/claim/cut.py") 331), (.int (42) 0), (.int (2) 0), (.int (0) 0), (.int (0) 0), (.int (3) 0), (.ref 120), (.bool true), (.int (181) 0), (.ref 121), .none, (.ref 122), (.ref 123), (.ref 124), (.int (335) 0), (.int (42) 0), (.str (S "/claim/cut.py") 336)]), #[]⟩
def o126 (P : Params) : Obj := ⟨(.type "function"), none, (.func ⟨(S "__init__"), (S "InvalidTree.__init__"), defArgs (inClass (top 16) 0), .stmts (defBody (inClass (top 16) 0)), defScope (inClass (top 16) 0), 3, [((S "__class__"), 114)], .none, .none, .none, (.str (S "ruleengine.errors") 241), none, (.ref 125), (.ref 119), 0⟩), #[]⟩
def o127 (P : Params) : Obj := ⟨(.type "tuple"), none, (.seq #[(.str (S "part") 338)] 0), #[]⟩
def o128 (P : Params) : Obj := ⟨(.type "dict"), none, (.dict #[⟨PyData.keyHash P (S "__module__"), (.str (S "__module__") 324), (.str (S "ruleengine.errors") 241)⟩, ⟨PyData.keyHash P (S "__firstlineno__"), (.str (S "__firstlineno__") 328), (.int (40) 327)⟩, ⟨PyData.keyHash P (S "__init__"), (.str (S "__init__") 337), (.ref 126)⟩, ⟨PyData.keyHash P (S "__static_attributes__"), (.str (S "__static_attributes__") 339), (.ref 127)⟩, ⟨PyData.keyHash P (S "__doc__"), (.str (S "__doc__") 341), .none⟩] 3), #[]⟩
def o129 (P : Params) : Obj := ⟨(.type "type"), none, (.cls ⟨(S "InvalidTree"), [(.ref 64)], [(.ref 129), (.ref 64), (.type "ValueError"), (.type "Exception"), (.type "BaseException"), (.type "object")], 128, (S "InvalidTree"), true, [], [], false, none, false⟩), #[(some (.ref 111)), none, (some (.str (S "InvalidTree") 317)), (some (.str (S "InvalidTree") 325)), (some (.builtin "ValueError.__new__")), (some (.bool true))]⟩
def o132 (P : Params) : Obj := ⟨(.type "tuple"), none, (.seq #[(.ref 64)] 0), #[]⟩
def o135 (P : Params) : Obj := ⟨(.type "cell"), none, (.cell (some (.ref 150))), #[]⟩
def o140 (P : Params) : Obj := ⟨(.type "tuple"), none, (.seq #[(.ref 135)] 0), #[]⟩
def o141 (P : Params) : Obj := ⟨(.type "tuple"), none, (.seq #[(.str (S "__class__") 359)] 0), #[]⟩
def o143 (P : Params) : Obj := ⟨(.type "tuple"), none, (.seq #[(.str (S "self") 360), (.str (S "value") 361)] 0), #[]⟩
def o144 (P : Params) : Obj := ⟨(.type "tuple"), none, (.seq #[] 0), #[]⟩
def o146 (P : Params) : Obj := ⟨(.type "code"), none, (.fields #[(.str (S "__init__") 356), (.str (S "InvalidPath.__init__") 357), (.str (S "/claim/cut.py") 358), (.int (47) 0), (.int (2) 0), (.int (0) 0), (.int (0) 0), (.int (3) 0), (.ref 141), (.bool true), (.int (181) 0), (.ref 142), .none, (.ref 143), (.ref 144), (.ref 145), (.int (362) 0), (.int (47) 0), (.str (S "/claim/cut.py") 363)]), #[]⟩
def o147 (P : Params) : Obj := ⟨(.type "function"), none, (.func ⟨(S "__init__"), (S "InvalidPath.__init__"), defArgs (inClass (top 17) 0), .stmts (defBody (inClass (top 17) 0)), defScope (inClass (top 17) 0), 3, [((S "__class__"), 135)], .none, .none, .none, (.str (S "ruleengine.errors") 241), none, (.ref 146), (.ref 140), 0⟩), #[]⟩
def o148 (P : Params) : Obj := ⟨(.type "tuple"), none, (.seq #[(.str (S "value") 365)] 0), #[]⟩
def o149 (P : Params) : Obj := ⟨(.type "dict"), none, (.dict #[⟨PyData.keyHash P (S "__module__"), (.str (S "__module__") 351), (.str (S "ruleengine.errors") 241)⟩, ⟨PyData.keyHash P (S "__firstlineno__"), (.str (S "__firstlineno__") 355), (.int (45) 354)⟩, ⟨PyData.keyHash P (S "__init__"), (.str (S "__init__") 364), (.ref 147)⟩, ⟨PyData.keyHash P (S "__static_attributes__"), (.str (S "__static_attributes__") 366), (.ref 148)⟩, ⟨PyData.keyHash P (S "__doc__"), (.str (S "__doc__") 368), .none⟩] 3), #[]⟩
def o150 (P : Params) : Obj := ⟨(.type "type"), none, (.cls ⟨(S "InvalidPath"), [(.ref 64)], [(.ref 150), (.ref 64), (.type "ValueError"), (.type "Exception"), (.type "BaseException"), (.type "object")], 149, (S "InvalidPath"), true, [], [], false, none, false⟩), #[(some (.ref 132)), none, (some (.str (S "InvalidPath") 344)), (some (.str (S "InvalidPath") 352)), (some (.builtin "ValueError.__new__")), (some (.bool true))]⟩
def o153 (P : Params) : Obj := ⟨(.type "tuple"), none, (.seq #[(.ref 64)] 0), #[]⟩
def o156 (P : Params) : Obj := ⟨(.type "cell"), none, (.cell (some (.ref 171))), #[]⟩
def o161 (P : Params) : Obj := ⟨(.type "tuple"), none, (.seq #[(.ref 156)] 0), #[]⟩
def o162 (P : Params) : Obj := ⟨(.type "tuple"), none, (.seq #[(.str (S "__class__") 386)] 0), #[]⟩
def o164 (P : Params) : Obj := ⟨(.type "tuple"), none, (.seq #[(.str (S "self") 387), (.str (S "part") 388)] 0), #[]⟩
def o165 (P : Params) : Obj := ⟨(.type "tuple"), none, (.seq #[] 0), #[]⟩
def o167 (P : Params) : Obj := ⟨(.type "code"), none, (.fields #[(.str (S "__init__") 383), (.str (S "InvalidPart.__init__") 384), (.str (S "/claim/cut.py") 385), (.int (52) 0), (.int (2) 0), (.int (0) 0), (.int (0) 0), (.int (3) 0), (.ref 162), (.bool true), (.int (181) 0), (.ref 163), .none, (.ref 164), (.ref 165), (.ref 166), (.int (389) 0), (.int (52) 0), (.str (S "/claim/cut.py") 390)]), #[]⟩
def o168 (P : Params) : Obj := ⟨(.type "function"), none, (.func ⟨(S "__init__"), (S "InvalidPart.__init__"), defArgs (inClass (top 18) 0), .stmts (defBody (inClass (top 18) 0)), defScope (inClass (top 18) 0), 3, [((S "__class__"), 156)], .none, .none, .none, (.str (S "ruleengine.errors") 241), none, (.ref 167), (.ref 161), 0⟩), #[]⟩
def o169 (P : Params) : Obj := ⟨(.type "tuple"), none, (.seq #[(.str (S "part") 392)] 0), #[]⟩
def o170 (P : Params) : Obj := ⟨(.type "dict"), none, (.dict #[⟨PyData.keyHash P (S "__module__"), (.str (S "__module__") 378), (.str (S "ruleengine.errors") 241)⟩, ⟨PyData.keyHash P (S "__firstlineno__"), (.str (S "__firstlineno__") 382), (.int (50) 381)⟩, ⟨PyData.keyHash P (S "__init__"), (.str (S "__init__") 391), (.ref 168)⟩, ⟨PyData.keyHash P (S "__static_attributes__"), (.str (S "__static_attributes__") 393), (.ref 169)⟩, ⟨PyData.keyHash P (S "__doc__"), (.str (S "__doc__") 395), .none⟩] 3), #[]⟩
def o171 (P : Params) : Obj := ⟨(.type "type"), none, (.cls ⟨(S "InvalidPart"), [(.ref 64)], [(.ref 171), (.ref 64), (.type "ValueError"), (.type "Exception"), (.type "BaseException"), (.type "object")], 170, (S "InvalidPart"), true, [], [], false, none, false⟩), #[(some (.ref 153)), none, (some (.str (S "InvalidPart") 371)), (some (.str (S "InvalidPart") 379)), (some (.builtin "ValueError.__new__")), (some (.bool true))]⟩
def o174 (P : Params) : Obj := ⟨(.type "tuple"), none, (.seq #[(.ref 64)] 0), #[]⟩
def o177 (P : Params) : Obj := ⟨(.type "cell"), none, (.cell (some (.ref 193))), #[]⟩
def o182 (P : Params) : Obj := ⟨(.type "tuple"), none, (.seq #[.none] 0), #[]⟩
def o183 (P : Params) : Obj := ⟨(.type "tuple"), none, (.seq #[(.ref 177)] 0), #[]⟩
def o184 (P : Params) : Obj := ⟨(.type "tuple"), none, (.seq #[(.str (S "__class__") 413)] 0), #[]⟩
def o186 (P : Params) : Obj := ⟨(.type "tuple"), none, (.seq #[(.str (S "self") 414), (.str (S "fault") 415), (.str (S "item") 416)] 0), #[]⟩
def o187 (P : Params) : Obj := ⟨(.type "tuple"), none, (.seq #[] 0), #[]⟩
def o189 (P : Params) : Obj := ⟨(.type "code"), none, (.fields #[(.str (S "__init__") 410), (.str (S "InvalidPattern.__init__") 411), (.str (S "/claim/cut.py") 412), (.int (57) 0), (.int (3) 0), (.int (0) 0), (.int (0) 0), (.int (3) 0), (.ref 184), (.bool true), (.int (181) 0), (.ref 185), .none, (.ref 186), (.ref 187), (.ref 188), (.int (417) 0), (.int (57) 0), (.str (S "/claim/cut.py") 418)]), #[]⟩
def o190 (P : Params) : Obj := ⟨(.type "function"), none, (.func ⟨(S "__init__"), (S "InvalidPattern.__init__"), defArgs (inClass (top 19) 0), .stmts (defBody (inClass (top 19) 0)), defScope (inClass (top 19) 0), 3, [((S "__class__"), 177)], (.ref 182), .none, .none, (.str (S "ruleengine.errors") 241), none, (.ref 189), (.ref 183), 0⟩), #[]⟩
def o191 (P : Params) : Obj := ⟨(.type "tuple"), none, (.seq #[(.str (S "fault") 420), (.str (S "item") 421)] 0), #[]⟩
def o192 (P : Params) : Obj := ⟨(.type "dict"), none, (.dict #[⟨PyData.keyHash P (S "__module__"), (.str (S "__module__") 405), (.str (S "ruleengine.errors") 241)⟩, ⟨PyData.keyHash P (S "__firstlineno__"), (.str (S "__firstlineno__") 409), (.int (55) 408)⟩, ⟨PyData.keyHash P (S "__init__"), (.str (S "__init__") 419), (.ref 190)⟩, ⟨PyData.keyHash P (S "__static_attributes__"), (.str (S "__static_attributes__") 422), (.ref 191)⟩, ⟨PyData.keyHash P (S "__doc__"), (.str (S "__doc__") 424), .none⟩] 3), #[]⟩
def o193 (P : Params) : Obj := ⟨(.type "type"), none, (.cls ⟨(S "InvalidPattern"), [(.ref 64)], [(.ref 193), (.ref 64), (.type "ValueError"), (.type "Exception"), (.type "BaseException"), (.type "object")], 192, (S "InvalidPattern"), true, [], [], false, none, false⟩), #[(some (.ref 174)), none, (some (.str (S "InvalidPattern") 398)), (some (.str (S "InvalidPattern") 406)), (some (.builtin "ValueError.__new__")), (some (.bool true))]⟩
def o196 (P : Params) : Obj := ⟨(.type "tuple"), none, (.seq #[(.ref 64)] 0), #[]⟩
def o199 (P : Params) : Obj := ⟨(.type "cell"), none, (.cell (some (.ref 215))), #[]⟩
def o204 (P : Params) : Obj := ⟨(.type "tuple"), none, (.seq #[.none] 0), #[]⟩
def o205 (P : Params) : Obj := ⟨(.type "tuple"), none, (.seq #[(.ref 199)] 0), #[]⟩
def o206 (P : Params) : Obj := ⟨(.type "tuple"), none, (.seq #[(.str (S "__class__") 442)] 0), #[]⟩
def o208 (P : Params) : Obj := ⟨(.type "tuple"), none, (.seq #[(.str (S "self") 443), (.str (S "spot") 444), (.str (S "fault") 445), (.str (S "item") 446)] 0), #[]⟩
def o209 (P : Params) : Obj := ⟨(.type "tuple"), none, (.seq #[] 0), #[]⟩
def o211 (P : Params) : Obj := ⟨(.type "code"), none, (.fields #[(.str (S "__init__") 439), (.str (S "InvalidRule.__init__") 440), (.str (S "/claim/cut.py") 441), (.int (63) 0), (.int (4) 0), (.int (0) 0), (.int (0) 0), (.int (3) 0), (.ref 206), (.bool true), (.int (181) 0), (.ref 207), .none, (.ref 208), (.ref 209), (.ref 210), (.int (447) 0), (.int (63) 0), (.str (S "/claim/cut.py") 448)]), #[]⟩
def o212 (P : Params) : Obj := ⟨(.type "function"), none, (.func ⟨(S "__init__"), (S "InvalidRule.__init__"), defArgs (inClass (top 20) 0), .stmts (defBody (inClass (top 20) 0)), defScope (inClass (top 20) 0), 3, [((S "__class__"), 199)], (.ref 204), .none, .none, (.str (S "ruleengine.errors") 241), none, (.ref 211), (.ref 205), 0⟩), #[]⟩
def o213 (P : Params) : Obj := ⟨(.type "tuple"), none, (.seq #[(.str (S "fault") 450), (.str (S "item") 451), (.str (S "spot") 452)] 0), #[]⟩
def o214 (P : Params) : Obj := ⟨(.type "dict"), none, (.dict #[⟨PyData.keyHash P (S "__module__"), (.str (S "__module__") 434), (.str (S "ruleengine.errors") 241)⟩, ⟨PyData.keyHash P (S "__firstlineno__"), (.str (S "__firstlineno__") 438), (.int (61) 437)⟩, ⟨PyData.keyHash P (S "__init__"), (.str (S "__init__") 449), (.ref 212)⟩, ⟨PyData.keyHash P (S "__static_attributes__"), (.str (S "__static_attributes__") 453), (.ref 213)⟩, ⟨PyData.keyHash P (S "__doc__"), (.str (S "__doc__") 455), .none⟩] 3), #[]⟩
def o215 (P : Params) : Obj := ⟨(.type "type"), none, (.cls ⟨(S "InvalidRule"), [(.ref 64)], [(.ref 215), (.ref 64), (.type "ValueError"), (.type "Exception"), (.type "BaseException"), (.type "object")], 214, (S "InvalidRule"), true, [], [], false, none, false⟩), #[(some (.ref 196)), none, (some (.str (S "InvalidRule") 427)), (some (.str (S "InvalidRule") 435)), (some (.builtin "ValueError.__new__")), (some (.bool true))]⟩
def o218 (P : Params) : Obj := ⟨(.type "tuple"), none, (.seq #[(.ref 64)] 0), #[]⟩
def o221 (P : Params) : Obj := ⟨(.type "cell"), none, (.cell (some (.ref 236))), #[]⟩
def o226 (P : Params) : Obj := ⟨(.type "tuple"), none, (.seq #[(.ref 221)] 0), #[]⟩
def o227 (P : Params) : Obj := ⟨(.type "tuple"), none, (.seq #[(.str (S "__class__") 473)] 0), #[]⟩
def o229 (P : Params) : Obj := ⟨(.type "tuple"), none, (.seq #[(.str (S "self") 474), (.str (S "place") 475)] 0), #[]⟩
def o230 (P : Params) : Obj := ⟨(.type "tuple"), none, (.seq #[] 0), #[]⟩
def o232 (P : Params) : Obj := ⟨(.type "code"), none, (.fields #[(.str (S "__init__") 470), (.str (S "WrongTree.__init__") 471), (.str (S "/claim/cut.py") 472), (.int (70) 0), (.int (2) 0), (.int (0) 0), (.int (0) 0), (.int (3) 0), (.ref 227), (.bool true), (.int (181) 0), (.ref 228), .none, (.ref 229), (.ref 230), (.ref 231), (.int (476) 0), (.int (70) 0), (.str (S "/claim/cut.py") 477)]), #[]⟩
def o233 (P : Params) : Obj := ⟨(.type "function"), none, (.func ⟨(S "__init__"), (S "WrongTree.__init__"), defArgs (inClass (top 21) 0), .stmts (defBody (inClass (top 21) 0)), defScope (inClass (top 21) 0), 3, [((S "__class__"), 221)], .none, .none, .none, (.str (S "ruleengine.errors") 241), none, (.ref 232), (.ref 226), 0⟩), #[]⟩
def o234 (P : Params) : Obj := ⟨(.type "tuple"), none, (.seq #[(.str (S "place") 479)] 0), #[]⟩
def o235 (P : Params) : Obj := ⟨(.type "dict"), none, (.dict #[⟨PyData.keyHash P (S "__module__"), (.str (S "__module__") 465), (.str (S "ruleengine.errors") 241)⟩, ⟨PyData.keyHash P (S "__firstlineno__"), (.str (S "__firstlineno__") 469), (.int (68) 468)⟩, ⟨PyData.keyHash P (S "__init__"), (.str (S "__init__") 478), (.ref 233)⟩, ⟨PyData.keyHash P (S "__static_attributes__"), (.str (S "__static_attributes__") 480), (.ref 234)⟩, ⟨PyData.keyHash P (S "__doc__"), (.str (S "__doc__") 482), .none⟩] 3), #[]⟩
def o236 (P : Params) : Obj := ⟨(.type "type"), none, (.cls ⟨(S "WrongTree"), [(.ref 64)], [(.ref 236), (.ref 64), (.type "ValueError"), (.type "Exception"), (.type "BaseException"), (.type "object")], 235, (S "WrongTree"), true, [], [], false, none, false⟩), #[(some (.ref 218)), none, (some (.str (S "WrongTree") 458)), (some (.str (S "WrongTree") 466)), (some (.builtin "ValueError.__new__")), (some (.bool true))]⟩
def o239 (P : Params) : Obj := ⟨(.type "tuple"), none, (.seq #[(.ref 64)] 0), #[]⟩
def o242 (P : Params) : Obj := ⟨(.type "cell"), none, (.cell (some (.ref 257))), #[]⟩
def o247 (P : Params) : Obj := ⟨(.type "tuple"), none, (.seq #[(.ref 242)] 0), #[]⟩
def o248 (P : Params) : Obj := ⟨(.type "tuple"), none, (.seq #[(.str (S "__class__") 500)] 0), #[]⟩
def o250 (P : Params) : Obj := ⟨(.type "tuple"), none, (.seq #[(.str (S "self") 501)] 0), #[]⟩
def o251 (P : Params) : Obj := ⟨(.type "tuple"), none, (.seq #[] 0), #[]⟩
def o253 (P : Params) : Obj := ⟨(.type "code"), none, (.fields #[(.str (S "__init__") 497), (.str (S "OtherSchema.__init__") 498), (.str (S "/claim/cut.py") 499), (.int (75) 0), (.int (1) 0), (.int (0) 0), (.int (0) 0), (.int (3) 0), (.ref 248), (.bool true), (.int (181) 0), (.ref 249), .none, (.ref 250), (.ref 251), (.ref 252), (.int (502) 0), (.int (75) 0), (.str (S "/claim/cut.py") 503)]), #[]⟩
def o254 (P : Params) : Obj := ⟨(.type "function"), none, (.func ⟨(S "__init__"), (S "OtherSchema.__init__"), defArgs (inClass (top 22) 0), .stmts (defBody (inClass (top 22) 0)), defScope (inClass (top 22) 0), 3, [((S "__class__"), 242)], .none, .none, .none, (.str (S "ruleengine.errors") 241), none, (.ref 253), (.ref 247), 0⟩), #[]⟩
def o255 (P : Params) : Obj := ⟨(.type "tuple"), none, (.seq #[] 0), #[]⟩
def o256 (P : Params) : Obj := ⟨(.type "dict"), none, (.dict #[⟨PyData.keyHash P (S "__module__"), (.str (S "__module__") 492), (.str (S "ruleengine.errors") 241)⟩, ⟨PyData.keyHash P (S "__firstlineno__"), (.str (S "__firstlineno__") 496), (.int (73) 495)⟩, ⟨PyData.keyHash P (S "__init__"), (.str (S "__init__") 504), (.ref 254)⟩, ⟨PyData.keyHash P (S "__static_attributes__"), (.str (S "__static_attributes__") 505), (.ref 255)⟩, ⟨PyData.keyHash P (S "__doc__"), (.str (S "__doc__") 507), .none⟩] 3), #[]⟩
def o257 (P : Params) : Obj := ⟨(.type "type"), none, (.cls ⟨(S "OtherSchema"), [(.ref 64)], [(.ref 257), (.ref 64), (.type "ValueError"), (.type "Exception"), (.type "BaseException"), (.type "object")], 256, (S "OtherSchema"), true, [], [], false, none, false⟩), #[(some (.ref 239)), none, (some (.str (S "OtherSchema") 485)), (some (.str (S "OtherSchema") 493)), (some (.builtin "ValueError.__new__")), (some (.bool true))]⟩
def o260 (P : Params) : Obj := ⟨(.type "tuple"), none, (.seq #[(.ref 64)] 0), #[]⟩
def o263 (P : Params) : Obj := ⟨(.type "cell"), none, (.cell (some (.ref 278))), #[]⟩
def o268 (P : Params) : Obj := ⟨(.type "tuple"), none, (.seq #[(.ref 263)] 0), #[]⟩
def o269 (P : Params) : Obj := ⟨(.type "tuple"), none, (.seq #[(.str (S "__class__") 525)] 0), #[]⟩
def o271 (P : Params) : Obj := ⟨(.type "tuple"), none, (.seq #[(.str (S "self") 526), (.str (S "reason") 527)] 0), #[]⟩
def o272 (P : Params) : Obj := ⟨(.type "tuple"), none, (.seq #[] 0), #[]⟩
def o274 (P : Params) : Obj := ⟨(.type "code"), none, (.fields #[(.str (S "__init__") 522), (.str (S "NoCommon.__init__") 523), (.str (S "/claim/cut.py") 524), (.int (79) 0), (.int (2) 0), (.int (0) 0), (.int (0) 0), (.int (3) 0), (.ref 269), (.bool true), (.int (181) 0), (.ref 270), .none, (.ref 271), (.ref 272), (.ref 273), (.int (528) 0), (.int (79) 0), (.str (S "/claim/cut.py") 529)]), #[]⟩
def o275 (P : Params) : Obj := ⟨(.type "function"), none, (.func ⟨(S "__init__"), (S "NoCommon.__init__"), defArgs (inClass (top 23) 0), .stmts (defBody (inClass (top 23) 0)), defScope (inClass (top 23) 0), 3, [((S "__class__"), 263)], .none, .none, .none, (.str (S "ruleengine.errors") 241), none, (.ref 274), (.ref 268), 0⟩), #[]⟩
def o276 (P : Params) : Obj := ⟨(.type "tuple"), none, (.seq #[(.str (S "reason") 531)] 0), #[]⟩
def o277 (P : Params) : Obj := ⟨(.type "dict"), none, (.dict #[⟨PyData.keyHash P (S "__module__"), (.str (S "__module__") 517), (.str (S "ruleengine.errors") 241)⟩, ⟨PyData.keyHash P (S "__firstlineno__"), (.str (S "__firstlineno__") 521), (.int (77) 520)⟩, ⟨PyData.keyHash P (S "__init__"), (.str (S "__init__") 530), (.ref 275)⟩, ⟨PyData.keyHash P (S "__static_attributes__"), (.str (S "__static_attributes__") 532), (.ref 276)⟩, ⟨PyData.keyHash P (S "__doc__"), (.str (S "__doc__") 534), .none⟩] 3), #[]⟩
def o278 (P : Params) : Obj := ⟨(.type "type"), none, (.cls ⟨(S "NoCommon"), [(.ref 64)], [(.ref 278), (.ref 64), (.type "ValueError"), (.type "Exception"), (.type "BaseException"), (.type "object")], 277, (S "NoCommon"), true, [], [], false, none, false⟩), #[(some (.ref 260)), none, (some (.str (S "NoCommon") 510)), (some (.str (S "NoCommon") 518)), (some (.builtin "ValueError.__new__")), (some (.bool true))]⟩
def o281 (P : Params) : Obj := ⟨(.type "tuple"), none, (.seq #[(.ref 64)] 0), #[]⟩
def o284 (P : Params) : Obj := ⟨(.type "cell"), none, (.cell (some (.ref 299))), #[]⟩
def o289 (P : Params) : Obj := ⟨(.type "tuple"), none, (.seq #[(.ref 284)] 0), #[]⟩
def o290 (P : Params) : Obj := ⟨(.type "tuple"), none, (.seq #[(.str (S "__class__") 552)] 0), #[]⟩
def o292 (P : Params) : Obj := ⟨(.type "tuple"), none, (.seq #[(.str (S "self") 553), (.str (S "limit") 554)] 0), #[]⟩
def o293 (P : Params) : Obj := ⟨(.type "tuple"), none, (.seq #[] 0), #[]⟩
def o295 (P : Params) : Obj := ⟨(.type "code"), none, (.fields #[(.str (S "__init__") 549), (.str (S "TooLarge.__init__") 550), (.str (S "/claim/cut.py") 551), (.int (84) 0), (.int (2) 0), (.int (0) 0), (.int (0) 0), (.int (3) 0), (.ref 290), (.bool true), (.int (181) 0), (.ref 291), .none, (.ref 292), (.ref 293), (.ref 294), (.int (555) 0), (.int (84) 0), (.str (S "/claim/cut.py") 556)]), #[]⟩
def o296 (P : Params) : Obj := ⟨(.type "function"), none, (.func ⟨(S "__init__"), (S "TooLarge.__init__"), defArgs (inClass (top 24) 0), .stmts (defBody (inClass (top 24) 0)), defScope (inClass (top 24) 0), 3, [((S "__class__"), 284)], .none, .none, .none, (.str (S "ruleengine.errors") 241), none, (.ref 295), (.ref 289), 0⟩), #[]⟩
def o297 (P : Params) : Obj := ⟨(.type "tuple"), none, (.seq #[(.str (S "limit") 558)] 0), #[]⟩
def o298 (P : Params) : Obj := ⟨(.type "dict"), none, (.dict #[⟨PyData.keyHash P (S "__module__"), (.str (S "__module__") 544), (.str (S "ruleengine.errors") 241)⟩, ⟨PyData.keyHash P (S "__firstlineno__"), (.str (S "__firstlineno__") 548), (.int (82) 547)⟩, ⟨PyData.keyHash P (S "__init__"), (.str (S "__init__") 557), (.ref 296)⟩, ⟨PyData.keyHash P (S "__static_attributes__"), (.str (S "__static_attributes__") 559), (.ref 297)⟩, ⟨PyData.keyHash P (S "__doc__"), (.str (S "__doc__") 561), .none⟩] 3), #[]⟩
def o299 (P : Params) : Obj := ⟨(.type "type"), none, (.cls ⟨(S "TooLarge"), [(.ref 64)], [(.ref 299), (.ref 64), (.type "ValueError"), (.type "Exception"), (.type "BaseException"), (.type "object")], 298, (S "TooLarge"), true, [], [], false, none, false⟩), #[(some (.ref 281)), none, (some (.str (S "TooLarge") 537)), (some (.str (S "TooLarge") 545)), (some (.builtin "ValueError.__new__")), (some (.bool true))]⟩
def o302 (P : Params) : Obj := ⟨(.type "tuple"), none, (.seq #[(.ref 64)] 0), #[]⟩
def o305 (P : Params) : Obj := ⟨(.type "cell"), none, (.cell (some (.ref 320))), #[]⟩
def o310 (P : Params) : Obj := ⟨(.type "tuple"), none, (.seq #[(.ref 305)] 0), #[]⟩
def o311 (P : Params) : Obj := ⟨(.type "tuple"), none, (.seq #[(.str (S "__class__") 579)] 0), #[]⟩
def o313 (P : Params) : Obj := ⟨(.type "tuple"), none, (.seq #[(.str (S "self") 580), (.str (S "word") 581)] 0), #[]⟩
def o314 (P : Params) : Obj := ⟨(.type "tuple"), none, (.seq #[] 0), #[]⟩
def o316 (P : Params) : Obj := ⟨(.type "code"), none, (.fields #[(.str (S "__init__") 576), (.str (S "UnknownName.__init__") 577), (.str (S "/claim/cut.py") 578), (.int (89) 0), (.int (2) 0), (.int (0) 0), (.int (0) 0), (.int (3) 0), (.ref 311), (.bool true), (.int (181) 0), (.ref 312), .none, (.ref 313), (.ref 314), (.ref 315), (.int (582) 0), (.int (89) 0), (.str (S "/claim/cut.py") 583)]), #[]⟩
def o317 (P : Params) : Obj := ⟨(.type "function"), none, (.func ⟨(S "__init__"), (S "UnknownName.__init__"), defArgs (inClass (top 25) 0), .stmts (defBody (inClass (top 25) 0)), defScope (inClass (top 25) 0), 3, [((S "__class__"), 305)], .none, .none, .none, (.str (S "ruleengine.errors") 241), none, (.ref 316), (.ref 310), 0⟩), #[]⟩
def o318 (P : Params) : Obj := ⟨(.type "tuple"), none, (.seq #[(.str (S "word") 585)] 0), #[]⟩
def o319 (P : Params) : Obj := ⟨(.type "dict"), none, (.dict #[⟨PyData.keyHash P (S "__module__"), (.str (S "__module__") 571), (.str (S "ruleengine.errors") 241)⟩, ⟨PyData.keyHash P (S "__firstlineno__"), (.str (S "__firstlineno__") 575), (.int (87) 574)⟩, ⟨PyData.keyHash P (S "__init__"), (.str (S "__init__") 584), (.ref 317)⟩, ⟨PyData.keyHash P (S "__static_attributes__"), (.str (S "__static_attributes__") 586), (.ref 318)⟩, ⟨PyData.keyHash P (S "__doc__"), (.str (S "__doc__") 588), .none⟩] 3), #[]⟩
def o320 (P : Params) : Obj := ⟨(.type "type"), none, (.cls ⟨(S "UnknownName"), [(.ref 64)], [(.ref 320), (.ref 64), (.type "ValueError"), (.type "Exception"), (.type "BaseException"), (.type "object")], 319, (S "UnknownName"), true, [], [], false, none, false⟩), #[(some (.ref 302)), none, (some (.str (S "UnknownName") 564)), (some (.str (S "UnknownName") 572)), (some (.builtin "ValueError.__new__")), (some (.bool true))]⟩
def o323 (P : Params) : Obj := ⟨(.type "tuple"), none, (.seq #[(.ref 64)] 0), #[]⟩
def o326 (P : Params) : Obj := ⟨(.type "cell"), none, (.cell (some (.ref 341))), #[]⟩
def o331 (P : Params) : Obj := ⟨(.type "tuple"), none, (.seq #[(.ref 326)] 0), #[]⟩
def o332 (P : Params) : Obj := ⟨(.type "tuple"), none, (.seq #[(.str (S "__class__") 606)] 0), #[]⟩
def o334 (P : Params) : Obj := ⟨(.type "tuple"), none, (.seq #[(.str (S "self") 607), (.str (S "part") 608)] 0), #[]⟩
def o335 (P : Params) : Obj := ⟨(.type "tuple"), none, (.seq #[] 0), #[]⟩
def o337 (P : Params) : Obj := ⟨(.type "code"), none, (.fields #[(.str (S "__init__") 603), (.str (S "InvalidAnswer.__init__") 604), (.str (S "/claim/cut.py") 605), (.int (94) 0), (.int (2) 0), (.int (0) 0), (.int (0) 0), (.int (3) 0), (.ref 332), (.bool true), (.int (181) 0), (.ref 333), .none, (.ref 334), (.ref 335), (.ref 336), (.int (609) 0), (.int (94) 0), (.str (S "/claim/cut.py") 610)]), #[]⟩
def o338 (P : Params) : Obj := ⟨(.type "function"), none, (.func ⟨(S "__init__"), (S "InvalidAnswer.__init__"), defArgs (inClass (top 26) 0), .stmts (defBody (inClass (top 26) 0)), defScope (inClass (top 26) 0), 3, [((S "__class__"), 326)], .none, .none, .none, (.str (S "ruleengine.errors") 241), none, (.ref 337), (.ref 331), 0⟩), #[]⟩
def o339 (P : Params) : Obj := ⟨(.type "tuple"), none, (.seq #[(.str (S "part") 612)] 0), #[]⟩
def o340 (P : Params) : Obj := ⟨(.type "dict"), none, (.dict #[⟨PyData.keyHash P (S "__module__"), (.str (S "__module__") 598), (.str (S "ruleengine.errors") 241)⟩, ⟨PyData.keyHash P (S "__firstlineno__"), (.str (S "__firstlineno__") 602), (.int (92) 601)⟩, ⟨PyData.keyHash P (S "__init__"), (.str (S "__init__") 611), (.ref 338)⟩, ⟨PyData.keyHash P (S "__static_attributes__"), (.str (S "__static_attributes__") 613), (.ref 339)⟩, ⟨PyData.keyHash P (S "__doc__"), (.str (S "__doc__") 615), .none⟩] 3), #[]⟩
def o341 (P : Params) : Obj := ⟨(.type "type"), none, (.cls ⟨(S "InvalidAnswer"), [(.ref 64)], [(.ref 341), (.ref 64), (.type "ValueError"), (.type "Exception"), (.type "BaseException"), (.type "object")], 340, (S "InvalidAnswer"), true, [], [], false, none, false⟩), #[(some (.ref 323)), none, (some (.str (S "InvalidAnswer") 591)), (some (.str (S "InvalidAnswer") 599)), (some (.builtin "ValueError.__new__")), (some (.bool true))]⟩
def o344 (P : Params) : Obj := ⟨(.type "tuple"), none, (.seq #[(.ref 64)] 0), #[]⟩
def o347 (P : Params) : Obj := ⟨(.type "cell"), none, (.cell (some (.ref 362))), #[]⟩
def o352 (P : Params) : Obj := ⟨(.type "tuple"), none, (.seq #[(.ref 347)] 0), #[]⟩
def o353 (P : Params) : Obj := ⟨(.type "tuple"), none, (.seq #[(.str (S "__class__") 633)] 0), #[]⟩
def o355 (P : Params) : Obj := ⟨(.type "tuple"), none, (.seq #[(.str (S "self") 634), (.str (S "part") 635)] 0), #[]⟩
def o356 (P : Params) : Obj := ⟨(.type "tuple"), none, (.seq #[] 0), #[]⟩
def o358 (P : Params) : Obj := ⟨(.type "code"), none, (.fields #[(.str (S "__init__") 630), (.str (S "InvalidPlan.__init__") 631), (.str (S "/claim/cut.py") 632), (.int (99) 0), (.int (2) 0), (.int (0) 0), (.int (0) 0), (.int (3) 0), (.ref 353), (.bool true), (.int (181) 0), (.ref 354), .none, (.ref 355), (.ref 356), (.ref 357), (.int (636) 0), (.int (99) 0), (.str (S "/claim/cut.py") 637)]), #[]⟩
def o359 (P : Params) : Obj := ⟨(.type "function"), none, (.func ⟨(S "__init__"), (S "InvalidPlan.__init__"), defArgs (inClass (top 27) 0), .stmts (defBody (inClass (top 27) 0)), defScope (inClass (top 27) 0), 3, [((S "__class__"), 347)], .none, .none, .none, (.str (S "ruleengine.errors") 241), none, (.ref 358), (.ref 352), 0⟩), #[]⟩
def o360 (P : Params) : Obj := ⟨(.type "tuple"), none, (.seq #[(.str (S "part") 639)] 0), #[]⟩
def o361 (P : Params) : Obj := ⟨(.type "dict"), none, (.dict #[⟨PyData.keyHash P (S "__module__"), (.str (S "__module__") 625), (.str (S "ruleengine.errors") 241)⟩, ⟨PyData.keyHash P (S "__firstlineno__"), (.str (S "__firstlineno__") 629), (.int (97) 628)⟩, ⟨PyData.keyHash P (S "__init__"), (.str (S "__init__") 638), (.ref 359)⟩, ⟨PyData.keyHash P (S "__static_attributes__"), (.str (S "__static_attributes__") 640), (.ref 360)⟩, ⟨PyData.keyHash P (S "__doc__"), (.str (S "__doc__") 642), .none⟩] 3), #[]⟩
def o362 (P : Params) : Obj := ⟨(.type "type"), none, (.cls ⟨(S "InvalidPlan"), [(.ref 64)], [(.ref 362), (.ref 64), (.type "ValueError"), (.type "Exception"), (.type "BaseException"), (.type "object")], 361, (S "InvalidPlan"), true, [], [], false, none, false⟩), #[(some (.ref 344)), none, (some (.str (S "InvalidPlan") 618)), (some (.str (S "InvalidPlan") 626)), (some (.builtin "ValueError.__new__")), (some (.bool true))]⟩
def o365 (P : Params) : Obj := ⟨(.type "tuple"), none, (.seq #[(.ref 64)] 0), #[]⟩
def o368 (P : Params) : Obj := ⟨(.type "cell"), none, (.cell (some (.ref 383))), #[]⟩
def o373 (P : Params) : Obj := ⟨(.type "tuple"), none, (.seq #[(.ref 368)] 0), #[]⟩
def o374 (P : Params) : Obj := ⟨(.type "tuple"), none, (.seq #[(.str (S "__class__") 660)] 0), #[]⟩
def o376 (P : Params) : Obj := ⟨(.type "tuple"), none, (.seq #[(.str (S "self") 661), (.str (S "fault") 662), (.str (S "word") 663)] 0), #[]⟩
def o377 (P : Params) : Obj := ⟨(.type "tuple"), none, (.seq #[] 0), #[]⟩
def o379 (P : Params) : Obj := ⟨(.type "code"), none, (.fields #[(.str (S "__init__") 657), (.str (S "InvalidFlow.__init__") 658), (.str (S "/claim/cut.py") 659), (.int (104) 0), (.int (3) 0), (.int (0) 0), (.int (0) 0), (.int (3) 0), (.ref 374), (.bool true), (.int (181) 0), (.ref 375), .none, (.ref 376), (.ref 377), (.ref 378), (.int (664) 0), (.int (104) 0), (.str (S "/claim/cut.py") 665)]), #[]⟩
def o380 (P : Params) : Obj := ⟨(.type "function"), none, (.func ⟨(S "__init__"), (S "InvalidFlow.__init__"), defArgs (inClass (top 28) 0), .stmts (defBody (inClass (top 28) 0)), defScope (inClass (top 28) 0), 3, [((S "__class__"), 368)], .none, .none, .none, (.str (S "ruleengine.errors") 241), none, (.ref 379), (.ref 373), 0⟩), #[]⟩
def o381 (P : Params) : Obj := ⟨(.type "tuple"), none, (.seq #[(.str (S "fault") 667), (.str (S "word") 668)] 0), #[]⟩
def o382 (P : Params) : Obj := ⟨(.type "dict"), none, (.dict #[⟨PyData.keyHash P (S "__module__"), (.str (S "__module__") 652), (.str (S "ruleengine.errors") 241)⟩, ⟨PyData.keyHash P (S "__firstlineno__"), (.str (S "__firstlineno__") 656), (.int (102) 655)⟩, ⟨PyData.keyHash P (S "__init__"), (.str (S "__init__") 666), (.ref 380)⟩, ⟨PyData.keyHash P (S "__static_attributes__"), (.str (S "__static_attributes__") 669), (.ref 381)⟩, ⟨PyData.keyHash P (S "__doc__"), (.str (S "__doc__") 671), .none⟩] 3), #[]⟩
def o383 (P : Params) : Obj := ⟨(.type "type"), none, (.cls ⟨(S "InvalidFlow"), [(.ref 64)], [(.ref 383), (.ref 64), (.type "ValueError"), (.type "Exception"), (.type "BaseException"), (.type "object")], 382, (S "InvalidFlow"), true, [], [], false, none, false⟩), #[(some (.ref 365)), none, (some (.str (S "InvalidFlow") 645)), (some (.str (S "InvalidFlow") 653)), (some (.builtin "ValueError.__new__")), (some (.bool true))]⟩
def o386 (P : Params) : Obj := ⟨(.type "tuple"), none, (.seq #[(.ref 64)] 0), #[]⟩
def o389 (P : Params) : Obj := ⟨(.type "cell"), none, (.cell (some (.ref 404))), #[]⟩
def o394 (P : Params) : Obj := ⟨(.type "tuple"), none, (.seq #[(.ref 389)] 0), #[]⟩
def o395 (P : Params) : Obj := ⟨(.type "tuple"), none, (.seq #[(.str (S "__class__") 689)] 0), #[]⟩
def o397 (P : Params) : Obj := ⟨(.type "tuple"), none, (.seq #[(.str (S "self") 690), (.str (S "value") 691)] 0), #[]⟩
def o398 (P : Params) : Obj := ⟨(.type "tuple"), none, (.seq #[] 0), #[]⟩
def o400 (P : Params) : Obj := ⟨(.type "code"), none, (.fields #[(.str (S "__init__") 686), (.str (S "InvalidPoint.__init__") 687), (.str (S "/claim/cut.py") 688), (.int (110) 0), (.int (2) 0), (.int (0) 0), (.int (0) 0), (.int (3) 0), (.ref 395), (.bool true), (.int (181) 0), (.ref 396), .none, (.ref 397), (.ref 398), (.ref 399), (.int (692) 0), (.int (110) 0), (.str (S "/claim/cut.py") 693)]), #[]⟩
def o401 (P : Params) : Obj := ⟨(.type "function"), none, (.func ⟨(S "__init__"), (S "InvalidPoint.__init__"), defArgs (inClass (top 29) 0), .stmts (defBody (inClass (top 29) 0)), defScope (inClass (top 29) 0), 3, [((S "__class__"), 389)], .none, .none, .none, (.str (S "ruleengine.errors") 241), none, (.ref 400), (.ref 394), 0⟩), #[]⟩
def o402 (P : Params) : Obj := ⟨(.type "tuple"), none, (.seq #[(.str (S "value") 695)] 0), #[]⟩
def o403 (P : Params) : Obj := ⟨(.type "dict"), none, (.dict #[⟨PyData.keyHash P (S "__module__"), (.str (S "__module__") 681), (.str (S "ruleengine.errors") 241)⟩, ⟨PyData.keyHash P (S "__firstlineno__"), (.str (S "__firstlineno__") 685), (.int (108) 684)⟩, ⟨PyData.keyHash P (S "__init__"), (.str (S "__init__") 694), (.ref 401)⟩, ⟨PyData.keyHash P (S "__static_attributes__"), (.str (S "__static_attributes__") 696), (.ref 402)⟩, ⟨PyData.keyHash P (S "__doc__"), (.str (S "__doc__") 698), .none⟩] 3), #[]⟩
def o404 (P : Params) : Obj := ⟨(.type "type"), none, (.cls ⟨(S "InvalidPoint"), [(.ref 64)], [(.ref 404), (.ref 64), (.type "ValueError"), (.type "Exception"), (.type "BaseException"), (.type "object")], 403, (S "InvalidPoint"), true, [], [], false, none, false⟩), #[(some (.ref 386)), none, (some (.str (S "InvalidPoint") 674)), (some (.str (S "InvalidPoint") 682)), (some (.builtin "ValueError.__new__")), (some (.bool true))]⟩
def o407 (P : Params) : Obj := ⟨(.type "tuple"), none, (.seq #[(.ref 64)] 0), #[]⟩
def o410 (P : Params) : Obj := ⟨(.type "cell"), none, (.cell (some (.ref 425))), #[]⟩
def o415 (P : Params) : Obj := ⟨(.type "tuple"), none, (.seq #[(.ref 410)] 0), #[]⟩
def o416 (P : Params) : Obj := ⟨(.type "tuple"), none, (.seq #[(.str (S "__class__") 716)] 0), #[]⟩
def o418 (P : Params) : Obj := ⟨(.type "tuple"), none, (.seq #[(.str (S "self") 717), (.str (S "place") 718)] 0), #[]⟩
def o419 (P : Params) : Obj := ⟨(.type "tuple"), none, (.seq #[] 0), #[]⟩
def o421 (P : Params) : Obj := ⟨(.type "code"), none, (.fields #[(.str (S "__init__") 713), (.str (S "NoDeed.__init__") 714), (.str (S "/claim/cut.py") 715), (.int (115) 0), (.int (2) 0), (.int (0) 0), (.int (0) 0), (.int (3) 0), (.ref 416), (.bool true), (.int (181) 0), (.ref 417), .none, (.ref 418), (.ref 419), (.ref 420), (.int (719) 0), (.int (115) 0), (.str (S "/claim/cut.py") 720)]), #[]⟩
def o422 (P : Params) : Obj := ⟨(.type "function"), none, (.func ⟨(S "__init__"), (S "NoDeed.__init__"), defArgs (inClass (top 30) 0), .stmts (defBody (inClass (top 30) 0)), defScope (inClass (top 30) 0), 3, [((S "__class__"), 410)], .none, .none, .none, (.str (S "ruleengine.errors") 241), none, (.ref 421), (.ref 415), 0⟩), #[]⟩
def o423 (P : Params) : Obj := ⟨(.type "tuple"), none, (.seq #[(.str (S "place") 722)] 0), #[]⟩
def o424 (P : Params) : Obj := ⟨(.type "dict"), none, (.dict #[⟨PyData.keyHash P (S "__module__"), (.str (S "__module__") 708), (.str (S "ruleengine.errors") 241)⟩, ⟨PyData.keyHash P (S "__firstlineno__"), (.str (S "__firstlineno__") 712), (.int (113) 711)⟩, ⟨PyData.keyHash P (S "__init__"), (.str (S "__init__") 721), (.ref 422)⟩, ⟨PyData.keyHash P (S "__static_attributes__"), (.str (S "__static_attributes__") 723), (.ref 423)⟩, ⟨PyData.keyHash P (S "__doc__"), (.str (S "__doc__") 725), .none⟩] 3), #[]⟩
def o425 (P : Params) : Obj := ⟨(.type "type"), none, (.cls ⟨(S "NoDeed"), [(.ref 64)], [(.ref 425), (.ref 64), (.type "ValueError"), (.type "Exception"), (.type "BaseException"), (.type "object")], 424, (S "NoDeed"), true, [], [], false, none, false⟩), #[(some (.ref 407)), none, (some (.str (S "NoDeed") 701)), (some (.str (S "NoDeed") 709)), (some (.builtin "ValueError.__new__")), (some (.bool true))]⟩
def o428 (P : Params) : Obj := ⟨(.type "tuple"), none, (.seq #[(.ref 64)] 0), #[]⟩
def o431 (P : Params) : Obj := ⟨(.type "cell"), none, (.cell (some (.ref 446))), #[]⟩
def o436 (P : Params) : Obj := ⟨(.type "tuple"), none, (.seq #[(.ref 431)] 0), #[]⟩
def o437 (P : Params) : Obj := ⟨(.type "tuple"), none, (.seq #[(.str (S "__class__") 743)] 0), #[]⟩
def o439 (P : Params) : Obj := ⟨(.type "tuple"), none, (.seq #[(.str (S "self") 744), (.str (S "word") 745), (.str (S "item") 746)] 0), #[]⟩
def o440 (P : Params) : Obj := ⟨(.type "tuple"), none, (.seq #[] 0), #[]⟩
def o442 (P : Params) : Obj := ⟨(.type "code"), none, (.fields #[(.str (S "__init__") 740), (.str (S "InvalidGuard.__init__") 741), (.str (S "/claim/cut.py") 742), (.int (120) 0), (.int (3) 0), (.int (0) 0), (.int (0) 0), (.int (3) 0), (.ref 437), (.bool true), (.int (181) 0), (.ref 438), .none, (.ref 439), (.ref 440), (.ref 441), (.int (747) 0), (.int (120) 0), (.str (S "/claim/cut.py") 748)]), #[]⟩
def o443 (P : Params) : Obj := ⟨(.type "function"), none, (.func ⟨(S "__init__"), (S "InvalidGuard.__init__"), defArgs (inClass (top 31) 0), .stmts (defBody (inClass (top 31) 0)), defScope (inClass (top 31) 0), 3, [((S "__class__"), 431)], .none, .none, .none, (.str (S "ruleengine.errors") 241), none, (.ref 442), (.ref 436), 0⟩), #[]⟩
def o444 (P : Params) : Obj := ⟨(.type "tuple"), none, (.seq #[(.str (S "item") 750), (.str (S "word") 751)] 0), #[]⟩
def o445 (P : Params) : Obj := ⟨(.type "dict"), none, (.dict #[⟨PyData.keyHash P (S "__module__"), (.str (S "__module__") 735), (.str (S "ruleengine.errors") 241)⟩, ⟨PyData.keyHash P (S "__firstlineno__"), (.str (S "__firstlineno__") 739), (.int (118) 738)⟩, ⟨PyData.keyHash P (S "__init__"), (.str (S "__init__") 749), (.ref 443)⟩, ⟨PyData.keyHash P (S "__static_attributes__"), (.str (S "__static_attributes__") 752), (.ref 444)⟩, ⟨PyData.keyHash P (S "__doc__"), (.str (S "__doc__") 754), .none⟩] 3), #[]⟩
def o446 (P : Params) : Obj := ⟨(.type "type"), none, (.cls ⟨(S "InvalidGuard"), [(.ref 64)], [(.ref 446), (.ref 64), (.type "ValueError"), (.type "Exception"), (.type "BaseException"), (.type "object")], 445, (S "InvalidGuard"), true, [], [], false, none, false⟩), #[(some (.ref 428)), none, (some (.str (S "InvalidGuard") 728)), (some (.str (S "InvalidGuard") 736)), (some (.builtin "ValueError.__new__")), (some (.bool true))]⟩
def o449 (P : Params) : Obj := ⟨(.type "tuple"), none, (.seq #[(.ref 64)] 0), #[]⟩
def o452 (P : Params) : Obj := ⟨(.type "cell"), none, (.cell (some (.ref 468))), #[]⟩
def o457 (P : Params) : Obj := ⟨(.type "tuple"), none, (.seq #[.none] 0), #[]⟩
def o458 (P : Params) : Obj := ⟨(.type "tuple"), none, (.seq #[(.ref 452)] 0), #[]⟩
def o459 (P : Params) : Obj := ⟨(.type "tuple"), none, (.seq #[(.str (S "__class__") 772)] 0), #[]⟩
def o461 (P : Params) : Obj := ⟨(.type "tuple"), none, (.seq #[(.str (S "self") 773), (.str (S "word") 774), (.str (S "fault") 775), (.str (S "item") 776)] 0), #[]⟩
def o462 (P : Params) : Obj := ⟨(.type "tuple"), none, (.seq #[] 0), #[]⟩
def o464 (P : Params) : Obj := ⟨(.type "code"), none, (.fields #[(.str (S "__init__") 769), (.str (S "InvalidTemplate.__init__") 770), (.str (S "/claim/cut.py") 771), (.int (126) 0), (.int (4) 0), (.int (0) 0), (.int (0) 0), (.int (3) 0), (.ref 459), (.bool true), (.int (181) 0), (.ref 460), .none, (.ref 461), (.ref 462), (.ref 463), (.int (777) 0), (.int (126) 0), (.str (S "/claim/cut.py") 778)]), #[]⟩
def o465 (P : Params) : Obj := ⟨(.type "function"), none, (.func ⟨(S "__init__"), (S "InvalidTemplate.__init__"), defArgs (inClass (top 32) 0), .stmts (defBody (inClass (top 32) 0)), defScope (inClass (top 32) 0), 3, [((S "__class__"), 452)], (.ref 457), .none, .none, (.str (S "ruleengine.errors") 241), none, (.ref 464), (.ref 458), 0⟩), #[]⟩
def o466 (P : Params) : Obj := ⟨(.type "tuple"), none, (.seq #[(.str (S "fault") 780), (.str (S "item") 781), (.str (S "word") 782)] 0), #[]⟩
def o467 (P : Params) : Obj := ⟨(.type "dict"), none, (.dict #[⟨PyData.keyHash P (S "__module__"), (.str (S "__module__") 764), (.str (S "ruleengine.errors") 241)⟩, ⟨PyData.keyHash P (S "__firstlineno__"), (.str (S "__firstlineno__") 768), (.int (124) 767)⟩, ⟨PyData.keyHash P (S "__init__"), (.str (S "__init__") 779), (.ref 465)⟩, ⟨PyData.keyHash P (S "__static_attributes__"), (.str (S "__static_attributes__") 783), (.ref 466)⟩, ⟨PyData.keyHash P (S "__doc__"), (.str (S "__doc__") 785), .none⟩] 3), #[]⟩
def o468 (P : Params) : Obj := ⟨(.type "type"), none, (.cls ⟨(S "InvalidTemplate"), [(.ref 64)], [(.ref 468), (.ref 64), (.type "ValueError"), (.type "Exception"), (.type "BaseException"), (.type "object")], 467, (S "InvalidTemplate"), true, [], [], false, none, false⟩), #[(some (.ref 449)), none, (some (.str (S "InvalidTemplate") 757)), (some (.str (S "InvalidTemplate") 765)), (some (.builtin "ValueError.__new__")), (some (.bool true))]⟩
def o471 (P : Params) : Obj := ⟨(.type "tuple"), none, (.seq #[(.ref 64)] 0), #[]⟩
def o474 (P : Params) : Obj := ⟨(.type "cell"), none, (.cell (some (.ref 489))), #[]⟩
def o479 (P : Params) : Obj := ⟨(.type "tuple"), none, (.seq #[(.ref 474)] 0), #[]⟩
def o480 (P : Params) : Obj := ⟨(.type "tuple"), none, (.seq #[(.str (S "__class__") 803)] 0), #[]⟩
def o482 (P : Params) : Obj := ⟨(.type "tuple"), none, (.seq #[(.str (S "self") 804), (.str (S "spot") 805)] 0), #[]⟩
def o483 (P : Params) : Obj := ⟨(.type "tuple"), none, (.seq #[] 0), #[]⟩
def o485 (P : Params) : Obj := ⟨(.type "code"), none, (.fields #[(.str (S "__init__") 800), (.str (S "WrongFinding.__init__") 801), (.str (S "/claim/cut.py") 802), (.int (133) 0), (.int (2) 0), (.int (0) 0), (.int (0) 0), (.int (3) 0), (.ref 480), (.bool true), (.int (181) 0), (.ref 481), .none, (.ref 482), (.ref 483), (.ref 484), (.int (806) 0), (.int (133) 0), (.str (S "/claim/cut.py") 807)]), #[]⟩
def o486 (P : Params) : Obj := ⟨(.type "function"), none, (.func ⟨(S "__init__"), (S "WrongFinding.__init__"), defArgs (inClass (top 33) 0), .stmts (defBody (inClass (top 33) 0)), defScope (inClass (top 33) 0), 3, [((S "__class__"), 474)], .none, .none, .none, (.str (S "ruleengine.errors") 241), none, (.ref 485), (.ref 479), 0⟩), #[]⟩
def o487 (P : Params) : Obj := ⟨(.type "tuple"), none, (.seq #[(.str (S "spot") 809)] 0), #[]⟩
def o488 (P : Params) : Obj := ⟨(.type "dict"), none, (.dict #[⟨PyData.keyHash P (S "__module__"), (.str (S "__module__") 795), (.str (S "ruleengine.errors") 241)⟩, ⟨PyData.keyHash P (S "__firstlineno__"), (.str (S "__firstlineno__") 799), (.int (131) 798)⟩, ⟨PyData.keyHash P (S "__init__"), (.str (S "__init__") 808), (.ref 486)⟩, ⟨PyData.keyHash P (S "__static_attributes__"), (.str (S "__static_attributes__") 810), (.ref 487)⟩, ⟨PyData.keyHash P (S "__doc__"), (.str (S "__doc__") 812), .none⟩] 3), #[]⟩
def o489 (P : Params) : Obj := ⟨(.type "type"), none, (.cls ⟨(S "WrongFinding"), [(.ref 64)], [(.ref 489), (.ref 64), (.type "ValueError"), (.type "Exception"), (.type "BaseException"), (.type "object")], 488, (S "WrongFinding"), true, [], [], false, none, false⟩), #[(some (.ref 471)), none, (some (.str (S "WrongFinding") 788)), (some (.str (S "WrongFinding") 796)), (some (.builtin "ValueError.__new__")), (some (.bool true))]⟩
def o492 (P : Params) : Obj := ⟨(.type "tuple"), none, (.seq #[(.ref 64)] 0), #[]⟩
def o495 (P : Params) : Obj := ⟨(.type "cell"), none, (.cell (some (.ref 510))), #[]⟩
def o500 (P : Params) : Obj := ⟨(.type "tuple"), none, (.seq #[(.ref 495)] 0), #[]⟩
def o501 (P : Params) : Obj := ⟨(.type "tuple"), none, (.seq #[(.str (S "__class__") 830)] 0), #[]⟩
def o503 (P : Params) : Obj := ⟨(.type "tuple"), none, (.seq #[(.str (S "self") 831), (.str (S "one") 832), (.str (S "other") 833)] 0), #[]⟩
def o504 (P : Params) : Obj := ⟨(.type "tuple"), none, (.seq #[] 0), #[]⟩
def o506 (P : Params) : Obj := ⟨(.type "code"), none, (.fields #[(.str (S "__init__") 827), (.str (S "Overlap.__init__") 828), (.str (S "/claim/cut.py") 829), (.int (138) 0), (.int (3) 0), (.int (0) 0), (.int (0) 0), (.int (3) 0), (.ref 501), (.bool true), (.int (181) 0), (.ref 502), .none, (.ref 503), (.ref 504), (.ref 505), (.int (834) 0), (.int (138) 0), (.str (S "/claim/cut.py") 835)]), #[]⟩
def o507 (P : Params) : Obj := ⟨(.type "function"), none, (.func ⟨(S "__init__"), (S "Overlap.__init__"), defArgs (inClass (top 34) 0), .stmts (defBody (inClass (top 34) 0)), defScope (inClass (top 34) 0), 3, [((S "__class__"), 495)], .none, .none, .none, (.str (S "ruleengine.errors") 241), none, (.ref 506), (.ref 500), 0⟩), #[]⟩
def o508 (P : Params) : Obj := ⟨(.type "tuple"), none, (.seq #[(.str (S "one") 837), (.str (S "other") 838)] 0), #[]⟩
def o509 (P : Params) : Obj := ⟨(.type "dict"), none, (.dict #[⟨PyData.keyHash P (S "__module__"), (.str (S "__module__") 822), (.str (S "ruleengine.errors") 241)⟩, ⟨PyData.keyHash P (S "__firstlineno__"), (.str (S "__firstlineno__") 826), (.int (136) 825)⟩, ⟨PyData.keyHash P (S "__init__"), (.str (S "__init__") 836), (.ref 507)⟩, ⟨PyData.keyHash P (S "__static_attributes__"), (.str (S "__static_attributes__") 839), (.ref 508)⟩, ⟨PyData.keyHash P (S "__doc__"), (.str (S "__doc__") 841), .none⟩] 3), #[]⟩
def o510 (P : Params) : Obj := ⟨(.type "type"), none, (.cls ⟨(S "Overlap"), [(.ref 64)], [(.ref 510), (.ref 64), (.type "ValueError"), (.type "Exception"), (.type "BaseException"), (.type "object")], 509, (S "Overlap"), true, [], [], false, none, false⟩), #[(some (.ref 492)), none, (some (.str (S "Overlap") 815)), (some (.str (S "Overlap") 823)), (some (.builtin "ValueError.__new__")), (some (.bool true))]⟩
def o513 (P : Params) : Obj := ⟨(.type "tuple"), none, (.seq #[(.ref 64)] 0), #[]⟩
def o516 (P : Params) : Obj := ⟨(.type "cell"), none, (.cell (some (.ref 531))), #[]⟩
def o521 (P : Params) : Obj := ⟨(.type "tuple"), none, (.seq #[(.ref 516)] 0), #[]⟩
def o522 (P : Params) : Obj := ⟨(.type "tuple"), none, (.seq #[(.str (S "__class__") 859)] 0), #[]⟩
def o524 (P : Params) : Obj := ⟨(.type "tuple"), none, (.seq #[(.str (S "self") 860), (.str (S "value") 861)] 0), #[]⟩
def o525 (P : Params) : Obj := ⟨(.type "tuple"), none, (.seq #[] 0), #[]⟩
def o527 (P : Params) : Obj := ⟨(.type "code"), none, (.fields #[(.str (S "__init__") 856), (.str (S "InvalidOrder.__init__") 857), (.str (S "/claim/cut.py") 858), (.int (144) 0), (.int (2) 0), (.int (0) 0), (.int (0) 0), (.int (3) 0), (.ref 522), (.bool true), (.int (181) 0), (.ref 523), .none, (.ref 524), (.ref 525), (.ref 526), (.int (862) 0), (.int (144) 0), (.str (S "/claim/cut.py") 863)]), #[]⟩
def o528 (P : Params) : Obj := ⟨(.type "function"), none, (.func ⟨(S "__init__"), (S "InvalidOrder.__init__"), defArgs (inClass (top 35) 0), .stmts (defBody (inClass (top 35) 0)), defScope (inClass (top 35) 0), 3, [((S "__class__"), 516)], .none, .none, .none, (.str (S "ruleengine.errors") 241), none, (.ref 527), (.ref 521), 0⟩), #[]⟩
def o529 (P : Params) : Obj := ⟨(.type "tuple"), none, (.seq #[(.str (S "value") 865)] 0), #[]⟩
def o530 (P : Params) : Obj := ⟨(.type "dict"), none, (.dict #[⟨PyData.keyHash P (S "__module__"), (.str (S "__module__") 851), (.str (S "ruleengine.errors") 241)⟩, ⟨PyData.keyHash P (S "__firstlineno__"), (.str (S "__firstlineno__") 855), (.int (142) 854)⟩, ⟨PyData.keyHash P (S "__init__"), (.str (S "__init__") 864), (.ref 528)⟩, ⟨PyData.keyHash P (S "__static_attributes__"), (.str (S "__static_attributes__") 866), (.ref 529)⟩, ⟨PyData.keyHash P (S "__doc__"), (.str (S "__doc__") 868), .none⟩] 3), #[]⟩
def o531 (P : Params) : Obj := ⟨(.type "type"), none, (.cls ⟨(S "InvalidOrder"), [(.ref 64)], [(.ref 531), (.ref 64), (.type "ValueError"), (.type "Exception"), (.type "BaseException"), (.type "object")], 530, (S "InvalidOrder"), true, [], [], false, none, false⟩), #[(some (.ref 513)), none, (some (.str (S "InvalidOrder") 844)), (some (.str (S "InvalidOrder") 852)), (some (.builtin "ValueError.__new__")), (some (.bool true))]⟩
def o534 (P : Params) : Obj := ⟨(.type "tuple"), none, (.seq #[(.ref 64)] 0), #[]⟩
def o537 (P : Params) : Obj := ⟨(.type "cell"), none, (.cell (some (.ref 552))), #[]⟩
def o542 (P : Params) : Obj := ⟨(.type "tuple"), none, (.seq #[(.ref 537)] 0), #[]⟩
def o543 (P : Params) : Obj := ⟨(.type "tuple"), none, (.seq #[(.str (S "__class__") 886)] 0), #[]⟩
def o545 (P : Params) : Obj := ⟨(.type "tuple"), none, (.seq #[(.str (S "self") 887), (.str (S "limit") 888)] 0), #[]⟩
def o546 (P : Params) : Obj := ⟨(.type "tuple"), none, (.seq #[] 0), #[]⟩
def o548 (P : Params) : Obj := ⟨(.type "code"), none, (.fields #[(.str (S "__init__") 883), (.str (S "TooLong.__init__") 884), (.str (S "/claim/cut.py") 885), (.int (149) 0), (.int (2) 0), (.int (0) 0), (.int (0) 0), (.int (3) 0), (.ref 543), (.bool true), (.int (181) 0), (.ref 544), .none, (.ref 545), (.ref 546), (.ref 547), (.int (889) 0), (.int (149) 0), (.str (S "/claim/cut.py") 890)]), #[]⟩
def o549 (P : Params) : Obj := ⟨(.type "function"), none, (.func ⟨(S "__init__"), (S "TooLong.__init__"), defArgs (inClass (top 36) 0), .stmts (defBody (inClass (top 36) 0)), defScope (inClass (top 36) 0), 3, [((S "__class__"), 537)], .none, .none, .none, (.str (S "ruleengine.errors") 241), none, (.ref 548), (.ref 542), 0⟩), #[]⟩
def o550 (P : Params) : Obj := ⟨(.type "tuple"), none, (.seq #[(.str (S "limit") 892)] 0), #[]⟩
def o551 (P : Params) : Obj := ⟨(.type "dict"), none, (.dict #[⟨PyData.keyHash P (S "__module__"), (.str (S "__module__") 878), (.str (S "ruleengine.errors") 241)⟩, ⟨PyData.keyHash P (S "__firstlineno__"), (.str (S "__firstlineno__") 882), (.int (147) 881)⟩, ⟨PyData.keyHash P (S "__init__"), (.str (S "__init__") 891), (.ref 549)⟩, ⟨PyData.keyHash P (S "__static_attributes__"), (.str (S "__static_attributes__") 893), (.ref 550)⟩, ⟨PyData.keyHash P (S "__doc__"), (.str (S "__doc__") 895), .none⟩] 3), #[]⟩
def o552 (P : Params) : Obj := ⟨(.type "type"), none, (.cls ⟨(S "TooLong"), [(.ref 64)], [(.ref 552), (.ref 64), (.type "ValueError"), (.type "Exception"), (.type "BaseException"), (.type "object")], 551, (S "TooLong"), true, [], [], false, none, false⟩), #[(some (.ref 534)), none, (some (.str (S "TooLong") 871)), (some (.str (S "TooLong") 879)), (some (.builtin "ValueError.__new__")), (some (.bool true))]⟩
def o555 (P : Params) : Obj := ⟨(.type "tuple"), none, (.seq #[(.ref 64)] 0), #[]⟩
def o558 (P : Params) : Obj := ⟨(.type "cell"), none, (.cell (some (.ref 573))), #[]⟩
def o563 (P : Params) : Obj := ⟨(.type "tuple"), none, (.seq #[(.ref 558)] 0), #[]⟩
def o564 (P : Params) : Obj := ⟨(.type "tuple"), none, (.seq #[(.str (S "__class__") 913)] 0), #[]⟩
def o566 (P : Params) : Obj := ⟨(.type "tuple"), none, (.seq #[(.str (S "self") 914), (.str (S "word") 915)] 0), #[]⟩
def o567 (P : Params) : Obj := ⟨(.type "tuple"), none, (.seq #[] 0), #[]⟩
def o569 (P : Params) : Obj := ⟨(.type "code"), none, (.fields #[(.str (S "__init__") 910), (.str (S "NotPlain.__init__") 911), (.str (S "/claim/cut.py") 912), (.int (154) 0), (.int (2) 0), (.int (0) 0), (.int (0) 0), (.int (3) 0), (.ref 564), (.bool true), (.int (181) 0), (.ref 565), .none, (.ref 566), (.ref 567), (.ref 568), (.int (916) 0), (.int (154) 0), (.str (S "/claim/cut.py") 917)]), #[]⟩
def o570 (P : Params) : Obj := ⟨(.type "function"), none, (.func ⟨(S "__init__"), (S "NotPlain.__init__"), defArgs (inClass (top 37) 0), .stmts (defBody (inClass (top 37) 0)), defScope (inClass (top 37) 0), 3, [((S "__class__"), 558)], .none, .none, .none, (.str (S "ruleengine.errors") 241), none, (.ref 569), (.ref 563), 0⟩), #[]⟩
def o571 (P : Params) : Obj := ⟨(.type "tuple"), none, (.seq #[(.str (S "word") 919)] 0), #[]⟩
def o572 (P : Params) : Obj := ⟨(.type "dict"), none, (.dict #[⟨PyData.keyHash P (S "__module__"), (.str (S "__module__") 905), (.str (S "ruleengine.errors") 241)⟩, ⟨PyData.keyHash P (S "__firstlineno__"), (.str (S "__firstlineno__") 909), (.int (152) 908)⟩, ⟨PyData.keyHash P (S "__init__"), (.str (S "__init__") 918), (.ref 570)⟩, ⟨PyData.keyHash P (S "__static_attributes__"), (.str (S "__static_attributes__") 920), (.ref 571)⟩, ⟨PyData.keyHash P (S "__doc__"), (.str (S "__doc__") 922), .none⟩] 3), #[]⟩
def o573 (P : Params) : Obj := ⟨(.type "type"), none, (.cls ⟨(S "NotPlain"), [(.ref 64)], [(.ref 573), (.ref 64), (.type "ValueError"), (.type "Exception"), (.type "BaseException"), (.type "object")], 572, (S "NotPlain"), true, [], [], false, none, false⟩), #[(some (.ref 555)), none, (some (.str (S "NotPlain") 898)), (some (.str (S "NotPlain") 906)), (some (.builtin "ValueError.__new__")), (some (.bool true))]⟩
def o576 (P : Params) : Obj := ⟨(.type "tuple"), none, (.seq #[(.ref 64)] 0), #[]⟩
def o579 (P : Params) : Obj := ⟨(.type "cell"), none, (.cell (some (.ref 594))), #[]⟩
def o584 (P : Params) : Obj := ⟨(.type "tuple"), none, (.seq #[(.ref 579)] 0), #[]⟩
def o585 (P : Params) : Obj := ⟨(.type "tuple"), none, (.seq #[(.str (S "__class__") 940)] 0), #[]⟩
def o587 (P : Params) : Obj := ⟨(.type "tuple"), none, (.seq #[(.str (S "self") 941), (.str (S "limit") 942)] 0), #[]⟩
def o588 (P : Params) : Obj := ⟨(.type "tuple"), none, (.seq #[] 0), #[]⟩
def o590 (P : Params) : Obj := ⟨(.type "code"), none, (.fields #[(.str (S "__init__") 937), (.str (S "LimitExceeded.__init__") 938), (.str (S "/claim/cut.py") 939), (.int (159) 0), (.int (2) 0), (.int (0) 0), (.int (0) 0), (.int (3) 0), (.ref 585), (.bool true), (.int (181) 0), (.ref 586), .none, (.ref 587), (.ref 588), (.ref 589), (.int (943) 0), (.int (159) 0), (.str (S "/claim/cut.py") 944)]), #[]⟩
def o591 (P : Params) : Obj := ⟨(.type "function"), none, (.func ⟨(S "__init__"), (S "LimitExceeded.__init__"), defArgs (inClass (top 38) 0), .stmts (defBody (inClass (top 38) 0)), defScope (inClass (top 38) 0), 3, [((S "__class__"), 579)], .none, .none, .none, (.str (S "ruleengine.errors") 241), none, (.ref 590), (.ref 584), 0⟩), #[]⟩
def o592 (P : Params) : Obj := ⟨(.type "tuple"), none, (.seq #[(.str (S "limit") 946)] 0), #[]⟩
def o593 (P : Params) : Obj := ⟨(.type "dict"), none, (.dict #[⟨PyData.keyHash P (S "__module__"), (.str (S "__module__") 932), (.str (S "ruleengine.errors") 241)⟩, ⟨PyData.keyHash P (S "__firstlineno__"), (.str (S "__firstlineno__") 936), (.int (157) 935)⟩, ⟨PyData.keyHash P (S "__init__"), (.str (S "__init__") 945), (.ref 591)⟩, ⟨PyData.keyHash P (S "__static_attributes__"), (.str (S "__static_attributes__") 947), (.ref 592)⟩, ⟨PyData.keyHash P (S "__doc__"), (.str (S "__doc__") 949), .none⟩] 3), #[]⟩
def o594 (P : Params) : Obj := ⟨(.type "type"), none, (.cls ⟨(S "LimitExceeded"), [(.ref 64)], [(.ref 594), (.ref 64), (.type "ValueError"), (.type "Exception"), (.type "BaseException"), (.type "object")], 593, (S "LimitExceeded"), true, [], [], false, none, false⟩), #[(some (.ref 576)), none, (some (.str (S "LimitExceeded") 925)), (some (.str (S "LimitExceeded") 933)), (some (.builtin "ValueError.__new__")), (some (.bool true))]⟩
def o597 (P : Params) : Obj := ⟨(.type "tuple"), none, (.seq #[(.ref 64)] 0), #[]⟩
def o600 (P : Params) : Obj := ⟨(.type "cell"), none, (.cell (some (.ref 615))), #[]⟩
def o605 (P : Params) : Obj := ⟨(.type "tuple"), none, (.seq #[(.ref 600)] 0), #[]⟩
def o606 (P : Params) : Obj := ⟨(.type "tuple"), none, (.seq #[(.str (S "__class__") 967)] 0), #[]⟩
def o608 (P : Params) : Obj := ⟨(.type "tuple"), none, (.seq #[(.str (S "self") 968)] 0), #[]⟩
def o609 (P : Params) : Obj := ⟨(.type "tuple"), none, (.seq #[] 0), #[]⟩
def o611 (P : Params) : Obj := ⟨(.type "code"), none, (.fields #[(.str (S "__init__") 964), (.str (S "NothingToUndo.__init__") 965), (.str (S "/claim/cut.py") 966), (.int (164) 0), (.int (1) 0), (.int (0) 0), (.int (0) 0), (.int (3) 0), (.ref 606), (.bool true), (.int (181) 0), (.ref 607), .none, (.ref 608), (.ref 609), (.ref 610), (.int (969) 0), (.int (164) 0), (.str (S "/claim/cut.py") 970)]), #[]⟩
def o612 (P : Params) : Obj := ⟨(.type "function"), none, (.func ⟨(S "__init__"), (S "NothingToUndo.__init__"), defArgs (inClass (top 39) 0), .stmts (defBody (inClass (top 39) 0)), defScope (inClass (top 39) 0), 3, [((S "__class__"), 600)], .none, .none, .none, (.str (S "ruleengine.errors") 241), none, (.ref 611), (.ref 605), 0⟩), #[]⟩
def o613 (P : Params) : Obj := ⟨(.type "tuple"), none, (.seq #[] 0), #[]⟩
def o614 (P : Params) : Obj := ⟨(.type "dict"), none, (.dict #[⟨PyData.keyHash P (S "__module__"), (.str (S "__module__") 959), (.str (S "ruleengine.errors") 241)⟩, ⟨PyData.keyHash P (S "__firstlineno__"), (.str (S "__firstlineno__") 963), (.int (162) 962)⟩, ⟨PyData.keyHash P (S "__init__"), (.str (S "__init__") 971), (.ref 612)⟩, ⟨PyData.keyHash P (S "__static_attributes__"), (.str (S "__static_attributes__") 972), (.ref 613)⟩, ⟨PyData.keyHash P (S "__doc__"), (.str (S "__doc__") 974), .none⟩] 3), #[]⟩
def o615 (P : Params) : Obj := ⟨(.type "type"), none, (.cls ⟨(S "NothingToUndo"), [(.ref 64)], [(.ref 615), (.ref 64), (.type "ValueError"), (.type "Exception"), (.type "BaseException"), (.type "object")], 614, (S "NothingToUndo"), true, [], [], false, none, false⟩), #[(some (.ref 597)), none, (some (.str (S "NothingToUndo") 952)), (some (.str (S "NothingToUndo") 960)), (some (.builtin "ValueError.__new__")), (some (.bool true))]⟩
def o625 (P : Params) : Obj := ⟨(.type "tuple"), none, (.seq #[] 0), #[]⟩
def o627 (P : Params) : Obj := ⟨(.type "tuple"), none, (.seq #[(.str (S "self") 1000), (.str (S "name") 1001), (.str (S "sort") 1002), (.str (S "slots") 1003)] 0), #[]⟩
def o628 (P : Params) : Obj := ⟨(.type "tuple"), none, (.seq #[] 0), #[]⟩
def o630 (P : Params) : Obj := ⟨(.type "code"), none, (.fields #[(.str (S "__init__") 997), (.str (S "Form.__init__") 998), (.str (S "/claim/cut.py") 999), (.int (172) 0), (.int (3) 0), (.int (0) 0), (.int (0) 0), (.int (11) 0), (.ref 625), (.bool true), (.int (181) 0), (.ref 626), .none, (.ref 627), (.ref 628), (.ref 629), (.int (1004) 0), (.int (172) 0), (.str (S "/claim/cut.py") 1005)]), #[]⟩
def o631 (P : Params) : Obj := ⟨(.type "function"), none, (.func ⟨(S "__init__"), (S "Form.__init__"), defArgs (inClass (top 43) 1), .stmts (defBody (inClass (top 43) 1)), defScope (inClass (top 43) 1), 3, [], .none, .none, .none, (.str (S "ruleengine.forms") 977), none, (.ref 630), .none, 0⟩), #[]⟩
def o632 (P : Params) : Obj := ⟨(.type "tuple"), none, (.seq #[] 0), #[]⟩
def o634 (P : Params) : Obj := ⟨(.type "tuple"), none, (.seq #[(.str (S "cls") 1010), (.str (S "name") 1011), (.str (S "sort") 1012), (.str (S "slots") 1013), (.str (S "form") 1014)] 0), #[]⟩
def o635 (P : Params) : Obj := ⟨(.type "tuple"), none, (.seq #[] 0), #[]⟩
def o637 (P : Params) : Obj := ⟨(.type "code"), none, (.fields #[(.str (S "of") 1007), (.str (S "Form.of") 1008), (.str (S "/claim/cut.py") 1009), (.int (181) 0), (.int (4) 0), (.int (0) 0), (.int (0) 0), (.int (3) 0), (.ref 632), (.bool true), (.int (181) 0), (.ref 633), .none, (.ref 634), (.ref 635), (.ref 636), (.int (1015) 0), (.int (181) 0), (.str (S "/claim/cut.py") 1016)]), #[]⟩
def o638 (P : Params) : Obj := ⟨(.type "function"), none, (.func ⟨(S "of"), (S "Form.of"), defArgs (inClass (top 43) 2), .stmts (defBody (inClass (top 43) 2)), defScope (inClass (top 43) 2), 3, [], .none, .none, .none, (.str (S "ruleengine.forms") 977), (some 641), (.ref 637), .none, 0⟩), #[]⟩
def o639 (P : Params) : Obj := ⟨(.type "dict"), none, (.dict #[⟨PyData.keyHash P (S "__module__"), (.str (S "__module__") 1018), (.str (S "ruleengine.forms") 977)⟩, ⟨PyData.keyHash P (S "__name__"), (.str (S "__name__") 1021), (.str (S "of") 1020)⟩, ⟨PyData.keyHash P (S "__qualname__"), (.str (S "__qualname__") 1024), (.str (S "Form.of") 1023)⟩, ⟨PyData.keyHash P (S "__doc__"), (.str (S "__doc__") 1026), .none⟩, ⟨PyData.keyHash P (S "__annotations__"), (.str (S "__annotations__") 1028), (.ref 641)⟩] 5), #[]⟩
def o640 (P : Params) : Obj := ⟨(.type "classmethod"), (some 639), (.fields #[(.ref 638), (.bool false)]), #[]⟩
def o641 (P : Params) : Obj := ⟨(.type "dict"), none, (.dict #[] 0), #[]⟩
def o642 (P : Params) : Obj := ⟨(.type "tuple"), none, (.seq #[(.str (S "kin") 1030), (.str (S "name") 1031), (.str (S "slots") 1032)] 0), #[]⟩
def o643 (P : Params) : Obj := ⟨(.type "dict"), none, (.dict #[⟨PyData.keyHash P (S "__module__"), (.str (S "__module__") 990), (.str (S "ruleengine.forms") 977)⟩, ⟨PyData.keyHash P (S "__firstlineno__"), (.str (S "__firstlineno__") 994), (.int (169) 993)⟩, ⟨PyData.keyHash P (S "MAX_SLOTS"), (.str (S "MAX_SLOTS") 996), (.int (5) 995)⟩, ⟨PyData.keyHash P (S "__init__"), (.str (S "__init__") 1006), (.ref 631)⟩, ⟨PyData.keyHash P (S "of"), (.str (S "of") 1029), (.ref 640)⟩, ⟨PyData.keyHash P (S "__static_attributes__"), (.str (S "__static_attributes__") 1033), (.ref 642)⟩, ⟨PyData.keyHash P (S "__dict__"), (.str (S "__dict__") 1035), (.ref 645)⟩, ⟨PyData.keyHash P (S "__weakref__"), (.str (S "__weakref__") 1037), (.ref 646)⟩, ⟨PyData.keyHash P (S "__doc__"), (.str (S "__doc__") 1038), .none⟩] 4), #[]⟩
def o644 (P : Params) : Obj := ⟨(.type "type"), none, (.cls ⟨(S "Form"), [(.type "object")], [(.ref 644), (.type "object")], 643, (S "Form"), true, [], [], false, none, false⟩), #[none, none, (some (.str (S "Form") 983)), (some (.str (S "Form") 991)), (some (.builtin "object.__new__")), (some (.bool true))]⟩
def o645 (P : Params) : Obj := ⟨(.type "getset_descriptor"), none, (.fields #[(.str (S "__dict__") 1034), (.ref 644), (.builtin "function.__dict__"), (.builtin "function.__dict__#set")]), #[]⟩
def o646 (P : Params) : Obj := ⟨(.type "getset_descriptor"), none, (.fields #[(.str (S "__weakref__") 1036), (.ref 644), (.builtin "ExceptionGroup.__weakref__"), .none]), #[]⟩
def o656 (P : Params) : Obj := ⟨(.type "tuple"), none, (.seq #[] 0), #[]⟩
def o659 (P : Params) : Obj := ⟨(.type "code"), none, (.fields #[(.str (S "__init__") 1055), (.str (S "Schema.__init__") 1056), (.str (S "/claim/cut.py") 1057), (.int (189) 0), (.int (1) 0), (.int (0) 0), (.int (0) 0), (.int (7) 0), (.ref 656), (.bool true), (.int (181) 0), (.ref 657), .none, .none, .none, (.ref 658), (.int (1058) 0), (.int (189) 0), (.str (S "/claim/cut.py") 1059)]), #[]⟩
def o660 (P : Params) : Obj := ⟨(.type "function"), none, (.func ⟨(S "__init__"), (S "Schema.__init__"), defArgs (inClass (top 44) 1), .stmts (defBody (inClass (top 44) 1)), defScope (inClass (top 44) 1), 3, [], .none, .none, .none, (.str (S "ruleengine.forms") 977), none, (.ref 659), .none, 0⟩), #[]⟩
def o661 (P : Params) : Obj := ⟨(.type "tuple"), none, (.seq #[] 0), #[]⟩
def o663 (P : Params) : Obj := ⟨(.type "tuple"), none, (.seq #[(.str (S "cls") 1064), (.str (S "forms") 1065)] 0), #[]⟩
def o664 (P : Params) : Obj := ⟨(.type "tuple"), none, (.seq #[] 0), #[]⟩
def o666 (P : Params) : Obj := ⟨(.type "code"), none, (.fields #[(.str (S "of") 1061), (.str (S "Schema.of") 1062), (.str (S "/claim/cut.py") 1063), (.int (199) 0), (.int (2) 0), (.int (0) 0), (.int (0) 0), (.int (3) 0), (.ref 661), (.bool true), (.int (181) 0), (.ref 662), .none, (.ref 663), (.ref 664), (.ref 665), (.int (1066) 0), (.int (199) 0), (.str (S "/claim/cut.py") 1067)]), #[]⟩
def o667 (P : Params) : Obj := ⟨(.type "function"), none, (.func ⟨(S "of"), (S "Schema.of"), defArgs (inClass (top 44) 2), .stmts (defBody (inClass (top 44) 2)), defScope (inClass (top 44) 2), 3, [], .none, .none, .none, (.str (S "ruleengine.forms") 977), (some 670), (.ref 666), .none, 0⟩), #[]⟩
def o668 (P : Params) : Obj := ⟨(.type "dict"), none, (.dict #[⟨PyData.keyHash P (S "__module__"), (.str (S "__module__") 1069), (.str (S "ruleengine.forms") 977)⟩, ⟨PyData.keyHash P (S "__name__"), (.str (S "__name__") 1072), (.str (S "of") 1071)⟩, ⟨PyData.keyHash P (S "__qualname__"), (.str (S "__qualname__") 1075), (.str (S "Schema.of") 1074)⟩, ⟨PyData.keyHash P (S "__doc__"), (.str (S "__doc__") 1077), .none⟩, ⟨PyData.keyHash P (S "__annotations__"), (.str (S "__annotations__") 1079), (.ref 670)⟩] 5), #[]⟩
def o669 (P : Params) : Obj := ⟨(.type "classmethod"), (some 668), (.fields #[(.ref 667), (.bool false)]), #[]⟩
def o670 (P : Params) : Obj := ⟨(.type "dict"), none, (.dict #[] 0), #[]⟩
def o671 (P : Params) : Obj := ⟨(.type "tuple"), none, (.seq #[] 0), #[]⟩
def o673 (P : Params) : Obj := ⟨(.type "tuple"), none, (.seq #[(.str (S "self") 1084), (.str (S "other") 1085)] 0), #[]⟩
def o674 (P : Params) : Obj := ⟨(.type "tuple"), none, (.seq #[] 0), #[]⟩
def o676 (P : Params) : Obj := ⟨(.type "code"), none, (.fields #[(.str (S "__eq__") 1081), (.str (S "Schema.__eq__") 1082), (.str (S "/claim/cut.py") 1083), (.int (205) 0), (.int (2) 0), (.int (0) 0), (.int (0) 0), (.int (3) 0), (.ref 671), (.bool true), (.int (181) 0), (.ref 672), .none, (.ref 673), (.ref 674), (.ref 675), (.int (1086) 0), (.int (205) 0), (.str (S "/claim/cut.py") 1087)]), #[]⟩
def o677 (P : Params) : Obj := ⟨(.type "function"), none, (.func ⟨(S "__eq__"), (S "Schema.__eq__"), defArgs (inClass (top 44) 3), .stmts (defBody (inClass (top 44) 3)), defScope (inClass (top 44) 3), 3, [], .none, .none, .none, (.str (S "ruleengine.forms") 977), none, (.ref 676), .none, 0⟩), #[]⟩
def o678 (P : Params) : Obj := ⟨(.type "tuple"), none, (.seq #[] 0), #[]⟩
def o680 (P : Params) : Obj := ⟨(.type "tuple"), none, (.seq #[(.str (S "self") 1092), (.str (S "x") 1093)] 0), #[]⟩
def o681 (P : Params) : Obj := ⟨(.type "tuple"), none, (.seq #[] 0), #[]⟩
def o683 (P : Params) : Obj := ⟨(.type "code"), none, (.fields #[(.str (S "__contains__") 1089), (.str (S "Schema.__contains__") 1090), (.str (S "/claim/cut.py") 1091), (.int (208) 0), (.int (2) 0), (.int (0) 0), (.int (0) 0), (.int (3) 0), (.ref 678), (.bool true), (.int (181) 0), (.ref 679), .none, (.ref 680), (.ref 681), (.ref 682), (.int (1094) 0), (.int (208) 0), (.str (S "/claim/cut.py") 1095)]), #[]⟩
def o684 (P : Params) : Obj := ⟨(.type "function"), none, (.func ⟨(S "__contains__"), (S "Schema.__contains__"), defArgs (inClass (top 44) 4), .stmts (defBody (inClass (top 44) 4)), defScope (inClass (top 44) 4), 3, [], .none, .none, .none, (.str (S "ruleengine.forms") 977), none, (.ref 683), .none, 0⟩), #[]⟩
def o685 (P : Params) : Obj := ⟨(.type "tuple"), none, (.seq #[] 0), #[]⟩
def o687 (P : Params) : Obj := ⟨(.type "tuple"), none, (.seq #[(.str (S "self") 1100), (.str (S "at") 1101)] 0), #[]⟩
def o688 (P : Params) : Obj := ⟨(.type "tuple"), none, (.seq #[] 0), #[]⟩
def o690 (P : Params) : Obj := ⟨(.type "code"), none, (.fields #[(.str (S "__getitem__") 1097), (.str (S "Schema.__getitem__") 1098), (.str (S "/claim/cut.py") 1099), (.int (211) 0), (.int (2) 0), (.int (0) 0), (.int (0) 0), (.int (3) 0), (.ref 685), (.bool true), (.int (181) 0), (.ref 686), .none, (.ref 687), (.ref 688), (.ref 689), (.int (1102) 0), (.int (211) 0), (.str (S "/claim/cut.py") 1103)]), #[]⟩
def o691 (P : Params) : Obj := ⟨(.type "function"), none, (.func ⟨(S "__getitem__"), (S "Schema.__getitem__"), defArgs (inClass (top 44) 5), .stmts (defBody (inClass (top 44) 5)), defScope (inClass (top 44) 5), 3, [], .none, .none, .none, (.str (S "ruleengine.forms") 977), none, (.ref 690), .none, 0⟩), #[]⟩
def o692 (P : Params) : Obj := ⟨(.type "tuple"), none, (.seq #[] 0), #[]⟩
def o694 (P : Params) : Obj := ⟨(.type "tuple"), none, (.seq #[(.str (S "self") 1108)] 0), #[]⟩
def o695 (P : Params) : Obj := ⟨(.type "tuple"), none, (.seq #[] 0), #[]⟩
def o697 (P : Params) : Obj := ⟨(.type "code"), none, (.fields #[(.str (S "__iter__") 1105), (.str (S "Schema.__iter__") 1106), (.str (S "/claim/cut.py") 1107), (.int (216) 0), (.int (1) 0), (.int (0) 0), (.int (0) 0), (.int (3) 0), (.ref 692), (.bool true), (.int (181) 0), (.ref 693), .none, (.ref 694), (.ref 695), (.ref 696), (.int (1109) 0), (.int (216) 0), (.str (S "/claim/cut.py") 1110)]), #[]⟩
def o698 (P : Params) : Obj := ⟨(.type "function"), none, (.func ⟨(S "__iter__"), (S "Schema.__iter__"), defArgs (inClass (top 44) 6), .stmts (defBody (inClass (top 44) 6)), defScope (inClass (top 44) 6), 3, [], .none, .none, .none, (.str (S "ruleengine.forms") 977), none, (.ref 697), .none, 0⟩), #[]⟩
def o699 (P : Params) : Obj := ⟨(.type "tuple"), none, (.seq #[(.str (S "_rows") 1112), (.str (S "_table") 1113), (.str (S "forms") 1114), (.str (S "sorts") 1115)] 0), #[]⟩
def o700 (P : Params) : Obj := ⟨(.type "dict"), none, (.dict #[⟨PyData.keyHash P (S "__module__"), (.str (S "__module__") 1048), (.str (S "ruleengine.forms") 977)⟩, ⟨PyData.keyHash P (S "__firstlineno__"), (.str (S "__firstlineno__") 1052), (.int (186) 1051)⟩, ⟨PyData.keyHash P (S "MAX_FORMS"), (.str (S "MAX_FORMS") 1054), (.int (20) 1053)⟩, ⟨PyData.keyHash P (S "__init__"), (.str (S "__init__") 1060), (.ref 660)⟩, ⟨PyData.keyHash P (S "of"), (.str (S "of") 1080), (.ref 669)⟩, ⟨PyData.keyHash P (S "__eq__"), (.str (S "__eq__") 1088), (.ref 677)⟩, ⟨PyData.keyHash P (S "__contains__"), (.str (S "__contains__") 1096), (.ref 684)⟩, ⟨PyData.keyHash P (S "__getitem__"), (.str (S "__getitem__") 1104), (.ref 691)⟩, ⟨PyData.keyHash P (S "__iter__"), (.str (S "__iter__") 1111), (.ref 698)⟩, ⟨PyData.keyHash P (S "__static_attributes__"), (.str (S "__static_attributes__") 1116), (.ref 699)⟩, ⟨PyData.keyHash P (S "__dict__"), (.str (S "__dict__") 1118), (.ref 702)⟩, ⟨PyData.keyHash P (S "__weakref__"), (.str (S "__weakref__") 1120), (.ref 703)⟩, ⟨PyData.keyHash P (S "__doc__"), (.str (S "__doc__") 1121), .none⟩, ⟨PyData.keyHash P (S "__hash__"), (.str (S "__hash__") 1122), .none⟩] 5), #[]⟩
def o701 (P : Params) : Obj := ⟨(.type "type"), none, (.cls ⟨(S "Schema"), [(.type "object")], [(.ref 701), (.type "object")], 700, (S "Schema"), true, [], [], false, none, false⟩), #[none, none, (some (.str (S "Schema") 1041)), (some (.str (S "Schema") 1049)), (some (.builtin "object.__new__")), (some (.bool true))]⟩
def o702 (P : Params) : Obj := ⟨(.type "getset_descriptor"), none, (.fields #[(.str (S "__dict__") 1117), (.ref 701), (.builtin "function.__dict__"), (.builtin "function.__dict__#set")]), #[]⟩
def o703 (P : Params) : Obj := ⟨(.type "getset_descriptor"), none, (.fields #[(.str (S "__weakref__") 1119), (.ref 701), (.builtin "ExceptionGroup.__weakref__"), .none]), #[]⟩
def o706 (P : Params) : Obj := ⟨(.type "tuple"), none, (.seq #[] 0), #[]⟩
def o708 (P : Params) : Obj := ⟨(.type "tuple"), none, (.seq #[(.str (S "slots") 1128), (.str (S "slot") 1129), (.str (S "takes") 1130)] 0), #[]⟩
def o709 (P : Params) : Obj := ⟨(.type "tuple"), none, (.seq #[] 0), #[]⟩
def o711 (P : Params) : Obj := ⟨(.type "code"), none, (.fields #[(.str (S "_checked_slots") 1125), (.str (S "_checked_slots") 1126), (.str (S "/claim/cut.py") 1127), (.int (218) 0), (.int (1) 0), (.int (0) 0), (.int (0) 0), (.int (3) 0), (.ref 706), (.bool true), (.int (181) 0), (.ref 707), .none, (.ref 708), (.ref 709), (.ref 710), (.int (1131) 0), (.int (218) 0), (.str (S "/claim/cut.py") 1132)]), #[]⟩
def o712 (P : Params) : Obj := ⟨(.type "function"), none, (.func ⟨(S "_checked_slots"), (S "_checked_slots"), defArgs (top 45), .stmts (defBody (top 45)), defScope (top 45), 3, [], .none, .none, .none, (.str (S "ruleengine.forms") 977), none, (.ref 711), .none, 0⟩), #[]⟩
def o713 (P : Params) : Obj := ⟨(.type "tuple"), none, (.seq #[] 0), #[]⟩
def o715 (P : Params) : Obj := ⟨(.type "tuple"), none, (.seq #[(.str (S "forms") 1137), (.str (S "names") 1138), (.str (S "spot") 1139), (.str (S "form") 1140)] 0), #[]⟩
def o716 (P : Params) : Obj := ⟨(.type "tuple"), none, (.seq #[] 0), #[]⟩
def o718 (P : Params) : Obj := ⟨(.type "code"), none, (.fields #[(.str (S "_check_forms") 1134), (.str (S "_check_forms") 1135), (.str (S "/claim/cut.py") 1136), (.int (225) 0), (.int (1) 0), (.int (0) 0), (.int (0) 0), (.int (3) 0), (.ref 713), (.bool true), (.int (181) 0), (.ref 714), .none, (.ref 715), (.ref 716), (.ref 717), (.int (1141) 0), (.int (225) 0), (.str (S "/claim/cut.py") 1142)]), #[]⟩
def o719 (P : Params) : Obj := ⟨(.type "function"), none, (.func ⟨(S "_check_forms"), (S "_check_forms"), defArgs (top 46), .stmts (defBody (top 46)), defScope (top 46), 3, [], .none, .none, .none, (.str (S "ruleengine.forms") 977), none, (.ref 718), .none, 0⟩), #[]⟩
def o720 (P : Params) : Obj := ⟨(.type "tuple"), none, (.seq #[] 0), #[]⟩
def o723 (P : Params) : Obj := ⟨(.type "code"), none, (.fields #[(.str (S "_check_sorts") 1144), (.str (S "_check_sorts") 1145), (.str (S "/claim/cut.py") 1146), (.int (235) 0), (.int (2) 0), (.int (0) 0), (.int (0) 0), (.int (3) 0), (.ref 720), (.bool true), (.int (181) 0), (.ref 721), .none, .none, .none, (.ref 722), (.int (1147) 0), (.int (235) 0), (.str (S "/claim/cut.py") 1148)]), #[]⟩
def o724 (P : Params) : Obj := ⟨(.type "function"), none, (.func ⟨(S "_check_sorts"), (S "_check_sorts"), defArgs (top 47), .stmts (defBody (top 47)), defScope (top 47), 3, [], .none, .none, .none, (.str (S "ruleengine.forms") 977), none, (.ref 723), .none, 0⟩), #[]⟩
def o725 (P : Params) : Obj := ⟨(.type "tuple"), none, (.seq #[] 0), #[]⟩
def o728 (P : Params) : Obj := ⟨(.type "code"), none, (.fields #[(.str (S "_sorts_in") 1150), (.str (S "_sorts_in") 1151), (.str (S "/claim/cut.py") 1152), (.int (240) 0), (.int (1) 0), (.int (0) 0), (.int (0) 0), (.int (3) 0), (.ref 725), (.bool true), (.int (181) 0), (.ref 726), .none, .none, .none, (.ref 727), (.int (1153) 0), (.int (240) 0), (.str (S "/claim/cut.py") 1154)]), #[]⟩
def o729 (P : Params) : Obj := ⟨(.type "function"), none, (.func ⟨(S "_sorts_in"), (S "_sorts_in"), defArgs (top 48), .stmts (defBody (top 48)), defScope (top 48), 3, [], .none, .none, .none, (.str (S "ruleengine.forms") 977), none, (.ref 728), .none, 0⟩), #[]⟩
def o730 (P : Params) : Obj := ⟨(.type "tuple"), none, (.seq #[(.str (S "steps") 1158), (.str (S "choice") 1159), (.str (S "loop") 1160), (.str (S "stop") 1161), (.str (S "leave") 1162), (.str (S "again") 1163)] 0), #[]⟩
def o738 (P : Params) : Obj := ⟨(.type "tuple"), none, (.seq #[(.str (S "steps") 1177)] 0), #[]⟩
def o739 (P : Params) : Obj := ⟨(.type "dict"), none, (.dict #[⟨PyData.keyHash P (S "sets"), (.str (S "sets") 1178), .none⟩, ⟨PyData.keyHash P (S "uses"), (.str (S "uses") 1179), .none⟩] 2), #[]⟩
def o740 (P : Params) : Obj := ⟨(.type "tuple"), none, (.seq #[] 0), #[]⟩
def o742 (P : Params) : Obj := ⟨(.type "tuple"), none, (.seq #[(.str (S "self") 1183), (.str (S "order") 1184), (.str (S "sets") 1185), (.str (S "uses") 1186)] 0), #[]⟩
def o743 (P : Params) : Obj := ⟨(.type "tuple"), none, (.seq #[] 0), #[]⟩
def o745 (P : Params) : Obj := ⟨(.type "code"), none, (.fields #[(.str (S "__init__") 1180), (.str (S "Plan.__init__") 1181), (.str (S "/claim/cut.py") 1182), (.int (252) 0), (.int (2) 0), (.int (0) 0), (.int (2) 0), (.int (3) 0), (.ref 740), (.bool true), (.int (181) 0), (.ref 741), .none, (.ref 742), (.ref 743), (.ref 744), (.int (1187) 0), (.int (252) 0), (.str (S "/claim/cut.py") 1188)]), #[]⟩
def o746 (P : Params) : Obj := ⟨(.type "function"), none, (.func ⟨(S "__init__"), (S "Plan.__init__"), defArgs (inClass (top 51) 0), .stmts (defBody (inClass (top 51) 0)), defScope (inClass (top 51) 0), 3, [], (.ref 738), (.ref 739), .none, (.str (S "ruleengine.flows") 1156), none, (.ref 745), .none, 0⟩), #[]⟩
def o747 (P : Params) : Obj := ⟨(.type "tuple"), none, (.seq #[(.str (S "order") 1190), (.str (S "sets") 1191), (.str (S "uses") 1192)] 0), #[]⟩
def o748 (P : Params) : Obj := ⟨(.type "dict"), none, (.dict #[⟨PyData.keyHash P (S "__module__"), (.str (S "__module__") 1172), (.str (S "ruleengine.flows") 1156)⟩, ⟨PyData.keyHash P (S "__firstlineno__"), (.str (S "__firstlineno__") 1176), (.int (250) 1175)⟩, ⟨PyData.keyHash P (S "__init__"), (.str (S "__init__") 1189), (.ref 746)⟩, ⟨PyData.keyHash P (S "__static_attributes__"), (.str (S "__static_attributes__") 1193), (.ref 747)⟩, ⟨PyData.keyHash P (S "__dict__"), (.str (S "__dict__") 1195), (.ref 750)⟩, ⟨PyData.keyHash P (S "__weakref__"), (.str (S "__weakref__") 1197), (.ref 751)⟩, ⟨PyData.keyHash P (S "__doc__"), (.str (S "__doc__") 1198), .none⟩] 4), #[]⟩
def o749 (P : Params) : Obj := ⟨(.type "type"), none, (.cls ⟨(S "Plan"), [(.type "object")], [(.ref 749), (.type "object")], 748, (S "Plan"), true, [], [], false, none, false⟩), #[none, none, (some (.str (S "Plan") 1165)), (some (.str (S "Plan") 1173)), (some (.builtin "object.__new__")), (some (.bool true))]⟩
def o750 (P : Params) : Obj := ⟨(.type "getset_descriptor"), none, (.fields #[(.str (S "__dict__") 1194), (.ref 749), (.builtin "function.__dict__"), (.builtin "function.__dict__#set")]), #[]⟩
def o751 (P : Params) : Obj := ⟨(.type "getset_descriptor"), none, (.fields #[(.str (S "__weakref__") 1196), (.ref 749), (.builtin "ExceptionGroup.__weakref__"), .none]), #[]⟩
def o761 (P : Params) : Obj := ⟨(.type "tuple"), none, (.seq #[] 0), #[]⟩
def o764 (P : Params) : Obj := ⟨(.type "code"), none, (.fields #[(.str (S "__init__") 1213), (.str (S "Flow.__init__") 1214), (.str (S "/claim/cut.py") 1215), (.int (266) 0), (.int (3) 0), (.int (0) 0), (.int (0) 0), (.int (3) 0), (.ref 761), (.bool true), (.int (181) 0), (.ref 762), .none, .none, .none, (.ref 763), (.int (1216) 0), (.int (266) 0), (.str (S "/claim/cut.py") 1217)]), #[]⟩
def o765 (P : Params) : Obj := ⟨(.type "function"), none, (.func ⟨(S "__init__"), (S "Flow.__init__"), defArgs (inClass (top 52) 0), .stmts (defBody (inClass (top 52) 0)), defScope (inClass (top 52) 0), 3, [], .none, .none, .none, (.str (S "ruleengine.flows") 1156), none, (.ref 764), .none, 0⟩), #[]⟩
def o766 (P : Params) : Obj := ⟨(.type "tuple"), none, (.seq #[] 0), #[]⟩
def o768 (P : Params) : Obj := ⟨(.type "tuple"), none, (.seq #[(.str (S "self") 1222), (.str (S "name") 1223)] 0), #[]⟩
def o769 (P : Params) : Obj := ⟨(.type "tuple"), none, (.seq #[] 0), #[]⟩
def o771 (P : Params) : Obj := ⟨(.type "code"), none, (.fields #[(.str (S "plan") 1219), (.str (S "Flow.plan") 1220), (.str (S "/claim/cut.py") 1221), (.int (273) 0), (.int (2) 0), (.int (0) 0), (.int (0) 0), (.int (3) 0), (.ref 766), (.bool true), (.int (181) 0), (.ref 767), .none, (.ref 768), (.ref 769), (.ref 770), (.int (1224) 0), (.int (273) 0), (.str (S "/claim/cut.py") 1225)]), #[]⟩
def o772 (P : Params) : Obj := ⟨(.type "function"), none, (.func ⟨(S "plan"), (S "Flow.plan"), defArgs (inClass (top 52) 1), .stmts (defBody (inClass (top 52) 1)), defScope (inClass (top 52) 1), 3, [], .none, .none, .none, (.str (S "ruleengine.flows") 1156), none, (.ref 771), .none, 0⟩), #[]⟩
def o773 (P : Params) : Obj := ⟨(.type "tuple"), none, (.seq #[] 0), #[]⟩
def o775 (P : Params) : Obj := ⟨(.type "tuple"), none, (.seq #[(.str (S "self") 1230), (.str (S "tree") 1231)] 0), #[]⟩
def o776 (P : Params) : Obj := ⟨(.type "tuple"), none, (.seq #[] 0), #[]⟩
def o778 (P : Params) : Obj := ⟨(.type "code"), none, (.fields #[(.str (S "points") 1227), (.str (S "Flow.points") 1228), (.str (S "/claim/cut.py") 1229), (.int (278) 0), (.int (2) 0), (.int (0) 0), (.int (0) 0), (.int (3) 0), (.ref 773), (.bool true), (.int (181) 0), (.ref 774), .none, (.ref 775), (.ref 776), (.ref 777), (.int (1232) 0), (.int (278) 0), (.str (S "/claim/cut.py") 1233)]), #[]⟩
def o779 (P : Params) : Obj := ⟨(.type "function"), none, (.func ⟨(S "points"), (S "Flow.points"), defArgs (inClass (top 52) 2), .stmts (defBody (inClass (top 52) 2)), defScope (inClass (top 52) 2), 3, [], .none, .none, .none, (.str (S "ruleengine.flows") 1156), none, (.ref 778), .none, 0⟩), #[]⟩
def o780 (P : Params) : Obj := ⟨(.type "tuple"), none, (.seq #[] 0), #[]⟩
def o782 (P : Params) : Obj := ⟨(.type "tuple"), none, (.seq #[(.str (S "self") 1238), (.str (S "tree") 1239), (.str (S "point") 1240)] 0), #[]⟩
def o783 (P : Params) : Obj := ⟨(.type "tuple"), none, (.seq #[] 0), #[]⟩
def o785 (P : Params) : Obj := ⟨(.type "code"), none, (.fields #[(.str (S "nexts") 1235), (.str (S "Flow.nexts") 1236), (.str (S "/claim/cut.py") 1237), (.int (281) 0), (.int (3) 0), (.int (0) 0), (.int (0) 0), (.int (3) 0), (.ref 780), (.bool true), (.int (181) 0), (.ref 781), .none, (.ref 782), (.ref 783), (.ref 784), (.int (1241) 0), (.int (281) 0), (.str (S "/claim/cut.py") 1242)]), #[]⟩
def o786 (P : Params) : Obj := ⟨(.type "function"), none, (.func ⟨(S "nexts"), (S "Flow.nexts"), defArgs (inClass (top 52) 3), .stmts (defBody (inClass (top 52) 3)), defScope (inClass (top 52) 3), 3, [], .none, .none, .none, (.str (S "ruleengine.flows") 1156), none, (.ref 785), .none, 0⟩), #[]⟩
def o787 (P : Params) : Obj := ⟨(.type "tuple"), none, (.seq #[] 0), #[]⟩
def o789 (P : Params) : Obj := ⟨(.type "tuple"), none, (.seq #[(.str (S "self") 1247), (.str (S "tree") 1248), (.str (S "question") 1249)] 0), #[]⟩
def o790 (P : Params) : Obj := ⟨(.type "tuple"), none, (.seq #[] 0), #[]⟩
def o792 (P : Params) : Obj := ⟨(.type "code"), none, (.fields #[(.str (S "ask") 1244), (.str (S "Flow.ask") 1245), (.str (S "/claim/cut.py") 1246), (.int (284) 0), (.int (3) 0), (.int (0) 0), (.int (0) 0), (.int (3) 0), (.ref 787), (.bool true), (.int (181) 0), (.ref 788), .none, (.ref 789), (.ref 790), (.ref 791), (.int (1250) 0), (.int (284) 0), (.str (S "/claim/cut.py") 1251)]), #[]⟩
def o793 (P : Params) : Obj := ⟨(.type "function"), none, (.func ⟨(S "ask"), (S "Flow.ask"), defArgs (inClass (top 52) 4), .stmts (defBody (inClass (top 52) 4)), defScope (inClass (top 52) 4), 3, [], .none, .none, .none, (.str (S "ruleengine.flows") 1156), none, (.ref 792), .none, 0⟩), #[]⟩
def o794 (P : Params) : Obj := ⟨(.type "tuple"), none, (.seq #[] 0), #[]⟩
def o796 (P : Params) : Obj := ⟨(.type "tuple"), none, (.seq #[(.str (S "self") 1256), (.str (S "tree") 1257), (.str (S "question") 1258), (.str (S "answer") 1259)] 0), #[]⟩
def o797 (P : Params) : Obj := ⟨(.type "tuple"), none, (.seq #[] 0), #[]⟩
def o799 (P : Params) : Obj := ⟨(.type "code"), none, (.fields #[(.str (S "check") 1253), (.str (S "Flow.check") 1254), (.str (S "/claim/cut.py") 1255), (.int (287) 0), (.int (4) 0), (.int (0) 0), (.int (0) 0), (.int (3) 0), (.ref 794), (.bool true), (.int (181) 0), (.ref 795), .none, (.ref 796), (.ref 797), (.ref 798), (.int (1260) 0), (.int (287) 0), (.str (S "/claim/cut.py") 1261)]), #[]⟩
def o800 (P : Params) : Obj := ⟨(.type "function"), none, (.func ⟨(S "check"), (S "Flow.check"), defArgs (inClass (top 52) 5), .stmts (defBody (inClass (top 52) 5)), defScope (inClass (top 52) 5), 3, [], .none, .none, .none, (.str (S "ruleengine.flows") 1156), none, (.ref 799), .none, 0⟩), #[]⟩
def o801 (P : Params) : Obj := ⟨(.type "tuple"), none, (.seq #[] 0), #[]⟩
def o803 (P : Params) : Obj := ⟨(.type "tuple"), none, (.seq #[(.str (S "self") 1266), (.str (S "tree") 1267), (.str (S "path") 1268)] 0), #[]⟩
def o804 (P : Params) : Obj := ⟨(.type "tuple"), none, (.seq #[] 0), #[]⟩
def o806 (P : Params) : Obj := ⟨(.type "code"), none, (.fields #[(.str (S "to_reach") 1263), (.str (S "Flow.to_reach") 1264), (.str (S "/claim/cut.py") 1265), (.int (290) 0), (.int (3) 0), (.int (0) 0), (.int (0) 0), (.int (3) 0), (.ref 801), (.bool true), (.int (181) 0), (.ref 802), .none, (.ref 803), (.ref 804), (.ref 805), (.int (1269) 0), (.int (290) 0), (.str (S "/claim/cut.py") 1270)]), #[]⟩
def o807 (P : Params) : Obj := ⟨(.type "function"), none, (.func ⟨(S "to_reach"), (S "Flow.to_reach"), defArgs (inClass (top 52) 6), .stmts (defBody (inClass (top 52) 6)), defScope (inClass (top 52) 6), 3, [], .none, .none, .none, (.str (S "ruleengine.flows") 1156), none, (.ref 806), .none, 0⟩), #[]⟩
def o808 (P : Params) : Obj := ⟨(.type "tuple"), none, (.seq #[] 0), #[]⟩
def o810 (P : Params) : Obj := ⟨(.type "tuple"), none, (.seq #[(.str (S "self") 1275), (.str (S "tree") 1276), (.str (S "path") 1277)] 0), #[]⟩
def o811 (P : Params) : Obj := ⟨(.type "tuple"), none, (.seq #[] 0), #[]⟩
def o813 (P : Params) : Obj := ⟨(.type "code"), none, (.fields #[(.str (S "to_do") 1272), (.str (S "Flow.to_do") 1273), (.str (S "/claim/cut.py") 1274), (.int (293) 0), (.int (3) 0), (.int (0) 0), (.int (0) 0), (.int (3) 0), (.ref 808), (.bool true), (.int (181) 0), (.ref 809), .none, (.ref 810), (.ref 811), (.ref 812), (.int (1278) 0), (.int (293) 0), (.str (S "/claim/cut.py") 1279)]), #[]⟩
def o814 (P : Params) : Obj := ⟨(.type "function"), none, (.func ⟨(S "to_do"), (S "Flow.to_do"), defArgs (inClass (top 52) 7), .stmts (defBody (inClass (top 52) 7)), defScope (inClass (top 52) 7), 3, [], .none, .none, .none, (.str (S "ruleengine.flows") 1156), none, (.ref 813), .none, 0⟩), #[]⟩
def o815 (P : Params) : Obj := ⟨(.type "tuple"), none, (.seq #[] 0), #[]⟩
def o817 (P : Params) : Obj := ⟨(.type "tuple"), none, (.seq #[(.str (S "self") 1284), (.str (S "tree") 1285), (.str (S "path") 1286)] 0), #[]⟩
def o818 (P : Params) : Obj := ⟨(.type "tuple"), none, (.seq #[] 0), #[]⟩
def o820 (P : Params) : Obj := ⟨(.type "code"), none, (.fields #[(.str (S "to_unset") 1281), (.str (S "Flow.to_unset") 1282), (.str (S "/claim/cut.py") 1283), (.int (296) 0), (.int (3) 0), (.int (0) 0), (.int (0) 0), (.int (3) 0), (.ref 815), (.bool true), (.int (181) 0), (.ref 816), .none, (.ref 817), (.ref 818), (.ref 819), (.int (1287) 0), (.int (296) 0), (.str (S "/claim/cut.py") 1288)]), #[]⟩
def o821 (P : Params) : Obj := ⟨(.type "function"), none, (.func ⟨(S "to_unset"), (S "Flow.to_unset"), defArgs (inClass (top 52) 8), .stmts (defBody (inClass (top 52) 8)), defScope (inClass (top 52) 8), 3, [], .none, .none, .none, (.str (S "ruleengine.flows") 1156), none, (.ref 820), .none, 0⟩), #[]⟩
def o822 (P : Params) : Obj := ⟨(.type "tuple"), none, (.seq #[] 0), #[]⟩
def o824 (P : Params) : Obj := ⟨(.type "tuple"), none, (.seq #[(.str (S "self") 1293), (.str (S "tree") 1294), (.str (S "path") 1295), (.str (S "use") 1296)] 0), #[]⟩
def o825 (P : Params) : Obj := ⟨(.type "tuple"), none, (.seq #[] 0), #[]⟩
def o827 (P : Params) : Obj := ⟨(.type "code"), none, (.fields #[(.str (S "to_bring") 1290), (.str (S "Flow.to_bring") 1291), (.str (S "/claim/cut.py") 1292), (.int (299) 0), (.int (4) 0), (.int (0) 0), (.int (0) 0), (.int (3) 0), (.ref 822), (.bool true), (.int (181) 0), (.ref 823), .none, (.ref 824), (.ref 825), (.ref 826), (.int (1297) 0), (.int (299) 0), (.str (S "/claim/cut.py") 1298)]), #[]⟩
def o828 (P : Params) : Obj := ⟨(.type "function"), none, (.func ⟨(S "to_bring"), (S "Flow.to_bring"), defArgs (inClass (top 52) 9), .stmts (defBody (inClass (top 52) 9)), defScope (inClass (top 52) 9), 3, [], .none, .none, .none, (.str (S "ruleengine.flows") 1156), none, (.ref 827), .none, 0⟩), #[]⟩
def o829 (P : Params) : Obj := ⟨(.type "tuple"), none, (.seq #[] 0), #[]⟩
def o831 (P : Params) : Obj := ⟨(.type "tuple"), none, (.seq #[(.str (S "self") 1303), (.str (S "tree") 1304)] 0), #[]⟩
def o832 (P : Params) : Obj := ⟨(.type "tuple"), none, (.seq #[] 0), #[]⟩
def o834 (P : Params) : Obj := ⟨(.type "code"), none, (.fields #[(.str (S "unreached") 1300), (.str (S "Flow.unreached") 1301), (.str (S "/claim/cut.py") 1302), (.int (302) 0), (.int (2) 0), (.int (0) 0), (.int (0) 0), (.int (3) 0), (.ref 829), (.bool true), (.int (181) 0), (.ref 830), .none, (.ref 831), (.ref 832), (.ref 833), (.int (1305) 0), (.int (302) 0), (.str (S "/claim/cut.py") 1306)]), #[]⟩
def o835 (P : Params) : Obj := ⟨(.type "function"), none, (.func ⟨(S "unreached"), (S "Flow.unreached"), defArgs (inClass (top 52) 10), .stmts (defBody (inClass (top 52) 10)), defScope (inClass (top 52) 10), 3, [], .none, .none, .none, (.str (S "ruleengine.flows") 1156), none, (.ref 834), .none, 0⟩), #[]⟩
def o836 (P : Params) : Obj := ⟨(.type "tuple"), none, (.seq #[] 0), #[]⟩
def o838 (P : Params) : Obj := ⟨(.type "tuple"), none, (.seq #[(.str (S "self") 1311), (.str (S "tree") 1312)] 0), #[]⟩
def o839 (P : Params) : Obj := ⟨(.type "tuple"), none, (.seq #[] 0), #[]⟩
def o841 (P : Params) : Obj := ⟨(.type "code"), none, (.fields #[(.str (S "unset_uses") 1308), (.str (S "Flow.unset_uses") 1309), (.str (S "/claim/cut.py") 1310), (.int (305) 0), (.int (2) 0), (.int (0) 0), (.int (0) 0), (.int (3) 0), (.ref 836), (.bool true), (.int (181) 0), (.ref 837), .none, (.ref 838), (.ref 839), (.ref 840), (.int (1313) 0), (.int (305) 0), (.str (S "/claim/cut.py") 1314)]), #[]⟩
def o842 (P : Params) : Obj := ⟨(.type "function"), none, (.func ⟨(S "unset_uses"), (S "Flow.unset_uses"), defArgs (inClass (top 52) 11), .stmts (defBody (inClass (top 52) 11)), defScope (inClass (top 52) 11), 3, [], .none, .none, .none, (.str (S "ruleengine.flows") 1156), none, (.ref 841), .none, 0⟩), #[]⟩
def o843 (P : Params) : Obj := ⟨(.type "tuple"), none, (.seq #[] 0), #[]⟩
def o845 (P : Params) : Obj := ⟨(.type "tuple"), none, (.seq #[(.str (S "self") 1319), (.str (S "tree") 1320)] 0), #[]⟩
def o846 (P : Params) : Obj := ⟨(.type "tuple"), none, (.seq #[] 0), #[]⟩
def o848 (P : Params) : Obj := ⟨(.type "code"), none, (.fields #[(.str (S "idle_sets") 1316), (.str (S "Flow.idle_sets") 1317), (.str (S "/claim/cut.py") 1318), (.int (308) 0), (.int (2) 0), (.int (0) 0), (.int (0) 0), (.int (3) 0), (.ref 843), (.bool true), (.int (181) 0), (.ref 844), .none, (.ref 845), (.ref 846), (.ref 847), (.int (1321) 0), (.int (308) 0), (.str (S "/claim/cut.py") 1322)]), #[]⟩
def o849 (P : Params) : Obj := ⟨(.type "function"), none, (.func ⟨(S "idle_sets"), (S "Flow.idle_sets"), defArgs (inClass (top 52) 12), .stmts (defBody (inClass (top 52) 12)), defScope (inClass (top 52) 12), 3, [], .none, .none, .none, (.str (S "ruleengine.flows") 1156), none, (.ref 848), .none, 0⟩), #[]⟩
def o850 (P : Params) : Obj := ⟨(.type "tuple"), none, (.seq #[] 0), #[]⟩
def o852 (P : Params) : Obj := ⟨(.type "tuple"), none, (.seq #[(.str (S "self") 1327), (.str (S "tree") 1328)] 0), #[]⟩
def o853 (P : Params) : Obj := ⟨(.type "tuple"), none, (.seq #[] 0), #[]⟩
def o855 (P : Params) : Obj := ⟨(.type "code"), none, (.fields #[(.str (S "_chart") 1324), (.str (S "Flow._chart") 1325), (.str (S "/claim/cut.py") 1326), (.int (311) 0), (.int (2) 0), (.int (0) 0), (.int (0) 0), (.int (3) 0), (.ref 850), (.bool true), (.int (181) 0), (.ref 851), .none, (.ref 852), (.ref 853), (.ref 854), (.int (1329) 0), (.int (311) 0), (.str (S "/claim/cut.py") 1330)]), #[]⟩
def o856 (P : Params) : Obj := ⟨(.type "function"), none, (.func ⟨(S "_chart"), (S "Flow._chart"), defArgs (inClass (top 52) 13), .stmts (defBody (inClass (top 52) 13)), defScope (inClass (top 52) 13), 3, [], .none, .none, .none, (.str (S "ruleengine.flows") 1156), none, (.ref 855), .none, 0⟩), #[]⟩
def o857 (P : Params) : Obj := ⟨(.type "tuple"), none, (.seq #[(.str (S "_plans") 1332), (.str (S "schema") 1333)] 0), #[]⟩
def o858 (P : Params) : Obj := ⟨(.type "dict"), none, (.dict #[⟨PyData.keyHash P (S "__module__"), (.str (S "__module__") 1208), (.str (S "ruleengine.flows") 1156)⟩, ⟨PyData.keyHash P (S "__firstlineno__"), (.str (S "__firstlineno__") 1212), (.int (264) 1211)⟩, ⟨PyData.keyHash P (S "__init__"), (.str (S "__init__") 1218), (.ref 765)⟩, ⟨PyData.keyHash P (S "plan"), (.str (S "plan") 1226), (.ref 772)⟩, ⟨PyData.keyHash P (S "points"), (.str (S "points") 1234), (.ref 779)⟩, ⟨PyData.keyHash P (S "nexts"), (.str (S "nexts") 1243), (.ref 786)⟩, ⟨PyData.keyHash P (S "ask"), (.str (S "ask") 1252), (.ref 793)⟩, ⟨PyData.keyHash P (S "check"), (.str (S "check") 1262), (.ref 800)⟩, ⟨PyData.keyHash P (S "to_reach"), (.str (S "to_reach") 1271), (.ref 807)⟩, ⟨PyData.keyHash P (S "to_do"), (.str (S "to_do") 1280), (.ref 814)⟩, ⟨PyData.keyHash P (S "to_unset"), (.str (S "to_unset") 1289), (.ref 821)⟩, ⟨PyData.keyHash P (S "to_bring"), (.str (S "to_bring") 1299), (.ref 828)⟩, ⟨PyData.keyHash P (S "unreached"), (.str (S "unreached") 1307), (.ref 835)⟩, ⟨PyData.keyHash P (S "unset_uses"), (.str (S "unset_uses") 1315), (.ref 842)⟩, ⟨PyData.keyHash P (S "idle_sets"), (.str (S "idle_sets") 1323), (.ref 849)⟩, ⟨PyData.keyHash P (S "_chart"), (.str (S "_chart") 1331), (.ref 856)⟩, ⟨PyData.keyHash P (S "__static_attributes__"), (.str (S "__static_attributes__") 1334), (.ref 857)⟩, ⟨PyData.keyHash P (S "__dict__"), (.str (S "__dict__") 1336), (.ref 860)⟩, ⟨PyData.keyHash P (S "__weakref__"), (.str (S "__weakref__") 1338), (.ref 861)⟩, ⟨PyData.keyHash P (S "__doc__"), (.str (S "__doc__") 1339), .none⟩] 4), #[]⟩
def o859 (P : Params) : Obj := ⟨(.type "type"), none, (.cls ⟨(S "Flow"), [(.type "object")], [(.ref 859), (.type "object")], 858, (S "Flow"), true, [], [], false, none, false⟩), #[none, none, (some (.str (S "Flow") 1201)), (some (.str (S "Flow") 1209)), (some (.builtin "object.__new__")), (some (.bool true))]⟩
def o860 (P : Params) : Obj := ⟨(.type "getset_descriptor"), none, (.fields #[(.str (S "__dict__") 1335), (.ref 859), (.builtin "function.__dict__"), (.builtin "function.__dict__#set")]), #[]⟩
def o861 (P : Params) : Obj := ⟨(.type "getset_descriptor"), none, (.fields #[(.str (S "__weakref__") 1337), (.ref 859), (.builtin "ExceptionGroup.__weakref__"), .none]), #[]⟩
def o864 (P : Params) : Obj := ⟨(.type "tuple"), none, (.seq #[] 0), #[]⟩
def o867 (P : Params) : Obj := ⟨(.type "code"), none, (.fields #[(.str (S "_check_plan") 1342), (.str (S "_check_plan") 1343), (.str (S "/claim/cut.py") 1344), (.int (313) 0), (.int (3) 0), (.int (0) 0), (.int (0) 0), (.int (3) 0), (.ref 864), (.bool true), (.int (181) 0), (.ref 865), .none, .none, .none, (.ref 866), (.int (1345) 0), (.int (313) 0), (.str (S "/claim/cut.py") 1346)]), #[]⟩
def o868 (P : Params) : Obj := ⟨(.type "function"), none, (.func ⟨(S "_check_plan"), (S "_check_plan"), defArgs (top 53), .stmts (defBody (top 53)), defScope (top 53), 3, [], .none, .none, .none, (.str (S "ruleengine.flows") 1156), none, (.ref 867), .none, 0⟩), #[]⟩
def o869 (P : Params) : Obj := ⟨(.type "tuple"), none, (.seq #[] 0), #[]⟩
def o871 (P : Params) : Obj := ⟨(.type "tuple"), none, (.seq #[(.str (S "_law_cell") 1353), (.str (S "_law_n") 1354), (.str (S "_law_turned") 1355)] 0), #[]⟩
def o872 (P : Params) : Obj := ⟨(.type "tuple"), none, (.seq #[] 0), #[]⟩
def o874 (P : Params) : Obj := ⟨(.type "code"), none, (.fields #[(.str (S "_law_mixed") 1350), (.str (S "_law_mixed") 1351), (.str (S "/claim/cut.py") 1352), (.int (322) 0), (.int (2) 0), (.int (0) 0), (.int (0) 0), (.int (3) 0), (.ref 869), (.bool true), (.int (181) 0), (.ref 870), .none, (.ref 871), (.ref 872), (.ref 873), (.int (1356) 0), (.int (322) 0), (.str (S "/claim/cut.py") 1357)]), #[]⟩
def o875 (P : Params) : Obj := ⟨(.type "function"), none, (.func ⟨(S "_law_mixed"), (S "_law_mixed"), defArgs (top 55), .stmts (defBody (top 55)), defScope (top 55), 3, [], .none, .none, .none, (.str (S "law_ruleengine_k48_plans_and_flows_refused") 1348), none, (.ref 874), .none, 0⟩), #[]⟩
def o876 (P : Params) : Obj := ⟨(.type "tuple"), none, (.seq #[] 0), #[]⟩
def o879 (P : Params) : Obj := ⟨(.type "code"), none, (.fields #[(.str (S "_law_folded") 1359), (.str (S "_law_folded") 1360), (.str (S "/claim/cut.py") 1361), (.int (325) 0), (.int (1) 0), (.int (0) 0), (.int (0) 0), (.int (3) 0), (.ref 876), (.bool true), (.int (181) 0), (.ref 877), .none, .none, .none, (.ref 878), (.int (1362) 0), (.int (325) 0), (.str (S "/claim/cut.py") 1363)]), #[]⟩
def o880 (P : Params) : Obj := ⟨(.type "function"), none, (.func ⟨(S "_law_folded"), (S "_law_folded"), defArgs (top 56), .stmts (defBody (top 56)), defScope (top 56), 3, [], .none, .none, .none, (.str (S "law_ruleengine_k48_plans_and_flows_refused") 1348), none, (.ref 879), .none, 0⟩), #[]⟩
def o881 (P : Params) : Obj := ⟨(.type "tuple"), none, (.seq #[] 0), #[]⟩
def o883 (P : Params) : Obj := ⟨(.type "tuple"), none, (.seq #[(.str (S "_law_m") 1368), (.str (S "_law_top") 1369), (.str (S "_law_n") 1370), (.str (S "_law_at") 1371), (.str (S "_law_cell") 1372)] 0), #[]⟩
def o884 (P : Params) : Obj := ⟨(.type "tuple"), none, (.seq #[] 0), #[]⟩
def o886 (P : Params) : Obj := ⟨(.type "code"), none, (.fields #[(.str (S "_law_draw") 1365), (.str (S "_law_draw") 1366), (.str (S "/claim/cut.py") 1367), (.int (332) 0), (.int (2) 0), (.int (0) 0), (.int (0) 0), (.int (3) 0), (.ref 881), (.bool true), (.int (181) 0), (.ref 882), .none, (.ref 883), (.ref 884), (.ref 885), (.int (1373) 0), (.int (332) 0), (.str (S "/claim/cut.py") 1374)]), #[]⟩
def o887 (P : Params) : Obj := ⟨(.type "function"), none, (.func ⟨(S "_law_draw"), (S "_law_draw"), defArgs (top 57), .stmts (defBody (top 57)), defScope (top 57), 3, [], .none, .none, .none, (.str (S "law_ruleengine_k48_plans_and_flows_refused") 1348), none, (.ref 886), .none, 0⟩), #[]⟩
def o888 (P : Params) : Obj := ⟨(.type "tuple"), none, (.seq #[] 0), #[]⟩
def o891 (P : Params) : Obj := ⟨(.type "code"), none, (.fields #[(.str (S "_law_begun") 1376), (.str (S "_law_begun") 1377), (.str (S "/claim/cut.py") 1378), (.int (342) 0), (.int (1) 0), (.int (0) 0), (.int (0) 0), (.int (3) 0), (.ref 888), (.bool true), (.int (181) 0), (.ref 889), .none, .none, .none, (.ref 890), (.int (1379) 0), (.int (342) 0), (.str (S "/claim/cut.py") 1380)]), #[]⟩
def o892 (P : Params) : Obj := ⟨(.type "function"), none, (.func ⟨(S "_law_begun"), (S "_law_begun"), defArgs (top 58), .stmts (defBody (top 58)), defScope (top 58), 3, [], .none, .none, .none, (.str (S "law_ruleengine_k48_plans_and_flows_refused") 1348), none, (.ref 891), .none, 0⟩), #[]⟩
def o893 (P : Params) : Obj := ⟨(.type "tuple"), none, (.seq #[] 0), #[]⟩
def o895 (P : Params) : Obj := ⟨(.type "tuple"), none, (.seq #[(.str (S "_law_error") 1385), (.str (S "_law_told") 1386)] 0), #[]⟩
def o896 (P : Params) : Obj := ⟨(.type "tuple"), none, (.seq #[] 0), #[]⟩
def o898 (P : Params) : Obj := ⟨(.type "code"), none, (.fields #[(.str (S "_law_class") 1382), (.str (S "_law_class") 1383), (.str (S "/claim/cut.py") 1384), (.int (346) 0), (.int (1) 0), (.int (0) 0), (.int (0) 0), (.int (3) 0), (.ref 893), (.bool true), (.int (181) 0), (.ref 894), .none, (.ref 895), (.ref 896), (.ref 897), (.int (1387) 0), (.int (346) 0), (.str (S "/claim/cut.py") 1388)]), #[]⟩
def o899 (P : Params) : Obj := ⟨(.type "function"), none, (.func ⟨(S "_law_class"), (S "_law_class"), defArgs (top 59), .stmts (defBody (top 59)), defScope (top 59), 3, [], .none, .none, .none, (.str (S "law_ruleengine_k48_plans_and_flows_refused") 1348), none, (.ref 898), .none, 0⟩), #[]⟩
def o900 (P : Params) : Obj := ⟨(.type "tuple"), none, (.seq #[] 0), #[]⟩
def o902 (P : Params) : Obj := ⟨(.type "tuple"), none, (.seq #[(.str (S "_law_error") 1393)] 0), #[]⟩
def o903 (P : Params) : Obj := ⟨(.type "tuple"), none, (.seq #[] 0), #[]⟩
def o905 (P : Params) : Obj := ⟨(.type "code"), none, (.fields #[(.str (S "_law_value_class") 1390), (.str (S "_law_value_class") 1391), (.str (S "/claim/cut.py") 1392), (.int (365) 0), (.int (1) 0), (.int (0) 0), (.int (0) 0), (.int (3) 0), (.ref 900), (.bool true), (.int (181) 0), (.ref 901), .none, (.ref 902), (.ref 903), (.ref 904), (.int (1394) 0), (.int (365) 0), (.str (S "/claim/cut.py") 1395)]), #[]⟩
def o906 (P : Params) : Obj := ⟨(.type "function"), none, (.func ⟨(S "_law_value_class"), (S "_law_value_class"), defArgs (top 60), .stmts (defBody (top 60)), defScope (top 60), 3, [], .none, .none, .none, (.str (S "law_ruleengine_k48_plans_and_flows_refused") 1348), none, (.ref 905), .none, 0⟩), #[]⟩
def o907 (P : Params) : Obj := ⟨(.type "tuple"), none, (.seq #[] 0), #[]⟩
def o909 (P : Params) : Obj := ⟨(.type "tuple"), none, (.seq #[(.str (S "_law_deed") 1400), (.str (S "_law_error") 1401), (.str (S "_law_found") 1402), (.str (S "e") 1403)] 0), #[]⟩
def o910 (P : Params) : Obj := ⟨(.type "tuple"), none, (.seq #[] 0), #[]⟩
def o912 (P : Params) : Obj := ⟨(.type "code"), none, (.fields #[(.str (S "_law_got") 1397), (.str (S "_law_got") 1398), (.str (S "/claim/cut.py") 1399), (.int (387) 0), (.int (1) 0), (.int (0) 0), (.int (0) 0), (.int (3) 0), (.ref 907), (.bool true), (.int (181) 0), (.ref 908), .none, (.ref 909), (.ref 910), (.ref 911), (.int (1404) 0), (.int (387) 0), (.str (S "/claim/cut.py") 1405)]), #[]⟩
def o913 (P : Params) : Obj := ⟨(.type "function"), none, (.func ⟨(S "_law_got"), (S "_law_got"), defArgs (top 61), .stmts (defBody (top 61)), defScope (top 61), 3, [], .none, .none, .none, (.str (S "law_ruleengine_k48_plans_and_flows_refused") 1348), none, (.ref 912), .none, 0⟩), #[]⟩
def o914 (P : Params) : Obj := ⟨(.type "tuple"), none, (.seq #[] 0), #[]⟩
def o917 (P : Params) : Obj := ⟨(.type "code"), none, (.fields #[(.str (S "_law_base") 1407), (.str (S "_law_base") 1408), (.str (S "/claim/cut.py") 1409), (.int (395) 0), (.int (0) 0), (.int (0) 0), (.int (0) 0), (.int (3) 0), (.ref 914), (.bool true), (.int (181) 0), (.ref 915), .none, .none, .none, (.ref 916), (.int (1410) 0), (.int (395) 0), (.str (S "/claim/cut.py") 1411)]), #[]⟩
def o918 (P : Params) : Obj := ⟨(.type "function"), none, (.func ⟨(S "_law_base"), (S "_law_base"), defArgs (top 62), .stmts (defBody (top 62)), defScope (top 62), 3, [], .none, .none, .none, (.str (S "law_ruleengine_k48_plans_and_flows_refused") 1348), none, (.ref 917), .none, 0⟩), #[]⟩
def o919 (P : Params) : Obj := ⟨(.type "tuple"), none, (.seq #[] 0), #[]⟩
def o921 (P : Params) : Obj := ⟨(.type "tuple"), none, (.seq #[(.str (S "_law_found") 1416), (.str (S "_law_n") 1417)] 0), #[]⟩
def o922 (P : Params) : Obj := ⟨(.type "tuple"), none, (.seq #[] 0), #[]⟩
def o924 (P : Params) : Obj := ⟨(.type "code"), none, (.fields #[(.str (S "_law_doubled") 1413), (.str (S "_law_doubled") 1414), (.str (S "/claim/cut.py") 1415), (.int (401) 0), (.int (0) 0), (.int (0) 0), (.int (0) 0), (.int (3) 0), (.ref 919), (.bool true), (.int (181) 0), (.ref 920), .none, (.ref 921), (.ref 922), (.ref 923), (.int (1418) 0), (.int (401) 0), (.str (S "/claim/cut.py") 1419)]), #[]⟩
def o925 (P : Params) : Obj := ⟨(.type "function"), none, (.func ⟨(S "_law_doubled"), (S "_law_doubled"), defArgs (top 63), .stmts (defBody (top 63)), defScope (top 63), 3, [], .none, .none, .none, (.str (S "law_ruleengine_k48_plans_and_flows_refused") 1348), none, (.ref 924), .none, 0⟩), #[]⟩
def o926 (P : Params) : Obj := ⟨(.type "tuple"), none, (.seq #[] 0), #[]⟩
def o928 (P : Params) : Obj := ⟨(.type "tuple"), none, (.seq #[(.str (S "_law_told") 1424), (.str (S "_law_word") 1425), (.str (S "_law_odd") 1426)] 0), #[]⟩
def o929 (P : Params) : Obj := ⟨(.type "tuple"), none, (.seq #[] 0), #[]⟩
def o931 (P : Params) : Obj := ⟨(.type "code"), none, (.fields #[(.str (S "_law_is_it") 1421), (.str (S "_law_is_it") 1422), (.str (S "/claim/cut.py") 1423), (.int (406) 0), (.int (3) 0), (.int (0) 0), (.int (0) 0), (.int (3) 0), (.ref 926), (.bool true), (.int (181) 0), (.ref 927), .none, (.ref 928), (.ref 929), (.ref 930), (.int (1427) 0), (.int (406) 0), (.str (S "/claim/cut.py") 1428)]), #[]⟩
def o932 (P : Params) : Obj := ⟨(.type "function"), none, (.func ⟨(S "_law_is_it"), (S "_law_is_it"), defArgs (top 64), .stmts (defBody (top 64)), defScope (top 64), 3, [], .none, .none, .none, (.str (S "law_ruleengine_k48_plans_and_flows_refused") 1348), none, (.ref 931), .none, 0⟩), #[]⟩
def o933 (P : Params) : Obj := ⟨(.type "tuple"), none, (.seq #[] 0), #[]⟩
def o936 (P : Params) : Obj := ⟨(.type "code"), none, (.fields #[(.str (S "_law_plans_right") 1430), (.str (S "_law_plans_right") 1431), (.str (S "/claim/cut.py") 1432), (.int (412) 0), (.int (2) 0), (.int (0) 0), (.int (0) 0), (.int (3) 0), (.ref 933), (.bool true), (.int (181) 0), (.ref 934), .none, .none, .none, (.ref 935), (.int (1433) 0), (.int (412) 0), (.str (S "/claim/cut.py") 1434)]), #[]⟩
def o937 (P : Params) : Obj := ⟨(.type "function"), none, (.func ⟨(S "_law_plans_right"), (S "_law_plans_right"), defArgs (top 65), .stmts (defBody (top 65)), defScope (top 65), 3, [], .none, .none, .none, (.str (S "law_ruleengine_k48_plans_and_flows_refused") 1348), none, (.ref 936), .none, 0⟩), #[]⟩
def o938 (P : Params) : Obj := ⟨(.type "tuple"), none, (.seq #[] 0), #[]⟩
def o940 (P : Params) : Obj := ⟨(.type "tuple"), none, (.seq #[(.str (S "_law_base_here") 1439), (.str (S "_law_word") 1440), (.str (S "_law_odd") 1441), (.str (S "_law_told") 1442), (.str (S "_law_due") 1443)] 0), #[]⟩
def o941 (P : Params) : Obj := ⟨(.type "tuple"), none, (.seq #[(.str (S "_law_base_here") 1444), (.str (S "_law_word") 1445), (.str (S "_law_odd") 1446)] 0), #[]⟩
def o943 (P : Params) : Obj := ⟨(.type "code"), none, (.fields #[(.str (S "_law_entries_right") 1436), (.str (S "_law_entries_right") 1437), (.str (S "/claim/cut.py") 1438), (.int (427) 0), (.int (3) 0), (.int (0) 0), (.int (0) 0), (.int (3) 0), (.ref 938), (.bool true), (.int (181) 0), (.ref 939), .none, (.ref 940), (.ref 941), (.ref 942), (.int (1447) 0), (.int (427) 0), (.str (S "/claim/cut.py") 1448)]), #[]⟩
def o944 (P : Params) : Obj := ⟨(.type "function"), none, (.func ⟨(S "_law_entries_right"), (S "_law_entries_right"), defArgs (top 66), .stmts (defBody (top 66)), defScope (top 66), 3, [], .none, .none, .none, (.str (S "law_ruleengine_k48_plans_and_flows_refused") 1348), none, (.ref 943), .none, 0⟩), #[]⟩
def o945 (P : Params) : Obj := ⟨(.type "tuple"), none, (.seq #[] 0), #[]⟩
def o947 (P : Params) : Obj := ⟨(.type "tuple"), none, (.seq #[(.str (S "_law_base_here") 1453), (.str (S "_law_odd") 1454), (.str (S "_law_word") 1455), (.str (S "_law_told") 1456)] 0), #[]⟩
def o948 (P : Params) : Obj := ⟨(.type "tuple"), none, (.seq #[(.str (S "_law_odd") 1457), (.str (S "_law_flow") 1458)] 0), #[]⟩
def o950 (P : Params) : Obj := ⟨(.type "code"), none, (.fields #[(.str (S "_law_flow_right") 1450), (.str (S "_law_flow_right") 1451), (.str (S "/claim/cut.py") 1452), (.int (437) 0), (.int (2) 0), (.int (0) 0), (.int (0) 0), (.int (3) 0), (.ref 945), (.bool true), (.int (181) 0), (.ref 946), .none, (.ref 947), (.ref 948), (.ref 949), (.int (1459) 0), (.int (437) 0), (.str (S "/claim/cut.py") 1460)]), #[]⟩
def o951 (P : Params) : Obj := ⟨(.type "function"), none, (.func ⟨(S "_law_flow_right"), (S "_law_flow_right"), defArgs (top 67), .stmts (defBody (top 67)), defScope (top 67), 3, [], .none, .none, .none, (.str (S "law_ruleengine_k48_plans_and_flows_refused") 1348), none, (.ref 950), .none, 0⟩), #[]⟩
def o952 (P : Params) : Obj := ⟨(.type "tuple"), none, (.seq #[] 0), #[]⟩
def o954 (P : Params) : Obj := ⟨(.type "tuple"), none, (.seq #[(.str (S "_law_script") 1465), (.str (S "_law_m") 1466), (.str (S "_law_base_here") 1467), (.str (S "_law_again") 1468), (.str (S "_law_odd") 1469), (.str (S "_law_slot") 1470), (.str (S "_law_word") 1471), (.str (S "_law_far") 1472)] 0), #[]⟩
def o955 (P : Params) : Obj := ⟨(.type "tuple"), none, (.seq #[] 0), #[]⟩
def o957 (P : Params) : Obj := ⟨(.type "code"), none, (.fields #[(.str (S "law") 1462), (.str (S "law") 1463), (.str (S "/claim/cut.py") 1464), (.int (446) 0), (.int (1) 0), (.int (0) 0), (.int (0) 0), (.int (3) 0), (.ref 952), (.bool true), (.int (181) 0), (.ref 953), .none, (.ref 954), (.ref 955), (.ref 956), (.int (1473) 0), (.int (446) 0), (.str (S "/claim/cut.py") 1474)]), #[]⟩
def o958 (P : Params) : Obj := ⟨(.type "function"), none, (.func ⟨(S "law"), (S "law"), defArgs (top 68), .stmts (defBody (top 68)), defScope (top 68), 3, [], .none, .none, .none, (.str (S "law_ruleengine_k48_plans_and_flows_refused") 1348), none, (.ref 957), .none, 0⟩), #[]⟩
def KF : PySem.Params → PySem.W.Frag := fun P => (nat_lit 2, o2 P) :: (nat_lit 3, o3 P) :: (nat_lit 15, o15 P) :: (nat_lit 17, o17 P) :: (nat_lit 18, o18 P) :: (nat_lit 20, o20 P) :: (nat_lit 21, o21 P) :: (nat_lit 22, o22 P) :: (nat_lit 25, o25 P) :: (nat_lit 26, o26 P) :: (nat_lit 27, o27 P) :: (nat_lit 29, o29 P) :: (nat_lit 30, o30 P) :: (nat_lit 32, o32 P) :: (nat_lit 33, o33 P) :: (nat_lit 34, o34 P) :: (nat_lit 36, o36 P) :: (nat_lit 37, o37 P) :: (nat_lit 39, o39 P) :: (nat_lit 40, o40 P) :: (nat_lit 41, o41 P) :: (nat_lit 43, o43 P) :: (nat_lit 44, o44 P) :: (nat_lit 46, o46 P) :: (nat_lit 47, o47 P) :: (nat_lit 48, o48 P) :: (nat_lit 50, o50 P) :: (nat_lit 51, o51 P) :: (nat_lit 53, o53 P) :: (nat_lit 54, o54 P) :: (nat_lit 55, o55 P) :: (nat_lit 62, o62 P) :: (nat_lit 63, o63 P) :: (nat_lit 64, o64 P) :: (nat_lit 65, o65 P) :: (nat_lit 68, o68 P) :: (nat_lit 71, o71 P) :: (nat_lit 76, o76 P) :: (nat_lit 77, o77 P) :: (nat_lit 79, o79 P) :: (nat_lit 80, o80 P) :: (nat_lit 82, o82 P) :: (nat_lit 83, o83 P) :: (nat_lit 84, o84 P) :: (nat_lit 85, o85 P) :: (nat_lit 86, o86 P) :: (nat_lit 89, o89 P) :: (nat_lit 92, o92 P) :: (nat_lit 97, o97 P) :: (nat_lit 98, o98 P) :: (nat_lit 99, o99 P) :: (nat_lit 101, o101 P) :: (nat_lit 102, o102 P) :: (nat_lit 104, o104 P) :: (nat_lit 105, o105 P) :: (nat_lit 106, o106 P) :: (nat_lit 107, o107 P) :: (nat_lit 108, o108 P) :: (nat_lit 111, o111 P) :: (nat_lit 114, o114 P) :: (nat_lit 119, o119 P) :: (nat_lit 120, o120 P) :: (nat_lit 122, o122 P) :: (nat_lit 123, o123 P) :: (nat_lit 125, o125 P) :: (nat_lit 126, o126 P) :: (nat_lit 127, o127 P) :: (nat_lit 128, o128 P) :: (nat_lit 129, o129 P) :: (nat_lit 132, o132 P) :: (nat_lit 135, o135 P) :: (nat_lit 140, o140 P) :: (nat_lit 141, o141 P) :: (nat_lit 143, o143 P) :: (nat_lit 144, o144 P) :: (nat_lit 146, o146 P) :: (nat_lit 147, o147 P) :: (nat_lit 148, o148 P) :: (nat_lit 149, o149 P) :: (nat_lit 150, o150 P) :: (nat_lit 153, o153 P) :: (nat_lit 156, o156 P) :: (nat_lit 161, o161 P) :: (nat_lit 162, o162 P) :: (nat_lit 164, o164 P) :: (nat_lit 165, o165 P) :: (nat_lit 167, o167 P) :: (nat_lit 168, o168 P) :: (nat_lit 169, o169 P) :: (nat_lit 170, o170 P) :: (nat_lit 171, o171 P) :: (nat_lit 174, o174 P) :: (nat_lit 177, o177 P) :: (nat_lit 182, o182 P) :: (nat_lit 183, o183 P) :: (nat_lit 184, o184 P) :: (nat_lit 186, o186 P) :: (nat_lit 187, o187 P) :: (nat_lit 189, o189 P) :: (nat_lit 190, o190 P) :: (nat_lit 191, o191 P) :: (nat_lit 192, o192 P) :: (nat_lit 193, o193 P) :: (nat_lit 196, o196 P) :: (nat_lit 199, o199 P) :: (nat_lit 204, o204 P) :: (nat_lit 205, o205 P) :: (nat_lit 206, o206 P) :: (nat_lit 208, o208 P) :: (nat_lit 209, o209 P) :: (nat_lit 211, o211 P) :: (nat_lit 212, o212 P) :: (nat_lit 213, o213 P) :: (nat_lit 214, o214 P) :: (nat_lit 215, o215 P) :: (nat_lit 218, o218 P) :: (nat_lit 221, o221 P) :: (nat_lit 226, o226 P) :: (nat_lit 227, o227 P) :: (nat_lit 229, o229 P) :: (nat_lit 230, o230 P) :: (nat_lit 232, o232 P) :: (nat_lit 233, o233 P) :: (nat_lit 234, o234 P) :: (nat_lit 235, o235 P) :: (nat_lit 236, o236 P) :: (nat_lit 239, o239 P) :: (nat_lit 242, o242 P) :: (nat_lit 247, o247 P) :: (nat_lit 248, o248 P) :: (nat_lit 250, o250 P) :: (nat_lit 251, o251 P) :: (nat_lit 253, o253 P) :: (nat_lit 254, o254 P) :: (nat_lit 255, o255 P) :: (nat_lit 256, o256 P) :: (nat_lit 257, o257 P) :: (nat_lit 260, o260 P) :: (nat_lit 263, o263 P) :: (nat_lit 268, o268 P) :: (nat_lit 269, o269 P) :: (nat_lit 271, o271 P) :: (nat_lit 272, o272 P) :: (nat_lit 274, o274 P) :: (nat_lit 275, o275 P) :: (nat_lit 276, o276 P) :: (nat_lit 277, o277 P) :: (nat_lit 278, o278 P) :: (nat_lit 281, o281 P) :: (nat_lit 284, o284 P) :: (nat_lit 289, o289 P) :: (nat_lit 290, o290 P) :: (nat_lit 292, o292 P) :: (nat_lit 293, o293 P) :: (nat_lit 295, o295 P) :: (nat_lit 296, o296 P) :: (nat_lit 297, o297 P) :: (nat_lit 298, o298 P) :: (nat_lit 299, o299 P) :: (nat_lit 302, o302 P) :: (nat_lit 305, o305 P) :: (nat_lit 310, o310 P) :: (nat_lit 311, o311 P) :: (nat_lit 313, o313 P) :: (nat_lit 314, o314 P) :: (nat_lit 316, o316 P) :: (nat_lit 317, o317 P) :: (nat_lit 318, o318 P) :: (nat_lit 319, o319 P) :: (nat_lit 320, o320 P) :: (nat_lit 323, o323 P) :: (nat_lit 326, o326 P) :: (nat_lit 331, o331 P) :: (nat_lit 332, o332 P) :: (nat_lit 334, o334 P) :: (nat_lit 335, o335 P) :: (nat_lit 337, o337 P) :: (nat_lit 338, o338 P) :: (nat_lit 339, o339 P) :: (nat_lit 340, o340 P) :: (nat_lit 341, o341 P) :: (nat_lit 344, o344 P) :: (nat_lit 347, o347 P) :: (nat_lit 352, o352 P) :: (nat_lit 353, o353 P) :: (nat_lit 355, o355 P) :: (nat_lit 356, o356 P) :: (nat_lit 358, o358 P) :: (nat_lit 359, o359 P) :: (nat_lit 360, o360 P) :: (nat_lit 361, o361 P) :: (nat_lit 362, o362 P) :: (nat_lit 365, o365 P) :: (nat_lit 368, o368 P) :: (nat_lit 373, o373 P) :: (nat_lit 374, o374 P) :: (nat_lit 376, o376 P) :: (nat_lit 377, o377 P) :: (nat_lit 379, o379 P) :: (nat_lit 380, o380 P) :: (nat_lit 381, o381 P) :: (nat_lit 382, o382 P) :: (nat_lit 383, o383 P) :: (nat_lit 386, o386 P) :: (nat_lit 389, o389 P) :: (nat_lit 394, o394 P) :: (nat_lit 395, o395 P) :: (nat_lit 397, o397 P) :: (nat_lit 398, o398 P) :: (nat_lit 400, o400 P) :: (nat_lit 401, o401 P) :: (nat_lit 402, o402 P) :: (nat_lit 403, o403 P) :: (nat_lit 404, o404 P) :: (nat_lit 407, o407 P) :: (nat_lit 410, o410 P) :: (nat_lit 415, o415 P) :: (nat_lit 416, o416 P) :: (nat_lit 418, o418 P) :: (nat_lit 419, o419 P) :: (nat_lit 421, o421 P) :: (nat_lit 422, o422 P) :: (nat_lit 423, o423 P) :: (nat_lit 424, o424 P) :: (nat_lit 425, o425 P) :: (nat_lit 428, o428 P) :: (nat_lit 431, o431 P) :: (nat_lit 436, o436 P) :: (nat_lit 437, o437 P) :: (nat_lit 439, o439 P) :: (nat_lit 440, o440 P) :: (nat_lit 442, o442 P) :: (nat_lit 443, o443 P) :: (nat_lit 444, o444 P) :: (nat_lit 445, o445 P) :: (nat_lit 446, o446 P) :: (nat_lit 449, o449 P) :: (nat_lit 452, o452 P) :: (nat_lit 457, o457 P) :: (nat_lit 458, o458 P) :: (nat_lit 459, o459 P) :: (nat_lit 461, o461 P) :: (nat_lit 462, o462 P) :: (nat_lit 464, o464 P) :: (nat_lit 465, o465 P) :: (nat_lit 466, o466 P) :: (nat_lit 467, o467 P) :: (nat_lit 468, o468 P) :: (nat_lit 471, o471 P) :: (nat_lit 474, o474 P) :: (nat_lit 479, o479 P) :: (nat_lit 480, o480 P) :: (nat_lit 482, o482 P) :: (nat_lit 483, o483 P) :: (nat_lit 485, o485 P) :: (nat_lit 486, o486 P) :: (nat_lit 487, o487 P) :: (nat_lit 488, o488 P) :: (nat_lit 489, o489 P) :: (nat_lit 492, o492 P) :: (nat_lit 495, o495 P) :: (nat_lit 500, o500 P) :: (nat_lit 501, o501 P) :: (nat_lit 503, o503 P) :: (nat_lit 504, o504 P) :: (nat_lit 506, o506 P) :: (nat_lit 507, o507 P) :: (nat_lit 508, o508 P) :: (nat_lit 509, o509 P) :: (nat_lit 510, o510 P) :: (nat_lit 513, o513 P) :: (nat_lit 516, o516 P) :: (nat_lit 521, o521 P) :: (nat_lit 522, o522 P) :: (nat_lit 524, o524 P) :: (nat_lit 525, o525 P) :: (nat_lit 527, o527 P) :: (nat_lit 528, o528 P) :: (nat_lit 529, o529 P) :: (nat_lit 530, o530 P) :: (nat_lit 531, o531 P) :: (nat_lit 534, o534 P) :: (nat_lit 537, o537 P) :: (nat_lit 542, o542 P) :: (nat_lit 543, o543 P) :: (nat_lit 545, o545 P) :: (nat_lit 546, o546 P) :: (nat_lit 548, o548 P) :: (nat_lit 549, o549 P) :: (nat_lit 550, o550 P) :: (nat_lit 551, o551 P) :: (nat_lit 552, o552 P) :: (nat_lit 555, o555 P) :: (nat_lit 558, o558 P) :: (nat_lit 563, o563 P) :: (nat_lit 564, o564 P) :: (nat_lit 566, o566 P) :: (nat_lit 567, o567 P) :: (nat_lit 569, o569 P) :: (nat_lit 570, o570 P) :: (nat_lit 571, o571 P) :: (nat_lit 572, o572 P) :: (nat_lit 573, o573 P) :: (nat_lit 576, o576 P) :: (nat_lit 579, o579 P) :: (nat_lit 584, o584 P) :: (nat_lit 585, o585 P) :: (nat_lit 587, o587 P) :: (nat_lit 588, o588 P) :: (nat_lit 590, o590 P) :: (nat_lit 591, o591 P) :: (nat_lit 592, o592 P) :: (nat_lit 593, o593 P) :: (nat_lit 594, o594 P) :: (nat_lit 597, o597 P) :: (nat_lit 600, o600 P) :: (nat_lit 605, o605 P) :: (nat_lit 606, o606 P) :: (nat_lit 608, o608 P) :: (nat_lit 609, o609 P) :: (nat_lit 611, o611 P) :: (nat_lit 612, o612 P) :: (nat_lit 613, o613 P) :: (nat_lit 614, o614 P) :: (nat_lit 615, o615 P) :: (nat_lit 625, o625 P) :: (nat_lit 627, o627 P) :: (nat_lit 628, o628 P) :: (nat_lit 630, o630 P) :: (nat_lit 631, o631 P) :: (nat_lit 632, o632 P) :: (nat_lit 634, o634 P) :: (nat_lit 635, o635 P) :: (nat_lit 637, o637 P) :: (nat_lit 638, o638 P) :: (nat_lit 639, o639 P) :: (nat_lit 640, o640 P) :: (nat_lit 641, o641 P) :: (nat_lit 642, o642 P) :: (nat_lit 643, o643 P) :: (nat_lit 644, o644 P) :: (nat_lit 645, o645 P) :: (nat_lit 646, o646 P) :: (nat_lit 656, o656 P) :: (nat_lit 659, o659 P) :: (nat_lit 660, o660 P) :: (nat_lit 661, o661 P) :: (nat_lit 663, o663 P) :: (nat_lit 664, o664 P) :: (nat_lit 666, o666 P) :: (nat_lit 667, o667 P) :: (nat_lit 668, o668 P) :: (nat_lit 669, o669 P) :: (nat_lit 670, o670 P) :: (nat_lit 671, o671 P) :: (nat_lit 673, o673 P) :: (nat_lit 674, o674 P) :: (nat_lit 676, o676 P) :: (nat_lit 677, o677 P) :: (nat_lit 678, o678 P) :: (nat_lit 680, o680 P) :: (nat_lit 681, o681 P) :: (nat_lit 683, o683 P) :: (nat_lit 684, o684 P) :: (nat_lit 685, o685 P) :: (nat_lit 687, o687 P) :: (nat_lit 688, o688 P) :: (nat_lit 690, o690 P) :: (nat_lit 691, o691 P) :: (nat_lit 692, o692 P) :: (nat_lit 694, o694 P) :: (nat_lit 695, o695 P) :: (nat_lit 697, o697 P) :: (nat_lit 698, o698 P) :: (nat_lit 699, o699 P) :: (nat_lit 700, o700 P) :: (nat_lit 701, o701 P) :: (nat_lit 702, o702 P) :: (nat_lit 703, o703 P) :: (nat_lit 706, o706 P) :: (nat_lit 708, o708 P) :: (nat_lit 709, o709 P) :: (nat_lit 711, o711 P) :: (nat_lit 712, o712 P) :: (nat_lit 713, o713 P) :: (nat_lit 715, o715 P) :: (nat_lit 716, o716 P) :: (nat_lit 718, o718 P) :: (nat_lit 719, o719 P) :: (nat_lit 720, o720 P) :: (nat_lit 723, o723 P) :: (nat_lit 724, o724 P) :: (nat_lit 725, o725 P) :: (nat_lit 728, o728 P) :: (nat_lit 729, o729 P) :: (nat_lit 730, o730 P) :: (nat_lit 738, o738 P) :: (nat_lit 739, o739 P) :: (nat_lit 740, o740 P) :: (nat_lit 742, o742 P) :: (nat_lit 743, o743 P) :: (nat_lit 745, o745 P) :: (nat_lit 746, o746 P) :: (nat_lit 747, o747 P) :: (nat_lit 748, o748 P) :: (nat_lit 749, o749 P) :: (nat_lit 750, o750 P) :: (nat_lit 751, o751 P) :: (nat_lit 761, o761 P) :: (nat_lit 764, o764 P) :: (nat_lit 765, o765 P) :: (nat_lit 766, o766 P) :: (nat_lit 768, o768 P) :: (nat_lit 769, o769 P) :: (nat_lit 771, o771 P) :: (nat_lit 772, o772 P) :: (nat_lit 773, o773 P) :: (nat_lit 775, o775 P) :: (nat_lit 776, o776 P) :: (nat_lit 778, o778 P) :: (nat_lit 779, o779 P) :: (nat_lit 780, o780 P) :: (nat_lit 782, o782 P) :: (nat_lit 783, o783 P) :: (nat_lit 785, o785 P) :: (nat_lit 786, o786 P) :: (nat_lit 787, o787 P) :: (nat_lit 789, o789 P) :: (nat_lit 790, o790 P) :: (nat_lit 792, o792 P) :: (nat_lit 793, o793 P) :: (nat_lit 794, o794 P) :: (nat_lit 796, o796 P) :: (nat_lit 797, o797 P) :: (nat_lit 799, o799 P) :: (nat_lit 800, o800 P) :: (nat_lit 801, o801 P) :: (nat_lit 803, o803 P) :: (nat_lit 804, o804 P) :: (nat_lit 806, o806 P) :: (nat_lit 807, o807 P) :: (nat_lit 808, o808 P) :: (nat_lit 810, o810 P) :: (nat_lit 811, o811 P) :: (nat_lit 813, o813 P) :: (nat_lit 814, o814 P) :: (nat_lit 815, o815 P) :: (nat_lit 817, o817 P) :: (nat_lit 818, o818 P) :: (nat_lit 820, o820 P) :: (nat_lit 821, o821 P) :: (nat_lit 822, o822 P) :: (nat_lit 824, o824 P) :: (nat_lit 825, o825 P) :: (nat_lit 827, o827 P) :: (nat_lit 828, o828 P) :: (nat_lit 829, o829 P) :: (nat_lit 831, o831 P) :: (nat_lit 832, o832 P) :: (nat_lit 834, o834 P) :: (nat_lit 835, o835 P) :: (nat_lit 836, o836 P) :: (nat_lit 838, o838 P) :: (nat_lit 839, o839 P) :: (nat_lit 841, o841 P) :: (nat_lit 842, o842 P) :: (nat_lit 843, o843 P) :: (nat_lit 845, o845 P) :: (nat_lit 846, o846 P) :: (nat_lit 848, o848 P) :: (nat_lit 849, o849 P) :: (nat_lit 850, o850 P) :: (nat_lit 852, o852 P) :: (nat_lit 853, o853 P) :: (nat_lit 855, o855 P) :: (nat_lit 856, o856 P) :: (nat_lit 857, o857 P) :: (nat_lit 858, o858 P) :: (nat_lit 859, o859 P) :: (nat_lit 860, o860 P) :: (nat_lit 861, o861 P) :: (nat_lit 864, o864 P) :: (nat_lit 867, o867 P) :: (nat_lit 868, o868 P) :: (nat_lit 869, o869 P) :: (nat_lit 871, o871 P) :: (nat_lit 872, o872 P) :: (nat_lit 874, o874 P) :: (nat_lit 875, o875 P) :: (nat_lit 876, o876 P) :: (nat_lit 879, o879 P) :: (nat_lit 880, o880 P) :: (nat_lit 881, o881 P) :: (nat_lit 883, o883 P) :: (nat_lit 884, o884 P) :: (nat_lit 886, o886 P) :: (nat_lit 887, o887 P) :: (nat_lit 888, o888 P) :: (nat_lit 891, o891 P) :: (nat_lit 892, o892 P) :: (nat_lit 893, o893 P) :: (nat_lit 895, o895 P) :: (nat_lit 896, o896 P) :: (nat_lit 898, o898 P) :: (nat_lit 899, o899 P) :: (nat_lit 900, o900 P) :: (nat_lit 902, o902 P) :: (nat_lit 903, o903 P) :: (nat_lit 905, o905 P) :: (nat_lit 906, o906 P) :: (nat_lit 907, o907 P) :: (nat_lit 909, o909 P) :: (nat_lit 910, o910 P) :: (nat_lit 912, o912 P) :: (nat_lit 913, o913 P) :: (nat_lit 914, o914 P) :: (nat_lit 917, o917 P) :: (nat_lit 918, o918 P) :: (nat_lit 919, o919 P) :: (nat_lit 921, o921 P) :: (nat_lit 922, o922 P) :: (nat_lit 924, o924 P) :: (nat_lit 925, o925 P) :: (nat_lit 926, o926 P) :: (nat_lit 928, o928 P) :: (nat_lit 929, o929 P) :: (nat_lit 931, o931 P) :: (nat_lit 932, o932 P) :: (nat_lit 933, o933 P) :: (nat_lit 936, o936 P) :: (nat_lit 937, o937 P) :: (nat_lit 938, o938 P) :: (nat_lit 940, o940 P) :: (nat_lit 941, o941 P) :: (nat_lit 943, o943 P) :: (nat_lit 944, o944 P) :: (nat_lit 945, o945 P) :: (nat_lit 947, o947 P) :: (nat_lit 948, o948 P) :: (nat_lit 950, o950 P) :: (nat_lit 951, o951 P) :: (nat_lit 952, o952 P) :: (nat_lit 954, o954 P) :: (nat_lit 955, o955 P) :: (nat_lit 957, o957 P) :: (nat_lit 958, o958 P) :: []
def asF : List Addr := [2, 3, 15, 17, 18, 20, 21, 22, 25, 26, 27, 29, 30, 32, 33, 34, 36, 37, 39, 40, 41, 43, 44, 46, 47, 48, 50, 51, 53, 54, 55, 62, 63, 64, 65, 68, 71, 76, 77, 79, 80, 82, 83, 84, 85, 86, 89, 92, 97, 98, 99, 101, 102, 104, 105, 106, 107, 108, 111, 114, 119, 120, 122, 123, 125, 126, 127, 128, 129, 132, 135, 140, 141, 143, 144, 146, 147, 148, 149, 150, 153, 156, 161, 162, 164, 165, 167, 168, 169, 170, 171, 174, 177, 182, 183, 184, 186, 187, 189, 190, 191, 192, 193, 196, 199, 204, 205, 206, 208, 209, 211, 212, 213, 214, 215, 218, 221, 226, 227, 229, 230, 232, 233, 234, 235, 236, 239, 242, 247, 248, 250, 251, 253, 254, 255, 256, 257, 260, 263, 268, 269, 271, 272, 274, 275, 276, 277, 278, 281, 284, 289, 290, 292, 293, 295, 296, 297, 298, 299, 302, 305, 310, 311, 313, 314, 316, 317, 318, 319, 320, 323, 326, 331, 332, 334, 335, 337, 338, 339, 340, 341, 344, 347, 352, 353, 355, 356, 358, 359, 360, 361, 362, 365, 368, 373, 374, 376, 377, 379, 380, 381, 382, 383, 386, 389, 394, 395, 397, 398, 400, 401, 402, 403, 404, 407, 410, 415, 416, 418, 419, 421, 422, 423, 424, 425, 428, 431, 436, 437, 439, 440, 442, 443, 444, 445, 446, 449, 452, 457, 458, 459, 461, 462, 464, 465, 466, 467, 468, 471, 474, 479, 480, 482, 483, 485, 486, 487, 488, 489, 492, 495, 500, 501, 503, 504, 506, 507, 508, 509, 510, 513, 516, 521, 522, 524, 525, 527, 528, 529, 530, 531, 534, 537, 542, 543, 545, 546, 548, 549, 550, 551, 552, 555, 558, 563, 564, 566, 567, 569, 570, 571, 572, 573, 576, 579, 584, 585, 587, 588, 590, 591, 592, 593, 594, 597, 600, 605, 606, 608, 609, 611, 612, 613, 614, 615, 625, 627, 628, 630, 631, 632, 634, 635, 637, 638, 639, 640, 641, 642, 643, 644, 645, 646, 656, 659, 660, 661, 663, 664, 666, 667, 668, 669, 670, 671, 673, 674, 676, 677, 678, 680, 681, 683, 684, 685, 687, 688, 690, 691, 692, 694, 695, 697, 698, 699, 700, 701, 702, 703, 706, 708, 709, 711, 712, 713, 715, 716, 718, 719, 720, 723, 724, 725, 728, 729, 730, 738, 739, 740, 742, 743, 745, 746, 747, 748, 749, 750, 751, 761, 764, 765, 766, 768, 769, 771, 772, 773, 775, 776, 778, 779, 780, 782, 783, 785, 786, 787, 789, 790, 792, 793, 794, 796, 797, 799, 800, 801, 803, 804, 806, 807, 808, 810, 811, 813, 814, 815, 817, 818, 820, 821, 822, 824, 825, 827, 828, 829, 831, 832, 834, 835, 836, 838, 839, 841, 842, 843, 845, 846, 848, 849, 850, 852, 853, 855, 856, 857, 858, 859, 860, 861, 864, 867, 868, 869, 871, 872, 874, 875, 876, 879, 880, 881, 883, 884, 886, 887, 888, 891, 892, 893, 895, 896, 898, 899, 900, 902, 903, 905, 906, 907, 909, 910, 912, 913, 914, 917, 918, 919, 921, 922, 924, 925, 926, 928, 929, 931, 932, 933, 936, 937, 938, 940, 941, 943, 944, 945, 947, 948, 950, 951, 952, 954, 955, 957, 958]
theorem as_eq : ∀ P : PySem.Params, asF = (KF P).map (fun x => x.1) := fun _ => by kernel_rfl
abbrev hookF : Hook := kmHook KF asF as_eq [934, 939, 946]
abbrev rowF : OpenRow := OpenLaw.row PySem.Challenge.rw_ruleengine_k48_plans_and_flows_refused
abbrev qvF : Program := view rowF.prog [0, 2, 3, 4, 5, 6, 7, 8, 9, 10, 11, 13, 14, 15, 16, 17, 18, 19, 20, 21, 22, 23, 24, 25, 26, 27, 28, 29, 30, 31, 32, 33, 34, 35, 36, 37, 38, 39, 41, 42, 43, 44, 45, 46, 47, 48, 50, 51, 52, 53, 55, 56, 57, 58, 59, 60, 61, 62, 63, 64, 65, 66, 67, 68]
def looseF : List PySem.Str := [S "InvalidSchema", S "InvalidPattern", S "InvalidRule", S "InvalidTemplate", S "Form", S "Schema", S "Plan"]
def obF (s : SharedT) : hookF.α := (asF.map (HandSHeadRun.getT s), ([934, 939, 946] : List Addr).map (HandSHeadRun.getT s))
theorem obF_eq (s : SharedT) : obF s = hookF.obs s.abs := by
  show (asF.map (HandSHeadRun.getT s), ([934, 939, 946] : List Addr).map (HandSHeadRun.getT s)) = (asF.map s.abs.heap.get?, ([934, 939, 946] : List Addr).map s.abs.heap.get?)
  rw [show HandSHeadRun.getT s = s.abs.heap.get? from funext (HandSHeadRun.getT_eq s)]
abbrev sqF (s : SharedT) := openSeen qvF looseF (importedModules rowF.prog.main.body) (fun s => xlAt qvF [] s && recOk rowF.records s) true s.abs
abbrev gdF := openGood qvF looseF
theorem runA (w : World) (os : OsState) : (HandSHeadRun.endF (HandSHeadRun.stepQ (HandSHeadRun.denQ HandSHeadRun.tabQ) rowF.prog w) 10078 rowF.prog w os).map (fun s => (HandSHeadRun.looksF rowF.prog (boot_heap w.params) s.abs, obF s, (sqF s).2.1)) = some (true, hookF.val w, gdF.2.1) := by kernel_rfl
theorem runB (w : World) (os : OsState) : (HandSHeadRun.endF (HandSHeadRun.stepQ (HandSHeadRun.denQ HandSHeadRun.tabQ) rowF.prog w) 10078 rowF.prog w os).map (fun s => (sqF s).1) = some (gdF.1) := by kernel_rfl
theorem runC (w : World) (os : OsState) : (HandSHeadRun.endF (HandSHeadRun.stepQ (HandSHeadRun.denQ HandSHeadRun.tabQ) rowF.prog w) 10078 rowF.prog w os).map (fun s => (sqF s).2.2.1) = some (gdF.2.2.1) := by kernel_rfl
theorem runD (w : World) (os : OsState) : (HandSHeadRun.endF (HandSHeadRun.stepQ (HandSHeadRun.denQ HandSHeadRun.tabQ) rowF.prog w) 10078 rowF.prog w os).map (fun s => ((sqF s).2.2.2.1, (sqF s).2.2.2.2.1, (sqF s).2.2.2.2.2.1)) = some (gdF.2.2.2.1, gdF.2.2.2.2.1, gdF.2.2.2.2.2.1) := by kernel_rfl
theorem runE (w : World) (os : OsState) : (HandSHeadRun.endF (HandSHeadRun.stepQ (HandSHeadRun.denQ HandSHeadRun.tabQ) rowF.prog w) 10078 rowF.prog w os).map (fun s => ((sqF s).2.2.2.2.2.2.1, (sqF s).2.2.2.2.2.2.2.1, (sqF s).2.2.2.2.2.2.2.2)) = some (gdF.2.2.2.2.2.2.1, gdF.2.2.2.2.2.2.2.1, gdF.2.2.2.2.2.2.2.2) := by kernel_rfl
theorem join3 {α β γ δ : Type} {r : Option α} {f : α → β} {g : α → γ} {h : α → δ} {b : β} {c : γ} {d : δ} (e1 : r.map (fun s => (f s, g s, h s)) = some (b, c, d)) : r.map f = some b ∧ r.map g = some c ∧ r.map h = some d := by
  cases r with
  | none => cases e1
  | some s =>
    have e := Option.some.inj e1
    exact ⟨congrArg some (congrArg Prod.fst e), congrArg some (congrArg (fun x => x.2.1) e), congrArg some (congrArg (fun x => x.2.2) e)⟩
theorem made3 {α β γ δ : Type} {r : Option α} {f : α → β} {g : α → γ} {h : α → δ} {b : β} {c : γ} {d : δ} (e1 : r.map f = some b) (e2 : r.map g = some c) (e3 : r.map h = some d) : r.map (fun s => (f s, g s, h s)) = some (b, c, d) := by
  cases r with
  | none => cases e1
  | some s => exact congrArg some (by
    show (f s, g s, h s) = _
    rw [Option.some.inj e1, Option.some.inj e2, Option.some.inj e3])
theorem made9 {α A B C D E F G H I : Type} {r : Option α} {f : α → A × B × C × D × E × F × G × H × I} {g : A × B × C × D × E × F × G × H × I}
    (e1 : r.map (fun s => (f s).1) = some g.1) (e2 : r.map (fun s => (f s).2.1) = some g.2.1) (e3 : r.map (fun s => (f s).2.2.1) = some g.2.2.1) (e4 : r.map (fun s => (f s).2.2.2.1) = some g.2.2.2.1)
    (e5 : r.map (fun s => (f s).2.2.2.2.1) = some g.2.2.2.2.1) (e6 : r.map (fun s => (f s).2.2.2.2.2.1) = some g.2.2.2.2.2.1) (e7 : r.map (fun s => (f s).2.2.2.2.2.2.1) = some g.2.2.2.2.2.2.1)
    (e8 : r.map (fun s => (f s).2.2.2.2.2.2.2.1) = some g.2.2.2.2.2.2.2.1) (e9 : r.map (fun s => (f s).2.2.2.2.2.2.2.2) = some g.2.2.2.2.2.2.2.2) : r.map f = some g := by
  cases r with
  | none => cases e1
  | some s =>
    refine congrArg some ?_
    obtain ⟨a, b, c, d, e, x, y, z, u⟩ := g
    exact Prod.ext (Option.some.inj e1) (Prod.ext (Option.some.inj e2) (Prod.ext (Option.some.inj e3) (Prod.ext (Option.some.inj e4) (Prod.ext (Option.some.inj e5) (Prod.ext (Option.some.inj e6) (Prod.ext (Option.some.inj e7) (Prod.ext (Option.some.inj e8) (Option.some.inj e9))))))))
theorem runF (w : World) : HandSHeadRun.RunEq rowF qvF hookF obF 10078 looseF w := by
  intro os
  obtain ⟨a1, a2, a3⟩ := join3 (runA w os)
  obtain ⟨d1, d2, d3⟩ := join3 (runD w os)
  obtain ⟨f1, f2, f3⟩ := join3 (runE w os)
  have hb := made9 (f := sqF) (g := gdF) (runB w os) a3 (runC w os) d1 d2 d3 f1 f2 f3
  have hf : sqF = fun s : SharedT => HandSHeadRun.seenQ qvF looseF (importedModules rowF.prog.main.body) (fun s => xlAt qvF [] s && recOk rowF.records s) s.abs := funext fun s => HandSHeadRun.seenQ_eq _ _ _ _ _
  rw [hf] at hb
  exact made3 a1 hb a2
end
end KH

namespace K2
open PySem L2
section
variable {P : Program} {w : World} {K : PySem.W.Frag} {mg : Str → Option Value} {base : Heap}
def CellsOk (cs : List Int) : Prop := cs.length = 64 ∧ ∀ c ∈ cs, 0 ≤ c ∧ c < 2147483648
theorem CellsOk.set {cs : List Int} (h : CellsOk cs) (j : Nat) {v : Int} (h0 : 0 ≤ v) (h1 : v < 2147483648) : CellsOk (cs.set j v) := by
  refine ⟨by rw [List.length_set]; exact h.1, fun c hc => ?_⟩
  rcases List.mem_or_eq_of_mem_set hc with z | z
  · exact h.2 c z
  · rw [z]
    exact ⟨h0, h1⟩
theorem getI {cs : List Int} {j : Nat} (h : j < cs.length) : (cs.map V.int)[j]? = some (V.int cs[j]) := by simp [h]
def spFolded (K : PySem.W.Frag) : Sp := fun vs H Q _ => ∃ (a : Addr) (ns : List Int), vs = [.ref a] ∧ SqL K H a (ns.map V.int) ∧
  ∀ H' p cs, Same H H' → H p = none → H' p = some (.lst (cs.map V.int)) → CellsOk cs → Q (.ref p) H'
theorem scFolded : FnScope ["_law_script", "_law_n", "_law_found", "_law_cell"] ["_law_script"] (defScope sFolded) := ⟨rfl, rfl, rfl, by decide +kernel, rfl, by decide +kernel, by decide +kernel⟩
theorem same_upd {H0 H : Hp} {D : Addr} {o : HO} (s : Same H0 H) (n : H0 D = none) : Same H0 (upd H D o) := fun b x e => by
  rw [upd_ne (ne_of_none e n)]
  exact s b x e
theorem ok_folded {f : Addr} {fd : FuncData} (F : Fun K "_law_folded" "_law_folded" sFolded f fd) (gR : mg "range" = none) (gE : mg "enumerate" = none) :
    FnOk P w K mg base CX0 1 f fd ["_law_script"] (spFolded K) := by
  refine F.ok scFolded (fun vs H Q E h => ?_) (fun cdv A outer s H vs Q E hr h => ?_)
  · obtain ⟨a, ns, rfl, _⟩ := h
    rfl
  · obtain ⟨a, ns, rfl, hS, k⟩ := h
    refine ⟨_, pss_cons (ps_setLc (i := 2) (own := [("_law_n", 1)]) (g := gName 1) (tt := tYes) rfl scFolded.nd rfl rfl (sw_true rfl rfl rfl (by decide +kernel)) (pi_range1 rfl gR (pa_cons pe_int pa_nil))
          (blkOk_by (N := ["_law_script", "_law_n", "_law_found", "_law_cell"]) (sc := defScope sFolded) (by decide +kernel)) (fun _ _ _ _ _ => pg_name (i := 1) scFolded.nd rfl (Or.inl rfl)) (fun _ _ _ _ _ => pts_nil) (fun _ _ _ _ _ => pe_op op_add pe_int (pv 1)))
      (pss_cons (ps_for PassesOwn.never rfl (pi_enum rfl gE (pa_cons (pv 0) pa_nil)) (pg_tup (by rfl) (pgs_cons (pg_name (i := 1) scFolded.nd rfl (.inl rfl)) (pgs_cons (pg_name (i := 3) scFolded.nd rfl (.inl rfl)) pgs_nil)))
        (pss_one (ps_asg (pe_op op_mod (pe_op op_add (pe_op op_mul (pe_ix ix_list (pv 2) (pe_op op_mod (pv 1) pe_int) (fun _ _ => rfl)) pe_int) (pv 3)) pe_int) (pg_sub (pv 2) (pe_op op_mod (pv 1) pe_int) set_list))))
      (pss_cons (ps_for PassesOwn.never rfl (pi_range2 rfl gR (pa_cons pe_int (pa_cons pe_int pa_nil))) (pg_name (i := 1) scFolded.nd rfl (Or.inl rfl))
        (pss_one (ps_asg (pe_op op_mod (pe_op op_add (pe_ix ix_list (pv 2) (pv 1) (fun _ _ => rfl)) (pe_op op_mul (pe_ix ix_list (pv 2) (pe_op op_sub (pv 1) pe_int) (fun _ _ => rfl)) pe_int)) pe_int) (pg_sub (pv 2) (pv 1) set_list))))
      (pss_one (ps_ret (pv 2))))), ?_⟩
    refine ⟨64, rfl, by decide, by decide, fun D hD => lc_range (n := 64) (fun i H' => Same H H' ∧ H' D = some (.lst (((List.range i).map fun k : Nat => (17 + (k : Int))).map V.int))) ⟨same_upd (Same.refl H) hD, by rw [upd_same]; rfl⟩ ?_ ?_⟩
    · rintro i H' hi ⟨s1, h1⟩
      refine ⟨rfl, ?_⟩
      dsimp only [tYes]
      rw [if_pos rfl]
      refine ⟨_, rfl, _, _, rfl, rfl, _, h1, ?_, same_upd s1 hD, ?_⟩
      · rw [List.length_map, List.length_map, List.length_range]
        exact Nat.lt_trans hi (by decide)
      · rw [upd_same, List.range_succ]
        simp
    · rintro H' ⟨s1, h1⟩
      generalize ecs : ((List.range 64).map fun k : Nat => (17 + (k : Int))) = cs at h1
      have ok0 : CellsOk cs := by
        rw [← ecs]
        refine ⟨by simp, fun c hc => ?_⟩
        obtain ⟨k, hk, rfl⟩ := List.mem_map.mp hc
        have := List.mem_range.mp hk
        omega
      refine ⟨_, rfl, a, _, rfl, s1.seq hS, for_it walk_enum (fun _ σ H2 => ∃ (v1 v3 : Option V) (ds : List Int), σ = [some (.ref a), v1, some (.ref D), v3] ∧ Same H H2 ∧ H2 D = some (.lst (ds.map V.int)) ∧ CellsOk ds) ⟨_, _, cs, rfl, s1, h1, ok0⟩ (fun i σ H2 _ ⟨_, _, _, _, s2, _⟩ => s2.seq hS) ?_ ?_⟩
      · rintro i x σ H2 H3 hi ⟨v1, v3, ds, rfl, s2, h2, ok2⟩ ⟨T, y, z, rfl, hT, rfl, ey, ez⟩
        have ey : some (V.int (i : Nat)) = some y := ey
        cases ey
        have ez : (ns.map V.int)[i]? = some z := ez
        rw [List.length_map] at hi
        rw [getI hi] at ez
        cases ez
        have h2' : (upd H2 T (.tup [.int (i : Nat), .int ns[i]])) D = some (.lst (ds.map V.int)) := by rw [upd_ne (ne_of_none h2 hT)]; exact h2
        refine ⟨T, _, rfl, .inl (.inl upd_same), rfl, _, _, rfl, ?_⟩
        refine ⟨_, _, rfl, rfl, ?_⟩
        have j0 : ((i : Nat) : Int) % 64 = ((i % 64 : Nat) : Int) := by omega
        have jl : i % 64 < ds.length := by rw [ok2.1]; omega
        refine ⟨_, rfl, _, rfl, _, _, rfl, rfl, (by show (0 : Int) < 64; decide), _, _, _, _, rfl, rfl, SqL.of h2', at_of j0 (getI jl), _, _, rfl, rfl, .inr ⟨by decide, by decide⟩, _, rfl, _, _, rfl, rfl, _, _, rfl, rfl, (by show (0 : Int) < 2147483647; decide), ?_⟩
        refine ⟨_, rfl, _, rfl, _, _, rfl, rfl, (by show (0 : Int) < 64; decide), _, _, _, i % 64, rfl, rfl, h2', (by rw [j0]; exact ixN_n (by rw [List.length_map]; exact jl)), ?_⟩
        have b0 := Int.emod_nonneg (ds[i % 64] * 48271 + ns[i]) (show (2147483647 : Int) ≠ 0 by decide)
        have b1 := Int.emod_lt_of_pos (ds[i % 64] * 48271 + ns[i]) (show (0 : Int) < 2147483647 by decide)
        exact ⟨_, _, ds.set (i % 64) ((ds[i % 64] * 48271 + ns[i]) % 2147483647), rfl, same_upd (same_upd s2 (s2.free hT)) hD, by rw [upd_same, List.map_set], ok2.set _ b0 (by omega)⟩
      · rintro σ H2 ⟨v1, v3, ds, rfl, s2, h2, ok2⟩
        refine ⟨1, 64, rfl, ⟨by decide, by decide, by decide, by decide⟩, for_range (lo := 1) (n := 63) (fun _ σ H3 => ∃ (v1 v3 : Option V) (ds : List Int), σ = [some (.ref a), v1, some (.ref D), v3] ∧ Same H H3 ∧ H3 D = some (.lst (ds.map V.int)) ∧ CellsOk ds) ⟨_, _, ds, rfl, s2, h2, ok2⟩ ?_ ?_⟩
        · rintro i σ H3 hi ⟨v1, v3, es, rfl, s3, h3, ok3⟩
          have j0 : (1 + ((i : Nat) : Int)) = ((i + 1 : Nat) : Int) := by omega
          have j1 : (1 + ((i : Nat) : Int)) - 1 = ((i : Nat) : Int) := by omega
          have jl : i + 1 < es.length := by rw [ok3.1]; omega
          have jk : i < es.length := by omega
          refine ⟨_, rfl, _, rfl, _, _, _, _, rfl, rfl, SqL.of h3, at_of j0 (getI jl), _, rfl, _, rfl, _, _, rfl, rfl, _, _, _, _, rfl, rfl, SqL.of h3, at_of j1 (getI jk), _, _, rfl, rfl, .inr ⟨by decide, by decide⟩, _, _, rfl, rfl, _, _, rfl, rfl, (by show (0 : Int) < 2147483647; decide), ?_⟩
          refine ⟨_, rfl, _, rfl, _, _, _, i + 1, rfl, rfl, h3, (by rw [j0]; exact ixN_n (by rw [List.length_map]; exact jl)), ?_⟩
          have b0 := Int.emod_nonneg (es[i + 1] + es[i] * 16807) (show (2147483647 : Int) ≠ 0 by decide)
          have b1 := Int.emod_lt_of_pos (es[i + 1] + es[i] * 16807) (show (0 : Int) < 2147483647 by decide)
          exact ⟨_, _, es.set (i + 1) ((es[i + 1] + es[i] * 16807) % 2147483647), rfl, same_upd s3 hD, by rw [upd_same, List.map_set], ok3.set _ b0 (by omega)⟩
        · rintro σ H3 ⟨v1, v3, es, rfl, s3, h3, ok3⟩
          exact ⟨_, rfl, k _ _ _ s3 hD h3 ok3⟩
end
end K2

namespace K2
open PySem L2
section
variable {P : Program} {w : World} {K : PySem.W.Frag} {mg : Str → Option Value} {base : Heap}
def spBegun (K : PySem.W.Frag) : Sp := fun vs H Q _ => ∃ (a : Addr) (ns : List Int), vs = [.ref a] ∧ SqL K H a (ns.map V.int) ∧ ns.length ≤ 63 ∧
  ∀ H' m lc lg, Same H H' → H m = none → H lg = none → MA m lc lg 0 H' → Q (.ref m) H'
theorem scBegun : FnScope ["_law_script", "_law_m", "_law_cell"] ["_law_script"] (defScope sBegun) := ⟨rfl, rfl, rfl, by decide +kernel, rfl, by decide +kernel, by decide +kernel⟩
theorem ok_begun {f fM : Addr} {fd fdM : FuncData} (F : Fun K "_law_begun" "_law_begun" sBegun f fd) (FM : Fun K "_law_folded" "_law_folded" sFolded fM fdM) (bM : Binds K fdM ["_law_script"] []) (gM : mg "_law_folded" = some (.ref fM)) (gR : mg "range" = none) (gE : mg "enumerate" = none) :
    FnOk P w K mg base CX0 2 f fd ["_law_script"] (spBegun K) := by
  have GM : FnOk P w K mg base CX0 1 fM fdM ["_law_script"] (spFolded K) := ok_folded FM gR gE
  refine F.ok scBegun (fun vs H Q E h => ?_) (fun cdv A outer s H vs Q E hr h => ?_)
  · obtain ⟨a, ns, rfl, _⟩ := h
    rfl
  · obtain ⟨a, ns, rfl, hS, hl, k⟩ := h
    have hu := hu_of hr
    refine ⟨_, pss_cons (ps_set (i := 1) scBegun.nd rfl (Or.inl rfl) (pe_disp (pps_cons pe_str (pe_call GM hr rfl gM FM.kp bM .nil pass0 (pa_cons (pv 0) pa_nil)) (pps_cons pe_str (pe_lst pa_nil) (pps_cons pe_str pe_int pps_nil))) rfl rfl (by intro q; cases q) (by decide)))
      (pss_cons (ps_dput hu (pv 1) pe_str (pe_lc (own := [("_law_cell", 2)]) (g := gName 2) (tt := tYes) rfl scBegun.nd (pi_list (pv 0))
          (blkOk_by (N := ["_law_script", "_law_m", "_law_cell"]) (sc := defScope sBegun) (by decide +kernel)) (fun _ _ _ _ _ => pg_name (i := 2) scBegun.nd rfl (Or.inl rfl)) (fun _ _ _ _ _ => pts_nil)
          (fun _ _ _ _ _ => pe_ifExp (pt_cmpR op_ge (pv 2) (pe_op op_pow pe_int pe_int) (nomark _)) (pv 2) pe_int)) rfl)
      (pss_one (ps_ret (pv 1)))), ?_⟩
    intro m hm
    refine ⟨_, rfl, a, ns, rfl, (same_upd (Same.refl H) hm).seq hS, fun H1 lc cs s1 nlc hc okc => ?_⟩
    refine ⟨by decide, fun l0 nl0 => ?_⟩
    have s0 : Same H H1 := (same_upd (Same.refl H) hm).trans s1
    have nm1 : lc ≠ m := fun e => by
      rw [e, upd_same] at nlc
      cases nlc
    have hm1 : H1 m = some (.dK []) := s1 _ _ upd_same
    have e1 : (upd H1 l0 (.lst [])) m = some (.dK []) := by rw [upd_ne (ne_of_none hm1 nl0)]; exact hm1
    have e2 : (upd H1 l0 (.lst [])) lc = some (.lst (cs.map V.int)) := by rw [upd_ne (ne_of_none hc nl0)]; exact hc
    refine ⟨e1, mD lc l0 0, rfl, (by show 3 ≤ 15; decide), ?_⟩
    have em : mergeK [] (mD lc l0 0) = mD lc l0 0 := by
      simp only [mergeK, mD, List.foldl_cons, List.foldl_nil, putK, List.any_nil, List.any_cons, List.nil_append, List.cons_append, Bool.false_eq_true, if_false, decide_eq_false cg_, decide_eq_false ce_, decide_eq_false ge_, Bool.or_false]
    rw [em]
    generalize eH2 : upd (upd H1 l0 (.lst [])) m (.dK (mD lc l0 0)) = H2
    have hm2 : H2 m = some (.dK (mD lc l0 0)) := by rw [← eH2, upd_same]
    have hc2 : H2 lc = some (.lst (cs.map V.int)) := by rw [← eH2, upd_ne nm1]; exact e2
    have s2 : Same H H2 := fun b o e => by
      rw [← eH2, upd_ne (ne_of_none e hm)]
      exact same_upd s0 (s0.free nl0) b o e
    refine ⟨_, rfl, a, rfl, ⟨_, s2.seq hS⟩, fun D hD => lc_list (xs := ns.map V.int) (K := K) (a := a) (fun i H' => ∃ gs : List Int, Same H H' ∧ H' m = some (.dK (mD lc l0 0)) ∧ H' lc = some (.lst (cs.map V.int)) ∧ H' D = some (.lst (gs.map V.int)) ∧ gs.length = i) ⟨[], same_upd s2 (s2.free hD), by rw [upd_ne (ne_of_none hm2 hD)]; exact hm2, by rw [upd_ne (ne_of_none hc2 hD)]; exact hc2, upd_same, rfl⟩ (fun i H' _ ⟨_, s', _⟩ => s'.seq hS) ?_ ?_⟩
    · rintro i x H' hx ⟨gs, s', h1, h2, h3, h4⟩
      have hi : i < ns.length := by
        have q := (List.getElem?_eq_some_iff.mp hx).1
        rw [List.length_map] at q
        exact q
      rw [getI hi] at hx
      cases hx
      have go : ∀ z : Int, ∃ acc, H' D = some (.lst acc) ∧ acc.length < sizeLine ∧ ∃ gs : List Int, Same H (upd H' D (.lst (acc ++ [V.int z]))) ∧ (upd H' D (.lst (acc ++ [V.int z]))) m = some (.dK (mD lc l0 0)) ∧ (upd H' D (.lst (acc ++ [V.int z]))) lc = some (.lst (cs.map V.int)) ∧ (upd H' D (.lst (acc ++ [V.int z]))) D = some (.lst (gs.map V.int)) ∧ gs.length = i + 1 := fun z => by
        refine ⟨_, h3, ?_, gs ++ [z], same_upd s' (s2.free hD), ?_, ?_, ?_, ?_⟩
        · rw [List.length_map, h4]
          exact Nat.lt_of_lt_of_le hi (Nat.le_trans hl (by decide))
        · rw [upd_ne (ne_of_none hm2 hD)]; exact h1
        · rw [upd_ne (ne_of_none hc2 hD)]; exact h2
        · rw [upd_same, List.map_append]; rfl
        · rw [List.length_append, h4]; rfl
      refine ⟨rfl, ?_⟩
      dsimp only [tYes]
      rw [if_pos rfl]
      refine ⟨_, rfl, _, _, rfl, rfl, ⟨by decide, by decide, by decide⟩, _, _, rfl, rfl, _, rfl, ?_⟩
      refine ite2 (fun _ => ⟨_, rfl, go _⟩) (fun _ => go _)
    · rintro H' ⟨gs, s', h1, h2, h3, h4⟩
      refine ⟨_, rfl, m, _, rfl, DPut.k (k := Sum.inr "great") h1 (by show 3 < sizeLine; decide), ?_⟩
      rw [mD_putg]
      have nDm : D ≠ m := (ne_of_none hm2 hD).symm
      have nDc : D ≠ lc := (ne_of_none hc2 hD).symm
      refine ⟨_, rfl, k _ m lc D (fun b o e => ?_) hm (s2.free hD) ⟨upd_same, nDc.symm, ⟨cs, by rw [upd_ne nm1]; exact h2, okc.1, okc.2⟩, ⟨gs, by rw [upd_ne nDm]; exact h3, ?_⟩, by decide⟩⟩
      · rw [upd_ne (ne_of_none e hm)]
        exact s' b o e
      · rw [h4, List.length_map]
        exact hl
end
end K2

namespace K2
open PySem L2
/-! ### names -/
def LET : Str := "ABCDEFGHIJKLMNOPQRSTUVWXYZabcdefghijklmnopqrstuvwxyz"
def SIG : Str := "ABCDEFGHIJKLMNOPQRSTUVWXYZabcdefghijklmnopqrstuvwxyz0123456789_"
def LLET : Str := "abcdefghijklmnopqrstuvwxyzABCDEFGHIJKLMNOPQRSTUVWXYZ"
def DIG : Str := "0123456789_"
def inS (z : Str) (c : Nat) : Bool := decide (c ∈ z.cps.toList)
def nameS (z : Str) : Bool := decide (1 ≤ z.length) && decide (z.length ≤ 20) && (match z.cps.toList with | [] => false | c :: _ => inS LET c) && z.cps.toList.all (inS SIG)
def nameV : V → Bool
  | .str z => nameS z
  | _ => false
def NotStr (K : PySem.W.Frag) (H : Hp) (v : V) : Prop := (∀ z, v ≠ .str z) ∧ (∀ a, v = .ref a → ∃ o, H a = some o) ∧ ∃ t, TyX K H v t ∧ PySem.W.kitOne K t (.type "str") = some false
def Val (K : PySem.W.Frag) (H : Hp) (v : V) : Prop := (∃ z, v = .str z ∧ z.length ≤ 1000 ∧ PyData.strOk z = true) ∨ NotStr K H v
theorem NotStr.nameV {K : PySem.W.Frag} {H : Hp} {v : V} (h : NotStr K H v) : nameV v = false := by
  cases v with
  | str z => exact absurd rfl (h.1 z)
  | _ => rfl
section
variable {P : Program} {w : World} {K : PySem.W.Frag} {mg : Str → Option Value} {base : Heap}
def spName (K : PySem.W.Frag) : Sp := fun vs H Q _ => ∃ v, vs = [v] ∧ Val K H v ∧ ∀ H', Same H H' → Q (.bl (nameV v)) H'
structure TxtN (mg : Str → Option Value) : Prop where
  isi : mg "isinstance" = none
  str : mg "str" = none
  len : mg "len" = none
  all : mg "all" = none
  mx : ∃ t, mg "MAX_NAME" = some (.int 20 t)
  lt : ∃ t, mg "LETTERS" = some (.str LET t)
  sg : ∃ t, mg "NAME_SIGNS" = some (.str SIG t)
  tx : ∃ t, mg "TEXT" = some (.str "text" t)
  rw_ : ∃ t, mg "ROW_SIGN" = some (.str "*" t)
theorem scName : FnScope ["value", "sign"] ["value"] (defScope sName) := ⟨rfl, rfl, rfl, by decide +kernel, rfl, by decide +kernel, by decide +kernel⟩
theorem ok_name {f : Addr} {fd : FuncData} (F : Fun K "is_name" "is_name" sName f fd) (T : TxtN mg) : FnOk P w K mg base CX0 1 f fd ["value"] (spName K) := by
  refine F.ok scName (fun vs H Q E h => ?_) (fun cdv A outer s H vs Q E hr h => ?_)
  · obtain ⟨v, rfl, _⟩ := h
    rfl
  · obtain ⟨v, rfl, hv, k⟩ := h
    have hu := hu_of hr
    obtain ⟨tm, mx⟩ := T.mx
    obtain ⟨tl, lt⟩ := T.lt
    obtain ⟨tg, sg⟩ := T.sg
    refine ⟨_, pss_cons (ps_if (PW.pt (pw_or (pt_not (pt_val (pe_callB call_isi (by rfl) T.isi PyProof.Rows.boot_isinstance (pa_cons (pv 0) (pa_cons (pe_bltn (v := .ty "str") rfl T.str PyProof.Rows.boot_str rfl) pa_nil)))))
          (pw_or1 (pt_not (pt_chain op_le op_le pe_int (pe_callB call_len (by rfl) T.len PySem.boot_len (pa_cons (pv 0) pa_nil)) (pe_glob (v := .int 20) rfl mx ⟨_, rfl⟩))))))
        (pss_one (ps_ret pe_bl)) pss_nil)
      (pss_one (ps_ret (pe_and (pe_cmpR op_in_sign (pe_ix ix_str (pv 0) pe_int (fun _ _ => rfl)) (pe_glob (v := .str LET) rfl lt ⟨_, rfl⟩) (by rfl))
        (pe_one (pe_callB (cr_all rfl) (by rfl) T.all (show bootBuiltins "all" = some (.builtin "all") by decide +kernel) (pa_cons (pe_lc (own := [("sign", 1)]) (g := gName 1) (tt := tYes) rfl scName.nd (pi_str (pv 0)) (blkOk_by (N := ["value", "sign"]) (sc := defScope sName) (by decide +kernel))
          (fun _ _ _ _ _ => pg_name (i := 1) scName.nd rfl (Or.inl rfl)) (fun _ _ _ _ _ => pts_nil) (fun _ _ _ _ _ => pe_cmpR op_in_sign (pv 1) (pe_glob (v := .str SIG) rfl sg ⟨_, rfl⟩) (by rfl))) pa_nil)))))), ?_⟩
    rcases hv with ⟨z, rfl, hz, ho⟩ | hv
    · refine ⟨_, rfl, _, _, _, _, true, rfl, .ty "str", .base (.str z), kit_ty (by decide +kernel), _, rfl, ?_⟩
      refine iteF ?_
      -- 1 <= len(value) <= MAX_NAME
      have hz' : z.length ≤ sizeLine := Nat.le_trans hz (by decide)
      refine ⟨_, rfl, _, z.length, rfl, ⟨hz', rfl⟩, _, _, rfl, rfl, _, rfl, ?_⟩
      have eL : z.length = z.cps.toList.length := by simp [Str.length]
      have no : nameS z = false → Q (.bl false) H := fun e => by
        have q := k H (Same.refl H)
        change Q (V.bl (nameS z)) H at q
        rw [e] at q
        exact q
      refine ite2 (fun h1 => ?_) (fun h1 => ?_)
      · have h1' : 1 ≤ z.length := by have := of_decide_eq_true h1; omega
        refine ⟨_, _, rfl, rfl, _, rfl, ?_⟩
        by_cases h2 : ((z.length : Nat) : Int) ≤ 20
        · rw [decide_eq_true h2]
          refine iteF ?_
          have h2' : z.length ≤ 20 := by omega
          obtain ⟨c, l, ec⟩ : ∃ c l, z.cps.toList = c :: l := by
            cases q : z.cps.toList with
            | nil => rw [eL, q] at h1'; cases h1'
            | cons c l => exact ⟨c, l, rfl⟩
          have en : nameS z = (inS LET c && z.cps.toList.all (inS SIG)) := by
            unfold nameS
            rw [decide_eq_true h1', decide_eq_true h2', ec]
            rfl
          refine ⟨_, rfl, z, 0, c, rfl, rfl, hz', (atI_nat (j := 0) (by rw [ec]; rfl) : atI z.cps.toList ((0 : Nat) : Int) = some c), c, LET, rfl, rfl, _, rfl, ?_⟩
          refine ite2 (fun h3 => ?_) (fun h3 => ?_)
          · refine ⟨_, rfl, z, rfl, fun D hD => lc_it walk_str (fun i H' => Same H H' ∧ H' D = some (.lst (((z.cps.toList.take i).map (inS SIG)).map V.bl))) ⟨same_upd (Same.refl H) hD, by rw [upd_same]; rfl⟩ (fun _ _ _ _ => True.intro) ?_ ?_⟩
            · rintro i x H1 H2 hi ⟨s1, e1⟩ ⟨rfl, y, hy, rfl⟩
              have hy' : z.cps.toList[i]? = some y := by simpa using hy
              refine ⟨rfl, ?_⟩
              dsimp only [tYes]
              rw [if_pos rfl]
              refine ⟨_, rfl, y, SIG, rfl, rfl, _, e1, ?_, same_upd s1 hD, ?_⟩
              · rw [List.length_map, List.length_map]
                exact Nat.lt_of_le_of_lt (List.length_take_le _ _) (by
                  have : i < z.length := by rw [eL]; simpa using hi
                  exact Nat.lt_of_lt_of_le this hz')
              · rw [upd_same, List.take_add_one, hy']
                simp [inS]
            · rintro H1 ⟨s1, e1⟩
              rw [show z.cps.size = z.cps.toList.length by simp, List.take_length] at e1
              refine ⟨D, _, rfl, SqL.of e1, ?_⟩
              have q := k H1 s1
              change Q (V.bl (nameS z)) H1 at q
              rw [en, show inS LET c = true from h3] at q
              have e3 : ∀ l : List Nat, (l.map (inS SIG)).all id = l.all (inS SIG) := fun l => by
                induction l with
                | nil => rfl
                | cons a l ih => simp [ih]
              rw [e3]
              exact q
          · refine no ?_
            rw [en, show inS LET c = false from Bool.not_eq_true _ ▸ h3]
            rfl
        · rw [decide_eq_false h2]
          refine iteT ?_
          refine no ?_
          unfold nameS
          rw [decide_eq_false (show ¬ z.length ≤ 20 by omega)]
          simp
      · refine ⟨_, rfl, ?_⟩
        have e0 : z.length = 0 := by
          have : ¬ (1 : Int) ≤ z.length := fun q => h1 (decide_eq_true q)
          omega
        refine iteT ?_
        refine no ?_
        unfold nameS
        rw [e0]
        rfl
    · obtain ⟨t, ht, hk⟩ := hv.2.2
      refine ⟨_, rfl, _, _, _, _, false, rfl, .ty "str", ht, hk, _, rfl, ?_⟩
      refine iteT (iteT ?_)
      have q := k H (Same.refl H)
      rw [hv.nameV] at q
      exact q
end
end K2

namespace K2
open PySem L2
/-! ### the mathematics of names -/
theorem str_ext {a b : Str} (h : a.cps.toList = b.cps.toList) : a = b := by
  cases a; cases b; simp at h; subst h; rfl
theorem len_toList (z : Str) : z.length = z.cps.toList.length := by simp [Str.length]
theorem mem_same {a b : Str} (h1 : (a.cps.toList.all fun x => decide (x ∈ b.cps.toList)) = true) (h2 : (b.cps.toList.all fun x => decide (x ∈ a.cps.toList)) = true) (c : Nat) : inS a c = inS b c := by
  have e : c ∈ a.cps.toList ↔ c ∈ b.cps.toList := by
    rw [List.all_eq_true] at h1 h2
    exact ⟨fun h => of_decide_eq_true (h1 c h), fun h => of_decide_eq_true (h2 c h)⟩
  unfold inS
  exact decide_eq_decide.mpr e
theorem let_same (c : Nat) : inS LLET c = inS LET c := mem_same (by decide +kernel) (by decide +kernel) c
def LSIG : Str := LLET ++ DIG
theorem sig_same (c : Nat) : inS LSIG c = inS SIG c := mem_same (by decide +kernel) (by decide +kernel) c
def stk (z : Str) : Str := if Txt.endswith z "*" = true then cutS z none (some (-1)) else z
def sortS (z : Str) : Bool := nameS z && !decide (z = "text")
def takenS (z : Str) : Bool := decide (z = "text") || sortS (stk z)
def lTakenS (z : Str) : Bool := !decide (z = "text*") && (if Txt.endswith z "*" = true then nameS (cutS z none (some (-1))) else nameS z)
def sortV : V → Bool
  | .str z => sortS z
  | _ => false
def takenV : V → Bool
  | .str z => takenS z
  | _ => false
theorem cut_list (z : Str) : (cutS z none (some (-1))).cps.toList = z.cps.toList.dropLast := by
  unfold cutS
  have e0 : HT.sIx z.length 0 none = 0 := rfl
  have e1 : HT.sIx z.length z.length (some (-1)) = z.length - 1 := by
    show (if (-1 : Int) < 0 then ((-1 : Int) + (z.length : Int)).toNat else min (-1 : Int).toNat z.length) = z.length - 1
    rw [if_pos (by decide)]
    omega
  rw [e0, e1]
  simp [List.dropLast_eq_take, Str.length]
theorem ends_iff (z : Str) (h : Txt.endswith z "*" = true) : z.cps.toList = (cutS z none (some (-1))).cps.toList ++ [42] := by
  unfold Txt.endswith at h
  simp only [Bool.and_eq_true, decide_eq_true_eq] at h
  obtain ⟨h1, h2⟩ := h
  have l1 : ("*" : Str).length = 1 := by decide +kernel
  rw [l1] at h1 h2
  rw [StrLaws.subAt_eq, l1] at h2
  have h2 := eq_of_beq h2
  have l2 : ("*" : Str).cps.toList = [42] := by decide +kernel
  rw [l2] at h2
  rw [cut_list]
  have hl : z.cps.toList.length = z.length := (len_toList z).symm
  have h3 : z.cps.toList.drop (z.length - 1) = [42] := by
    have : (z.cps.toList.drop (z.length - 1)).length = 1 := by rw [List.length_drop, hl]; omega
    rw [← h2, List.take_of_length_le (by omega)]
  have h4 := List.take_append_drop (z.length - 1) z.cps.toList
  rw [h3] at h4
  rw [List.dropLast_eq_take, hl]
  exact h4.symm
theorem taken_same (z : Str) : takenS z = lTakenS z := by
  unfold takenS lTakenS stk sortS
  cases he : Txt.endswith z "*" with
  | false =>
    rw [if_neg Bool.false_ne_true, if_neg Bool.false_ne_true]
    have n1 : ¬ z = "text*" := fun q => by
      rw [q] at he
      exact absurd he (by decide +kernel)
    rw [decide_eq_false n1]
    by_cases ht : z = "text"
    · rw [decide_eq_true ht, ht]
      decide +kernel
    · rw [decide_eq_false ht]
      simp
  | true =>
    rw [if_pos rfl, if_pos rfl]
    have n1 : ¬ z = "text" := fun q => by
      rw [q] at he
      exact absurd he (by decide +kernel)
    rw [decide_eq_false n1]
    have e : cutS z none (some (-1)) = "text" ↔ z = "text*" := by
      constructor
      · intro q
        have := ends_iff z he
        rw [q] at this
        exact str_ext (this.trans (by decide +kernel))
      · intro q
        rw [q]
        decide +kernel
    have e2 : decide (cutS z none (some (-1)) = "text") = decide (z = "text*") := decide_eq_decide.mpr e
    rw [e2]
    simp [Bool.and_comm]
theorem cut_len (z : Str) : (cutS z none (some (-1))).length ≤ z.length := by
  rw [len_toList, cut_list, len_toList, List.length_dropLast]
  omega
theorem stk_len {z : Str} : (stk z).length ≤ z.length := by
  unfold stk
  split
  · exact cut_len z
  · exact Nat.le_refl _
theorem ok_iff {z : Str} : PyData.strOk z = true ↔ ∀ c ∈ z.cps.toList, c < 0x110000 := by
  unfold PyData.strOk
  rw [← Array.all_toList, List.all_eq_true]
  simp
theorem cut_ok {z : Str} (h : PyData.strOk z = true) : PyData.strOk (cutS z none (some (-1))) = true := by
  rw [ok_iff] at h ⊢
  rw [cut_list]
  exact fun c hc => h c (List.dropLast_subset _ hc)
theorem stk_ok {z : Str} (h : PyData.strOk z = true) : PyData.strOk (stk z) = true := by
  unfold stk
  split
  · exact cut_ok h
  · exact h
theorem NotStr.sortV {K : PySem.W.Frag} {H : Hp} {v : V} (h : NotStr K H v) : sortV v = false := by
  cases v with
  | str z => exact absurd rfl (h.1 z)
  | _ => rfl
theorem NotStr.takenV {K : PySem.W.Frag} {H : Hp} {v : V} (h : NotStr K H v) : takenV v = false := by
  cases v with
  | str z => exact absurd rfl (h.1 z)
  | _ => rfl
section
variable {P : Program} {w : World} {K : PySem.W.Frag} {mg : Str → Option Value} {base : Heap}
def spSort (K : PySem.W.Frag) : Sp := fun vs H Q _ => ∃ v, vs = [v] ∧ Val K H v ∧ ∀ H', Same H H' → Q (.bl (sortV v)) H'
def spSortTaken : Sp := fun vs H Q _ => ∃ z : Str, vs = [.str z] ∧ z.length ≤ 1000 ∧ Q (.str (stk z)) H
def spTaken (K : PySem.W.Frag) : Sp := fun vs H Q _ => ∃ v, vs = [v] ∧ Val K H v ∧ ∀ H', Same H H' → Q (.bl (takenV v)) H'
theorem scSort : FnScope ["value"] ["value"] (defScope sSort) := ⟨rfl, rfl, rfl, by decide +kernel, rfl, by decide +kernel, by decide +kernel⟩
theorem scTaken : FnScope ["value"] ["value"] (defScope sTaken) := ⟨rfl, rfl, rfl, by decide +kernel, rfl, by decide +kernel, by decide +kernel⟩
theorem scSortTaken : FnScope ["takes"] ["takes"] (defScope sSortTaken) := ⟨rfl, rfl, rfl, by decide +kernel, rfl, by decide +kernel, by decide +kernel⟩
theorem ok_sort {f fN : Addr} {fd fdN : FuncData} (F : Fun K "is_sort" "is_sort" sSort f fd) (T : TxtN mg) (FN : Fun K "is_name" "is_name" sName fN fdN) (bN : Binds K fdN ["value"] []) (gN : mg "is_name" = some (.ref fN)) :
    FnOk P w K mg base CX0 2 f fd ["value"] (spSort K) := by
  have GN : FnOk P w K mg base CX0 1 fN fdN ["value"] (spName K) := ok_name FN T
  refine F.ok scSort (fun vs H Q E h => ?_) (fun cdv A outer s H vs Q E hr h => ?_)
  · obtain ⟨v, rfl, _⟩ := h
    rfl
  · obtain ⟨v, rfl, hv, k⟩ := h
    obtain ⟨tt, tx⟩ := T.tx
    refine ⟨_, pss_one (ps_ret (pe_and (pe_call GN hr rfl gN FN.kp bN .nil pass0 (pa_cons (pv 0) pa_nil)) (pe_one (pe_cmpR op_ne (pv 0) (pe_glob (v := .str "text") rfl tx ⟨_, rfl⟩) (nomark _))))), ?_⟩
    refine ⟨_, rfl, v, rfl, hv, fun H1 s1 => ?_⟩
    rcases hv with ⟨z, rfl, hz, ho⟩ | hv
    · refine ⟨_, rfl, ?_⟩
      have q := k H1 s1
      change Q (V.bl (nameS z && !decide (z = "text"))) H1 at q
      refine ite2 (fun hn => ?_) (fun hn => ?_)
      · rw [show nameS z = true from hn] at q
        refine ⟨_, rfl, rfl, ?_⟩
        have e : decide (V.str z = V.str "text") = decide (z = "text") := decide_eq_decide.mpr ⟨fun h => V.str.inj h, fun h => by rw [h]⟩
        rw [e]
        exact q
      · rw [show nameS z = false from Bool.not_eq_true _ ▸ hn] at q
        exact q
    · refine ⟨_, rfl, ?_⟩
      rw [hv.nameV]
      refine iteF ?_
      have q := k H1 s1
      rw [hv.sortV] at q
      exact q
theorem ok_sortTaken {f : Addr} {fd : FuncData} (F : Fun K "sort_taken" "sort_taken" sSortTaken f fd) (T : TxtN mg) : FnOk P w K mg base CX0 1 f fd ["takes"] spSortTaken := by
  refine F.ok scSortTaken (fun vs H Q E h => ?_) (fun cdv A outer s H vs Q E hr h => ?_)
  · obtain ⟨v, rfl, _⟩ := h
    rfl
  · obtain ⟨z, rfl, hz, k⟩ := h
    obtain ⟨tr, rw_⟩ := T.rw_
    refine ⟨_, pss_cons (ps_if (pt_val (pe_bm PySem.F.plainAttrs_str PySem.F.slot_str_endswith PySem.F.type_str_endswith mt_endswith (pv 0) (pa_cons (pe_glob (v := .str "*") rfl rw_ ⟨_, rfl⟩) pa_nil)))
        (pss_one (ps_ret (pe_slice sl_str (pv 0) po_none (po_some (pe_un un_neg pe_int))))) pss_nil) (pss_one (ps_ret (pv 0))), ?_⟩
    refine ⟨_, rfl, rfl, z, "*", rfl, rfl, _, rfl, ?_⟩
    unfold stk at k
    refine ite2 (fun h => ?_) (fun h => ?_)
    · rw [if_pos h] at k
      refine ⟨_, rfl, _, rfl, _, rfl, z, rfl, Nat.le_trans hz (by decide), k⟩
    · rw [if_neg h] at k
      exact ⟨_, rfl, k⟩
end
end K2

namespace K2
open PySem L2
theorem dpStrs {K : PySem.W.Frag} {H : Hp} : ∀ l : List Str, DpAll K H (l.map V.str) (l.map PyData.str)
  | [] => .nil
  | i :: l => .cons (.str i) (dpStrs l)
theorem shStrs (l : List Str) (h : ∀ x ∈ l, PyData.strOk x = true) : SeqAt.shaped (.list (l.map PyData.str)) = true := by
  have h1 : ∀ l : List Str, (∀ x ∈ l, PyData.strOk x = true) → PyData.canLayAll0 (l.map PyData.str) = true := fun l => by
    induction l with
    | nil => intro _; rfl
    | cons i l ih =>
      intro h
      simp [PyData.canLayAll0, PyData.canLay0, ih (fun x hx => h x (List.mem_cons_of_mem _ hx)), h i (List.mem_cons_self ..)]
  have h2 : ∀ l : List Str, PyData.depthAll (l.map PyData.str) = 0 := fun l => by
    induction l with
    | nil => rfl
    | cons i l ih => simp [PyData.depthAll, PyData.depth, ih]
  simp [SeqAt.shaped, PyData.canLay0, PyData.depth, h1 l h, h2]
theorem eqvNilS (l : List Str) : PyData.eqv (.list (l.map PyData.str)) (.list []) = l.isEmpty := by
  cases l <;> rfl
def sgn (c : Nat) : Str := ⟨#[c]⟩
theorem filt_all (l : List Nat) : ((l.filter fun c => !inS SIG c).map sgn).isEmpty = l.all (inS SIG) := by
  induction l with
  | nil => rfl
  | cons a l ih =>
    cases h : inS SIG a <;> simp [h, List.filter_cons] at ih ⊢
    exact ih
section
variable {P : Program} {w : World} {K : PySem.W.Frag} {mg : Str → Option Value} {base : Heap}
theorem ok_taken {f fT fS fN : Addr} {fd fdT fdS fdN : FuncData} (F : Fun K "is_taken" "is_taken" sTaken f fd) (T : TxtN mg)
    (FN : Fun K "is_name" "is_name" sName fN fdN) (bN : Binds K fdN ["value"] []) (gN : mg "is_name" = some (.ref fN))
    (FS : Fun K "is_sort" "is_sort" sSort fS fdS) (bS : Binds K fdS ["value"] []) (gS : mg "is_sort" = some (.ref fS))
    (FT : Fun K "sort_taken" "sort_taken" sSortTaken fT fdT) (bT : Binds K fdT ["takes"] []) (gT : mg "sort_taken" = some (.ref fT)) :
    FnOk P w K mg base CX0 3 f fd ["value"] (spTaken K) := by
  have GS : FnOk P w K mg base CX0 2 fS fdS ["value"] (spSort K) := ok_sort FS T FN bN gN
  have GT : FnOk P w K mg base CX0 1 fT fdT ["takes"] spSortTaken := ok_sortTaken FT T
  refine F.ok scTaken (fun vs H Q E h => ?_) (fun cdv A outer s H vs Q E hr h => ?_)
  · obtain ⟨v, rfl, _⟩ := h
    rfl
  · obtain ⟨v, rfl, hv, k⟩ := h
    obtain ⟨tt, tx⟩ := T.tx
    have hr1 : Room 1 _ := hr.mono (by decide)
    refine ⟨_, pss_cons (ps_if (pt_not (pt_val (pe_callB call_isi (by rfl) T.isi PyProof.Rows.boot_isinstance (pa_cons (pv 0) (pa_cons (pe_bltn (v := .ty "str") rfl T.str PyProof.Rows.boot_str rfl) pa_nil)))))
        (pss_one (ps_ret pe_bl)) pss_nil)
      (pss_one (ps_ret (pe_or (pe_cmpR op_eq (pv 0) (pe_glob (v := .str "text") rfl tx ⟨_, rfl⟩) (nomark _)) (pe_one (pe_call GS hr rfl gS FS.kp bS .nil pass0 (pa_cons (pe_call GT hr1 rfl gT FT.kp bT .nil pass0 (pa_cons (pv 0) pa_nil)) pa_nil)))))), ?_⟩
    rcases hv with ⟨z, rfl, hz, ho⟩ | hv
    · refine ⟨_, rfl, _, _, _, _, true, rfl, .ty "str", .base (.str z), kit_ty (by decide +kernel), _, rfl, ?_⟩
      refine iteF ?_
      refine ⟨_, rfl, rfl, _, rfl, ?_⟩
      have e : decide (V.str z = V.str "text") = decide (z = "text") := decide_eq_decide.mpr ⟨fun h => V.str.inj h, fun h => by rw [h]⟩
      rw [e]
      refine ite2 (fun h => ?_) (fun h => ?_)
      · have q := k H (Same.refl H)
        change Q (V.bl (decide (z = "text") || sortS (stk z))) H at q
        rw [h] at q
        exact q
      · refine ⟨_, rfl, z, rfl, hz, _, rfl, .inl ⟨_, rfl, Nat.le_trans stk_len hz, stk_ok ho⟩, fun H1 s1 => ?_⟩
        have q := k H1 s1
        change Q (V.bl (decide (z = "text") || sortS (stk z))) H1 at q
        rw [show decide (z = "text") = false from Bool.not_eq_true _ ▸ h] at q
        exact q
    · obtain ⟨t, ht, hk⟩ := hv.2.2
      refine ⟨_, rfl, _, _, _, _, false, rfl, .ty "str", ht, hk, _, rfl, ?_⟩
      refine iteT ?_
      have q := k H (Same.refl H)
      rw [hv.takenV] at q
      exact q
end
end K2

namespace K2
open PySem L2
section
variable {P : Program} {w : World} {K : PySem.W.Frag} {mg : Str → Option Value} {base : Heap}
/-- what the written part says of an own exception class with one field, whose __init__ says super().__init__('..') -/
structure ErrC (P : Program) (K : PySem.W.Frag) (mg : Str → Option Value) (C fI cda cc : Addr) (fld qual : Str) (st : Stmt) : Prop where
  ox : OexC K C
  fi : PySem.W.findIn K (.ref C) "__init__" = some (some (.ref fI))
  ti : PySem.W.typeIn K (.ref fI) = some (.type "function")
  fn : ∃ (oc : Value) (od : Option Addr) (kV doc pm : Value) (an : Option Addr) (ct : Value) (osl : Array (Option Value)),
    K.lookup fI = some ⟨oc, od, .func (PySem.W.ksFn "__init__" qual (defArgs st) (defBody st) (defScope st) .none kV doc pm an (.ref cda) ct cc), osl⟩
  cd : PySem.W.codeIn K (.ref cda) qual = true
  cod : ∃ (ccl : Value) (cdd : Option Addr) (vs : Array Value) (ccs : Array (Option Value)) (file : Str) (tf : Tok), K.lookup cda = some ⟨ccl, cdd, .fields vs, ccs⟩ ∧ vs[2]? = some (.str file tf) ∧ ((P.main.file : Str) == file) = true
  cel : ∃ (cl : Value) (cld : Option Addr) (csl : Array (Option Value)), K.lookup cc = some ⟨cl, cld, .cell (some (.ref C)), csl⟩
  mr : PySem.W.mroIn K C (.ref C) = some true
  al : ∀ cd, PySem.W.clsIn K C = some cd → PySem.W.alongIn K "__init__" ((cd.mro.dropWhile (· != .ref C)).drop 1) = some (some (.builtin "ValueError.__init__"))
  sup : PySem.W.nsIn K mainGlobals "super" = some none
  opq : PySem.W.nsIn K cStatics "thirdparty.any" = some none
  ve : PySem.W.subIn K (.ref C) (.type "ValueError") = some true
  ei : PySem.W.excInitIn K C [.type "ValueError", .type "Exception", .type "BaseException", .type "object"] "ValueError.__new__" = true
  nf : PySem.W.findIn K (.ref C) fld = some none
  top : (P.main.scope.names.lookup ("super" : Str)).isSome = false
abbrev scErr : Scope := { kind := .function, names := [("self", .local), ("part", .local), ("__class__", .free), ("super", .globalImplicit)], isGenerator := false, isCoroutine := false }
def spErr (C : Addr) (fld : Str) : Sp := fun vs H Q _ => ∃ (a : Addr) (y : V), vs = [.ref a, y] ∧ H a = some (exo a C none) ∧
  ∀ dx, H dx = none → dx ≠ a → Q .non (upd (upd H dx (exd dx [(fld, y)])) a (exo a C (some dx)))
open PySem.W PySem.Calls in
/-- the __init__ of such a class, as the text has it: super().__init__('..'); self.fld = part -/
theorem ok_errInit {C fI cda cc : Addr} (T : ErrC P K mg C fI cda cc "part" "InvalidForm.__init__" sErrInit)
    {kV doc pm ct oc : Value} {od an : Option Addr} {osl : Array (Option Value)}
    (lk : K.lookup fI = some ⟨oc, od, .func (PySem.W.ksFn "__init__" "InvalidForm.__init__" (defArgs sErrInit) (defBody sErrInit) (defScope sErrInit) .none kV doc pm an (.ref cda) ct cc), osl⟩) :
    FnOk P w K mg base (L2.CX P w) 1 fI (PySem.W.ksFn "__init__" "InvalidForm.__init__" (defArgs sErrInit) (defBody sErrInit) (defScope sErrInit) .none kV doc pm an (.ref cda) ct cc) ["self", "part"] (spErr C "part") := by
  refine ⟨fun vs H Q E h => ?_, fun A outer s H args us vs Q E hr e0 hbd r h => ?_⟩
  · obtain ⟨a, y, rfl, _⟩ := h
    rfl
  · obtain ⟨a, y, rfl, ha, k⟩ := h
    obtain ⟨u0, u, rfl, r1, r2⟩ := vals2 r
    obtain rfl : u0 = Value.ref a := r1
    have KX : K.In s.heap := e0.mod.kin.keeps fun b o e => (e0.bs b o e).1
    have lim : s.heap.NoLimit := e0.mod.nolimit.keeps fun b o e => (e0.bs b o e).1
    obtain ⟨t1, hx⟩ := exo_at e0.hok ha
    obtain ⟨nm, q, N, bs, bm, sn, sub, ab, col, dd, k0, k1, k2, k3, k5, hC, hbm⟩ := T.ox.cls
    have hcl : clsIn K C = some { name := nm, bases := bs, mro := .ref C :: bm, ns := N, qualname := q, hasDict := true, slotNames := sn, subclasses := sub, abstract := ab, collection := col, hasDel := false } := by unfold clsIn; rw [hC] <;> rfl
    have hal := T.al _ hcl
    obtain ⟨ccl, cdd, cvs, ccs, file, tf, hcda, hvs, hfile⟩ := T.cod
    obtain ⟨cl, cld, csl, hcel⟩ := T.cel
    refine ks_codeAny_call_defAt (fd := ksFn "__init__" "InvalidForm.__init__" (defArgs sErrInit) (defBody sErrInit) (defScope sErrInit) .none kV doc pm an (.ref cda) ct cc) (body := defBody sErrInit) hr.depth (KX _ _ lk) rfl lim (codeRec_of KX T.cd) rfl hbd (show ∀ x ∈ (defScope sErrInit).names, x.2 ≠ .cell by decide +kernel) ?_ (fun h0 hns hk => ?_)
    · intro z hz
      rcases List.mem_cons.mp hz with e | hz
      · rw [e]; rfl
      · rcases List.mem_cons.mp hz with e | hz
        · rw [e]; rfl
        · cases hz
    · generalize eL : s.heap.objs.size = L at hns
      rw [show (callEnv (ksFn "__init__" "InvalidForm.__init__" (defArgs sErrInit) (defBody sErrInit) (defScope sErrInit) .none kV doc pm an (.ref cda) ct cc) L fI) = ksEnv "InvalidForm.__init__" (defScope sErrInit) L fI (.ref cda) cc from rfl]
      have up : ∀ {b o}, K.lookup b = some o → h0.get? b = some o := fun {b o} e => hk b o (KX b o e)
      have KX0 : K.In h0 := fun b o e => up e
      have hx0 := hk _ _ hx
      obtain ⟨mb, hmb, hbl⟩ := e0.mod.blt
      have hbk : ∀ b o, base.get? b = some o → h0.get? b = some o := fun b o e => hk b o (e0.bs b o e).1
      refine ks_wpAt_execs_cons (ks_wpAt_Expr_any (ks_wpAt_MethodCall (ks_wpAt_super_base (fd := ksFn "__init__" "InvalidForm.__init__" (defArgs sErrInit) (defBody sErrInit) (defScope sErrInit) .none kV doc pm an (.ref cda) ct cc) rfl rfl (by decide +kernel) rfl (up lk) rfl rfl rfl (up hcda) rfl hvs hfile T.top ?_)))
      refine ks_loadName_global rfl rfl (loadGlobal_builtin (env := ksEnv "InvalidForm.__init__" (defScope sErrInit) L fI (.ref cda) cc) (e0.mod.glob.keeps hbk) (mg_none_of e0.mod.kin e0.mod.glob T.sup) (hmb.keeps hbk) ((hbl _ (by decide +kernel)).trans PyProof.Rows.Boot.«super») ⟨rfl, ?_⟩)
      refine wpAny_loadName_free rfl rfl rfl ⟨_, up hcel, rfl⟩ ?_
      refine wpAny_loadName_local rfl rfl hns rfl ?_
      refine ks_wpAny_isType_cls (up hC) rfl ⟨rfl, ?_⟩
      refine ks_wpAny_call_super (up hC) rfl hx0 rfl (fun c e => by cases e) (looks_mroIn KX0 T.mr) (fun h1 so1 up1 => ?_)
      have KX1 : K.In h1 := fun b o e => up1 _ _ (up e)
      have hI1 : InstAt h1 a { cls := Value.ref C, data := Data.fields #[Value.ref t1, Value.none, Value.none, Value.none, Value.bool false, Value.none] } C none := ⟨up1 _ _ hx0, rfl, rfl, trivial⟩
      refine kxs_getMethod kxs_ValueError so1 (looks_opaque KX1 T.opq) (fun A Q E s k q => wpAny_bind ((looks_clsIn KX1 hcl) A _ E s k (wpAny_pure q))) rfl KX1 hal (hI1.type.andThen (looks_subIn KX1 T.ve)) (ks_ne KX1 hI1 hcl) (by decide +kernel) ?_
      generalize hu : h1.objs.size = z
      have lt1 : ∀ {b o}, h1.get? b = some o → b ≠ z := fun {b o} e q => by
        have w1 := Heap.lt_size e
        rw [q, ← hu] at w1
        exact Nat.lt_irrefl _ w1
      have up2 : ∀ b o, h1.get? b = some o → (h1.push (kxs_mw "ValueError.__init__" a)).get? b = some o := fun b o e => Heap.get?_push_of_some _ e
      have hmw : (h1.push (kxs_mw "ValueError.__init__" a)).get? z = some (kxs_mw "ValueError.__init__" a) := by
        rw [← hu]
        exact Heap.get?_push_size _ rfl
      generalize h1.push (kxs_mw "ValueError.__init__" a) = h2 at up2 hmw
      have all2 : ∀ b o, h0.get? b = some o → h2.get? b = some o := fun b o e => up2 b o (up1 b o e)
      refine kxs_callWith (i := "ValueError.__init__") (u := z) (x := a) (by rfl) (evalArgs_plain ?_)
      refine Calls.spliced_cons ?_
      refine Calls.Constant_str (pos := ⟨7, 25, 7, 39⟩) (k := 0) ?_
      refine Calls.spliced_nil ⟨hmw, ?_⟩
      have hbn : ∀ {b o}, h0.get? b = some o → H b ≠ none ∨ b = L → base.get? b = none := fun {b o} _ q => by
        cases e : base.get? b with
        | none => rfl
        | some v =>
          have w1 := e0.bs b v e
          rcases q with q | q
          · exact absurd w1.2 q
          · have w2 := Heap.lt_size w1.1
            rw [q, ← eL] at w2
            exact absurd w2 (Nat.lt_irrefl _)
      have aL : a ≠ L := fun q => by
        have w2 := Heap.lt_size hx
        rw [q, ← eL] at w2
        exact Nat.lt_irrefl _ w2
      have ba : base.get? a = none := hbn hx0 (.inl (by rw [ha]; exact fun q => nomatch q))
      have bz : base.get? z = none := by
        cases e : base.get? z with
        | none => rfl
        | some v => exact absurd rfl (lt1 (up1 _ _ (hbk _ _ e)))
      obtain ⟨oL, eL1, eL2, hoL, rL⟩ := id hns
      have F2 : PyProof.Rows.Fr base L h2 (fun x => List.lookup x ([("self" : Str), "part"].zip [Value.ref a, u]).reverse) := ⟨⟨oL, eL1, eL2, all2 _ _ hoL, rL⟩, fun b o e => all2 b o (hbk b o e), by rw [← eL]; exact e0.bsz⟩
      have za : z ≠ a := fun q => lt1 (up1 _ _ hx0) q.symm
      have zL : z ≠ L := fun q => lt1 (up1 _ _ hoL) q.symm
      refine kxs_call (t := t1) (dv := none) (c2 := .none) (s := ⟨h2, _, _, _, _⟩) F2 e0.mod.kin (news_at aL ba (all2 _ _ hx0)) F.excBase_ValueError T.ei (List.mem_cons_of_mem _ (mem_rest zL bz hmw za)) (.head rest_ne) (by show 1 ≤ sizeLine; decide) (fun t3 h3 F3 N3 _ => ?_)
      have k3 : ∀ b o, b ≠ L → b ≠ a → h2.get? b = some o → h3.get? b = some o := kept_of_news (fun b o e => all2 b o (hbk b o e)) F3 (fun p hp => N3 p (List.mem_cons_of_mem _ (List.mem_cons_of_mem _ hp)))
      have hx3 : h3.get? a = some ({ cls := .ref C, dict := none, data := .fields #[.ref t3, .none, .none, .none, .bool false, .none] } : Obj) := (N3 _ (List.mem_cons_of_mem _ (List.mem_cons_self ..))).1
      have all3 : ∀ b o, b ≠ a → s.heap.get? b = some o → h3.get? b = some o := fun b o hb e => k3 b o (fun q => by
        have w2 := Heap.lt_size e
        rw [q, ← eL] at w2
        exact Nat.lt_irrefl _ w2) hb (all2 b o (hk b o e))
      have KX3 : K.In h3 := e0.mod.kin.keeps F3.keep
      show wpAt _ _ _ (execs _ _) _ _ _
      refine ks_wpAt_execs_cons (ks_wpAt_Assign_Attr (wpAt_of_wpAny ?_))
      refine wpAny_Name (wpAny_loadName_local rfl rfl F3.ns rfl ?_) (by decide)
      refine wpAny_Name (wpAny_loadName_local rfl rfl F3.ns rfl ?_) (by decide)
      refine set_plain KX3 (ox := { cls := .ref C, dict := none, data := .fields #[.ref t3, .none, .none, .none, .bool false, .none] }) (od := none) ⟨hx3, rfl, rfl, trivial⟩ T.ox.sa ?_
      refine HandSPX.exc_osa KX3 hx3 hcl (show HandSPX.refsVE (.ref C :: bm) = true from hbm) rfl T.nf (fun hF tkF dx kF dn dne hxF hnF => ?_)
      have Ldx : s.heap.objs.size ≤ dx := by
        obtain ⟨o3, _, _, e3, _⟩ := F3.ns
        have w2 := Heap.lt_size e3
        rw [eL]
        exact Nat.le_trans (Nat.le_of_lt w2) dn
      have Hdx : H dx = none := e0.hok.fresh Ldx
      have keepF : ∀ b o, b ≠ a → s.heap.get? b = some o → hF.get? b = some o := fun b o nb e => kF b o nb (all3 b o nb e)
      have na : ∀ {b : Addr}, H b = none → b ≠ a := fun {b} n q => by
        rw [q, ha] at n
        cases n
      have nd : ∀ {b : Addr} {o : Obj}, s.heap.get? b = some o → b ≠ dx := fun {b o} e q => by
        have w2 := Heap.lt_size e
        rw [q] at w2
        exact absurd (Nat.lt_of_lt_of_le w2 Ldx) (Nat.lt_irrefl _)
      have same : ∀ b o, H b = some o → o ≠ exo a C none → (upd (upd H dx (exd dx [("part", y)])) a (exo a C (some dx))) b = some o := fun b o e ne => by
        rw [upd_ne (fun q => ne (by rw [q, ha] at e; exact (Option.some.inj e).symm)), upd_ne (ne_of_none e Hdx)]
        exact e
      have un : Un (frs outer) [] H (upd (upd H dx (exd dx [("part", y)])) a (exo a C (some dx))) s.heap hF := {
        keep := fun b o e n _ _ => keepF b o (na n) e
        slot := fun b o e n _ _ => ⟨o.slots, keepF b o (na n) e⟩
        free := fun b o e n _ => by
          rw [upd_ne (na n), upd_ne (nd e)]
          exact n
        there := fun b o e _ => by
          by_cases q : b = a
          · rw [q]
            exact ⟨_, hxF⟩
          · exact ⟨o, keepF b o q e⟩
        tups := fun b xs e => same b _ e (fun q => exo_tup q.symm)
        frzs := fun b o v e => same b _ e (fun q => exo_frz q.symm)
        tbls := fun b ps e => ⟨#[], by rw [same b _ e (fun q => exo_tbl q.symm)]; simp⟩ }
      have okF : HOk P w (upd (upd H dx (exd dx [("part", y)])) a (exo a C (some dx))) hF := fun b o e => by
        by_cases q : b = a
        · subst q
          rw [upd_same] at e
          cases e
          exact exo_ok hxF
        · rw [upd_ne q] at e
          by_cases q2 : b = dx
          · subst q2
            rw [upd_same] at e
            cases e
            exact exd_ok hnF (relO_put (fs := []) r2 fun g => True.intro)
          · rw [upd_ne q2] at e
            exact (e0.hok b o e).stay (fun c v hc z => keepF c v (by
                rcases hc with hc | hc
                · rw [hc]
                  exact q
                · exact at_ne ha hc exo_own) z) (fun c hc => same c _ hc (fun q => exo_own q.symm)) (fun c xs hc => same c _ hc (fun q => exo_tup q.symm))
      show wpAt _ _ _ (execs [] _) _ _ _
      refine wpAt_of_wpAny (wpAny_pure ?_)
      exact ⟨.non, _, rfl, e0.bare, un, okF, rfl, k dx Hdx dne⟩
end
end K2

namespace K2
open PySem L2
/-- at a: a caught exception of the class cls with its dict at d -/
def ExK (cls : Value) (d : Option Addr) (a : Addr) : HO := .ext fun h => ∃ (oe : Obj) (vs : Array Value), h.get? a = some oe ∧ Zc cls d oe ∧ oe.data = .fields vs
/-- what the body's exceptions are wished to do: caught by c, its object tracked behind the suite -/
def wKeep (K : PySem.W.Frag) (c : Value) (i j n : Nat) (D : Ends) : WX := fun cls d σ H =>
  PySem.W.exmOne K cls c = some true ∧ ∀ a, H a = none → σ.length = n → D.nx (((σ.set i (some (.ref a))).set j (some (.ref a))).set i none) (upd H a (ExK cls d a))
section
variable {X : Cx} {pins : List (Addr × Obj)} {σ : L2.St} {H : Hp} {s : Shared}
/-- an object that was not there at the entry, pinned till now, is tracked from now on -/
theorem Inv.takeUp {a : Addr} {oe : Obj} {vs : Array Value} {cls : Value} {d : Option Addr} (I : L2.Inv X pins σ H s) (ha : s.heap.get? a = some oe) (hz : Zc cls d oe) (hd : oe.data = .fields vs) (na : H a = none) (n0 : X.s_0.heap.get? a = none)
    (nL : a ≠ X.env.locals) (nC : ∀ x c, X.env.cells.lookup x = some c → c ≠ a) (nP : ∀ p ∈ X.pn ++ pins, p.1 ≠ a) : L2.Inv X pins σ (upd H a (ExK cls d a)) s := by
  have ne : ∀ b o, X.s_0.heap.get? b = some o → b ≠ a := fun b o e z => by
    rw [z, n0] at e
    cases e
  refine ⟨I.ok, I.os, I.bare, ⟨I.base.keep, I.base.slot, fun b o e n x => ?_, I.base.there, fun b xs e => ?_, fun b o u e => ?_, fun b ps e => ?_⟩, I.loc, I.cell, ?_, fun x c e => ?_, fun p hp => ?_, fun b u e => ?_, I.len⟩
  · rw [upd_ne (ne b o e)]
    exact I.base.free b o e n x
  · have q := I.base.tups b xs e
    rw [upd_ne (ne_of_none q na)]
    exact q
  · have q := I.base.frzs b o u e
    rw [upd_ne (ne_of_none q na)]
    exact q
  · obtain ⟨m, q⟩ := I.base.tbls b ps e
    exact ⟨m, by rw [upd_ne (ne_of_none q na)]; exact q⟩
  · rw [upd_ne nL.symm]
    exact I.free
  · rw [upd_ne (nC x c e)]
    exact I.freeC x c e
  · obtain ⟨q1, q2, q3⟩ := I.pin p hp
    exact ⟨q1, by rw [upd_ne (nP p hp)]; exact q2, q3⟩
  · by_cases q : b = a
    · subst q
      rw [upd_same] at e
      cases e
      exact ⟨⟨oe, vs, ha, hz, hd⟩, ⟨oe, ha⟩, fun h1 h2 ⟨o, v, w1, w2⟩ k => ⟨o, v, k o w1, w2⟩⟩
    · rw [upd_ne q] at e
      exact (I.hok b u e).stay (fun _ _ _ w => w) (fun c w => by rw [upd_ne (ne_of_none w na)]; exact w) fun c xs w => by rw [upd_ne (ne_of_none w na)]; exact w
end
section
variable {X : Cx} {x n : Str} {c : Value} {i j : Nat} {body : List Stmt} {np q1 q2 q3 pos pos' : Pos} {m : Str} {tb : WX → TS}
/-- try: body / except x as n: m = n -/
theorem ps_try_keep (hs : X.stack = X.env :: X.outer) (hf : X.env.frame = some X.env.locals) (hex : X.ex = []) (hN : X.N.Nodup) (hi : X.N[i]? = some n) (hj : X.N[j]? = some m) (hln : X.env.kindOf n = some .local) (hlm : X.env.kindOf m = some .local)
    (hij : i ≠ j) (hmb : X.fn m = true ∨ X.env.scope.names.lookup m = some .local) (hc : Names X x c)
    (hb : ∀ (W : WX) (pn : List (Addr × Obj)) (xe : Value → Shared → Prop), Takes (X.tr pn xe) W → PassesOwn (model X.prog X.w) X.A X.env xe → PSs (X.tr pn xe) body (tb W))
    (hd1 : (n == ("__debug__" : Str)) = false) (hd2 : (n == ("__classdict__" : Str)) = false) (hsw : swapsWith (.Name n q2) (some (.Name m q1)) q3.line X.env = pure false) :
    PS X (.Try body [.ExceptHandler (some (.Name x np)) (some n) [.Assign [.Name m q1] (.Name n q2) q3] pos'] [] [] pos) (fun D σ H => tb (wKeep X.K c i j X.N.length D) D σ H) := by
  refine ⟨fun pins s σ H D I h => ?_⟩
  have okX := I.ok
  have frX : X.A.frames = some (X.env :: X.outer) := by
    rw [okX.frames, hs]
  let clause : ExceptHandler := .ExceptHandler (some (.Name x np)) (some n) [.Assign [.Name m q1] (.Name n q2) q3] pos'
  refine wpAny_Try_except ?_
  refine wpAny_mono ((hb (wKeep X.K c i j X.N.length D) (X.pn ++ pins) (fun e s₁ => wpAny (model X.prog X.w) X.A (noteFrame e X.env) (fun _ s₂ => wpAny (model X.prog X.w) X.A (setFlight e none) (fun _ s₃ => wpAny (model X.prog X.w) X.A (handleBy e X.env [clause]) (SP X pins D) X.xe s₃) X.xe s₂) X.xe s₁)
    (fun u s' air => ?caught) PassesOwn.looking).run [] s σ H D (I.toTry _) h) (fun f s1 hsp => ?thru) (fun e s1 he => he)
  case thru =>
    cases f with
    | next =>
      obtain ⟨σ6, H6, S6, q6⟩ := hsp
      exact wpAny_execs_nil ⟨_, _, S6.ofTry okX, q6⟩
    | brk =>
      obtain ⟨σ6, H6, S6, q6⟩ := hsp
      exact ⟨_, _, S6.ofTry okX, q6⟩
    | cont =>
      obtain ⟨σ6, H6, S6, q6⟩ := hsp
      exact ⟨_, _, S6.ofTry okX, q6⟩
    | ret u =>
      obtain ⟨v6, σ6, H6, S6, r6, q6⟩ := hsp
      exact ⟨_, _, _, S6.ofTry okX, r6, q6⟩
  case caught =>
    obtain ⟨a, B, sI, pins1, σ1, H1, cls, d, rfl, J0, nb, up, sky, na, os, ag, hex1, hnx⟩ := air
    have J : L2.Inv X pins σ1 H1 sI := J0.ofTry okX
    rw [hs] at sky
    show wpAny (model X.prog X.w) X.A (noteFrame (.ref a) X.env) _ _ _
    refine Sky.land Zc.steady frX hf sky fun h3 fl3 up3 => ?_
    have J3 : L2.Inv X pins σ1 H1 { s' with heap := h3 } := J.landed nb fl3.1 (up.trans up3) os ag
    obtain ⟨oe3, vs3, he3, hz3, hd3⟩ := fl3.there
    have nfr : a ∉ frs (X.env :: X.outer) := fun hm => by
      obtain ⟨_, o1, e1, hnf⟩ := fl3.2.2.1.mem hm
      rw [he3] at e1
      cases e1
      exact hnf _ hd3
    have nL : a ≠ X.env.locals := fun z => nfr (List.mem_filterMap.mpr ⟨X.env, List.mem_cons_self, by rw [hf, z]⟩)
    have nF : a ∉ X.fs := fun hm => by
      obtain ⟨e1, he1, w1⟩ := List.mem_filterMap.mp hm
      exact nfr (List.mem_filterMap.mpr ⟨e1, List.mem_cons_of_mem _ he1, w1⟩)
    have nI : sI.heap.get? a = none := by
      cases e1 : sI.heap.get? a with
      | none => rfl
      | some o1 =>
        have w1 := nb a o1 e1 (by rw [hs]; exact nfr)
        rw [fl3.2.1] at w1
        cases w1
    have n0 : X.s_0.heap.get? a = none := by
      cases e1 : X.s_0.heap.get? a with
      | none => rfl
      | some o1 =>
        obtain ⟨o2, w1⟩ := J.base.there a o1 e1 (by rw [hex]; exact fun z => nomatch z)
        rw [nI] at w1
        cases w1
    have S3 := J3.suite he3 hd3 na nL nF
    refine wpAny_handleBy_cons (codeAny_handlers_test ?_) (by intro w1; cases w1)
    have LT : PySem.W.Looks (model X.prog X.w) h3 (typeOf (.ref a)) cls := fun A Q E s k w1 => wpAny_typeOf_ref (k _ _ he3) (by rw [hz3.1]; exact w1)
    have LM := PySem.W.exm_one (M := model X.prog X.w) (J3.kIn) LT hex1
    have test : ∀ {Q : Value → Shared → Prop} {E : Value → Shared → Prop}, Q c { s' with heap := h3 } →
        wpAny (model X.prog X.w) (X.A.mark (some (.ref a))) (eval (.Name x np) X.env) Q E { s' with heap := h3 } := fun {Q E} w1 => by
      obtain ⟨hg, hdbg, hm | ⟨hm, hv, hnn⟩⟩ := hc
      · exact ld_glob (X := X.suite a ((a, oe3) :: (X.pn ++ pins))) S3 hg hm w1 hdbg
      · exact ld_blt (X := X.suite a ((a, oe3) :: (X.pn ++ pins))) S3 hg hm hv w1 hnn hdbg
    refine test (LM.here ?_)
    refine codeAny_handlers_suite_as ?_
    refine HandSPX.lands_againZ fl3 fun h4 fl4 up4 => ?_
    have J4 : L2.Inv X pins σ1 H1 { s' with heap := h4 } := J.landed nb fl4.1 ((up.trans up3).trans up4) os ag
    obtain ⟨oe4, vs4, he4, hz4, hd4⟩ := fl4.there
    have S4 := J4.suite he4 hd4 na nL nF
    refine store_ok (X := X.suite a ((a, oe4) :: (X.pn ++ pins))) (v := .ref a) S4 hN hi (.inl hln) rfl (fun s5 S5 => ?_) (.inr hln)
    have hpa : PE (X.suite a ((a, oe4) :: (X.pn ++ pins))) (.Name n q2) (tVar i) := pe_var hi (.inl hln) hd1 hd2
    have hps : PS (X.suite a ((a, oe4) :: (X.pn ++ pins))) (.Assign [.Name m q1] (.Name n q2) q3) (tAsg (tVar i) (gName j)) := ps_asg hpa (pg_name hN hj (.inl hlm)) hsw
    have iσ : i < (σ1.set i (some (V.ref a))).length := by
      rw [List.length_set, J4.len]
      exact (List.getElem?_eq_some_iff.mp hi).1
    have at_i : (σ1.set i (some (V.ref a)))[i]? = some (some (V.ref a)) := by
      rw [List.length_set] at iσ
      exact List.getElem?_set_self iσ
    refine wpAny_mono ((pss_one hps).run [] s5 _ H1 { nx := fun σ6 H6 => σ6 = (σ1.set i (some (V.ref a))).set j (some (V.ref a)) ∧ H6 = H1, rt := fun _ _ => False } S5 ⟨V.ref a, at_i, rfl, rfl⟩) (fun f s6 hsp => ?_) (fun _ _ z => False.elim z)
    cases f with
    | next =>
      obtain ⟨σ6, H6, S6, e6, e7⟩ := hsp
      subst e6 e7
      have pa := S6.pin (a, oe4) (List.mem_append_left _ List.mem_cons_self)
      have U0 : L2.Inv X pins _ _ s6 := S6.unsuite okX
      have U := Inv.takeUp U0 pa.1 hz4 hd4 na n0 nL (fun x1 c1 w1 w2 => by
        obtain ⟨v1, o1, w3, w4⟩ := U0.cell x1 c1 w1
        rw [w2, pa.1] at w3
        cases w3
        rw [hd4] at w4
        cases w4) (fun p hp w2 => by
        have w3 := (J.pin p hp).1
        rw [w2, nI] at w3
        cases w3)
      exact gone_ok U hN hi hln (fun s7 J7 => ⟨_, _, J7, hnx a na J.len⟩)
    | brk =>
      obtain ⟨_, _, _, z⟩ := hsp
      exact z.elim
    | cont =>
      obtain ⟨_, _, _, z⟩ := hsp
      exact z.elim
    | ret u =>
      obtain ⟨_, _, _, _, _, z⟩ := hsp
      exact z.elim
end
end K2

namespace K2
open PySem L2
/-- what an own exception class says of its instances -/
structure ExcL (K : PySem.W.Frag) (C : Addr) : Prop where
  cl : (PySem.W.clsIn K C).isSome = true
  ga : PySem.W.findIn K (.ref C) "__getattribute__" = some (some (.builtin "BaseException.__getattribute__"))
  gg : PySem.W.findIn K (.ref C) "__getattr__" = some none
  ex : PySem.W.subIn K (.ref C) (.type "BaseException") = some true
  hd : PySem.W.hasDictIn K C = true
  ca : PySem.W.findIn K (.ref C) "__class__" = some (some (.builtin "object.__class__"))
  cg : PySem.W.specialIn K (.builtin "object.__class__") "__get__" = some (some (.builtin "getset_descriptor.__get__"))
  tk : PySem.W.takesIn K (.builtin "object.__class__") = some true
  mo : PySem.W.mroIn K C (.type "object") = some true
section
variable {X : Cx} {pins : List (Addr × Obj)} {σ : L2.St} {H : Hp} {s : Shared}
theorem exk_inst {a C dd : Addr} {fs : List (Str × V)} (I : L2.Inv X pins σ H s) (ha : H a = some (ExK (.ref C) (some dd) a)) (hd : H dd = some (.xd fs)) :
    ∃ oe od, PySem.W.InstAt s.heap a oe C (some od) ∧ (∀ f v, fs.lookup f = some v → ∃ u, PySem.W.lookIn f od = some (some u) ∧ RelV v u) := by
  obtain ⟨⟨oe, vs, e1, e2, e3⟩, _, _⟩ := I.hok a _ ha
  have hx : ObjOk X.prog X.w H s.heap dd (.xd fs) := I.hok dd _ hd
  obtain ⟨mA, hns, hr⟩ := hx
  obtain ⟨od, ho, hl⟩ := lookIn_ns hns
  refine ⟨oe, od, ⟨e1, e2.1, by unfold PySem.W.notCls; rw [e3] <;> rfl, by rw [e2.2]; exact ho⟩, fun f v l => ?_⟩
  obtain ⟨u, hu, ru⟩ := RelO.some_of (v := v) (o := mA f) (by rw [← l]; exact hr f)
  exact ⟨u, by rw [hl, hu], ru⟩
end
def tExk (K : PySem.W.Frag) (n : Str) (te : TE) : TE := fun σ H Q => te σ H fun x H1 => ∃ (a C dd : Addr) (fs : List (Str × V)) (v : V), x = .ref a ∧ H1 a = some (ExK (.ref C) (some dd) a) ∧ H1 dd = some (.xd fs) ∧ ExcL K C ∧ PySem.W.findIn K (.ref C) n = some none ∧ fs.lookup n = some v ∧ Q v H1
theorem pe_exk {X : Cx} {e : Expr} {te : TE} {pos : Pos} {n : Str} (he : PE X e te) (hb : attributeBase e n X.env (eval e X.env) = eval e X.env := by rfl) : PE X (.Attribute e n pos) (tExk X.K n te) := by
  refine ⟨fun pins s σ H Q I h => ?_⟩
  refine attr_of hb (thn (he.run pins s σ H _ I h) fun u s1 hh => ?_)
  obtain ⟨x, H1, I1, rx, a, C, dd, fs, v, ex, ha, hd, L, nf, l, q⟩ := hh
  subst ex
  obtain rfl : u = Value.ref a := rx
  obtain ⟨oe, od, J, look⟩ := exk_inst I1 ha hd
  obtain ⟨u, hu, ru⟩ := look n v l
  exact HandSPX.exc_get I1.kIn J L.ga L.gg L.ex (PySem.W.findObj_own L.hd nf rfl hu) (handed_of ru) ⟨v, H1, I1.tok _, ru, q⟩
def rIsK (K : PySem.W.Frag) : List V → Hp → VK → Prop := fun xs H Q => ∃ (a C C2 dd : Addr) (fs : List (Str × V)) (b : Bool), xs = [.ref a, .ref C2] ∧ H a = some (ExK (.ref C) (some dd) a) ∧ H dd = some (.xd fs) ∧ ExcL K C ∧ PySem.W.kitOne K (.ref C) (.ref C2) = some b ∧ Q (.bl b) H
theorem call_isK {X : Cx} : CallR X (.builtin "isinstance") (rIsK X.K) := by
  intro pins s σ H xs us Q I r h
  obtain ⟨a, C, C2, dd, fs, b, rfl, ha, hd, L, e, q⟩ := h
  obtain ⟨u1, u2, rfl, r1, r2⟩ := vals2 r
  obtain rfl : u1 = Value.ref a := r1
  obtain rfl : u2 = Value.ref C2 := r2
  obtain ⟨oe, od, J, _⟩ := exk_inst I ha hd
  exact PySem.W.kia_one (PySem.W.kitx_exc L.cl L.ga L.gg L.ex L.ca L.cg L.tk L.mo) I.kIn J e (fun z => nomatch z) fun tk => ⟨.bl b, H, I.tok tk, rfl, q⟩
@[simp] theorem x_tExk {K : PySem.W.Frag} {n : Str} {te : TE} {σ : L2.St} {H : Hp} {Q : VK} : tExk K n te σ H Q = te σ H fun x H1 => ∃ (a C dd : Addr) (fs : List (Str × V)) (v : V), x = .ref a ∧ H1 a = some (ExK (.ref C) (some dd) a) ∧ H1 dd = some (.xd fs) ∧ ExcL K C ∧ PySem.W.findIn K (.ref C) n = some none ∧ fs.lookup n = some v ∧ Q v H1 := rfl
end K2

namespace K2
open PySem L2
section
variable {X : Cx} {C fI cda cc : Addr}
/-- the facts that a raise of InvalidForm asks -/
structure ErrF (P : Program) (K : PySem.W.Frag) (mg : Str → Option Value) (C : Addr) : Prop where
  ex : ∃ fI cda cc, ErrC P K mg C fI cda cc "part" "InvalidForm.__init__" sErrInit
  mgC : mg "InvalidForm" = some (.ref C)
theorem pmk_form {e : Expr} {te : TE} {p pos : Pos} (T : ErrF X.prog X.K X.mg C) (hr : Room 2 X.A) (hg : Gl X "InvalidForm") (he : PE X e te)
    (hs : starEach [e] X.env = (false, eval e X.env) :: starEach [] X.env := by rfl) :
    PMk X (.Call (.Name "InvalidForm" p) [e] [] pos) (tMkO C (spErr C "part") [] (tCons te tNil)) := by
  obtain ⟨fI, cda, cc, TC⟩ := T.ex
  obtain ⟨oc, od, kV, doc, pm, an, ct, osl, lk⟩ := TC.fn
  exact pmk_oex TC.ox TC.fi TC.ti (ok_errInit TC lk) hr (.all fun us hl => match us, hl with | [_, _], _ => rfl) .nil passL hg T.mgC (pa_cons he pa_nil (by exact hs)) (by decide) hs (by rfl)
theorem raise_ans {H1 : Hp} {v : V} {Q : XK} (k : ∀ d, H1 d = none → Q (.ref C) (some d) (upd H1 d (.xd [("part", v)]))) :
    ([v] : List V).length ≤ 1000 ∧ ∀ a, H1 a = none → spErr C "part" (.ref a :: ([v] ++ [])) (upd H1 a (exo a C none))
      (fun u H2 => u = .non ∧ ∃ (d : Addr) (fs : List (Str × V)), H2 a = some (exo a C (some d)) ∧ H2 d = some (exd d fs) ∧ H1 d = none ∧ Q (.ref C) (some d) (upd (del H2 a) d (.xd fs))) (fun _ _ _ => False) := by
  refine ⟨by show 1 ≤ 1000; decide, fun a na => ⟨a, v, rfl, upd_same, fun dx ndx ne => ?_⟩⟩
  rw [upd_ne ne] at ndx
  refine ⟨rfl, dx, [("part", v)], upd_same, by rw [upd_ne ne, upd_same], ndx, ?_⟩
  have e : upd (del (upd (upd (upd H1 a (exo a C none)) dx (exd dx [("part", v)])) a (exo a C (some dx))) a) dx (.xd [("part", v)]) = upd H1 dx (.xd [("part", v)]) := by
    funext b
    by_cases q : b = dx
    · rw [q, upd_same, upd_same]
    · rw [upd_ne q, upd_ne q]
      by_cases q2 : b = a
      · rw [q2, del_same, na]
      · rw [del_ne q2, upd_ne q2, upd_ne q, upd_ne q2]
  rw [e]
  exact k dx ndx
end
/-! ### values stand while their own object stands -/
theorem TyOf.keep {K : PySem.W.Frag} {H H' : Hp} {v : V} {t : Value} (h : TyOf K H v t) (k : ∀ a o, v = .ref a → H a = some o → H' a = some o) : TyOf K H' v t := by
  cases h with
  | non => exact .non
  | bl x => exact .bl x
  | int i => exact .int i
  | str x => exact .str x
  | flt x => exact .flt x
  | lst e => exact .lst (k _ _ rfl e)
  | frz e => exact .frz (k _ _ rfl e)
  | tup e => exact .tup (k _ _ rfl e)
  | dK e => exact .dK (k _ _ rfl e)
  | dT e => exact .dT (k _ _ rfl e)
  | ins e cl ha hn htk hm => exact .ins (k _ _ rfl e) cl ha hn htk hm
theorem TyX.keep {K : PySem.W.Frag} {H H' : Hp} {v : V} {t : Value} (h : TyX K H v t) (k : ∀ a o, v = .ref a → H a = some o → H' a = some o) : TyX K H' v t := by
  cases h with
  | base h => exact .base (TyOf.keep h k)
  | byt b => exact .byt b
  | set e => exact .set (k _ _ rfl e)
  | kList e c => exact .kList e c
  | kTuple e c => exact .kTuple e c
  | kDict e c => exact .kDict e c
  | fTuple e => exact .fTuple (k _ _ rfl e)
  | fDict e => exact .fDict (k _ _ rfl e)
theorem Val.keep {K : PySem.W.Frag} {H H' : Hp} {v : V} (h : Val K H v) (k : ∀ a o, v = .ref a → H a = some o → H' a = some o) : Val K H' v := by
  rcases h with h | ⟨h1, h0, t, h2, h3⟩
  · exact .inl h
  · exact .inr ⟨h1, fun a e => let ⟨o, q⟩ := h0 a e; ⟨o, k a o e q⟩, t, TyX.keep h2 k, h3⟩
theorem Val.ne {K : PySem.W.Frag} {H : Hp} {v : V} {x : Addr} (h : Val K H v) (n : H x = none) : v ≠ .ref x := fun e => by
  rcases h with ⟨z, e2, _⟩ | h
  · rw [e] at e2
    cases e2
  · obtain ⟨o, q⟩ := h.2.1 x e
    rw [n] at q
    cases q
theorem Val.same {K : PySem.W.Frag} {H H' : Hp} {v : V} (h : Val K H v) (s : Same H H') : Val K H' v := Val.keep h fun a o _ e => s a o e
end K2

namespace K2
open PySem L2
section
open PySem.Calls PySem.W PyProof.Rows
variable {prog : Program} {w : World} {A : Around} {E : Value → Shared → Prop} {s : Shared} {r d : Addr} {kvs : List (Key × Value)} {ep : Nat}
theorem tup_items_new {Q1 : Value → Shared → Prop} (hh : A.handled = none) (hv : s.heap.IsItemsView r d) (hm : s.heap.DictAt (mixKind prog w) d kvs ep) (hn : kvs.length ≤ sizeLine)
    (h : ∀ (h' : Heap) (tk : Nat) (as : List Addr), (∀ b o, s.heap.get? b = some o → h'.get? b = some o) → as.length = kvs.length → KdxG (mixKind prog w) kvs s.heap.objs.size h' as →
      Q1 (.ref h'.objs.size) { s with heap := h'.push { cls := .type "tuple", data := .seq (as.map Value.ref).toArray }, toks := tk }) :
    codeAny (model prog w) A (.call (.builtin "tuple.__new__") ⟨[.type "tuple", .ref r], []⟩) (wants Q1 E) s := by
  refine codeAny_of_tree ?_
  show wpAny _ A.in1
    (do checkBuiltinCall "tuple.__new__" ⟨[.type "tuple", .ref r], []⟩
        again (.builtin "tuple.__new__" ⟨[.type "tuple", .ref r], []⟩)) _ _ s
  refine wpAny_bind (wpAny_of_eq (F.newCall_tuple_1 _) ?_)
  refine wpAny_pure ⟨plainId_quiet F.plain_tuple_new _, ?_⟩
  refine codeAny_builtin F.entry_tuple_new ?_
  rw [Around.under_plainId F.plain_tuple_new _]
  have w1 := sub_tuple_self
  have w2 := init_tuple_lookup
  have w3 := madeHere_tuple
  have w4 : s.TypeIs (.ref r) "dict_items" := hv.typeIs
  have w5 : A.in1.handled = none := hh
  wp_walk using wpAny_typeOf w4, kdx_collect (A := A.in1) w5 hv hm hn
  intro h' tk as hk hl hG
  show wpAny _ _ (Builtin.Tuple.tupleExact (as.map Value.ref).toArray >>= fun v => ret v) _ _ _
  unfold Builtin.Tuple.tupleExact
  refine wpAny_bind (wpAny_newObj_type ?_ (by show (List.map Value.ref as).toArray.size ≤ sizeLine; rw [List.size_toArray, List.length_map, hl]; exact hn))
  exact wpAny_pure (h h' tk as hk hl hG)
theorem call_tup_items {Q : Value → Shared → Prop} (hh : A.handled = none) (hv : s.heap.IsItemsView r d) (hm : s.heap.DictAt (mixKind prog w) d kvs ep) (hn : kvs.length ≤ sizeLine)
    (h : ∀ (h' : Heap) (tk : Nat) (as : List Addr), (∀ b o, s.heap.get? b = some o → h'.get? b = some o) → as.length = kvs.length → KdxG (mixKind prog w) kvs s.heap.objs.size h' as →
      Q (.ref h'.objs.size) { s with heap := h'.push { cls := .type "tuple", data := .seq (as.map Value.ref).toArray }, toks := tk }) :
    wpAny (model prog w) A (call (.type "tuple") [.ref r]) Q E s := by
  refine callType_codes (Q₁ := fun o s1 => s1.TypeIs o "tuple" ∧ Q o s1) F.called_tuple (F.typeCall_tuple_1 _) F.entry_object_init
    (tup_items_new (A := A.in1) hh hv hm hn fun h' tk as hk hl hG => ⟨⟨_, Heap.get?_push_size _ rfl, rfl⟩, h h' tk as hk hl hG⟩) fun o s1 h1 => ?_
  refine ⟨h1.1, F.args_object_init_2 o _, ?_⟩
  exact object_init_meets F.called_tuple.init.lookup F.called_tuple.made (by decide) prog w A.in1 _ s1 ⟨h1.1, rfl, h1.2⟩
end
/-- the pairs that were made are tracked -/
theorem tups_laid {X : Cx} {pins : List (Addr × Obj)} {σ : L2.St} {H : Hp} {s : Shared} {h' : Heap} {tk : Nat} {kvs : List (Key × V)} {vs : List (Key × Value)} {as : List Addr} (I : L2.Inv X pins σ H s) (kv : KV kvs vs)
    (hk : ∀ b o, s.heap.get? b = some o → h'.get? b = some o) (hl : as.length = vs.length) (hG : PySem.W.KdxG (mixKind X.prog X.w) vs s.heap.objs.size h' as) :
    Same H (LiI.putT H as kvs) ∧ Paired (fun (t : Addr) (q : Key × V) => LiI.putT H as kvs t = some (.tup [kV q.1, q.2])) as kvs ∧ L2.Inv X pins σ (LiI.putT H as kvs) { s with heap := h', toks := tk } := by
  have lk : kvs.length = vs.length := Paired.length kv
  have nd : as.Nodup := List.Pairwise.imp (fun {a b} (q : a < b) => Nat.ne_of_lt q) hG.rise
  have new : ∀ t ∈ as, H t = none := fun t ht => I.hok.fresh (Nat.le_of_lt (hG.above t ht))
  have atP := LiI.putT_at as kvs H (hl.trans lk.symm) nd
  have low : ∀ b o, s.heap.get? b = some o → b ∉ as := fun b o e z => absurd (Heap.lt_size e) (Nat.not_lt.mpr (Nat.le_of_lt (hG.above b z)))
  have kp : Same H (LiI.putT H as kvs) := fun b u e => by
    rw [LiI.putT_off as kvs _ (fun z => by rw [new b z] at e; cases e)]
    exact e
  refine ⟨kp, atP, ?_⟩
  refine I.call' (ch := []) rfl ⟨fun b o q _ _ _ => hk b o q, fun b o q _ _ _ => ⟨o.slots, hk b o q⟩, fun b o q n _ => ?_, fun b o q _ => ⟨o, hk b o q⟩, fun b xs q => kp b _ q, fun b o u q => kp b _ q, fun b ps q => ⟨#[], by rw [kp b _ q]; simp⟩⟩
    (fun b u q => ?_) I.bare (fun b z => by simp at z)
  · rw [LiI.putT_off as kvs _ (low b o q)]
    exact n
  · by_cases hb : b ∈ as
    · obtain ⟨j, pk, e1, e2, e3⟩ := LiI.paired_ix atP hb
      rw [e3] at q
      cases q
      obtain ⟨key, k, x, f1, f2, f3⟩ := hG.pairs j b e1
      obtain ⟨qv, g1, g2, g3⟩ := LiI.paired_get kv e2
      rw [f1] at g1
      cases g1
      refine ⟨by show 2 ≤ sizeLine; decide, [key, x], .cons ?_ (.cons g3 .nil), ⟨_, f3, rfl, _, rfl⟩⟩
      rw [g2]
      exact relV_key (show keyIs k key = true from f2)
    · rw [LiI.putT_off as kvs _ hb] at q
      exact (I.hok b u q).stay (fun d v _ y => hk d v y) (fun d y => kp d _ y) fun d xs y => kp d _ y
def tTupItems (te : TE) : TE := fun σ H Q => te σ H fun x H1 => ∃ (d : Addr) (kvs : List (Key × V)), x = .ref d ∧ H1 d = some (.dK kvs) ∧
  ∀ (H' : Hp) (p : Addr) (ts : List Addr), Same H1 H' → H1 p = none → H' p = some (.tup (ts.map V.ref)) → Paired (fun (t : Addr) (q : Key × V) => H' t = some (.tup [kV q.1, q.2])) ts kvs → Q (.ref p) H'
open PySem.Calls PySem.W PyProof.Rows in
theorem pe_tupItems {X : Cx} {e : Expr} {te : TE} {p apos cpos pos : Pos} (hc : X.calm = true) (he : PE X e te) (hg : Gl X "tuple") (hm : X.mg "tuple" = none) (hbase : attributeBase e "items" X.env (eval e X.env) = eval e X.env := by rfl) (hline : (apos.endLine == cpos.line) = true := by rfl)
    (hs : starEach [.Call (.Attribute e "items" apos) [] [] cpos] X.env = (false, eval (.Call (.Attribute e "items" apos) [] [] cpos) X.env) :: starEach [] X.env := by rfl) :
    PE X (.Call (.Name "tuple" p) [.Call (.Attribute e "items" apos) [] [] cpos] [] pos) (tTupItems te) := by
  refine ⟨fun pins s σ H Q I hq => ?_⟩
  refine wpAny_Call_Name_kw (ld_blt I hg hm boot_tuple ?_)
  refine PyProof.Rows.callWith_type1 ?_ hs rfl
  rw [hs]
  show wpAny _ _ (spliced ((false, eval (.Call (.Attribute e "items" apos) [] [] cpos) X.env) :: backTo pos (starEach [] X.env))) _ _ s
  refine Calls.spliced_cons ?_
  refine wpAny_Call_method (T := "dict") (id := "dict.items") hbase rfl hline F.plainAttrs_dict F.slot_dict_items F.type_dict_items
    (thn (he.run pins s σ H _ I hq) fun u s1 ⟨x, H1, I1, rx, d, kvs, ex, hd, q⟩ => ?_)
  subst ex
  obtain rfl : u = Value.ref d := rx
  obtain ⟨hz, hs0, vs, kv, hdo⟩ := I1.hok d _ hd
  obtain ⟨ep, hat⟩ := hdo.dictAt
  have lk : kvs.length = vs.length := Paired.length kv
  have I2 : L2.Inv X pins σ H1 { s1 with heap := s1.heap.push { cls := .type "dict_items", data := .fields #[.ref d] } } :=
    I1.kept (t' := s1.toks) fun b ob q => Heap.get?_push_of_some _ q
  refine ⟨hdo.typeIs, hdo.mapOf.noDict, ?_⟩
  show wpAny _ _ (callWith cpos (.builtin "dict.items") [.ref d] [] []) _ X.xe s1
  refine method_meetsIn F.slot_dict_items F.entry_dict_items rfl
    (PySem.evalArgs_none ⟨rfl, hdo.typeIs, F.args_dict_items_1 _, _, meets_dict_items (mixKind X.prog X.w) d hs0, ⟨vs, hdo⟩, ?_⟩)
  refine Calls.spliced_nil ?_
  refine call_tup_items (kvs := vs) (ep := ep) (I1.ok.hd hc) ⟨_, Heap.get?_push_size _ rfl, rfl, rfl⟩ (hat.push _) (by omega) fun h' tk as hk hl hG => ?_
  obtain ⟨k1, k2, J⟩ := tups_laid (tk := tk) I2 kv hk hl hG
  have hlen : as.length ≤ sizeLine := by
    rw [hl, ← lk]
    exact hz
  have J2 : L2.Inv X pins σ (upd (LiI.putT H1 as kvs) h'.objs.size (.tup (as.map V.ref))) { s1 with heap := h'.push { cls := .type "tuple", data := .seq (as.map Value.ref).toArray }, toks := tk } :=
    J.laid (t' := tk) (fun b o e => Heap.get?_push_of_some _ e) (Nat.le_refl _) ⟨by rw [List.length_map]; exact hlen, as.map Value.ref, LiI.vals_refs as, IsTup.new _ _⟩
  have nn : LiI.putT H1 as kvs h'.objs.size = none := J.hok.fresh (Nat.le_refl _)
  refine ⟨.ref h'.objs.size, _, J2, rfl, q _ _ as (fun b o e => ?_) (k1.free nn) upd_same ?_⟩
  · rw [upd_ne (ne_of_none (k1 b o e) nn)]
    exact k1 b o e
  · exact Paired.mapP k2 fun t qv e => by
      rw [upd_ne (ne_of_none e nn)]
      exact e
end K2

namespace K2
open PySem L2
/-- what a dict of slots must be like -/
structure SlotsOk (K : PySem.W.Frag) (H : Hp) (d : Addr) (kvs : List (Key × V)) : Prop where
  key : ∀ p ∈ kvs, ∃ z, p.1 = .inr z ∧ z.length ≤ 1000 ∧ PyData.strOk z = true
  val : ∀ p ∈ kvs, Val K H p.2 ∧ p.2 ≠ .ref d
  len : kvs.length ≤ 1000
def goodP (p : Key × V) : Bool := (match p.1 with | .inr z => nameS z | _ => false) && takenV p.2
def badK (kvs : List (Key × V)) : Option V := (kvs.find? fun p => !goodP p).map fun p => kV p.1
theorem SlotsOk.keep {K : PySem.W.Frag} {H H' : Hp} {d : Addr} {kvs : List (Key × V)} (s : SlotsOk K H d kvs) (k : ∀ b o, b ≠ d → H b = some o → H' b = some o) : SlotsOk K H' d kvs :=
  ⟨s.key, fun p hp => ⟨Val.keep (s.val p hp).1 fun a o e q => k a o (fun z => (s.val p hp).2 (by rw [e, z])) q, (s.val p hp).2⟩, s.len⟩
/-- an exception that leaves a locked walk finds the thing unlocked -/
theorem takes_unlock {X : Cx} {W : WX} {d : Addr} {u : HO} (tk : Takes X W) (hn : ∀ o' u', X.H_0 d ≠ some (.frz o' u')) : Takes X (fun cls dd σ H' => ∃ od, H' d = some (.frz od u) ∧ W cls dd σ (upd H' d u)) := fun v s' x => by
  obtain ⟨a, B, sI, pins, σ, H, cls, dd, e, I, nb, up, sky, na, os, ag, od, hd, w⟩ := x
  refine tk v s' ⟨a, B, sI, pins, σ, upd H d u, cls, dd, e, I.unlock hd hn, nb, up, sky, ?_, os, ag, w⟩
  rw [upd_ne (ne_of_none hd na).symm]
  exact na
structure TxtF (P : Program) (K : PySem.W.Frag) (mg : Str → Option Value) (CI CF fN fT : Addr) (fdN fdT : FuncData) : Prop where
  N : TxtN mg
  er : ErrF P K mg CI
  gN : mg "is_name" = some (.ref fN)
  kN : PySem.W.keepIn K (.ref fN) = true
  bN : Binds K fdN ["value"] []
  gT : mg "is_taken" = some (.ref fT)
  kT : PySem.W.keepIn K (.ref fT) = true
  bT : Binds K fdT ["value"] []
  tup : mg "tuple" = none
  gF : mg "Form" = some (.ref CF)
  mx : ∃ mc t, ClX.CRead K CF mc ∧ ClX.CVal K CF mc "MAX_SLOTS" (.int 5) (.int 5 t)
section
variable {P : Program} {w : World} {K : PySem.W.Frag} {mg : Str → Option Value} {base : Heap}
def spChecked (K : PySem.W.Frag) (CI : Addr) : Sp := fun vs H Q E => ∃ (d : Addr) (kvs : List (Key × V)), vs = [.ref d] ∧ SlotsOk K H d kvs ∧ H d = some (.dK kvs) ∧
  (match badK kvs with
   | some k => ∀ H' dd, Same H H' → H dd = none → H' dd = some (.xd [("part", k)]) → E (.ref CI) (some dd) H'
   | none => if 5 < kvs.length then ∀ H' dd, Same H H' → H dd = none → H' dd = some (.xd [("part", .str "size")]) → E (.ref CI) (some dd) H'
     else ∀ (H' : Hp) (p : Addr) (ts : List Addr), Same H H' → H p = none → H' p = some (.tup (ts.map V.ref)) → Paired (fun (t : Addr) (q : Key × V) => H' t = some (.tup [kV q.1, q.2])) ts kvs → Q (.ref p) H')
theorem scChecked : FnScope ["slots", "slot", "takes"] ["slots"] (defScope sChecked) := ⟨rfl, rfl, rfl, by decide +kernel, rfl, by decide +kernel, by decide +kernel⟩
theorem find_pre {α : Type} {p : α → Bool} : ∀ {l : List α} {i : Nat} {x : α}, l[i]? = some x → (∀ j y, j < i → l[j]? = some y → p y = false) → p x = true → l.find? p = some x
  | [], _, _, h, _, _ => by cases h
  | a :: l, 0, x, h, _, q => by
    have e := Option.some.inj h
    subst e
    rw [List.find?_cons, q]
  | a :: l, i + 1, x, h, k, q => by
    rw [List.find?_cons, k 0 a (Nat.zero_lt_succ _) rfl]
    exact find_pre (l := l) (i := i) h (fun j y hj hy => k (j + 1) y (Nat.succ_lt_succ hj) hy) q
theorem find_all {α : Type} {p : α → Bool} {l : List α} (k : ∀ j y, j < l.length → l[j]? = some y → p y = false) : l.find? p = none := by
  rw [List.find?_eq_none]
  intro x hx
  obtain ⟨j, hj, e⟩ := List.getElem_of_mem hx
  have := k j x hj (by rw [← e]; exact List.getElem?_eq_getElem hj)
  rw [this]
  decide
theorem ok_checked {f fN fT CI CF : Addr} {fd fdN fdT : FuncData} (F : Fun K "_checked_slots" "_checked_slots" sChecked f fd) (T : TxtF P K mg CI CF fN fT fdN fdT)
    (GN : FnOk P w K mg base CX0 1 fN fdN ["value"] (spName K)) (GT : FnOk P w K mg base CX0 3 fT fdT ["value"] (spTaken K)) :
    FnOk P w K mg base (L2.CX P w) 4 f fd ["slots"] (spChecked K CI) := by
  refine F.okX scChecked (fun vs H Q E h => ?_) (fun cdv A outer s H vs Q E hr h => ?_)
  · obtain ⟨d, kvs, rfl, _⟩ := h
    rfl
  · obtain ⟨d, kvs, rfl, ok, hd, k⟩ := h
    obtain ⟨mc, mt, cr, cv⟩ := T.mx
    have hr1 : Room 1 _ := hr.mono (by decide)
    have hr2 : Room 2 _ := hr.mono (by decide)
    have tkE : Takes (cxOf (L2.CX P w) P w K mg base ["slots", "slot", "takes"] "_checked_slots" (defScope sChecked) f cdv A outer s H E) (fun cls dd _ H => E cls dd H) := takes_of rfl rfl rfl rfl
    refine ⟨_, pss_cons (ps_lock (ps_for (passes_of rfl) rfl (pi_items (pv 0)) (pg_tup (by rfl) (pgs_cons (pg_name (i := 1) scChecked.nd rfl (.inl rfl)) (pgs_cons (pg_name (i := 2) scChecked.nd rfl (.inl rfl)) pgs_nil)))
        (pss_one (ps_if (PW.pt (pw_or (pt_not (pt_val (pe_call GN hr1 rfl T.gN T.kN T.bN .nil pass0 (pa_cons (pv 1) pa_nil)))) (pw_or1 (pt_not (pt_val (pe_call GT hr rfl T.gT T.kT T.bT .nil pass0 (pa_cons (pv 2) pa_nil)))))))
          (pss_one (ps_raise rfl (takes_unlock (d := d) (u := .dK kvs) tkE (fun o' u' e => by have e' : H d = some (.frz o' u') := e; rw [hd] at e'; cases e')) (pmk_form T.er hr2 rfl (pv 1)))) pss_nil))))
      (pss_cons (ps_if (pt_cmpR op_gt (pe_callB call_lenD (by rfl) T.N.len PySem.boot_len (pa_cons (pv 0) pa_nil)) (ClX.pe_cval (pe_glob (v := .ref CF) rfl T.gF rfl)) (nomark _))
        (pss_one (ps_raise rfl tkE (pmk_form T.er hr2 rfl pe_str))) pss_nil)
      (pss_one (ps_ret (pe_tupItems rfl (pv 0) rfl T.tup)))), ?_⟩
    refine ⟨d, .dK kvs, hd, True.intro, fun od => ?_⟩
    have hu0 : (upd H d (.frz od (.dK kvs))) d = some (.frz od (.dK kvs)) := upd_same
    have unl : ∀ H' : Hp, (∀ b o, b ≠ d → H b = some o → H' b = some o) → Same H (upd H' d (.dK kvs)) := fun H' k b o e => by
      by_cases q : b = d
      · rw [q, upd_same]
        rw [q, hd] at e
        exact e
      · rw [upd_ne q]
        exact k b o q e
    refine ⟨_, rfl, d, od, kvs, rfl, hu0, for_it walk_items (fun i σ H' => ∃ v1 v2 : Option V, σ = [some (.ref d), v1, v2] ∧ (∀ b o, b ≠ d → H b = some o → H' b = some o) ∧ H' d = some (.frz od (.dK kvs)) ∧ ∀ j y, j < i → kvs[j]? = some y → (!goodP y) = false)
      ⟨_, _, rfl, fun b o q e => by rw [upd_ne q]; exact e, hu0, fun j y hj => by omega⟩ (fun i σ H' _ ⟨_, _, _, _, e, _⟩ => e) ?_ ?_⟩
    · rintro i x σ H1 H2 hi ⟨v1, v2, rfl, s1, hf, pre⟩ ⟨Tp, y, z, rfl, hT, rfl, ey, ez⟩
      obtain ⟨p, ep⟩ : ∃ p, kvs[i]? = some p := ⟨kvs[i], List.getElem?_eq_getElem hi⟩
      have ey : kvs[i]?.map (fun kv => kV kv.1) = some y := ey
      have ez : kvs[i]?.map Prod.snd = some z := ez
      rw [ep] at ey ez
      have ey : some (kV p.1) = some y := ey
      have ez : some p.2 = some z := ez
      cases ey
      cases ez
      have hp : p ∈ kvs := List.mem_of_getElem? ep
      obtain ⟨zs, ek, hz, ho⟩ := ok.key p hp
      have s2 : ∀ b o, b ≠ d → H b = some o → (upd H1 Tp (.tup [kV p.1, p.2])) b = some o := fun b o q e => by
        have e1 := s1 b o q e
        rw [upd_ne (ne_of_none e1 hT)]
        exact e1
      have hf2 : (upd H1 Tp (.tup [kV p.1, p.2])) d = some (.frz od (.dK kvs)) := by rw [upd_ne (ne_of_none hf hT)]; exact hf
      have ok2 := ok.keep s2
      refine ⟨Tp, _, rfl, .inl (.inl upd_same), rfl, _, _, rfl, ?_⟩
      refine ⟨_, _, rfl, rfl, ?_⟩
      have ekv : kV p.1 = .str zs := by rw [ek]; rfl
      have hgood : goodP p = (nameS zs && takenV p.2) := by
        unfold goodP
        rw [ek]
      refine ⟨_, rfl, _, rfl, .inl ⟨zs, ekv, hz, ho⟩, fun H3 s3 => ⟨_, rfl, ?_⟩⟩
      have bad : goodP p = false → ∀ H4 : Hp, Same (upd H1 Tp (.tup [kV p.1, p.2])) H4 → ∀ dd, H4 dd = none → ∃ od', (upd H4 dd (.xd [("part", kV p.1)])) d = some (.frz od' (.dK kvs)) ∧ E (.ref CI) (some dd) (upd (upd H4 dd (.xd [("part", kV p.1)])) d (.dK kvs)) := fun hb H4 s4 dd hdd => by
        have ebad : badK kvs = some (kV p.1) := by
          unfold badK
          rw [find_pre ep pre (by rw [hb]; rfl)]
          rfl
        rw [ebad] at k
        have hf4 : H4 d = some (.frz od (.dK kvs)) := s4 _ _ hf2
        have ndd : dd ≠ d := (ne_of_none hf4 hdd).symm
        refine ⟨od, by rw [upd_ne ndd.symm]; exact hf4, k _ dd (unl _ fun b o q e => ?_) ?_ ?_⟩
        · have e4 := s4 b o (s2 b o q e)
          rw [upd_ne (ne_of_none e4 hdd)]
          exact e4
        · cases e : H dd with
          | none => rfl
          | some o => rw [s4 dd o (s2 dd o ndd e)] at hdd; cases hdd
        · rw [upd_ne ndd, upd_same]
      rw [show nameV (kV p.1) = nameS zs by rw [ekv]; rfl]
      cases hn : nameS zs with
      | false =>
        refine iteT (iteT ?_)
        refine ⟨_, rfl, ?_⟩
        exact raise_ans (C := CI) (v := kV p.1) (H1 := H3) (Q := fun cls dd H' => ∃ od', H' d = some (.frz od' (.dK kvs)) ∧ E cls dd (upd H' d (.dK kvs))) (bad (by rw [hgood, hn]; rfl) H3 s3)
      | true =>
        refine iteF ?_
        refine ⟨_, rfl, p.2, rfl, Val.same (ok2.val p hp).1 s3, fun H4 s4 => ⟨_, rfl, ?_⟩⟩
        cases ht : takenV p.2 with
        | false =>
          refine iteT ?_
          refine ⟨_, rfl, ?_⟩
          exact raise_ans (C := CI) (v := kV p.1) (H1 := H4) (Q := fun cls dd H' => ∃ od', H' d = some (.frz od' (.dK kvs)) ∧ E cls dd (upd H' d (.dK kvs))) (bad (by rw [hgood, hn, ht]; rfl) H4 (s3.trans s4))
        | true =>
          refine iteF ?_
          refine ⟨_, _, rfl, fun b o q e => s4 _ _ (s3 _ _ (s2 b o q e)), s4 _ _ (s3 _ _ hf2), fun j y hj ey => ?_⟩
          rcases Nat.lt_succ_iff_lt_or_eq.mp hj with q | q
          · exact pre j y q ey
          · rw [q, ep] at ey
            cases ey
            rw [hgood, hn, ht]
            rfl
    · rintro σ H1 ⟨v1, v2, rfl, s1, hf, pre⟩
      have nob : badK kvs = none := by
        unfold badK
        rw [find_all pre]
        rfl
      rw [nob] at k
      refine ⟨hf, ?_⟩
      have s5 := unl H1 s1
      generalize eH5 : upd H1 d (.dK kvs) = H5 at s5
      have hd5 : H5 d = some (.dK kvs) := by rw [← eH5, upd_same]
      refine ⟨_, rfl, d, kvs, rfl, hd5, CF, mc, .int 5, _, rfl, cr, cv, _, _, rfl, rfl, _, rfl, ?_⟩
      refine ite2 (fun h5 => ?_) (fun h5 => ?_)
      · have h5' : 5 < kvs.length := by have := of_decide_eq_true h5; omega
        simp only [if_pos h5'] at k
        refine raise_ans fun dd hdd => k _ dd (same_upd s5 (s5.free hdd)) (s5.free hdd) upd_same
      · have h5' : ¬ 5 < kvs.length := fun q => h5 (decide_eq_true (by omega))
        simp only [if_neg h5'] at k
        exact ⟨_, rfl, d, kvs, rfl, hd5, fun H' p ts s6 np e1 e2 => k H' p ts (s5.trans s6) (s5.free np) e1 e2⟩
end
end K2

namespace K2
open PySem L2
def dueV (n s : V) (kvs : List (Key × V)) : Option V :=
  if nameV n = false then some (.str "name") else if sortV s = false then some (.str "sort") else match badK kvs with
    | some k => some k
    | none => if 5 < kvs.length then some (.str "size") else none
/-- all but x is kept -/
def SameX (x : Addr) (H H' : Hp) : Prop := ∀ b o, b ≠ x → H b = some o → H' b = some o
theorem Same.x {x : Addr} {H H' : Hp} (s : Same H H') : SameX x H H' := fun b o _ e => s b o e
theorem SameX.trans {x : Addr} {H H1 H2 : Hp} (a : SameX x H H1) (b : SameX x H1 H2) : SameX x H H2 := fun c o n e => b c o n (a c o n e)
theorem SameX.upd {x : Addr} {H : Hp} {o : HO} : SameX x H (upd H x o) := fun b u n e => by rw [upd_ne n]; exact e
theorem SameX.free {x : Addr} {H H' : Hp} (e : SameX x H H') {l : Addr} (n : l ≠ x) (h : H' l = none) : H l = none := by
  cases q : H l with
  | none => rfl
  | some o =>
    rw [e l o n q] at h
    cases h
/-- the tuple of the slots stands at p -/
def SlotTup (H : Hp) (p : Addr) (kvs : List (Key × V)) : Prop := ∃ ts : List Addr, H p = some (.tup (ts.map V.ref)) ∧ Paired (fun (t : Addr) (q : Key × V) => H t = some (.tup [kV q.1, q.2])) ts kvs
theorem SlotTup.same {H H' : Hp} {p : Addr} {kvs : List (Key × V)} (h : SlotTup H p kvs) (s : Same H H') : SlotTup H' p kvs := by
  obtain ⟨ts, e1, e2⟩ := h
  exact ⟨ts, s _ _ e1, Paired.mapP e2 fun t q e => s _ _ e⟩
theorem SlotTup.upd {H : Hp} {p x : Addr} {o : HO} {kvs : List (Key × V)} (h : SlotTup H p kvs) (hx : ∀ xs, H x ≠ some (.tup xs)) : SlotTup (upd H x o) p kvs := by
  obtain ⟨ts, e1, e2⟩ := h
  exact ⟨ts, by rw [upd_ne (fun q => hx _ (by rw [← q]; exact e1))]; exact e1, Paired.mapP e2 fun t q e => by rw [upd_ne (fun z => hx _ (by rw [← z]; exact e))]; exact e⟩
structure TxtC (P : Program) (K : PySem.W.Frag) (mg : Str → Option Value) (CI CF fN fT fS fC fI : Addr) (fdN fdT fdS fdC : FuncData) extends TxtF P K mg CI CF fN fT fdN fdT where
  gS : mg "is_sort" = some (.ref fS)
  kS : PySem.W.keepIn K (.ref fS) = true
  bS : Binds K fdS ["value"] []
  gC : mg "_checked_slots" = some (.ref fC)
  kC : PySem.W.keepIn K (.ref fC) = true
  bC : Binds K fdC ["slots"] []
  cl : Cls K CF
  nN : NoAttr K CF "name"
  nK : NoAttr K CF "kin"
  nS : NoAttr K CF "slots"
  mkF : Mk K CF fI
section
variable {P : Program} {w : World} {K : PySem.W.Frag} {mg : Str → Option Value} {base : Heap}
def spInit (K : PySem.W.Frag) (CI CF : Addr) : Sp := fun vs H Q E => ∃ (x dx d : Addr) (n s : V) (kvs : List (Key × V)), vs = [.ref x, n, s, .ref d] ∧ H x = some (.ins CF dx []) ∧ Val K H n ∧ Val K H s ∧ n ≠ .ref x ∧ s ≠ .ref x ∧ SlotsOk K H d kvs ∧ (∀ p ∈ kvs, p.2 ≠ .ref x) ∧ H d = some (.dK kvs) ∧
  (match dueV n s kvs with
   | some k => ∀ H' dd, SameX x H H' → H dd = none → H' dd = some (.xd [("part", k)]) → E (.ref CI) (some dd) H'
   | none => ∀ (H' : Hp) (p : Addr) (fs : List (Str × V)), SameX x H H' → H' x = some (.ins CF dx fs) → H p = none → SlotTup H' p kvs → fs = putF "slots" (.ref p) (putF "kin" s (putF "name" n [])) → Q .non H')
theorem scInit : FnScope ["self", "name", "sort", "slots"] ["self", "name", "sort", "slots"] (defScope sFormInit) := ⟨rfl, rfl, rfl, by decide +kernel, rfl, by decide +kernel, by decide +kernel⟩
theorem body_init {f fN fT fS fC fI CI CF : Addr} {fdN fdT fdS fdC : FuncData} (T : TxtC P K mg CI CF fN fT fS fC fI fdN fdT fdS fdC)
    (GN : FnOk P w K mg base CX0 1 fN fdN ["value"] (spName K)) (GS : FnOk P w K mg base CX0 2 fS fdS ["value"] (spSort K)) (GC : FnOk P w K mg base (L2.CX P w) 4 fC fdC ["slots"] (spChecked K CI))
    {qual : Str} {cdv : Value} {A : Around} {outer : List Env} {s : Shared} {H : Hp} {vs : List V} {Q : VK} {E : XK} (hr : Room 4 (A.deeper (PyProof.Rows.envOfC qual (defScope sFormInit) s.heap.objs.size f cdv))) (h : spInit K CI CF vs H Q E) :
    ∃ t, PSs (cxOf (L2.CX P w) P w K mg base ["self", "name", "sort", "slots"] qual (defScope sFormInit) f cdv A outer s H E) (defBody sFormInit) t ∧ t { nx := fun _ H' => Q .non H', rt := Q } (L2.start ["self", "name", "sort", "slots"] vs) H := by
  obtain ⟨x, dx, d, n, so, kvs, rfl, hx, hn, hs, nx, sx, ok, vx, hd, k⟩ := h
  have hr1 : Room 1 _ := hr.mono (by decide)
  have hr2 : Room 2 _ := hr.mono (by decide)
  have tkE : Takes (cxOf (L2.CX P w) P w K mg base ["self", "name", "sort", "slots"] qual (defScope sFormInit) f cdv A outer s H E) (fun cls dd _ H => E cls dd H) := takes_of rfl rfl rfl rfl
  refine ⟨_, pss_cons (ps_if (pt_not (pt_val (pe_call GN hr1 (by rfl) T.gN T.kN T.bN .nil pass0 (pa_cons (pv 1) pa_nil)))) (pss_one (ps_raise rfl tkE (pmk_form T.er hr2 rfl pe_str))) pss_nil)
    (pss_cons (ps_if (pt_not (pt_val (pe_call GS hr2 (by rfl) T.gS T.kS T.bS .nil pass0 (pa_cons (pv 2) pa_nil)))) (pss_one (ps_raise rfl tkE (pmk_form T.er hr2 rfl pe_str))) pss_nil)
    (pss_cons (ps_fld (pv 0) (pv 1) rfl) (pss_cons (ps_fld (pv 0) (pv 2) rfl)
    (pss_one (ps_fld (pv 0) (pe_call GC hr (by rfl) T.gC T.kC T.bC .nil (passes_call tkE (fun _ _ _ _ q => q)) (pa_cons (pv 3) pa_nil)) rfl))))), ?_⟩
  have ex := k
  -- the raises
  have rs : ∀ (w1 : Str) (H1 : Hp), dueV n so kvs = some (.str w1) → Same H H1 → ∀ dd, H1 dd = none → E (.ref CI) (some dd) (upd H1 dd (.xd [("part", .str w1)])) := fun w1 H1 e s1 dd hdd => by
    rw [e] at k
    exact k _ dd (Same.x (same_upd s1 (s1.free hdd))) (s1.free hdd) upd_same
  refine ⟨_, rfl, n, rfl, hn, fun H1 s1 => ⟨_, rfl, ?_⟩⟩
  cases en : nameV n with
  | false =>
    refine iteT ?_
    exact raise_ans (rs "name" H1 (by unfold dueV; rw [if_pos en]) s1)
  | true =>
    refine iteF ?_
    refine ⟨_, rfl, so, rfl, Val.same hs s1, fun H2 s2 => ⟨_, rfl, ?_⟩⟩
    have s12 := s1.trans s2
    cases es : sortV so with
    | false =>
      refine iteT ?_
      exact raise_ans (rs "sort" H2 (by unfold dueV; rw [if_neg (by rw [en]; decide), if_pos es]) s12)
    | true =>
      refine iteF ?_
      refine ⟨_, rfl, _, rfl, x, CF, dx, _, rfl, s12 _ _ hx, T.cl, T.nN, (by show 0 < 1000; decide), ?_⟩
      refine ⟨_, rfl, _, rfl, x, CF, dx, _, rfl, upd_same, T.cl, T.nK, (by show 1 < 1000; decide), ?_⟩
      rw [upd_upd]
      generalize eH3 : upd H2 x (.ins CF dx (putF "kin" so (putF "name" n []))) = H3
      have hx3 : H3 x = some (.ins CF dx (putF "kin" so (putF "name" n []))) := by rw [← eH3, upd_same]
      have s3 : SameX x H H3 := by
        rw [← eH3]
        exact SameX.trans (Same.x s12) SameX.upd
      have xd : d ≠ x := ne_of hd hx (by intro q; cases q)
      have hd3 : H3 d = some (.dK kvs) := s3 d _ xd hd
      have ok3 : SlotsOk K H3 d kvs := ⟨ok.key, fun p hp => ⟨Val.keep (ok.val p hp).1 fun a o e q => s3 a o (fun z => vx p hp (by rw [e, z])) q, (ok.val p hp).2⟩, ok.len⟩
      have due3 : dueV n so kvs = (match badK kvs with | some k => some k | none => if 5 < kvs.length then some (.str "size") else none) := by
        unfold dueV
        rw [if_neg (by rw [en]; decide), if_neg (by rw [es]; decide)]
      rw [due3] at k
      refine ⟨_, rfl, d, kvs, rfl, ok3, hd3, ?_⟩
      cases eb : badK kvs with
      | some kb =>
        rw [eb] at k
        intro H' dd s4 hdd e
        refine k H' dd (SameX.trans s3 (Same.x s4)) ?_ e
        exact SameX.free s3 (fun q => by rw [q, hx3] at hdd; cases hdd) hdd
      | none =>
        rw [eb] at k
        dsimp only at k ⊢
        by_cases h5 : 5 < kvs.length
        · rw [if_pos h5] at k ⊢
          intro H' dd s4 hdd e
          refine k H' dd (SameX.trans s3 (Same.x s4)) ?_ e
          exact SameX.free s3 (fun q => by rw [q, hx3] at hdd; cases hdd) hdd
        · rw [if_neg h5] at k ⊢
          intro H' p ts s4 hp e1 e2
          have hx4 := s4 _ _ hx3
          refine ⟨_, rfl, x, CF, dx, _, rfl, hx4, T.cl, T.nS, (by show 2 < 1000; decide), ?_⟩
          refine k _ p _ (SameX.trans (SameX.trans s3 (Same.x s4)) SameX.upd) upd_same ?_ ?_ rfl
          · exact SameX.free s3 (fun q => by rw [q, hx3] at hp; cases hp) hp
          · exact SlotTup.upd ⟨ts, e1, e2⟩ (fun xs q => by rw [hx4] at q; cases q)
end
end K2

namespace K2
open PySem L2
section
variable {P : Program} {w : World} {K : PySem.W.Frag} {mg : Str → Option Value} {base : Heap}
/-- Form's __init__ called without keywords: the dict of the slots is new and empty -/
def spInit0 (K : PySem.W.Frag) (CI CF : Addr) : Sp := fun vs H Q E => vs.length = 3 ∧ ∀ d, H d = none → spInit K CI CF (vs ++ [.ref d]) (upd H d (.dK [])) Q E
open StX in
theorem init_fnR {f fN fT fS fC fI CI CF : Addr} {fdN fdT fdS fdC : FuncData} {fd : FuncData} (F : Fun K "__init__" "Form.__init__" sFormInit f fd) (T : TxtC P K mg CI CF fN fT fS fC fI fdN fdT fdS fdC)
    (GN : FnOk P w K mg base CX0 1 fN fdN ["value"] (spName K)) (GS : FnOk P w K mg base CX0 2 fS fdS ["value"] (spSort K)) (GC : FnOk P w K mg base (L2.CX P w) 4 fC fdC ["slots"] (spChecked K CI)) :
    FnR P w K mg base (L2.CX P w) 5 f (spInit0 K CI CF) := by
  obtain ⟨oc, od, kV, doc, pm, an, cdv, ct, osl, rfl, lk, hcd⟩ := F.ex
  intro A outer s H us vs Q E hr e0 r hsp
  obtain ⟨hl, hq⟩ := hsp
  have hl1 : us.length = 3 := by rw [← r.length]; exact hl
  have hn : H s.heap.objs.size = Option.none := e0.hok.fresh (Nat.le_refl _)
  refine run_bnd lk hcd scInit hr e0 (G := fun xs H2 => ∃ d, H d = none ∧ xs = vs ++ [V.ref d] ∧ H2 = upd H d (.dK [])) (fun A' Ex Q' h => ?_) fun s2 H2 xs ⟨d, hd, ex, eH⟩ hr' => ?_
  · have hb : ∀ us : List Value, us.length = 3 → bindArgs (PySem.W.fnOf "__init__" "Form.__init__" (defArgs sFormInit) (defBody sFormInit) (defScope sFormInit) .none kV doc pm an cdv ct) ⟨us, []⟩ =
        ((alloc ({ cls := .type "dict", data := .dict #[] } : Obj) : Sem Addr) >>= fun d => pure ((["self", "name", "sort"] : List Str).zip us ++ [(("slots" : Str), Value.ref d)])) := fun us hl => by
      match us, hl with
      | [_, _, _], _ => rfl
    rw [hb us hl1]
    refine wpAny_bind (wpAny_alloc (wpAny_pure ?_))
    have z := h _ _ (vs ++ [V.ref s.heap.objs.size]) (us ++ [Value.ref s.heap.objs.size]) (env0_laid (u := .dK []) (o := ({ cls := .type "dict", data := .dict #[] } : Obj)) e0 (dk_empty _ (env0_big e0))) (un_laid hn) rfl
      (fun e s' => cxUp outer s H _ _ E e s' (un_laid hn) (fun b o q => Heap.get?_push_of_some _ q) rfl) (r.append (.cons rfl .nil)) (by rw [List.length_append, hl] <;> rfl) ⟨_, hn, rfl, rfl⟩
    match us, hl1, z with
    | [_, _, _], _, z => exact z
  · subst ex eH
    exact body_init T GN GS GC hr' (hq d hd)
end
/-! ### a class that a local name holds, called -/
def tMakeL (i : Nat) (C : Addr) (sp : Sp) (E : XK) (t : TA) : TE := fun σ H Q => σ[i]? = some (some (.ref C)) ∧ StX.tMakeR C sp E t σ H Q
theorem pe_makeL {X : Cx} {CX : CXT} {k i : Nat} {f C : Addr} {sp : Sp} {E : XK} {x : Str} {e : Expr} {es : List Expr} {t : TA} {p pos : Pos} (M : Mk X.K C f) (F : FnR X.prog X.w X.K X.mg X.base CX k f sp) (hr : Room (k + 1) X.A) (hN : X.N[i]? = some x) (hv : Vis X.env.scope x)
    (hx : Passes CX X E) (ha : PA X (e :: es) t) (hdb : (x == ("__debug__" : Str)) = false := by decide) (hcd : (x == ("__classdict__" : Str)) = false := by decide)
    (he : starEach (e :: es) X.env = (false, eval e X.env) :: starEach es X.env := by rfl) (hpl : (backTo pos (starEach es X.env)).any (·.1) = false := by rfl) : PE X (.Call (.Name x p) (e :: es) [] pos) (tMakeL i C sp E t) := by
  refine ⟨fun pins s σ H Q I h => ?_⟩
  obtain ⟨hs, h⟩ := h
  refine wpAny_Call_Name_kw (thn ((pe_var (pos := p) (i := i) hN hv hdb hcd).run pins s σ H (fun v H1 => v = .ref C ∧ H1 = H) I ⟨.ref C, hs, rfl, rfl⟩) fun u s1 ⟨v, H1, I1, r1, q1⟩ => ?_)
  obtain ⟨ev, eH⟩ := q1
  subst ev eH
  obtain rfl : u = Value.ref C := r1
  refine PySem.W.callWith_K (h₀ := X.base) I.ok.mod.kin M.kp (thn (ha.run pos pins s1 σ H1 _ I1 h) fun us s2 ⟨vs, H2, I2, r, q⟩ => ⟨I2.kIn, ?_⟩) he hpl
  exact StX.run_makeR M F hr hx I2 r q
end K2

namespace K2
open PySem L2
section
variable {P : Program} {w : World} {K : PySem.W.Frag} {mg : Str → Option Value} {base : Heap}
/-- a form as it stands behind Form.of -/
structure FormAt (CF : Addr) (H : Hp) (x : Addr) (n s : V) (kvs : List (Key × V)) : Prop where
  ex : ∃ (dx p : Addr) (fs : List (Str × V)), H x = some (.ins CF dx fs) ∧ fs.lookup ("name" : Str) = some n ∧ fs.lookup ("kin" : Str) = some s ∧ fs.lookup ("slots" : Str) = some (.ref p) ∧ SlotTup H p kvs
theorem FormAt.same {CF x : Addr} {H H' : Hp} {n s : V} {kvs : List (Key × V)} (h : FormAt CF H x n s kvs) (e : Same H H') : FormAt CF H' x n s kvs := by
  obtain ⟨dx, p, fs, h1, h2, h3, h4, h5⟩ := h.ex
  exact ⟨dx, p, fs, e _ _ h1, h2, h3, h4, h5.same e⟩
def spOf (K : PySem.W.Frag) (CI CF : Addr) : Sp := fun vs H Q E => ∃ (d : Addr) (n s : V) (kvs : List (Key × V)), vs = [.ref CF, n, s, .ref d] ∧ Val K H n ∧ Val K H s ∧ SlotsOk K H d kvs ∧ H d = some (.dK kvs) ∧
  (match dueV n s kvs with
   | some k => ∀ H' dd, Same H H' → H dd = none → H' dd = some (.xd [("part", k)]) → E (.ref CI) (some dd) H'
   | none => ∀ (H' : Hp) (x : Addr), Same H H' → H x = none → FormAt CF H' x n s kvs → Q (.ref x) H')
theorem scOf : FnScope ["cls", "name", "sort", "slots", "form"] ["cls", "name", "sort", "slots"] (defScope sFormOf) := ⟨rfl, rfl, rfl, by decide +kernel, rfl, by decide +kernel, by decide +kernel⟩
theorem lk_put3 {f g : Str} {v : V} {fs : List (Str × V)} (h : ¬ g = f) : (putF f v fs).lookup g = fs.lookup g := by rw [lookup_putF, if_neg h]
theorem lk_put1 {f : Str} {v : V} {fs : List (Str × V)} : (putF f v fs).lookup f = some v := by rw [lookup_putF, if_pos rfl]
theorem ns_ : ¬ (("name" : Str) = "slots") := by decide +kernel
theorem nk_ : ¬ (("name" : Str) = "kin") := by decide +kernel
theorem ks_ : ¬ (("kin" : Str) = "slots") := by decide +kernel
theorem badK_nil : badK [] = none := rfl
theorem slots_nil {K : PySem.W.Frag} {H : Hp} {d : Addr} : SlotsOk K H d [] := ⟨fun _ h => (nomatch h), fun _ h => (nomatch h), Nat.zero_le _⟩
theorem ok_of {f fN fT fS fC fI CI CF : Addr} {fd fdN fdT fdS fdC fdI : FuncData} (F : Fun K "of" "Form.of" sFormOf f fd) (FI : Fun K "__init__" "Form.__init__" sFormInit fI fdI) (T : TxtC P K mg CI CF fN fT fS fC fI fdN fdT fdS fdC)
    (GN : FnOk P w K mg base CX0 1 fN fdN ["value"] (spName K)) (GS : FnOk P w K mg base CX0 2 fS fdS ["value"] (spSort K)) (GC : FnOk P w K mg base (L2.CX P w) 4 fC fdC ["slots"] (spChecked K CI)) :
    FnOk P w K mg base (L2.CX P w) 7 f fd ["cls", "name", "sort", "slots"] (spOf K CI CF) := by
  refine F.okX scOf (fun vs H Q E h => ?_) (fun cdv A outer s H vs Q E hr h => ?_)
  · obtain ⟨d, n, s, kvs, rfl, _⟩ := h
    rfl
  · obtain ⟨d, n, so, kvs, rfl, hn, hs, ok, hd, k⟩ := h
    have hr4 : Room 4 _ := hr.mono (by decide)
    have tkE : Takes (cxOf (L2.CX P w) P w K mg base ["cls", "name", "sort", "slots", "form"] "Form.of" (defScope sFormOf) f cdv A outer s H E) (fun cls dd _ H => E cls dd H) := takes_of rfl rfl rfl rfl
    have GI := init_fnR FI T GN GS GC
    refine ⟨_, pss_cons (ps_set (i := 4) scOf.nd rfl (Or.inl rfl) (pe_makeL (i := 0) T.mkF GI hr rfl (Or.inl rfl) (passes_call tkE (fun _ _ _ _ q => q)) (pa_cons (pv 1) (pa_cons (pv 2) pa_nil))))
      (pss_cons (ps_fld (pv 4) (pe_call GC hr4 (by rfl) T.gC T.kC T.bC .nil (passes_call tkE (fun _ _ _ _ q => q)) (pa_cons (pv 3) pa_nil)) rfl)
      (pss_one (ps_ret (pv 4)))), ?_⟩
    refine ⟨rfl, _, rfl, _, rfl, fun x dx nx ndx nex => ⟨rfl, fun d0 nd0 => ?_⟩⟩
    generalize eH1 : upd (upd H dx (.own x)) x (.ins CF dx []) = H1 at nd0 ⊢
    have s1 : Same H H1 := fun b o e => by
      rw [← eH1, upd_ne (ne_of_none e nx), upd_ne (ne_of_none e ndx)]
      exact e
    have hx1 : H1 x = some (.ins CF dx []) := by rw [← eH1, upd_same]
    have s2 : Same H1 (upd H1 d0 (.dK [])) := same_upd (Same.refl H1) nd0
    have s02 := s1.trans s2
    refine ⟨x, dx, d0, n, so, [], rfl, s2 _ _ hx1, Val.same hn s02, Val.same hs s02, Val.ne hn nx, Val.ne hs nx, slots_nil, (fun _ h => nomatch h), upd_same, ?_⟩
    have due0 : dueV n so [] = if nameV n = false then some (.str "name") else if sortV so = false then some (.str "sort") else none := rfl
    -- behind the making, where its exceptions go
    have sx : ∀ H', SameX x (upd H1 d0 (.dK [])) H' → Same H H' := fun H' sX b o e => sX b o (ne_of_none e nx) (s02 b o e)
    have bad : ∀ w1, dueV n so [] = some w1 → dueV n so kvs = some w1 := fun w1 e => by
      rw [due0] at e
      unfold dueV
      by_cases h1 : nameV n = false
      · rw [if_pos h1] at e ⊢
        exact e
      · rw [if_neg h1] at e ⊢
        by_cases h2 : sortV so = false
        · rw [if_pos h2] at e ⊢
          exact e
        · rw [if_neg h2] at e
          cases e
    cases e0 : dueV n so [] with
    | some w1 =>
      rw [bad w1 e0] at k
      exact fun H' dd s3 hdd e => k H' dd (sx H' s3) (s02.free hdd) e
    | none =>
      have due1 : dueV n so kvs = (match badK kvs with | some k => some k | none => if 5 < kvs.length then some (.str "size") else none) := by
        rw [due0] at e0
        unfold dueV
        by_cases h1 : nameV n = false
        · rw [if_pos h1] at e0
          cases e0
        · rw [if_neg h1] at e0 ⊢
          by_cases h2 : sortV so = false
          · rw [if_pos h2] at e0
            cases e0
          · rw [if_neg h2]
            all_goals (cases badK kvs <;> rfl)
      rw [due1] at k
      intro H2 p0 fs s3 hx2 np0 st0 efs
      have s4 := sx H2 s3
      refine ⟨rfl, ?_⟩
      refine ⟨_, rfl, d, kvs, rfl, ok.keep (fun b o _ e => s4 b o e), s4 _ _ hd, ?_⟩
      have fr : ∀ {b}, H2 b = none → H b = none := fun {b} q => s4.free q
      cases eb : badK kvs with
      | some kb =>
        rw [eb] at k
        exact fun H' dd s5 hdd e => k H' dd (s4.trans s5) (fr hdd) e
      | none =>
        rw [eb] at k
        dsimp only at k ⊢
        by_cases h5 : 5 < kvs.length
        · rw [if_pos h5] at k ⊢
          exact fun H' dd s5 hdd e => k H' dd (s4.trans s5) (fr hdd) e
        · rw [if_neg h5] at k ⊢
          intro H3 p ts s5 np e1 e2
          have hx3 := s5 _ _ hx2
          refine ⟨_, rfl, x, CF, dx, _, rfl, hx3, T.cl, T.nS, (by rw [efs]; show 3 < 1000; decide), ?_⟩
          refine ⟨_, rfl, k _ x (fun b o e => ?_) nx ⟨dx, p, _, upd_same, ?_, ?_, lk_put1, ?_⟩⟩
          · rw [upd_ne (ne_of_none e nx)]
            exact s5 _ _ (s4 b o e)
          · rw [lk_put3 ns_, efs, lk_put3 ns_, lk_put3 nk_, lk_put1]
          · rw [lk_put3 ks_, efs, lk_put3 ks_, lk_put1]
          · exact SlotTup.upd ⟨ts, e1, e2⟩ (fun xs q => by rw [hx3] at q; cases q)
end
end K2

namespace K2
open PySem L2
section
variable {P : Program} {w : World} {K : PySem.W.Frag} {mg : Str → Option Value} {base : Heap}
abbrev scErrU : Scope := { kind := .function, names := [("self", .local), ("word", .local), ("__class__", .free), ("super", .globalImplicit)], isGenerator := false, isCoroutine := false }
open PySem.W PySem.Calls in
/-- the __init__ of such a class, as the text has it: super().__init__('..'); self.fld = part -/
theorem ok_unkInit {C fI cda cc : Addr} (T : ErrC P K mg C fI cda cc "word" "UnknownName.__init__" sUnkErr)
    {kV doc pm ct oc : Value} {od an : Option Addr} {osl : Array (Option Value)}
    (lk : K.lookup fI = some ⟨oc, od, .func (PySem.W.ksFn "__init__" "UnknownName.__init__" (defArgs sUnkErr) (defBody sUnkErr) (defScope sUnkErr) .none kV doc pm an (.ref cda) ct cc), osl⟩) :
    FnOk P w K mg base (L2.CX P w) 1 fI (PySem.W.ksFn "__init__" "UnknownName.__init__" (defArgs sUnkErr) (defBody sUnkErr) (defScope sUnkErr) .none kV doc pm an (.ref cda) ct cc) ["self", "word"] (spErr C "word") := by
  refine ⟨fun vs H Q E h => ?_, fun A outer s H args us vs Q E hr e0 hbd r h => ?_⟩
  · obtain ⟨a, y, rfl, _⟩ := h
    rfl
  · obtain ⟨a, y, rfl, ha, k⟩ := h
    obtain ⟨u0, u, rfl, r1, r2⟩ := vals2 r
    obtain rfl : u0 = Value.ref a := r1
    have KX : K.In s.heap := e0.mod.kin.keeps fun b o e => (e0.bs b o e).1
    have lim : s.heap.NoLimit := e0.mod.nolimit.keeps fun b o e => (e0.bs b o e).1
    obtain ⟨t1, hx⟩ := exo_at e0.hok ha
    obtain ⟨nm, q, N, bs, bm, sn, sub, ab, col, dd, k0, k1, k2, k3, k5, hC, hbm⟩ := T.ox.cls
    have hcl : clsIn K C = some { name := nm, bases := bs, mro := .ref C :: bm, ns := N, qualname := q, hasDict := true, slotNames := sn, subclasses := sub, abstract := ab, collection := col, hasDel := false } := by unfold clsIn; rw [hC] <;> rfl
    have hal := T.al _ hcl
    obtain ⟨ccl, cdd, cvs, ccs, file, tf, hcda, hvs, hfile⟩ := T.cod
    obtain ⟨cl, cld, csl, hcel⟩ := T.cel
    refine ks_codeAny_call_defAt (fd := ksFn "__init__" "UnknownName.__init__" (defArgs sUnkErr) (defBody sUnkErr) (defScope sUnkErr) .none kV doc pm an (.ref cda) ct cc) (body := defBody sUnkErr) hr.depth (KX _ _ lk) rfl lim (codeRec_of KX T.cd) rfl hbd (show ∀ x ∈ (defScope sUnkErr).names, x.2 ≠ .cell by decide +kernel) ?_ (fun h0 hns hk => ?_)
    · intro z hz
      rcases List.mem_cons.mp hz with e | hz
      · rw [e]; rfl
      · rcases List.mem_cons.mp hz with e | hz
        · rw [e]; rfl
        · cases hz
    · generalize eL : s.heap.objs.size = L at hns
      rw [show (callEnv (ksFn "__init__" "UnknownName.__init__" (defArgs sUnkErr) (defBody sUnkErr) (defScope sUnkErr) .none kV doc pm an (.ref cda) ct cc) L fI) = ksEnv "UnknownName.__init__" (defScope sUnkErr) L fI (.ref cda) cc from rfl]
      have up : ∀ {b o}, K.lookup b = some o → h0.get? b = some o := fun {b o} e => hk b o (KX b o e)
      have KX0 : K.In h0 := fun b o e => up e
      have hx0 := hk _ _ hx
      obtain ⟨mb, hmb, hbl⟩ := e0.mod.blt
      have hbk : ∀ b o, base.get? b = some o → h0.get? b = some o := fun b o e => hk b o (e0.bs b o e).1
      refine ks_wpAt_execs_cons (ks_wpAt_Expr_any (ks_wpAt_MethodCall (ks_wpAt_super_base (fd := ksFn "__init__" "UnknownName.__init__" (defArgs sUnkErr) (defBody sUnkErr) (defScope sUnkErr) .none kV doc pm an (.ref cda) ct cc) rfl rfl (by decide +kernel) rfl (up lk) rfl rfl rfl (up hcda) rfl hvs hfile T.top ?_)))
      refine ks_loadName_global rfl rfl (loadGlobal_builtin (env := ksEnv "UnknownName.__init__" (defScope sUnkErr) L fI (.ref cda) cc) (e0.mod.glob.keeps hbk) (mg_none_of e0.mod.kin e0.mod.glob T.sup) (hmb.keeps hbk) ((hbl _ (by decide +kernel)).trans PyProof.Rows.Boot.«super») ⟨rfl, ?_⟩)
      refine wpAny_loadName_free rfl rfl rfl ⟨_, up hcel, rfl⟩ ?_
      refine wpAny_loadName_local rfl rfl hns rfl ?_
      refine ks_wpAny_isType_cls (up hC) rfl ⟨rfl, ?_⟩
      refine ks_wpAny_call_super (up hC) rfl hx0 rfl (fun c e => by cases e) (looks_mroIn KX0 T.mr) (fun h1 so1 up1 => ?_)
      have KX1 : K.In h1 := fun b o e => up1 _ _ (up e)
      have hI1 : InstAt h1 a { cls := Value.ref C, data := Data.fields #[Value.ref t1, Value.none, Value.none, Value.none, Value.bool false, Value.none] } C none := ⟨up1 _ _ hx0, rfl, rfl, trivial⟩
      refine kxs_getMethod kxs_ValueError so1 (looks_opaque KX1 T.opq) (fun A Q E s k q => wpAny_bind ((looks_clsIn KX1 hcl) A _ E s k (wpAny_pure q))) rfl KX1 hal (hI1.type.andThen (looks_subIn KX1 T.ve)) (ks_ne KX1 hI1 hcl) (by decide +kernel) ?_
      generalize hu : h1.objs.size = z
      have lt1 : ∀ {b o}, h1.get? b = some o → b ≠ z := fun {b o} e q => by
        have w1 := Heap.lt_size e
        rw [q, ← hu] at w1
        exact Nat.lt_irrefl _ w1
      have up2 : ∀ b o, h1.get? b = some o → (h1.push (kxs_mw "ValueError.__init__" a)).get? b = some o := fun b o e => Heap.get?_push_of_some _ e
      have hmw : (h1.push (kxs_mw "ValueError.__init__" a)).get? z = some (kxs_mw "ValueError.__init__" a) := by
        rw [← hu]
        exact Heap.get?_push_size _ rfl
      generalize h1.push (kxs_mw "ValueError.__init__" a) = h2 at up2 hmw
      have all2 : ∀ b o, h0.get? b = some o → h2.get? b = some o := fun b o e => up2 b o (up1 b o e)
      refine kxs_callWith (i := "ValueError.__init__") (u := z) (x := a) (by rfl) (evalArgs_plain ?_)
      refine Calls.spliced_cons ?_
      refine Calls.Constant_str (pos := ⟨18, 25, 18, 39⟩) (k := 0) ?_
      refine Calls.spliced_nil ⟨hmw, ?_⟩
      have hbn : ∀ {b o}, h0.get? b = some o → H b ≠ none ∨ b = L → base.get? b = none := fun {b o} _ q => by
        cases e : base.get? b with
        | none => rfl
        | some v =>
          have w1 := e0.bs b v e
          rcases q with q | q
          · exact absurd w1.2 q
          · have w2 := Heap.lt_size w1.1
            rw [q, ← eL] at w2
            exact absurd w2 (Nat.lt_irrefl _)
      have aL : a ≠ L := fun q => by
        have w2 := Heap.lt_size hx
        rw [q, ← eL] at w2
        exact Nat.lt_irrefl _ w2
      have ba : base.get? a = none := hbn hx0 (.inl (by rw [ha]; exact fun q => nomatch q))
      have bz : base.get? z = none := by
        cases e : base.get? z with
        | none => rfl
        | some v => exact absurd rfl (lt1 (up1 _ _ (hbk _ _ e)))
      obtain ⟨oL, eL1, eL2, hoL, rL⟩ := id hns
      have F2 : PyProof.Rows.Fr base L h2 (fun x => List.lookup x ([("self" : Str), "word"].zip [Value.ref a, u]).reverse) := ⟨⟨oL, eL1, eL2, all2 _ _ hoL, rL⟩, fun b o e => all2 b o (hbk b o e), by rw [← eL]; exact e0.bsz⟩
      have za : z ≠ a := fun q => lt1 (up1 _ _ hx0) q.symm
      have zL : z ≠ L := fun q => lt1 (up1 _ _ hoL) q.symm
      refine kxs_call (t := t1) (dv := none) (c2 := .none) (s := ⟨h2, _, _, _, _⟩) F2 e0.mod.kin (news_at aL ba (all2 _ _ hx0)) F.excBase_ValueError T.ei (List.mem_cons_of_mem _ (mem_rest zL bz hmw za)) (.head rest_ne) (by show 1 ≤ sizeLine; decide) (fun t3 h3 F3 N3 _ => ?_)
      have k3 : ∀ b o, b ≠ L → b ≠ a → h2.get? b = some o → h3.get? b = some o := kept_of_news (fun b o e => all2 b o (hbk b o e)) F3 (fun p hp => N3 p (List.mem_cons_of_mem _ (List.mem_cons_of_mem _ hp)))
      have hx3 : h3.get? a = some ({ cls := .ref C, dict := none, data := .fields #[.ref t3, .none, .none, .none, .bool false, .none] } : Obj) := (N3 _ (List.mem_cons_of_mem _ (List.mem_cons_self ..))).1
      have all3 : ∀ b o, b ≠ a → s.heap.get? b = some o → h3.get? b = some o := fun b o hb e => k3 b o (fun q => by
        have w2 := Heap.lt_size e
        rw [q, ← eL] at w2
        exact Nat.lt_irrefl _ w2) hb (all2 b o (hk b o e))
      have KX3 : K.In h3 := e0.mod.kin.keeps F3.keep
      show wpAt _ _ _ (execs _ _) _ _ _
      refine ks_wpAt_execs_cons (ks_wpAt_Assign_Attr (wpAt_of_wpAny ?_))
      refine wpAny_Name (wpAny_loadName_local rfl rfl F3.ns rfl ?_) (by decide)
      refine wpAny_Name (wpAny_loadName_local rfl rfl F3.ns rfl ?_) (by decide)
      refine set_plain KX3 (ox := { cls := .ref C, dict := none, data := .fields #[.ref t3, .none, .none, .none, .bool false, .none] }) (od := none) ⟨hx3, rfl, rfl, trivial⟩ T.ox.sa ?_
      refine HandSPX.exc_osa KX3 hx3 hcl (show HandSPX.refsVE (.ref C :: bm) = true from hbm) rfl T.nf (fun hF tkF dx kF dn dne hxF hnF => ?_)
      have Ldx : s.heap.objs.size ≤ dx := by
        obtain ⟨o3, _, _, e3, _⟩ := F3.ns
        have w2 := Heap.lt_size e3
        rw [eL]
        exact Nat.le_trans (Nat.le_of_lt w2) dn
      have Hdx : H dx = none := e0.hok.fresh Ldx
      have keepF : ∀ b o, b ≠ a → s.heap.get? b = some o → hF.get? b = some o := fun b o nb e => kF b o nb (all3 b o nb e)
      have na : ∀ {b : Addr}, H b = none → b ≠ a := fun {b} n q => by
        rw [q, ha] at n
        cases n
      have nd : ∀ {b : Addr} {o : Obj}, s.heap.get? b = some o → b ≠ dx := fun {b o} e q => by
        have w2 := Heap.lt_size e
        rw [q] at w2
        exact absurd (Nat.lt_of_lt_of_le w2 Ldx) (Nat.lt_irrefl _)
      have same : ∀ b o, H b = some o → o ≠ exo a C none → (upd (upd H dx (exd dx [("word", y)])) a (exo a C (some dx))) b = some o := fun b o e ne => by
        rw [upd_ne (fun q => ne (by rw [q, ha] at e; exact (Option.some.inj e).symm)), upd_ne (ne_of_none e Hdx)]
        exact e
      have un : Un (frs outer) [] H (upd (upd H dx (exd dx [("word", y)])) a (exo a C (some dx))) s.heap hF := {
        keep := fun b o e n _ _ => keepF b o (na n) e
        slot := fun b o e n _ _ => ⟨o.slots, keepF b o (na n) e⟩
        free := fun b o e n _ => by
          rw [upd_ne (na n), upd_ne (nd e)]
          exact n
        there := fun b o e _ => by
          by_cases q : b = a
          · rw [q]
            exact ⟨_, hxF⟩
          · exact ⟨o, keepF b o q e⟩
        tups := fun b xs e => same b _ e (fun q => exo_tup q.symm)
        frzs := fun b o v e => same b _ e (fun q => exo_frz q.symm)
        tbls := fun b ps e => ⟨#[], by rw [same b _ e (fun q => exo_tbl q.symm)]; simp⟩ }
      have okF : HOk P w (upd (upd H dx (exd dx [("word", y)])) a (exo a C (some dx))) hF := fun b o e => by
        by_cases q : b = a
        · subst q
          rw [upd_same] at e
          cases e
          exact exo_ok hxF
        · rw [upd_ne q] at e
          by_cases q2 : b = dx
          · subst q2
            rw [upd_same] at e
            cases e
            exact exd_ok hnF (relO_put (fs := []) r2 fun g => True.intro)
          · rw [upd_ne q2] at e
            exact (e0.hok b o e).stay (fun c v hc z => keepF c v (by
                rcases hc with hc | hc
                · rw [hc]
                  exact q
                · exact at_ne ha hc exo_own) z) (fun c hc => same c _ hc (fun q => exo_own q.symm)) (fun c xs hc => same c _ hc (fun q => exo_tup q.symm))
      show wpAt _ _ _ (execs [] _) _ _ _
      refine wpAt_of_wpAny (wpAny_pure ?_)
      exact ⟨.non, _, rfl, e0.bare, un, okF, rfl, k dx Hdx dne⟩
end
end K2

namespace K2
open PySem L2
section
variable {P : Program} {w : World} {K : PySem.W.Frag} {mg : Str → Option Value} {base : Heap}
/-- as ErrC, with two fields and defaults -/
structure ErrC2 (P : Program) (K : PySem.W.Frag) (mg : Str → Option Value) (C fI cda cc : Addr) (f1 f2 qual : Str) (st : Stmt) (dV : Value) : Prop where
  ox : OexC K C
  fi : PySem.W.findIn K (.ref C) "__init__" = some (some (.ref fI))
  ti : PySem.W.typeIn K (.ref fI) = some (.type "function")
  fn : ∃ (oc : Value) (od : Option Addr) (kV doc pm : Value) (an : Option Addr) (ct : Value) (osl : Array (Option Value)),
    K.lookup fI = some ⟨oc, od, .func (PySem.W.ksFn "__init__" qual (defArgs st) (defBody st) (defScope st) dV kV doc pm an (.ref cda) ct cc), osl⟩
  cd : PySem.W.codeIn K (.ref cda) qual = true
  cod : ∃ (ccl : Value) (cdd : Option Addr) (vs : Array Value) (ccs : Array (Option Value)) (file : Str) (tf : Tok), K.lookup cda = some ⟨ccl, cdd, .fields vs, ccs⟩ ∧ vs[2]? = some (.str file tf) ∧ ((P.main.file : Str) == file) = true
  cel : ∃ (cl : Value) (cld : Option Addr) (csl : Array (Option Value)), K.lookup cc = some ⟨cl, cld, .cell (some (.ref C)), csl⟩
  mr : PySem.W.mroIn K C (.ref C) = some true
  al : ∀ cd, PySem.W.clsIn K C = some cd → PySem.W.alongIn K "__init__" ((cd.mro.dropWhile (· != .ref C)).drop 1) = some (some (.builtin "ValueError.__init__"))
  sup : PySem.W.nsIn K mainGlobals "super" = some none
  opq : PySem.W.nsIn K cStatics "thirdparty.any" = some none
  ve : PySem.W.subIn K (.ref C) (.type "ValueError") = some true
  ei : PySem.W.excInitIn K C [.type "ValueError", .type "Exception", .type "BaseException", .type "object"] "ValueError.__new__" = true
  nf : PySem.W.findIn K (.ref C) f1 = some none
  nf2 : PySem.W.findIn K (.ref C) f2 = some none
  top : (P.main.scope.names.lookup ("super" : Str)).isSome = false
def spErr2 (C : Addr) (f1 f2 : Str) : Sp := fun vs H Q _ => ∃ (a : Addr) (y z : V), vs = [.ref a, y, z] ∧ H a = some (exo a C none) ∧
  ∀ dx, H dx = none → dx ≠ a → Q .non (upd (upd H dx (exd dx [(f2, z), (f1, y)])) a (exo a C (some dx)))
open PySem.W PySem.Calls in
/-- the __init__ of such a class, as the text has it: super().__init__('..'); self.fld = part -/
theorem ok_schErrInit {dV : Value} {C fI cda cc : Addr} (T : ErrC2 P K mg C fI cda cc "fault" "item" "InvalidSchema.__init__" sSchErr dV)
    {kV doc pm ct oc : Value} {od an : Option Addr} {osl : Array (Option Value)}
    (lk : K.lookup fI = some ⟨oc, od, .func (PySem.W.ksFn "__init__" "InvalidSchema.__init__" (defArgs sSchErr) (defBody sSchErr) (defScope sSchErr) dV kV doc pm an (.ref cda) ct cc), osl⟩) :
    FnOk P w K mg base (L2.CX P w) 1 fI (PySem.W.ksFn "__init__" "InvalidSchema.__init__" (defArgs sSchErr) (defBody sSchErr) (defScope sSchErr) dV kV doc pm an (.ref cda) ct cc) ["self", "fault", "item"] (spErr2 C "fault" "item") := by
  refine ⟨fun vs H Q E h => ?_, fun A outer s H args us vs Q E hr e0 hbd r h => ?_⟩
  · obtain ⟨a, y, y2, rfl, _⟩ := h
    rfl
  · obtain ⟨a, y, y2, rfl, ha, k⟩ := h
    obtain ⟨u0, u, u2, rfl, r1, r2, r3⟩ : ∃ u0 u1 u2, us = [u0, u1, u2] ∧ RelV (.ref a) u0 ∧ RelV y u1 ∧ RelV y2 u2 := by
      cases r with
      | cons a1 t => cases t with
        | cons a2 t => cases t with
          | cons a3 t => cases t; exact ⟨_, _, _, rfl, a1, a2, a3⟩
    obtain rfl : u0 = Value.ref a := r1
    have KX : K.In s.heap := e0.mod.kin.keeps fun b o e => (e0.bs b o e).1
    have lim : s.heap.NoLimit := e0.mod.nolimit.keeps fun b o e => (e0.bs b o e).1
    obtain ⟨t1, hx⟩ := exo_at e0.hok ha
    obtain ⟨nm, q, N, bs, bm, sn, sub, ab, col, dd, k0, k1, k2, k3, k5, hC, hbm⟩ := T.ox.cls
    have hcl : clsIn K C = some { name := nm, bases := bs, mro := .ref C :: bm, ns := N, qualname := q, hasDict := true, slotNames := sn, subclasses := sub, abstract := ab, collection := col, hasDel := false } := by unfold clsIn; rw [hC] <;> rfl
    have hal := T.al _ hcl
    obtain ⟨ccl, cdd, cvs, ccs, file, tf, hcda, hvs, hfile⟩ := T.cod
    obtain ⟨cl, cld, csl, hcel⟩ := T.cel
    refine ks_codeAny_call_defAt (fd := ksFn "__init__" "InvalidSchema.__init__" (defArgs sSchErr) (defBody sSchErr) (defScope sSchErr) dV kV doc pm an (.ref cda) ct cc) (body := defBody sSchErr) hr.depth (KX _ _ lk) rfl lim (codeRec_of KX T.cd) rfl hbd (show ∀ x ∈ (defScope sSchErr).names, x.2 ≠ .cell by decide +kernel) ?_ (fun h0 hns hk => ?_)
    · intro z hz
      rcases List.mem_cons.mp hz with e | hz
      · rw [e]; rfl
      · rcases List.mem_cons.mp hz with e | hz
        · rw [e]; rfl
        · rcases List.mem_cons.mp hz with e | hz
          · rw [e]; rfl
          · cases hz
    · generalize eL : s.heap.objs.size = L at hns
      rw [show (callEnv (ksFn "__init__" "InvalidSchema.__init__" (defArgs sSchErr) (defBody sSchErr) (defScope sSchErr) dV kV doc pm an (.ref cda) ct cc) L fI) = ksEnv "InvalidSchema.__init__" (defScope sSchErr) L fI (.ref cda) cc from rfl]
      have up : ∀ {b o}, K.lookup b = some o → h0.get? b = some o := fun {b o} e => hk b o (KX b o e)
      have KX0 : K.In h0 := fun b o e => up e
      have hx0 := hk _ _ hx
      obtain ⟨mb, hmb, hbl⟩ := e0.mod.blt
      have hbk : ∀ b o, base.get? b = some o → h0.get? b = some o := fun b o e => hk b o (e0.bs b o e).1
      refine ks_wpAt_execs_cons (ks_wpAt_Expr_any (ks_wpAt_MethodCall (ks_wpAt_super_base (fd := ksFn "__init__" "InvalidSchema.__init__" (defArgs sSchErr) (defBody sSchErr) (defScope sSchErr) dV kV doc pm an (.ref cda) ct cc) rfl rfl (by decide +kernel) rfl (up lk) rfl rfl rfl (up hcda) rfl hvs hfile T.top ?_)))
      refine ks_loadName_global rfl rfl (loadGlobal_builtin (env := ksEnv "InvalidSchema.__init__" (defScope sSchErr) L fI (.ref cda) cc) (e0.mod.glob.keeps hbk) (mg_none_of e0.mod.kin e0.mod.glob T.sup) (hmb.keeps hbk) ((hbl _ (by decide +kernel)).trans PyProof.Rows.Boot.«super») ⟨rfl, ?_⟩)
      refine wpAny_loadName_free rfl rfl rfl ⟨_, up hcel, rfl⟩ ?_
      refine wpAny_loadName_local rfl rfl hns rfl ?_
      refine ks_wpAny_isType_cls (up hC) rfl ⟨rfl, ?_⟩
      refine ks_wpAny_call_super (up hC) rfl hx0 rfl (fun c e => by cases e) (looks_mroIn KX0 T.mr) (fun h1 so1 up1 => ?_)
      have KX1 : K.In h1 := fun b o e => up1 _ _ (up e)
      have hI1 : InstAt h1 a { cls := Value.ref C, data := Data.fields #[Value.ref t1, Value.none, Value.none, Value.none, Value.bool false, Value.none] } C none := ⟨up1 _ _ hx0, rfl, rfl, trivial⟩
      refine kxs_getMethod kxs_ValueError so1 (looks_opaque KX1 T.opq) (fun A Q E s k q => wpAny_bind ((looks_clsIn KX1 hcl) A _ E s k (wpAny_pure q))) rfl KX1 hal (hI1.type.andThen (looks_subIn KX1 T.ve)) (ks_ne KX1 hI1 hcl) (by decide +kernel) ?_
      generalize hu : h1.objs.size = z
      have lt1 : ∀ {b o}, h1.get? b = some o → b ≠ z := fun {b o} e q => by
        have w1 := Heap.lt_size e
        rw [q, ← hu] at w1
        exact Nat.lt_irrefl _ w1
      have up2 : ∀ b o, h1.get? b = some o → (h1.push (kxs_mw "ValueError.__init__" a)).get? b = some o := fun b o e => Heap.get?_push_of_some _ e
      have hmw : (h1.push (kxs_mw "ValueError.__init__" a)).get? z = some (kxs_mw "ValueError.__init__" a) := by
        rw [← hu]
        exact Heap.get?_push_size _ rfl
      generalize h1.push (kxs_mw "ValueError.__init__" a) = h2 at up2 hmw
      have all2 : ∀ b o, h0.get? b = some o → h2.get? b = some o := fun b o e => up2 b o (up1 b o e)
      refine kxs_callWith (i := "ValueError.__init__") (u := z) (x := a) (by rfl) (evalArgs_plain ?_)
      refine Calls.spliced_cons ?_
      refine Calls.Constant_str (pos := ⟨12, 25, 12, 41⟩) (k := 0) ?_
      refine Calls.spliced_nil ⟨hmw, ?_⟩
      have hbn : ∀ {b o}, h0.get? b = some o → H b ≠ none ∨ b = L → base.get? b = none := fun {b o} _ q => by
        cases e : base.get? b with
        | none => rfl
        | some v =>
          have w1 := e0.bs b v e
          rcases q with q | q
          · exact absurd w1.2 q
          · have w2 := Heap.lt_size w1.1
            rw [q, ← eL] at w2
            exact absurd w2 (Nat.lt_irrefl _)
      have aL : a ≠ L := fun q => by
        have w2 := Heap.lt_size hx
        rw [q, ← eL] at w2
        exact Nat.lt_irrefl _ w2
      have ba : base.get? a = none := hbn hx0 (.inl (by rw [ha]; exact fun q => nomatch q))
      have bz : base.get? z = none := by
        cases e : base.get? z with
        | none => rfl
        | some v => exact absurd rfl (lt1 (up1 _ _ (hbk _ _ e)))
      obtain ⟨oL, eL1, eL2, hoL, rL⟩ := id hns
      have F2 : PyProof.Rows.Fr base L h2 (fun x => List.lookup x ([("self" : Str), "fault", "item"].zip [Value.ref a, u, u2]).reverse) := ⟨⟨oL, eL1, eL2, all2 _ _ hoL, rL⟩, fun b o e => all2 b o (hbk b o e), by rw [← eL]; exact e0.bsz⟩
      have za : z ≠ a := fun q => lt1 (up1 _ _ hx0) q.symm
      have zL : z ≠ L := fun q => lt1 (up1 _ _ hoL) q.symm
      refine kxs_call (t := t1) (dv := none) (c2 := .none) (s := ⟨h2, _, _, _, _⟩) F2 e0.mod.kin (news_at aL ba (all2 _ _ hx0)) F.excBase_ValueError T.ei (List.mem_cons_of_mem _ (mem_rest zL bz hmw za)) (.head rest_ne) (by show 1 ≤ sizeLine; decide) (fun t3 h3 F3 N3 _ => ?_)
      have k3 : ∀ b o, b ≠ L → b ≠ a → h2.get? b = some o → h3.get? b = some o := kept_of_news (fun b o e => all2 b o (hbk b o e)) F3 (fun p hp => N3 p (List.mem_cons_of_mem _ (List.mem_cons_of_mem _ hp)))
      have hx3 : h3.get? a = some ({ cls := .ref C, dict := none, data := .fields #[.ref t3, .none, .none, .none, .bool false, .none] } : Obj) := (N3 _ (List.mem_cons_of_mem _ (List.mem_cons_self ..))).1
      have all3 : ∀ b o, b ≠ a → s.heap.get? b = some o → h3.get? b = some o := fun b o hb e => k3 b o (fun q => by
        have w2 := Heap.lt_size e
        rw [q, ← eL] at w2
        exact Nat.lt_irrefl _ w2) hb (all2 b o (hk b o e))
      have KX3 : K.In h3 := e0.mod.kin.keeps F3.keep
      show wpAt _ _ _ (execs _ _) _ _ _
      refine ks_wpAt_execs_cons (ks_wpAt_Assign_Attr (wpAt_of_wpAny ?_))
      refine wpAny_Name (wpAny_loadName_local rfl rfl F3.ns rfl ?_) (by decide)
      refine wpAny_Name (wpAny_loadName_local rfl rfl F3.ns rfl ?_) (by decide)
      refine set_plain KX3 (ox := { cls := .ref C, dict := none, data := .fields #[.ref t3, .none, .none, .none, .bool false, .none] }) (od := none) ⟨hx3, rfl, rfl, trivial⟩ T.ox.sa ?_
      refine HandSPX.exc_osa KX3 hx3 hcl (show HandSPX.refsVE (.ref C :: bm) = true from hbm) rfl T.nf (fun hF0 tkF0 dx kF0 dn dne hxF0 hnF0 => ?_)
      have Ldx : s.heap.objs.size ≤ dx := by
        obtain ⟨o3, _, _, e3, _⟩ := F3.ns
        have w2 := Heap.lt_size e3
        rw [eL]
        exact Nat.le_trans (Nat.le_of_lt w2) dn
      have Hdx : H dx = none := e0.hok.fresh Ldx
      obtain ⟨oL3, eL3, eL4, hoL3, rL3⟩ := F3.ns
      have nsF : hF0.Ns L (fun x => List.lookup x ([("self" : Str), "fault", "item"].zip [Value.ref a, u, u2]).reverse) := ⟨oL3, eL3, eL4, kF0 _ _ aL.symm hoL3, rL3⟩
      have KXF : K.In hF0 := fun b o e => kF0 b o (fun q => by
        have w1 := e0.mod.kin b o e
        rw [q, ba] at w1
        cases w1) (KX3 b o e)
      show wpAt _ _ _ (execs _ _) _ _ _
      refine ks_wpAt_execs_cons (ks_wpAt_Assign_Attr (wpAt_of_wpAny ?_))
      refine wpAny_Name (wpAny_loadName_local rfl rfl nsF rfl ?_) (by decide)
      refine wpAny_Name (wpAny_loadName_local rfl rfl nsF rfl ?_) (by decide)
      have wi0 : Within (fun z => if z = ("fault" : Str) then some u else none) ["fault"] := fun z hz => by
        by_cases q : z = "fault"
        · rw [q]; exact List.mem_cons_self ..
        · dsimp only at hz
          rw [if_neg q] at hz
          exact absurd hz (by simp)
      obtain ⟨oD, _, _, hoD, _, _⟩ := hnF0.count wi0
      refine set_plain KXF (ox := { cls := .ref C, dict := some dx, data := .fields #[.ref t3, .none, .none, .none, .bool false, .none] }) (od := some oD) ⟨hxF0, rfl, rfl, hoD⟩ T.ox.sa ?_
      refine PySem.OEX.osa_old KXF hxF0 hnF0 wi0 (by decide) hcl (show HandSPX.refsVE (.ref C :: bm) = true from hbm) rfl T.nf2 (fun hF tkF kG hnF => ?_)
      have hxF := kG a _ dne.symm hxF0
      have na : ∀ {b : Addr}, H b = none → b ≠ a := fun {b} n q => by
        rw [q, ha] at n
        cases n
      have nd : ∀ {b : Addr} {o : Obj}, s.heap.get? b = some o → b ≠ dx := fun {b} {o} e q => by
        have w2 := Heap.lt_size e
        rw [q] at w2
        exact absurd (Nat.lt_of_lt_of_le w2 Ldx) (Nat.lt_irrefl _)
      have keepF : ∀ b o, b ≠ a → s.heap.get? b = some o → hF.get? b = some o := fun b o nb e => kG b o (nd e) (kF0 b o nb (all3 b o nb e))
      have same : ∀ b o, H b = some o → o ≠ exo a C none → (upd (upd H dx (exd dx [("item", y2), ("fault", y)])) a (exo a C (some dx))) b = some o := fun b o e ne => by
        rw [upd_ne (fun q => ne (by rw [q, ha] at e; exact (Option.some.inj e).symm)), upd_ne (ne_of_none e Hdx)]
        exact e
      have un : Un (frs outer) [] H (upd (upd H dx (exd dx [("item", y2), ("fault", y)])) a (exo a C (some dx))) s.heap hF := {
        keep := fun b o e n _ _ => keepF b o (na n) e
        slot := fun b o e n _ _ => ⟨o.slots, keepF b o (na n) e⟩
        free := fun b o e n _ => by
          rw [upd_ne (na n), upd_ne (nd e)]
          exact n
        there := fun b o e _ => by
          by_cases q : b = a
          · rw [q]
            exact ⟨_, hxF⟩
          · exact ⟨o, keepF b o q e⟩
        tups := fun b xs e => same b _ e (fun q => exo_tup q.symm)
        frzs := fun b o v e => same b _ e (fun q => exo_frz q.symm)
        tbls := fun b ps e => ⟨#[], by rw [same b _ e (fun q => exo_tbl q.symm)]; simp⟩ }
      have okF : HOk P w (upd (upd H dx (exd dx [("item", y2), ("fault", y)])) a (exo a C (some dx))) hF := fun b o e => by
        by_cases q : b = a
        · subst q
          rw [upd_same] at e
          cases e
          exact exo_ok hxF
        · rw [upd_ne q] at e
          by_cases q2 : b = dx
          · subst q2
            rw [upd_same] at e
            cases e
            exact exd_ok hnF (relO_put r3 (relO_put (fs := []) r2 fun g => True.intro))
          · rw [upd_ne q2] at e
            exact (e0.hok b o e).stay (fun c v hc z => keepF c v (by
                rcases hc with hc | hc
                · rw [hc]
                  exact q
                · exact at_ne ha hc exo_own) z) (fun c hc => same c _ hc (fun q => exo_own q.symm)) (fun c xs hc => same c _ hc (fun q => exo_tup q.symm))
      show wpAt _ _ _ (execs [] _) _ _ _
      refine wpAt_of_wpAny (wpAny_pure ?_)
      exact ⟨.non, _, rfl, e0.bare, un, okF, rfl, k dx Hdx dne⟩
end
end K2

namespace K2
open PySem PySem.Spec PyProof.Rows PySem.SeqAt L2
/-! ### == and != of instances that are equal to themselves only -/
structure PlainEq (K : PySem.W.Frag) (C : Addr) : Prop where
  mo : PySem.W.mroIn K C (.type "object") = some true
  eq : PySem.W.findIn K (.ref C) "__eq__" = some (some (.builtin "object.__eq__"))
  ne : PySem.W.findIn K (.ref C) "__ne__" = some (some (.builtin "object.__ne__"))
/-- object.__eq__ of x and u hands r back -/
def Hands (prog : Program) (w : World) (s : Shared) (x : Addr) (u r : Value) : Prop := ∀ (A : Around) (E : Value → Shared → Prop) (Q : Value → Shared → Prop), Q r s → wpAny (model prog w) A (call (.builtin "object.__eq__") [.ref x, u]) Q E s
/-- the same thing? -/
def Apart (s : Shared) (u v : Value) (b : Bool) : Prop := ∀ (M : Model) (A : Around) (E : Value → Shared → Prop) (R : Bool → Shared → Prop), R b s → wpAny M A (isSame u v) R E s
section
variable {prog : Program} {w : World} {A : Around} {E : Value → Shared → Prop} {s : Shared} {K : PySem.W.Frag} {x y C : Addr} {ox oy : Obj} {od oe : Option Obj} {u : Value}
theorem same_ap {M : Model} {u v : Value} {b : Bool} {R : Bool → Shared → Prop} (ap : Apart s u v b) (h : R b s) : wpAny M A (isSame u v) R E s := ap M A E R h
theorem entry_of {M : Model} {b : Bool} {Q : Fin → Shared → Prop} (ap : Apart s (.ref x) u b) (hq : Q (.done (.ret (if b = true then .bool true else .notImplemented))) s) : wpAny M A (Builtin.«object.__eq__» ⟨[.ref x, u], []⟩) Q E s := by
  unfold Builtin.«object.__eq__»
  repeat (first | with_reducible refine same_ap ap ?_ | wp_step)
  cases b
  · repeat (first | exact hq | wp_step)
  · repeat (first | exact hq | wp_step)
theorem hands {b : Bool} (X : K.In s.heap) (I : PySem.W.InstAt s.heap x ox C od) (T : PlainEq K C) (ap : Apart s (.ref x) u b) : Hands prog w s x u (if b = true then .bool true else .notImplemented) := fun A E Q hq =>
  wpAny_call (codeAny_call_builtin F.cmp_object.eq.plain F.cmpEntry_eq (PySem.W.check_slot F.cmpKind_eq F.cmpSplit_eq (I.type.andThen (PySem.W.looks_mroIn X T.mo)) (F.cmpArgs_eq _ _) (entry_of ap hq)))
theorem ifB_ne {M : Model} {args : List Value} {Q : Option Value → Shared → Prop} (X : K.In s.heap) (I : PySem.W.InstAt s.heap x ox C od) (hs : PySem.W.findIn K (.ref C) "__ne__" = some (some (.builtin "object.__ne__")))
    (h : wpAny M A (call (.builtin "object.__ne__") (.ref x :: args)) (fun v => Q (some v)) E s) : wpAny M A (callSpecialIfBound? (.ref x) "__ne__" args) Q E s := by
  simp only [callSpecialIfBound?, bindSpecialIfBound?]
  refine wpAny_holding (wpAny_bind (wpAny_bind (wpAny_bind (I.type.here ((PySem.W.looks_findIn X hs).here ?_)))))
  refine wpAny_bind (wpAny_askSetting (wpAny_ite ?_))
  have fin : wpAny M A (call (.builtin "object.__ne__") ([.ref x] ++ args) >>= fun v => pure (some v)) Q E s := wpAny_bind (wpAny_mono h (fun v s' h' => wpAny_pure h') fun _ _ h' => h')
  split
  · exact wpAny_bind (wpAny_of_eq (F.cmp_object.ne.bind _) (wpAny_pure (by exact fin)))
  · exact wpAny_tryCatch (wpAny_bind (wpAny_of_eq (F.cmp_object.ne.bind _) (wpAny_pure (by exact fin))))
theorem ifB_eq {b : Bool} {Q : Option Value → Shared → Prop} (X : K.In s.heap) (I : PySem.W.InstAt s.heap x ox C od) (T : PlainEq K C) (ap : Apart s (.ref x) u b) (hq : Q (some (if b = true then .bool true else .notImplemented)) s) :
    wpAny (model prog w) A (callSpecialIfBound? (.ref x) "__eq__" [u]) Q E s := HN.ifBound_objEq X I T.eq (hands X I T ap _ _ _ hq)
theorem ifB_eqT {Q : Option Value → Shared → Prop} (X : K.In s.heap) (I : PySem.W.InstAt s.heap x ox C od) (T : PlainEq K C) (ap : Apart s (.ref x) u true) (hq : Q (some (.bool true)) s) : wpAny (model prog w) A (callSpecialIfBound? (.ref x) "__eq__" [u]) Q E s := ifB_eq X I T ap hq
theorem ifB_eqF {Q : Option Value → Shared → Prop} (X : K.In s.heap) (I : PySem.W.InstAt s.heap x ox C od) (T : PlainEq K C) (ap : Apart s (.ref x) u false) (hq : Q (some .notImplemented) s) : wpAny (model prog w) A (callSpecialIfBound? (.ref x) "__eq__" [u]) Q E s := ifB_eq X I T ap hq
/-- what a trial says -/
def said (b neg : Bool) : Option Value := if b = true then some (.bool (!neg)) else none
theorem try_eq {b : Bool} {Q : Option Value → Shared → Prop} (X : K.In s.heap) (I : PySem.W.InstAt s.heap x ox C od) (T : PlainEq K C) (ap : Apart s (.ref x) u b) (hq : Q (said b false) s) : wpAny (model prog w) A (tryCompare (.ref x) "__eq__" u) Q E s := by
  unfold tryCompare
  refine wpAny_bind (HN.ifBound_objEq X I T.eq (hands X I T ap _ _ _ ?_))
  cases b
  · exact wpAny_pure hq
  · exact wpAny_pure hq
theorem entry_ne {b : Bool} {Q : Fin → Shared → Prop} (X : K.In s.heap) (I : PySem.W.InstAt s.heap x ox C od) (T : PlainEq K C) (ap : Apart s (.ref x) u b) (hu : A.units < cLine) (hq : Q (.done (.ret (if b = true then .bool false else .notImplemented))) s) :
    wpAny (model prog w) A (Builtin.«object.__ne__» ⟨[.ref x, u], []⟩) Q E s := by
  unfold Builtin.«object.__ne__»
  cases b
  · repeat (first | with_reducible refine wpAny_cRoomFor hu ?_ | with_reducible refine ifB_eqF X I T ap ?_ | wp_step)
    exact hq
  · repeat (first | with_reducible refine wpAny_cRoomFor hu ?_ | with_reducible refine ifB_eqT X I T ap ?_ | wp_step)
    exact hq
theorem try_ne {b : Bool} {Q : Option Value → Shared → Prop} (X : K.In s.heap) (I : PySem.W.InstAt s.heap x ox C od) (T : PlainEq K C) (ap : Apart s (.ref x) u b) (hu : A.units + 1 < cLine) (hq : Q (said b true) s) : wpAny (model prog w) A (tryCompare (.ref x) "__ne__" u) Q E s := by
  unfold tryCompare
  refine wpAny_bind (ifB_ne X I T.ne (wpAny_call (codeAny_call_builtin F.cmp_object.ne.plain F.cmpEntry_ne (PySem.W.check_slot F.cmpKind_ne F.cmpSplit_ne (I.type.andThen (PySem.W.looks_mroIn X T.mo)) (F.cmpArgs_ne _ _) (entry_ne (A := A.in1) X I T ap hu ?_)))))
  cases b
  · exact wpAny_pure hq
  · exact wpAny_pure hq
/-- two instances of one class -/
theorem rc_eq {b : Bool} {Q : Value → Shared → Prop} (hu : A.units < cLine) (X : K.In s.heap) (I : PySem.W.InstAt s.heap x ox C od) (J : PySem.W.InstAt s.heap y oy C oe) (T : PlainEq K C) (ap : Apart s (.ref x) (.ref y) b) (aq : Apart s (.ref y) (.ref x) b) (h : Q (.bool b) s) :
    wpAny (model prog w) A (richCompare .Eq (.ref x) (.ref y)) Q E s := by
  simp only [richCompare, cmpInfo_Eq, oneThing_ref]
  refine wpAny_holding (wpAny_bind (wpAny_cRoomFor hu ?_))
  refine wpAny_bind (I.type.here ?_)
  refine wpAny_bind (J.type.here ?_)
  rw [show (Value.ref C != Value.ref C) = false from by simp]
  simp only [Bool.false_eq_true, if_false, Bool.not_false, if_true]
  refine wpAny_bind (wpAny_pure ?_)
  simp only [Bool.false_eq_true, if_false, Bool.not_false, if_true]
  refine wpAny_bind (try_eq X I T ap ?_)
  cases b
  · refine wpAny_bind (try_eq X J T aq ?_)
    exact wpAny_bind (wpAny_rule (wpAny_bind (ap _ _ _ _ (wpAny_pure h))))
  · exact wpAny_pure h
theorem rc_ne {b : Bool} {Q : Value → Shared → Prop} (hu : A.units + 1 < cLine) (X : K.In s.heap) (I : PySem.W.InstAt s.heap x ox C od) (J : PySem.W.InstAt s.heap y oy C oe) (T : PlainEq K C) (ap : Apart s (.ref x) (.ref y) b) (aq : Apart s (.ref y) (.ref x) b) (h : Q (.bool (!b)) s) :
    wpAny (model prog w) A (richCompare .NotEq (.ref x) (.ref y)) Q E s := by
  simp only [richCompare, cmpInfo_NotEq, oneThing_ref]
  refine wpAny_holding (wpAny_bind (wpAny_cRoomFor (Nat.lt_of_succ_lt hu) ?_))
  refine wpAny_bind (I.type.here ?_)
  refine wpAny_bind (J.type.here ?_)
  rw [show (Value.ref C != Value.ref C) = false from by simp]
  simp only [Bool.false_eq_true, if_false, Bool.not_false, if_true]
  refine wpAny_bind (wpAny_pure ?_)
  simp only [Bool.false_eq_true, if_false, Bool.not_false, if_true]
  refine wpAny_bind (try_ne X I T ap hu ?_)
  cases b
  · refine wpAny_bind (try_ne X J T aq hu ?_)
    exact wpAny_bind (wpAny_rule (wpAny_bind (ap _ _ _ _ (wpAny_pure h))))
  · exact wpAny_pure h
theorem sub_str : PySem.W.subIn K (.type "str") (.ref C) = some false := by
  have e : fastBuiltinMro "str" = some [.type "str", .type "object"] := by decide +kernel
  show (fastBuiltinMro "str").map (·.contains (.ref C)) = some false
  rw [e]
  first
    | rfl
    | simp
theorem str_ne_inst (b : Str) (t : Tok) (x dx C : Addr) : Meets (Builtin.«str.__ne__» ⟨[.str b t, .ref x], []⟩) (fun _ R s => s.heap.get? x = some (PySem.W.instObj C dx) ∧ R (.ok (.ret .notImplemented)) s) :=
  .of_wp fun prog w A R s h => by
    obtain ⟨hp, g, d, tk, os⟩ := s
    obtain ⟨hl, h⟩ := h
    have hl' := hl
    unfold PySem.W.instObj at hl'
    wp_walk using AutoSeq1.wpAny_loadPart' hl', wpAny_load hl'
    exact ⟨_, rfl, h⟩
/-- an instance and a text -/
theorem rc_ne_str {z : Str} {t : Tok} {dx : Addr} {Q : Value → Shared → Prop} (hu : A.units + 1 < cLine) (X : K.In s.heap) (I : PySem.W.InstAt s.heap x (PySem.W.instObj C dx) C od) (T : PlainEq K C) (h : Q (.bool true) s) :
    wpAny (model prog w) A (richCompare .NotEq (.ref x) (.str z t)) Q E s := by
  have ap : Apart s (.ref x) (.str z t) false := fun M A E R h => wpAny_of_eq (rfl : isSame (.ref x) (.str z t) = pure false) h
  simp only [richCompare, cmpInfo_NotEq, oneThing_ref]
  refine wpAny_holding (wpAny_bind (wpAny_cRoomFor (Nat.lt_of_succ_lt hu) ?_))
  refine wpAny_bind (I.type.here ?_)
  refine wpAny_bind (wpAny_typeOf (typeIs_str s z t) ?_)
  rw [show (Value.ref C != Value.type "str") = true from by simp]
  simp only [Bool.false_eq_true, if_false, Bool.not_false, if_true]
  refine wpAny_bind ((PySem.W.looks_subIn X sub_str).here ?_)
  simp only [Bool.false_eq_true, if_false, Bool.not_false, if_true]
  refine wpAny_bind (try_ne X I T ap hu ?_)
  refine wpAny_bind (wpAny_tryCompare_declines (typeIs_str s z t) F.slot_str_ne_refl (call_meets F.slot_str_ne_refl (typeIs_str s z t) F.entry_str_ne (F.args_str_ne_2 _ _) (str_ne_inst z t x dx C) ⟨I.at_, rfl, ?_⟩))
  exact wpAny_bind (wpAny_rule (wpAny_bind (ap _ _ _ _ (wpAny_pure h))))
end
end K2

namespace K2
open PySem PySem.Spec PyProof.Rows L2
section
variable {X : Cx}
/-- two instances of one class that has no comparing of its own -/
def rEqI (K : PySem.W.Frag) (g : Bool → Bool) : R2 := fun x y H Q => ∃ (a b C dx dy : Addr) (fs gs : List (Str × V)), x = .ref a ∧ y = .ref b ∧ H a = some (.ins C dx fs) ∧ H b = some (.ins C dy gs) ∧ PlainEq K C ∧ Q (.bl (g (decide (a = b)))) H
theorem apart_ins {pins : List (Addr × Obj)} {σ : L2.St} {H : Hp} {s : Shared} {a b C D dx dy : Addr} {fs gs : List (Str × V)} (I : L2.Inv X pins σ H s) (ha : H a = some (.ins C dx fs)) (hb : H b = some (.ins D dy gs)) : Apart s (.ref a) (.ref b) (decide (a = b)) := fun M A E R h => by
  by_cases q : a = b
  · subst q
    rw [decide_eq_true rfl] at h
    exact wpAny_isSame_ref_self h
  · rw [decide_eq_false q] at h
    obtain ⟨_, O, _⟩ := ins_get I.hok ha
    obtain ⟨_, O2, _⟩ := ins_get I.hok hb
    exact wpAny_isSame_ref_other q O.obj O2.obj (by unfold PySem.W.instObj; intro z; cases z) h
theorem op_eqI (hu : X.A.units + 64 < cLine) : OpR X (compareOp .Eq) (rEqI X.K id) := by
  intro pins s σ H x y v u Q I rx ry h
  obtain ⟨a, b, C, dx, dy, fs, gs, rfl, rfl, ha, hb, T, q⟩ := h
  cases rx
  cases ry
  obtain ⟨_, O, _⟩ := ins_get I.hok ha
  obtain ⟨_, O2, _⟩ := ins_get I.hok hb
  obtain ⟨_, J, _⟩ := O.look
  obtain ⟨_, J2, _⟩ := O2.look
  have aq := apart_ins I hb ha
  rw [show decide (b = a) = decide (a = b) from decide_eq_decide.mpr eq_comm] at aq
  exact rc_eq (by omega) I.kIn J J2 T (apart_ins I ha hb) aq ⟨.bl _, H, I, rfl, q⟩
theorem op_neI (hu : X.A.units + 64 < cLine) : OpR X (compareOp .NotEq) (rEqI X.K not) := by
  intro pins s σ H x y v u Q I rx ry h
  obtain ⟨a, b, C, dx, dy, fs, gs, rfl, rfl, ha, hb, T, q⟩ := h
  cases rx
  cases ry
  obtain ⟨_, O, _⟩ := ins_get I.hok ha
  obtain ⟨_, O2, _⟩ := ins_get I.hok hb
  obtain ⟨_, J, _⟩ := O.look
  obtain ⟨_, J2, _⟩ := O2.look
  have aq := apart_ins I hb ha
  rw [show decide (b = a) = decide (a = b) from decide_eq_decide.mpr eq_comm] at aq
  exact rc_ne (by omega) I.kIn J J2 T (apart_ins I ha hb) aq ⟨.bl _, H, I, rfl, q⟩
/-- an instance against a text -/
def rNeIS (K : PySem.W.Frag) : R2 := fun x y H Q => ∃ (a C dx : Addr) (fs : List (Str × V)) (z : Str), x = .ref a ∧ y = .str z ∧ H a = some (.ins C dx fs) ∧ PlainEq K C ∧ Q (.bl true) H
theorem op_neIS (hu : X.A.units + 64 < cLine) : OpR X (compareOp .NotEq) (rNeIS X.K) := by
  intro pins s σ H x y v u Q I rx ry h
  obtain ⟨a, C, dx, fs, z, rfl, rfl, ha, T, q⟩ := h
  cases rx
  obtain ⟨t, rfl⟩ := ry
  obtain ⟨_, O, _⟩ := ins_get I.hok ha
  obtain ⟨_, J, _⟩ := O.look
  exact rc_ne_str (by omega) I.kIn J T ⟨.bl _, H, I, rfl, q⟩
end
@[simp] theorem x_rEqI {K : PySem.W.Frag} {g : Bool → Bool} {x y : V} {H : Hp} {Q : VK} : rEqI K g x y H Q = ∃ (a b C dx dy : Addr) (fs gs : List (Str × V)), x = .ref a ∧ y = .ref b ∧ H a = some (.ins C dx fs) ∧ H b = some (.ins C dy gs) ∧ PlainEq K C ∧ Q (.bl (g (decide (a = b)))) H := rfl
/-! ### a classmethod called with keywords alone -/
def tCMethK (C : Addr) (sp : Sp) (gV : List V → List V → List V) (E : XK) (ta : TE) (tk : TA) : TE := fun σ H Q => ta σ H fun x H1 => x = .ref C ∧ tk σ H1 fun zs H2 => sp (gV [.ref C] zs) H2 Q E
section
variable {X : Cx} {CX : CXT} {k : Nat} {C p g : Addr} {mc : Value} {fd : FuncData} {ps ks : List Str} {sp : Sp} {E : XK} {o : Expr} {kws : List Keyword} {m : Str} {pos apos : Pos} {ta : TE} {tk : TA} {pl : Sem Bool} {g2 : List Value → List Value → List Value} {gV : List V → List V → List V}
theorem run_cmK {pins : List (Addr × Obj)} {σ : L2.St} {H : Hp} {s : Shared} {q : Addr} {Q : VK} {ws : List Value} {zs : List V} (F : FnOk X.prog X.w X.K X.mg X.base CX k g fd ps sp) (hb : KBinds X.K fd ps ks g2 gV) (hr : Room k X.A) (hx : Passes CX X E)
    (I : L2.Inv X ((q, PySem.W.methodObj (.ref g) (.ref C)) :: pins) σ H s) (rz : Vals zs ws) (h : sp (gV [.ref C] zs) H Q E) : wpAny (model X.prog X.w) X.A (call (.ref q) [] (ks.zip ws)) (EP X pins σ Q) X.xe s := by
  have r2 := hb.rel (vs := [V.ref C]) (us := [Value.ref C]) (.cons rfl .nil) rz
  have hl : (g2 [Value.ref C] ws).length = ps.length := by rw [← r2.length]; exact F.len _ _ _ _ h
  have z : wpAny (model X.prog X.w) X.A (call (.ref q) [] (ks.zip ws)) (EP X ((q, PySem.W.methodObj (.ref g) (.ref C)) :: pins) σ Q) X.xe s := by
    refine wpAny_call (PySem.W.method_call (ClX.pin_at I) (codeAny_mono (F.run X.A X.stack s H ⟨[.ref C], ks.zip ws⟩ (g2 [.ref C] ws) (gV [.ref C] zs) Q E hr I.env0 (hb.to s [.ref C] ws I.kIn hl) r2 h) fun r s' hq => ?_))
    cases r with
    | error e => exact hx _ σ H s e s' I hq
    | ok fl =>
      cases fl with
      | ret u => exact I.after hq
      | next => exact False.elim hq
      | brk => exact False.elim hq
      | cont => exact False.elim hq
  exact thn z fun _ _ y => ClX.unpinE y
theorem pe_cmethK (he : PE X o ta) (r : ClX.CRead X.K C mc) (c : ClX.CMet X.K C mc m p g) (F : FnOk X.prog X.w X.K X.mg X.base CX k g fd ps sp) (hb : KBinds X.K fd ps ks g2 gV) (hr : Room k X.A) (hx : Passes CX X E) (hkw : PK X kws tk)
    (hall : (backToKw pos (keywordEach kws X.env)).all (·.1.isSome) = true := by rfl) (hks : (backToKw pos (keywordEach kws X.env)).filterMap (·.1) = ks := by rfl)
    (hpl : ((backTo pos (starEach [] X.env)).any (·.1) || (backToKw pos (keywordEach kws X.env)).any (·.1.isNone)) = false := by rfl)
    (ht : eval (.Call (.Attribute o m apos) [] kws pos) X.env = (do
      let ov ← eval o X.env
      standAt apos.atName
      let (f, first) ← holding [ov] (getMethod ov m pl)
      callWith pos f first (backTo pos (starEach [] X.env)) (backToKw pos (keywordEach kws X.env))) := by rfl) :
    PE X (.Call (.Attribute o m apos) [] kws pos) (tCMethK C sp gV E ta tk) := by
  refine ⟨fun pins s σ H Q I h => ?_⟩
  refine PySem.W.methodCall_KW (pl := pl) (thn (he.run pins s σ H _ I h) fun u s1 ⟨x, H1, I1, rx, ex, q⟩ => ?_) ht
  subst ex
  obtain rfl : u = Value.ref C := rx
  refine ClX.getmethcm_ok I1 r c fun s2 I2 => ?_
  refine PySem.W.callWith_of (P := PySem.W.MethP X.K s1.heap.objs.size g (.ref C)) hpl (PySem.W.keeps_M c.fi) (evalArgs_kw2_nil hall (thn (hkw.run pos _ s2 σ H1 _ I2 q) fun ws s3 ⟨zs, H2, I3, rz, q2⟩ => ⟨⟨ClX.pin_at I3, I3.kIn⟩, ?_⟩))
  rw [hks]
  exact run_cmK F hb hr hx I3 rz q2
end
end K2

namespace K2
open PySem PySem.Spec PyProof.Rows L2
open PySem.W (dictOf kwEs)
/-! ### keywords that go into the dict of the rest -/
section
variable {prog : Program} {w : World} {A : Around} {E : Value → Shared → Prop} {D : Addr}
theorem nsSet_new {s : Shared} {es : List DictEntry} {n : Nat} {k : Str} {v : Value} {Q : Unit → Shared → Prop} (hD : s.heap.get? D = some (dictOf es n)) (hs : ∀ e ∈ es, e.key.isStr k = false) (hr : ∀ e ∈ es, e.refKey = false)
    (h : ∀ h', (∀ b o, b ≠ D → s.heap.get? b = some o → h'.get? b = some o) → h'.objs.size = s.heap.objs.size → h'.get? D = some (dictOf (es ++ [⟨PyData.keyHash w.params k, .str k s.toks, v⟩]) (n + 1)) → Q () { s with heap := h', toks := s.toks + 1 }) :
    wpAny (model prog w) A (nsSet D k v) Q E s := by
  have none_of : ∀ f : DictEntry → Bool, (∀ e ∈ es, f e = false) → es.any f = false := fun f hf => by
    rw [List.any_eq_false]
    intro e he
    rw [hf e he]
    decide
  have e1 := none_of (fun e => e.key.isStr k) hs
  have e2 := none_of (fun e => e.refKey) hr
  have e : Obj.putName k (PyData.keyHash w.params k) (.str k s.toks) v (dictOf es n) = dictOf (es ++ [⟨PyData.keyHash w.params k, .str k s.toks, v⟩]) (n + 1) := by
    rw [PySem.W.putName_dict, PySem.W.putL_new hs]
    show dictOf _ (if es.any (fun e => e.key.isStr k) then n else n + 1) = _
    rw [e1, if_neg Bool.false_ne_true]
  have c : aRefKeyMayBeTheName k es.toArray = false := by
    rw [aRefKeyMayBeTheName_at, ← Array.any_toList, ← Array.any_toList]
    show (!es.any (fun e => e.key.isStr k) && es.any (fun e => e.refKey)) = false
    rw [e2, Bool.and_false]
  unfold nsSet
  refine wpAny_bind (wpAny_bind (wpAny_askSetting (wpAny_pure (wpAny_bind (wpAny_mkText (wpAny_bind (wpAny_loadPart hD ?_)))))))
  dsimp only
  rw [c]
  refine wpAny_updatePart hD (h _ (fun b o nb q => ?_) (Heap.size_update _ _ _) ?_)
  · exact (Heap.get?_update_ne _ _ _ _ nb).trans q
  · exact (Heap.get?_update_self (Obj.putName k (PyData.keyHash w.params k) (.str k s.toks) v) hD (by rw [e]; rfl)).trans (congrArg some e)
theorem fill_new {Q : PUnit → Shared → Prop} : ∀ (ex : List (Str × Value)) (s : Shared) (es : List DictEntry) (n : Nat), s.heap.get? D = some (dictOf es n) → (∀ e ∈ es, ∀ x ∈ ex, e.key.isStr x.1 = false) → (∀ e ∈ es, e.refKey = false) → (ex.map (·.1)).Nodup →
    (∀ h' tk, (∀ b o, b ≠ D → s.heap.get? b = some o → h'.get? b = some o) → h'.objs.size = s.heap.objs.size → h'.get? D = some (dictOf (es ++ kwEs w.params s.toks ex) (n + ex.length)) → Q ⟨⟩ { s with heap := h', toks := tk }) →
    wpAny (model prog w) A (forIn ex PUnit.unit fun x _ => (nsSet D x.1 x.2 >>= fun _ => pure (ForInStep.yield PUnit.unit))) Q E s
  | [], s, es, n, hD, _, _, _, h => by
    rw [List.forIn_nil]
    refine wpAny_pure (h s.heap s.toks (fun _ _ _ q => q) rfl ?_)
    show s.heap.get? D = some (dictOf (es ++ []) n)
    rw [List.append_nil]
    exact hD
  | x :: r, s, es, n, hD, hs, hr, hn, h => by
    have hn' : (x.1 :: r.map (·.1)).Nodup := hn
    obtain ⟨n1, n2⟩ := List.nodup_cons.mp hn'
    rw [List.forIn_cons]
    refine wpAny_bind (wpAny_bind (nsSet_new hD (fun e he => hs e he x (.head _)) hr fun h1 k1 z1 d1 => wpAny_pure ?_))
    refine fill_new r { s with heap := h1, toks := s.toks + 1 } _ _ d1 (fun e he y hy => ?_) (fun e he => ?_) n2 fun h2 t2 k2 z2 d2 => ?_
    · rcases List.mem_append.mp he with he | he
      · exact hs e he y (.tail _ hy)
      · rw [List.mem_singleton.mp he]
        show (x.1 == y.1) = false
        exact beq_eq_false_iff_ne.mpr fun q => n1 (List.mem_map.mpr ⟨y, hy, q.symm⟩)
    · rcases List.mem_append.mp he with he | he
      · exact hr e he
      · rw [List.mem_singleton.mp he]
        rfl
    · refine h h2 t2 (fun b o nb q => k2 b o nb (k1 b o nb q)) (z2.trans z1) ?_
      rw [d2, List.append_assoc]
      have e : n + 1 + r.length = n + (x :: r).length := by rw [List.length_cons]; omega
      rw [e]
      rfl
/-- the dict that was filled, as a tracked one -/
theorem kw_pairs {P : Program} : ∀ (ex : List (Str × Value)) (t : Tok), Pairs (mixKind P w) (kwEs w.params t ex) (ex.map fun x => ((.inr x.1 : Key), x.2))
  | [], _ => Pairs.nil
  | x :: r, t => Pairs.cons (mixKind_str P w x.1 t) rfl (kw_pairs r (t + 1))
theorem kw_dict {P : Program} {h : Heap} {ex : List (Str × Value)} {t : Tok} {n : Nat} (hD : h.get? D = some (dictOf (kwEs w.params t ex) n)) (nd : (ex.map (·.1)).Nodup) : h.DictOf (mixKind P w) D (ex.map fun x => ((.inr x.1 : Key), x.2)) := by
  refine ⟨_, (kwEs w.params t ex).toArray, n, hD, ⟨rfl, rfl, rfl⟩, rfl, fun e he => ?_, kw_pairs ex t, ?_⟩
  · obtain ⟨k, u, hk, hh⟩ := PySem.W.kwEs_key ex t e (List.mem_toArray.mp he)
    exact ⟨.inr k, by rw [hk]; exact mixKind_str P w k u, hh⟩
  · rw [List.map_map]
    have e : ((fun x : Key × Value => x.1) ∘ fun x : Str × Value => ((.inr x.1 : Key), x.2)) = (fun z : Str => (.inr z : Key)) ∘ fun x : Str × Value => x.1 := rfl
    have e2 : (ex.map ((fun x : Key × Value => x.1) ∘ fun x : Str × Value => ((.inr x.1 : Key), x.2))) = (ex.map (·.1)).map (fun z : Str => (.inr z : Key)) := by rw [List.map_map, ← e]
    rw [e2]
    exact List.Pairwise.map _ (fun a b ne q => ne (Sum.inr.inj q)) nd
end
section
variable {P : Program} {w : World} {K : PySem.W.Frag} {mg : Str → Option Value} {base : Heap} {A : Around} {outer : List Env} {s : Shared} {H : Hp}
theorem env0_more {h' : Heap} {tk : Tok} {D : Addr} {u : HO} (e0 : Env0 P w K mg base A outer s H) (kp : ∀ b x, s.heap.get? b = some x → h'.get? b = some x) (hz : s.heap.objs.size ≤ h'.objs.size) (hD : s.heap.objs.size ≤ D) (new : ObjOk P w (upd H D u) h' D u) :
    Env0 P w K mg base A outer { s with heap := h', toks := tk } (upd H D u) := by
  have nD : ∀ b x, s.heap.get? b = some x → b ≠ D := fun b x e => Nat.ne_of_lt (Nat.lt_of_lt_of_le (Heap.lt_size e) hD)
  refine ⟨e0.frames, e0.mod, fun b x e => ⟨kp b x (e0.bs b x e).1, ?_⟩, Nat.le_trans e0.bsz hz, Heap.FunFrames.of_keeps (fun b x e _ => ⟨x, kp b x e, rfl⟩) e0.funs, fun b hb => ?_, e0.hok.laid kp hD new, e0.bare⟩
  · rw [upd_ne (nD _ _ (e0.bs b x e).1)]
    exact (e0.bs b x e).2
  · obtain ⟨_, x, hx, _⟩ := e0.funs.mem hb
    rw [upd_ne (nD _ _ hx)]
    exact e0.frf b hb
/-- a promise by positional values and keywords -/
def FnRK (P : Program) (w : World) (K : PySem.W.Frag) (mg : Str → Option Value) (base : Heap) (k : Nat) (f : Addr) (ks : List Str) (sp : List V → Sp) : Prop :=
  ∀ (A : Around) (outer : List Env) (s : Shared) (H : Hp) (us ws : List Value) (vs zs : List V) (Q : VK) (E : XK), Room k A → Env0 P w K mg base A outer s H → Vals vs us → Vals zs ws → sp vs zs H Q E →
    codeAny (model P w) A (.call (.ref f) ⟨us, ks.zip ws⟩) (CR (L2.CX P w) outer P w H s Q E) s
def kwD (ks : List Str) (zs : List V) : List (Key × V) := (ks.zip zs).map fun p => ((.inr p.1 : Key), p.2)
def spInitK (K : PySem.W.Frag) (CI CF : Addr) (ks : List Str) : List V → Sp := fun vs zs H Q E => vs.length = 3 ∧ zs.length = ks.length ∧ ∀ d, H d = none → spInit K CI CF (vs ++ [.ref d]) (upd H d (.dK (kwD ks zs))) Q E
theorem kv_zip : ∀ {ks : List Str} {zs : List V} {ws : List Value}, Vals zs ws → KV (kwD ks zs) ((ks.zip ws).map fun x => ((.inr x.1 : Key), x.2))
  | [], _, _, _ => .nil
  | _ :: _, _, _, .nil => .nil
  | _ :: ks, _, _, .cons r t => .cons ⟨rfl, r⟩ (kv_zip (ks := ks) t)
/-- how Form's __init__ binds these keywords -/
def KwB (fd : FuncData) (ks : List Str) : Prop := ∀ us ws : List Value, us.length = 3 → ws.length = ks.length → bindArgs fd ⟨us, ks.zip ws⟩ =
  ((alloc ({ cls := .type "dict", data := .dict #[] } : Obj) : Sem Addr) >>= fun d => (forIn (ks.zip ws) PUnit.unit fun x _ => (nsSet d x.1 x.2 >>= fun _ => pure (ForInStep.yield PUnit.unit))) >>= fun _ => pure ((["self", "name", "sort"] : List Str).zip us ++ [(("slots" : Str), Value.ref d)]))
open StX in
theorem init_kw {f fN fT fS fC fI CI CF : Addr} {fdN fdT fdS fdC : FuncData} {fd : FuncData} {ks : List Str} (F : Fun K "__init__" "Form.__init__" sFormInit f fd) (T : TxtC P K mg CI CF fN fT fS fC fI fdN fdT fdS fdC) (hk : KwB fd ks) (nd : ks.Nodup) (hkl : ks.length ≤ 100)
    (GN : FnOk P w K mg base CX0 1 fN fdN ["value"] (spName K)) (GS : FnOk P w K mg base CX0 2 fS fdS ["value"] (spSort K)) (GC : FnOk P w K mg base (L2.CX P w) 4 fC fdC ["slots"] (spChecked K CI)) :
    FnRK P w K mg base 5 f ks (spInitK K CI CF ks) := by
  obtain ⟨oc, od, kV, doc, pm, an, cdv, ct, osl, rfl, lk, hcd⟩ := F.ex
  intro A outer s H us ws vs zs Q E hr e0 r rz hsp
  obtain ⟨hl, hlz, hq⟩ := hsp
  have hl1 : us.length = 3 := by rw [← r.length]; exact hl
  have hl2 : ws.length = ks.length := by rw [← rz.length]; exact hlz
  have hn : H s.heap.objs.size = Option.none := e0.hok.fresh (Nat.le_refl _)
  refine run_bnd lk hcd scInit hr e0 (G := fun xs H2 => ∃ d, H d = none ∧ xs = vs ++ [V.ref d] ∧ H2 = upd H d (.dK (kwD ks zs))) (fun A' Ex Q' h => ?_) fun s2 H2 xs ⟨d, hd, ex, eH⟩ hr' => ?_
  · rw [hk us ws hl1 hl2]
    have hz1 : (ks.zip ws).map (·.1) = ks := by
      rw [List.map_fst_zip]
      rw [hl2]
      exact Nat.le_refl _
    refine wpAny_bind (wpAny_alloc (wpAny_bind (fill_new (D := s.heap.objs.size) (ks.zip ws) _ [] 0 (Heap.get?_push_size _ rfl) (fun e he => (nomatch he)) (fun e he => (nomatch he)) (by rw [hz1]; exact nd) fun h1 tk k1 z1 d1 => wpAny_pure ?_)))
    have kp : ∀ b x, s.heap.get? b = some x → h1.get? b = some x := fun b x e => k1 b x (Nat.ne_of_lt (Heap.lt_size e)) (Heap.get?_push_of_some _ e)
    have new : ObjOk P w (upd H s.heap.objs.size (.dK (kwD ks zs))) h1 s.heap.objs.size (.dK (kwD ks zs)) := by
      refine ⟨?_, beq_eq_false_iff_ne.mpr (Ne.symm (Nat.ne_of_lt (env0_big e0))), _, kv_zip rz, kw_dict (t := s.toks) d1 (by rw [hz1]; exact nd)⟩
      unfold kwD
      rw [List.length_map, List.length_zip, hlz, Nat.min_self]
      exact Nat.le_trans hkl (by decide)
    have un : Un (frs outer) [] H (upd H s.heap.objs.size (.dK (kwD ks zs))) s.heap h1 := Un.laid kp (Nat.le_refl _) hn
    have z := h { s with heap := h1, toks := tk } _ (vs ++ [V.ref s.heap.objs.size]) (us ++ [Value.ref s.heap.objs.size]) (env0_more e0 kp (by rw [z1, Heap.size_push]; exact Nat.le_succ _) (Nat.le_refl _) new) un rfl
      (fun e s' => cxUp outer s H _ _ E e s' un kp rfl) (r.append (.cons rfl .nil)) (by rw [List.length_append, hl] <;> rfl) ⟨_, hn, rfl, rfl⟩
    match us, hl1, z with
    | [_, _, _], _, z => exact z
  · subst ex eH
    exact body_init T GN GS GC hr' (hq d hd)
end
/-! ### an instance made with keywords -/
def tMakeKW (C : Addr) (sp : List V → Sp) (E : XK) (t tk : TA) : TE := fun σ H Q => t σ H fun vs H1 => tk σ H1 fun zs H2 => ∀ x dx, H2 x = none → H2 dx = none → dx ≠ x → sp (.ref x :: vs) zs (upd (upd H2 dx (.own x)) x (.ins C dx [])) (fun v H3 => v = .non ∧ Q (.ref x) H3) E
section
variable {X : Cx} {k : Nat} {f C : Addr} {ks : List Str} {sp : List V → Sp} {E : XK} {x : Str} {p pos : Pos} {e : Expr} {es : List Expr} {kws : List Keyword} {t tk : TA}
theorem run_makeKW {pins : List (Addr × Obj)} {σ : L2.St} {H : Hp} {s : Shared} {Q : VK} {us ws : List Value} {vs zs : List V} (M : Mk X.K C f) (F : FnRK X.prog X.w X.K X.mg X.base k f ks sp) (hr : Room (k + 1) X.A) (hx : Passes (L2.CX X.prog X.w) X E) (I : L2.Inv X pins σ H s) (r : Vals vs us) (rz : Vals zs ws)
    (h : ∀ x dx, H x = none → H dx = none → dx ≠ x → sp (.ref x :: vs) zs (upd (upd H dx (.own x)) x (.ins C dx [])) (fun v H2 => v = .non ∧ Q (.ref x) H2) E) : wpAny (model X.prog X.w) X.A (call (.ref C) us (ks.zip ws)) (EP X pins σ Q) X.xe s := by
  have hq := h (s.heap.objs.size + 1) s.heap.objs.size (I.hok.fresh (Nat.le_succ _)) (I.hok.fresh (Nat.le_refl _)) (Nat.ne_of_lt (Nat.lt_succ_self _))
  have I2 := Inv.made (C := C) I
  have r1 : Vals (V.ref (s.heap.objs.size + 1) :: vs) (Value.ref (s.heap.objs.size + 1) :: us) := .cons rfl r
  refine wpAny_call (make_map (f := f) I.kIn M.makes M.init (beq_iff_eq.mp M.fn) (codeAny_mono (F _ X.stack _ _ (Value.ref (s.heap.objs.size + 1) :: us) ws _ _ _ E (hr.make C us (ks.zip ws)) (I2.env0.make C us (ks.zip ws)) r1 rz hq) fun r s' hq' => ?_))
  cases r with
  | error e => exact hx pins σ _ _ e s' I2 hq'
  | ok fl =>
    cases fl with
    | ret u =>
      obtain ⟨v, H', I3, rv, ev, q3⟩ := I2.after hq'
      subst ev
      exact ⟨rv, ⟨V.ref (s.heap.objs.size + 1), H', I3, rfl, q3⟩⟩
    | next => exact False.elim hq'
    | brk => exact False.elim hq'
    | cont => exact False.elim hq'
theorem pe_makeKW (M : Mk X.K C f) (F : FnRK X.prog X.w X.K X.mg X.base k f ks sp) (hr : Room (k + 1) X.A) (hg : Gl X x) (hm : X.mg x = some (.ref C)) (hx : Passes (L2.CX X.prog X.w) X E) (ha : PA X (e :: es) t) (hkw : PK X kws tk)
    (hall : (backToKw pos (keywordEach kws X.env)).all (·.1.isSome) = true := by rfl) (hks : (backToKw pos (keywordEach kws X.env)).filterMap (·.1) = ks := by rfl)
    (hdb : (x == ("__debug__" : Str)) = false := by decide) (he : starEach (e :: es) X.env = (false, eval e X.env) :: starEach es X.env := by rfl)
    (hpl : ((backTo pos (starEach (e :: es) X.env)).any (·.1) || (backToKw pos (keywordEach kws X.env)).any (·.1.isNone)) = false := by rfl) : PE X (.Call (.Name x p) (e :: es) kws pos) (tMakeKW C sp E t tk) := by
  refine ⟨fun pins s σ H Q I h => ?_⟩
  refine wpAny_Call_Name_kw (ld_glob I hg hm ?_ hdb)
  refine PySem.W.callWith_KW (h₀ := X.base) I.ok.mod.kin M.kp hall (thn (ha.run pos pins s σ H _ I h) fun us s1 ⟨vs, H1, I1, r, q⟩ => ?_) hpl he
  refine thn (hkw.run pos pins s1 σ H1 _ I1 q) fun ws s2 ⟨zs, H2, I2, rz, q2⟩ => ⟨I2.kIn, ?_⟩
  rw [hks]
  exact run_makeKW M F hr hx I2 r rz q2
end
end K2

namespace K2
open PySem L2
open LamX (ExtN Tabs TabS TabB LamS lamS_by lamSB)
/-! ### what stands while tables of code grow -/
theorem rd_ext {H H' : Hp} {a : Addr} {xs : List V} (e : ExtN H H') (h : Rd H a (.lst xs)) : Rd H' a (.lst xs) := by
  rcases h with h | ⟨o, h⟩
  · exact .inl (e _ _ h fun ps q => by cases q)
  · exact .inr ⟨o, e _ _ h fun ps q => by cases q⟩
theorem seq_ext {K : PySem.W.Frag} {H H' : Hp} {a : Addr} {xs : List V} (e : ExtN H H') (h : SqL K H a xs) : SqL K H' a xs := by
  rcases h with h | h
  · exact .inl (rd_ext e h)
  · exact .inr h
/-- a text, or another thing whose own object stands -/
def ValB (K : PySem.W.Frag) (H : Hp) (v : V) : Prop := (∃ z, v = .str z ∧ z.length ≤ 1000 ∧ PyData.strOk z = true) ∨ ((∀ z, v ≠ .str z) ∧ (∀ a, v = .ref a → ∃ o, H a = some o ∧ ∀ ps, o ≠ .tbl ps) ∧ ∃ t, TyX K H v t ∧ PySem.W.kitOne K t (.type "str") = some false)
theorem ValB.val {K : PySem.W.Frag} {H : Hp} {v : V} (h : ValB K H v) : Val K H v := by
  rcases h with h | ⟨h1, h2, h3⟩
  · exact .inl h
  · exact .inr ⟨h1, fun a e => let ⟨o, q, _⟩ := h2 a e; ⟨o, q⟩, h3⟩
theorem ValB.ext {K : PySem.W.Frag} {H H' : Hp} {v : V} (h : ValB K H v) (e : ExtN H H') : ValB K H' v := by
  rcases h with h | ⟨h1, h2, t, h3, h4⟩
  · exact .inl h
  · refine .inr ⟨h1, fun a q => ?_, t, TyX.keep h3 fun a o q1 q2 => ?_, h4⟩
    · obtain ⟨o, q1, q2⟩ := h2 a q
      exact ⟨o, e _ _ q1 q2, q2⟩
    · obtain ⟨o', q3, q4⟩ := h2 a q1
      rw [q2] at q3
      cases q3
      exact e _ _ q2 q4
theorem ValB.same {K : PySem.W.Frag} {H H' : Hp} {v : V} (h : ValB K H v) (e : Same H H') : ValB K H' v := h.ext (ExtN.of e)
theorem layStrs : ∀ l : List Str, (∀ x ∈ l, PyData.strOk x = true) → PyData.canLayAll0 (l.map PyData.str) = true := fun l => by
  induction l with
  | nil => intro _; rfl
  | cons i l ih =>
    intro h
    simp [PyData.canLayAll0, PyData.canLay0, ih (fun x hx => h x (List.mem_cons_of_mem _ hx)), h i (List.mem_cons_self ..)]
theorem depStrs : ∀ l : List Str, PyData.depthAll (l.map PyData.str) = 0 := fun l => by
  induction l with
  | nil => rfl
  | cons i l ih => simp [PyData.depthAll, PyData.depth, ih]
theorem shTup {l : List Str} (h : ∀ x ∈ l, PyData.strOk x = true) : SeqAt.shaped (.tuple (l.map PyData.str)) = true := by
  simp [SeqAt.shaped, PyData.canLay0, PyData.depth, layStrs l h, depStrs]
/-- a list of tuples of texts -/
theorem shLT {ls : List (List Str)} (h : ∀ l ∈ ls, ∀ x ∈ l, PyData.strOk x = true) : SeqAt.shaped (.list (ls.map fun l => .tuple (l.map PyData.str))) = true := by
  have h1 : ∀ ls : List (List Str), (∀ l ∈ ls, ∀ x ∈ l, PyData.strOk x = true) → PyData.canLayAll0 (ls.map fun l => PyData.tuple (l.map PyData.str)) = true := fun ls => by
    induction ls with
    | nil => intro _; rfl
    | cons i l ih =>
      intro h
      simp [PyData.canLayAll0, PyData.canLay0, ih (fun x hx => h x (List.mem_cons_of_mem _ hx)), layStrs i (h i (List.mem_cons_self ..))]
  have h2 : ∀ ls : List (List Str), PyData.depthAll (ls.map fun l => PyData.tuple (l.map PyData.str)) ≤ 1 := fun ls => by
    induction ls with
    | nil => exact Nat.zero_le _
    | cons i l ih => 
      simp only [PyData.depthAll, PyData.depth, depStrs, List.map_cons]
      omega
  have := h2 ls
  have e : PyData.depthAll (ls.map fun l => PyData.tuple (l.map PyData.str)) + 1 ≤ 64 := by omega
  simp [SeqAt.shaped, PyData.canLay0, PyData.depth, h1 ls h]
  omega
theorem eqvNilT (l : List Str) : PyData.eqv (.tuple (l.map PyData.str)) (.tuple []) = l.isEmpty := by
  cases l <;> rfl
theorem lay_of {d : PyData} (h : SeqAt.shaped d = true) : d.canLay0 = true := by
  unfold SeqAt.shaped at h
  exact (Bool.and_eq_true _ _ ▸ h).1
/-! ### a def whose code object is known -/
structure FunC (K : PySem.W.Frag) (x qual : Str) (st : Stmt) (f : Addr) (fd : FuncData) (c : Addr) : Prop where
  ex : ∃ (oc : Value) (od : Option Addr) (kV doc pm : Value) (an : Option Addr) (ct : Value) (osl : Array (Option Value)),
    fd = PySem.W.fnOf x qual (defArgs st) (defBody st) (defScope st) .none kV doc pm an (.ref c) ct ∧ K.lookup f = some ⟨oc, od, .func fd, osl⟩ ∧ PySem.W.codeIn K (.ref c) qual = true
  kp : PySem.W.keepIn K (.ref f) = true
section
variable {P : Program} {w : World} {K : PySem.W.Frag} {mg : Str → Option Value} {base : Heap}
theorem FunC.ok {x qual : Str} {st : Stmt} {f c : Addr} {fd : FuncData} {N ps : List Str} {k : Nat} {sp : Sp} (F : FunC K x qual st f fd c) (S : FnScope N ps (defScope st)) (len : ∀ vs H Q E, sp vs H Q E → vs.length = ps.length)
    (hbody : ∀ (A : Around) (outer : List Env) (s : Shared) (H : Hp) (vs : List V) (Q : VK) (E : XK), Room k (A.deeper (PyProof.Rows.envOfC qual (defScope st) s.heap.objs.size f (.ref c))) → sp vs H Q E →
      ∃ t, PSs (cxOf CX0 P w K mg base N qual (defScope st) f (.ref c) A outer s H E).nox (defBody st) t ∧ t { nx := fun _ H' => Q .non H', rt := Q } (L2.start N vs) H) : FnOk P w K mg base CX0 (k + 1) f fd ps sp := by
  obtain ⟨oc, od, kV, doc, pm, an, ct, osl, rfl, lk, hcd⟩ := F.ex
  refine fn_of lk hcd S len fun A outer s H vs Q E hr hsp => ?_
  obtain ⟨t, h, q⟩ := hbody A outer s H vs Q E hr hsp
  exact ⟨t, h.nox, q⟩
end
theorem putK_new {kvs : List (Key × V)} {k : Key} {v : V} (h : k ∉ kvs.map Prod.fst) : putK kvs k v = kvs ++ [(k, v)] := by
  unfold putK
  rw [if_neg]
  intro q
  rw [List.any_eq_true] at q
  obtain ⟨p, hp, e⟩ := q
  exact h (List.mem_map.mpr ⟨p, hp, of_decide_eq_true e⟩)
theorem ext_upd {H H1 H2 : Hp} {l : Addr} {u : HO} (e1 : ExtN H H1) (n : H1 l = none) (e2 : ExtN H H2) : ExtN H (upd H2 l u) := fun b o e nt => by
  have nb : b ≠ l := fun q => by
    have z := e1 b o e nt
    rw [q, n] at z
    cases z
  rw [upd_ne nb]
  exact e2 b o e nt
theorem tabs_upd {T : List (Addr × Str)} {H : Hp} {l : Addr} {u : HO} (t : Tabs T H) (h1 : ∀ ps, H l ≠ some (.tbl ps)) (h2 : ∀ c q, H l ≠ some (LamX.CodeO c q)) : Tabs T (upd H l u) := fun p hp => by
  obtain ⟨ps, a, b, c⟩ := t p hp
  refine ⟨ps, by rw [upd_ne (fun q => h1 ps (by rw [← q]; exact a))]; exact a, b, fun pos cv hcv => ?_⟩
  obtain ⟨c0, e1, e2⟩ := c pos cv hcv
  exact ⟨c0, e1, by rw [upd_ne (fun q => h2 c0 _ (by rw [← q]; exact e2))]; exact e2⟩
theorem tabs_lst {T : List (Addr × Str)} {H : Hp} {l : Addr} {u : HO} {xs : List V} (t : Tabs T H) (h : H l = some (.lst xs)) : Tabs T (upd H l u) :=
  tabs_upd t (fun ps z => by rw [h] at z; cases z) fun c q z => by
    rw [h] at z
    unfold LamX.CodeO at z
    cases z
theorem tabs_dK {T : List (Addr × Str)} {H : Hp} {l : Addr} {u : HO} {xs : List (Key × V)} (t : Tabs T H) (h : H l = some (.dK xs)) : Tabs T (upd H l u) :=
  tabs_upd t (fun ps z => by rw [h] at z; cases z) fun c q z => by
    rw [h] at z
    unfold LamX.CodeO at z
    cases z
def mkP (p : Str × Str) : Key × V := (.inr p.1, .str p.2)
def dpP (p : Str × Str) : PyData := .tuple [.str p.1, .str p.2]
theorem dpPairs {K : PySem.W.Frag} {H : Hp} : ∀ {ps : List (Str × Str)} {ts : List Addr}, Paired (fun (t : Addr) (q : Key × V) => H t = some (.tup [kV q.1, q.2])) ts (ps.map mkP) → DpAll K H (ts.map V.ref) (ps.map dpP)
  | [], _, h => by
    cases h
    exact .nil
  | p :: ps, _, h => by
    cases h with
    | cons a t => exact .cons (.tup (SqT.of a) (.cons (.str _) (.cons (.str _) .nil))) (dpPairs t)
theorem shForm {a b : Str} {ps : List (Str × Str)} (ha : PyData.strOk a = true) (hb : PyData.strOk b = true) (h : ∀ p ∈ ps, PyData.strOk p.1 = true ∧ PyData.strOk p.2 = true) : SeqAt.shaped (.list [.str a, .str b, .tuple (ps.map dpP)]) = true := by
  have h1 : ∀ ps : List (Str × Str), (∀ p ∈ ps, PyData.strOk p.1 = true ∧ PyData.strOk p.2 = true) → PyData.canLayAll0 (ps.map dpP) = true := fun ps => by
    induction ps with
    | nil => intro _; rfl
    | cons i l ih =>
      intro h
      simp [PyData.canLayAll0, PyData.canLay0, dpP, ih (fun x hx => h x (List.mem_cons_of_mem _ hx)), h i (List.mem_cons_self ..)]
  have h2 : ∀ ps : List (Str × Str), PyData.depthAll (ps.map dpP) ≤ 1 := fun ps => by
    induction ps with
    | nil => exact Nat.zero_le _
    | cons i l ih =>
      have e : PyData.depth (dpP i) = 1 := by simp [dpP, PyData.depth, PyData.depthAll]
      rw [List.map_cons]
      simp only [PyData.depthAll, e]
      omega
  have h3 := h2 ps
  have e : PyData.depthAll (ps.map dpP) + 1 + 1 ≤ 64 := by omega
  simp [SeqAt.shaped, PyData.canLay0, PyData.canLayAll0, PyData.depth, PyData.depthAll, h1 ps h, ha, hb]
  omega
/-! ### which values are right and wrong -/
section
variable {K : PySem.W.Frag} {H : Hp}
theorem valB_str {z : Str} (h : z.length ≤ 1000) (o : PyData.strOk z = true) : ValB K H (.str z) := .inl ⟨z, rfl, h, o⟩
theorem valB_other {v : V} {a : String} (h1 : ∀ z, v ≠ .str z) (h2 : ∀ b, v = .ref b → ∃ o, H b = some o ∧ ∀ ps, o ≠ .tbl ps) (h3 : TyOf K H v (.type a)) (h4 : kitB a "str" = some false) : ValB K H v := .inr ⟨h1, h2, _, .base h3, kit_ty h4⟩
theorem valB_non : ValB K H .non := valB_other (fun _ => nofun) (fun _ => nofun) .non (by decide +kernel)
theorem valB_bl {b : Bool} : ValB K H (.bl b) := valB_other (fun _ => nofun) (fun _ => nofun) (.bl b) (by decide +kernel)
theorem valB_int {i : Int} : ValB K H (.int i) := valB_other (fun _ => nofun) (fun _ => nofun) (.int i) (by decide +kernel)
theorem valB_tup {a : Addr} {xs : List V} (e : H a = some (.tup xs)) : ValB K H (.ref a) := valB_other (fun _ => nofun) (fun b q => by cases q; exact ⟨_, e, fun _ => nofun⟩) (.tup e) (by decide +kernel)
theorem valB_lst {a : Addr} {xs : List V} (e : H a = some (.lst xs)) : ValB K H (.ref a) := valB_other (fun _ => nofun) (fun b q => by cases q; exact ⟨_, e, fun _ => nofun⟩) (.lst e) (by decide +kernel)
theorem valB_dK {a : Addr} {xs : List (Key × V)} (e : H a = some (.dK xs)) : ValB K H (.ref a) := valB_other (fun _ => nofun) (fun b q => by cases q; exact ⟨_, e, fun _ => nofun⟩) (.dK e) (by decide +kernel)
end
/-! ### a text written several times -/
def timesS (z : Str) (n : Nat) : Str := ⟨(List.replicate n z.cps).foldl (· ++ ·) #[]⟩
def rMulS : R2 := fun x y H Q => ∃ (z : Str) (n : Nat), x = .str z ∧ y = .int (n : Int) ∧ 2 ≤ n ∧ n ≤ 1000 ∧ 1 ≤ z.length ∧ z.length ≤ 100 ∧ (timesS z n).length ≤ 100000 ∧ Q (.str (timesS z n)) H
theorem op_mul_str {X : Cx} : OpR X (binaryOp .Mult) rMulS := by
  intro pins s σ H x y v u Q I rx ry h
  obtain ⟨z, n, rfl, rfl, n1, n2, z1, z2, hl, q⟩ := h
  obtain ⟨t, rfl⟩ := rx
  obtain ⟨t', rfl⟩ := ry
  have e1 : ¬ ((n : Int) < 1) := by omega
  have e2 : ¬ ((((n : Int) == 1) || (z.length == 0)) = true) := by
    rw [Bool.or_eq_true, beq_iff_eq, beq_iff_eq]
    omega
  refine PySem.P.mul_str ?_ (fun _ _ => ?_) (fun _ _ => ?_) ?_
  · rw [decide_eq_false (by omega), decide_eq_false (by omega)]
    rfl
  · have h3 : (1000 : Int) ≤ (2 ^ 63 - 1) / (n : Int) := (Int.le_ediv_iff_mul_le (by omega)).mpr (by omega)
    omega
  · have h4 : z.length * n ≤ 100 * 1000 := Nat.mul_le_mul z2 n2
    have e : ((n : Int)).toNat = n := by omega
    rw [e]
    have h5 : 100000 ≤ sizeLine := by decide
    exact decide_eq_false (by omega)
  · rw [if_neg e1, if_neg e2]
    have e : ((n : Int)).toNat = n := by omega
    rw [e]
    refine ⟨?_, ⟨.str (timesS z n), H, I.tok _, ⟨_, rfl⟩, q⟩⟩
    exact Nat.le_trans hl (by decide)
/-! ### what stands while the law draws and asks -/
def FD (m lg : Addr) (H H' : Hp) : Prop := ∀ b o, b ≠ m → b ≠ lg → H b = some o → (∀ ps, o ≠ .tbl ps) → H' b = some o
theorem FD.refl {m lg : Addr} (H : Hp) : FD m lg H H := fun _ _ _ _ e _ => e
theorem FD.trans {m lg : Addr} {H H1 H2 : Hp} (a : FD m lg H H1) (b : FD m lg H1 H2) : FD m lg H H2 := fun c o h1 h2 e n => b c o h1 h2 (a c o h1 h2 e n) n
theorem FD.ext {m lg : Addr} {H H' : Hp} (e : ExtN H H') : FD m lg H H' := fun b o _ _ q n => e b o q n
theorem FD.same {m lg : Addr} {H H' : Hp} (e : Same H H') : FD m lg H H' := fun b o _ _ q _ => e b o q
theorem FD.draw {m lg : Addr} {H H' : Hp} (e : ∀ b o, b ≠ m → b ≠ lg → H b = some o → H' b = some o) : FD m lg H H' := fun b o h1 h2 q _ => e b o h1 h2 q
theorem MA.ext {m lc lg : Addr} {n : Int} {H H' : Hp} (M : MA m lc lg n H) (e : ExtN H H') : MA m lc lg n H' := by
  obtain ⟨hm, ne, ⟨cs, hc, c1, c2⟩, ⟨gs, hg, g1⟩, n0⟩ := M
  exact ⟨e _ _ hm fun _ => nofun, ne, ⟨cs, e _ _ hc fun _ => nofun, c1, c2⟩, ⟨gs, e _ _ hg fun _ => nofun, g1⟩, n0⟩
theorem MA.same {m lc lg : Addr} {n : Int} {H H' : Hp} (M : MA m lc lg n H) (e : Same H H') : MA m lc lg n H' := M.ext (ExtN.of e)
theorem tabs_draw {T : List (Addr × Str)} {m lc lg : Addr} {n : Int} {H H' : Hp} (t : Tabs T H) (M : MA m lc lg n H) (e : ∀ b o, b ≠ m → b ≠ lg → H b = some o → H' b = some o) : Tabs T H' := fun p hp => by
  obtain ⟨hm, _, _, ⟨gs, hg, _⟩, _⟩ := M
  obtain ⟨ps, a, b, c⟩ := t p hp
  refine ⟨ps, e _ _ (ne_of a hm (by intro q; cases q)) (ne_of a hg (by intro q; cases q)) a, b, fun pos cv hcv => ?_⟩
  obtain ⟨c0, e1, e2⟩ := c pos cv hcv
  refine ⟨c0, e1, e _ _ (ne_of e2 hm ?_) (ne_of e2 hg ?_) e2⟩
  · unfold LamX.CodeO
    intro q
    cases q
  · unfold LamX.CodeO
    intro q
    cases q
def keyB (z : Str) : Bool := decide (z.length ≤ 1000) && PyData.strOk z
/-- a value that is not touched by drawing -/
structure OkV (K : PySem.W.Frag) (m lg : Addr) (H : Hp) (v : V) : Prop where
  b : ValB K H v
  m : v ≠ .ref m
  g : v ≠ .ref lg
theorem OkV.fd {K : PySem.W.Frag} {m lg : Addr} {H H' : Hp} {v : V} (h : OkV K m lg H v) (e : FD m lg H H') : OkV K m lg H' v := by
  refine ⟨?_, h.m, h.g⟩
  rcases h.b with q | ⟨h1, h2, t, h3, h4⟩
  · exact .inl q
  · have go : ∀ a o, v = .ref a → H a = some o → H' a = some o := fun a o q q2 => by
      obtain ⟨o', q3, q4⟩ := h2 a q
      rw [q2] at q3
      cases q3
      exact e a o (fun z => h.m (by rw [q, z])) (fun z => h.g (by rw [q, z])) q2 q4
    refine .inr ⟨h1, fun a q => ?_, t, TyX.keep h3 go, h4⟩
    obtain ⟨o, q2, q4⟩ := h2 a q
    exact ⟨o, go a o q q2, q4⟩
theorem okV_str {K : PySem.W.Frag} {m lg : Addr} {H : Hp} {z : Str} (h : keyB z = true) : OkV K m lg H (.str z) := by
  unfold keyB at h
  rw [Bool.and_eq_true] at h
  exact ⟨valB_str (of_decide_eq_true h.1) h.2, nofun, nofun⟩
theorem okV_of {K : PySem.W.Frag} {m lg : Addr} {H : Hp} {v : V} (h : ValB K H v) (n : ∀ a, v ≠ .ref a) : OkV K m lg H v := ⟨h, n m, n lg⟩
/-- a list of values that stands -/
structure LsV (K : PySem.W.Frag) (m lg : Addr) (H : Hp) (l : Addr) (xs : List V) : Prop where
  at_ : H l = some (.lst xs)
  nm : l ≠ m
  ng : l ≠ lg
  ok : ∀ x ∈ xs, OkV K m lg H x
theorem LsV.fd {K : PySem.W.Frag} {m lg : Addr} {H H' : Hp} {l : Addr} {xs : List V} (h : LsV K m lg H l xs) (e : FD m lg H H') : LsV K m lg H' l xs := ⟨e _ _ h.nm h.ng h.at_ fun _ => nofun, h.nm, h.ng, fun x hx => (h.ok x hx).fd e⟩
end K2

namespace K2
open PySem L2
/-! ### raising InvalidSchema and UnknownName -/
structure ErrS (P : Program) (K : PySem.W.Frag) (mg : Str → Option Value) (C : Addr) : Prop where
  ex : ∃ fI cda cc T o n, ErrC2 P K mg C fI cda cc "fault" "item" "InvalidSchema.__init__" sSchErr (.ref T) ∧ K.lookup T = some o ∧ o.data = .seq #[Value.none] n
  mgC : mg "InvalidSchema" = some (.ref C)
structure ErrU (P : Program) (K : PySem.W.Frag) (mg : Str → Option Value) (C : Addr) : Prop where
  ex : ∃ fI cda cc, ErrC P K mg C fI cda cc "word" "UnknownName.__init__" sUnkErr
  mgC : mg "UnknownName" = some (.ref C)
theorem bnd_sch1 {K : PySem.W.Frag} {T cda cc : Addr} {o : Obj} {n : Nat} {kV doc pm ct : Value} {an : Option Addr} (lT : K.lookup T = some o) (oT : o.data = .seq #[Value.none] n) :
    Binds K (PySem.W.ksFn "__init__" "InvalidSchema.__init__" (defArgs sSchErr) (defBody sSchErr) (defScope sSchErr) (.ref T) kV doc pm an (.ref cda) ct cc) ["self", "fault", "item"] [.none] := fun s us X hl =>
  match us, (show us.length = 2 by simpa using hl) with
  | [_, _], _ => BindsTo.of_defaults (T := T) rfl (X _ _ lT) oT rfl rfl
theorem bnd_sch2 {K : PySem.W.Frag} {T cda cc : Addr} {o : Obj} {n : Nat} {kV doc pm ct : Value} {an : Option Addr} (lT : K.lookup T = some o) (oT : o.data = .seq #[Value.none] n) :
    Binds K (PySem.W.ksFn "__init__" "InvalidSchema.__init__" (defArgs sSchErr) (defBody sSchErr) (defScope sSchErr) (.ref T) kV doc pm an (.ref cda) ct cc) ["self", "fault", "item"] [] := fun s us X hl =>
  match us, (show us.length = 3 by simpa using hl) with
  | [_, _, _], _ => BindsTo.of_defaults (T := T) rfl (X _ _ lT) oT rfl rfl
section
variable {X : Cx} {C : Addr}
theorem pmk_sch1 {e : Expr} {te : TE} {p pos : Pos} (T : ErrS X.prog X.K X.mg C) (hr : Room 2 X.A) (hg : Gl X "InvalidSchema") (he : PE X e te)
    (hs : starEach [e] X.env = (false, eval e X.env) :: starEach [] X.env := by rfl) : PMk X (.Call (.Name "InvalidSchema" p) [e] [] pos) (tMkO C (spErr2 C "fault" "item") [.non] (tCons te tNil)) := by
  obtain ⟨fI, cda, cc, TT, o, n, TC, lT, oT⟩ := T.ex
  obtain ⟨oc, od, kV, doc, pm, an, ct, osl, lk⟩ := TC.fn
  exact pmk_oex TC.ox TC.fi TC.ti (ok_schErrInit TC lk) hr (bnd_sch1 lT oT) (.cons rfl .nil) passL hg T.mgC (pa_cons he pa_nil (by exact hs)) (by decide) hs (by rfl)
theorem pmk_sch2 {e f : Expr} {te tf : TE} {p pos : Pos} (T : ErrS X.prog X.K X.mg C) (hr : Room 2 X.A) (hg : Gl X "InvalidSchema") (he : PE X e te) (hf : PE X f tf)
    (hs : starEach [e, f] X.env = (false, eval e X.env) :: starEach [f] X.env := by rfl) (hs2 : starEach [f] X.env = (false, eval f X.env) :: starEach [] X.env := by rfl) (hpl : (backTo pos (starEach [f] X.env)).any (·.1) = false := by rfl) :
    PMk X (.Call (.Name "InvalidSchema" p) [e, f] [] pos) (tMkO C (spErr2 C "fault" "item") [] (tCons te (tCons tf tNil))) := by
  obtain ⟨fI, cda, cc, TT, o, n, TC, lT, oT⟩ := T.ex
  obtain ⟨oc, od, kV, doc, pm, an, ct, osl, lk⟩ := TC.fn
  exact pmk_oex TC.ox TC.fi TC.ti (ok_schErrInit TC lk) hr (bnd_sch2 lT oT) .nil passL hg T.mgC (pa_cons he (pa_cons hf pa_nil (by exact hs2)) (by exact hs)) (by decide) hs hpl
theorem pmk_unk {e : Expr} {te : TE} {p pos : Pos} (T : ErrU X.prog X.K X.mg C) (hr : Room 2 X.A) (hg : Gl X "UnknownName") (he : PE X e te)
    (hs : starEach [e] X.env = (false, eval e X.env) :: starEach [] X.env := by rfl) : PMk X (.Call (.Name "UnknownName" p) [e] [] pos) (tMkO C (spErr C "word") [] (tCons te tNil)) := by
  obtain ⟨fI, cda, cc, TC⟩ := T.ex
  obtain ⟨oc, od, kV, doc, pm, an, ct, osl, lk⟩ := TC.fn
  exact pmk_oex TC.ox TC.fi TC.ti (ok_unkInit TC lk) hr (.all fun us hl => match us, hl with | [_, _], _ => rfl) .nil passL hg T.mgC (pa_cons he pa_nil (by exact hs)) (by decide) hs (by rfl)
theorem del_made {fs : List (Str × V)} {H1 : Hp} {a d : Addr} {o : HO} {u u2 : HO} (na : H1 a = none) (ne : d ≠ a) : upd (del (upd (upd (upd H1 a u) d o) a u2) a) d (.xd fs) = upd H1 d (.xd fs) := by
  funext b
  by_cases q : b = d
  · rw [q, upd_same, upd_same]
  · rw [upd_ne q, upd_ne q]
    by_cases q2 : b = a
    · rw [q2, del_same, na]
    · rw [del_ne q2, upd_ne q2, upd_ne q, upd_ne q2]
theorem sch_ans {H1 : Hp} {v z : V} {Q : XK} {ws dvs : List V} (hw : ws ++ dvs = [v, z]) (hl : ws.length ≤ 1000) (k : ∀ d, H1 d = none → Q (.ref C) (some d) (upd H1 d (.xd [("item", z), ("fault", v)]))) :
    ws.length ≤ 1000 ∧ ∀ a, H1 a = none → spErr2 C "fault" "item" (.ref a :: (ws ++ dvs)) (upd H1 a (exo a C none))
      (fun u H2 => u = .non ∧ ∃ (d : Addr) (fs : List (Str × V)), H2 a = some (exo a C (some d)) ∧ H2 d = some (exd d fs) ∧ H1 d = none ∧ Q (.ref C) (some d) (upd (del H2 a) d (.xd fs))) (fun _ _ _ => False) := by
  refine ⟨hl, fun a na => ?_⟩
  rw [hw]
  refine ⟨a, v, z, rfl, upd_same, fun dx ndx ne => ?_⟩
  rw [upd_ne ne] at ndx
  refine ⟨rfl, dx, [("item", z), ("fault", v)], upd_same, by rw [upd_ne ne, upd_same], ndx, ?_⟩
  rw [del_made na ne]
  exact k dx ndx
theorem unk_ans {H1 : Hp} {v : V} {Q : XK} (k : ∀ d, H1 d = none → Q (.ref C) (some d) (upd H1 d (.xd [("word", v)]))) :
    ([v] : List V).length ≤ 1000 ∧ ∀ a, H1 a = none → spErr C "word" (.ref a :: ([v] ++ [])) (upd H1 a (exo a C none))
      (fun u H2 => u = .non ∧ ∃ (d : Addr) (fs : List (Str × V)), H2 a = some (exo a C (some d)) ∧ H2 d = some (exd d fs) ∧ H1 d = none ∧ Q (.ref C) (some d) (upd (del H2 a) d (.xd fs))) (fun _ _ _ => False) := by
  refine ⟨by show 1 ≤ 1000; decide, fun a na => ⟨a, v, rfl, upd_same, fun dx ndx ne => ?_⟩⟩
  rw [upd_ne ne] at ndx
  refine ⟨rfl, dx, [("word", v)], upd_same, by rw [upd_ne ne, upd_same], ndx, ?_⟩
  rw [del_made na ne]
  exact k dx ndx
end
end K2

namespace K2
open PySem L2 E0
/-! ### rows of forms -/
/-- what stands in a row: a form with its name, sort and slots, or another value -/
inductive Itm where
  | form (n s : Str) (ps : List (Str × Str))
  | odd
def ItmAt (K : PySem.W.Frag) (CF : Addr) (H : Hp) (v : V) : Itm → Prop
  | .form n s ps => ∃ x, v = .ref x ∧ FormAt CF H x (.str n) (.str s) (ps.map mkP)
  | .odd => (∀ a, v = .ref a → ∃ o, H a = some o ∧ ∀ ps, o ≠ .tbl ps) ∧ ∃ t, TyX K H v t ∧ PySem.W.kitOne K t (.ref CF) = some false
theorem ItmAt.keep {K : PySem.W.Frag} {CF : Addr} {H H' : Hp} {v : V} : ∀ {i : Itm}, ItmAt K CF H v i → Same H H' → ItmAt K CF H' v i
  | .form _ _ _, ⟨x, e, f⟩, s => ⟨x, e, f.same s⟩
  | .odd, ⟨h1, t, h2, h3⟩, s => ⟨fun a e => let ⟨o, q, n⟩ := h1 a e; ⟨o, s _ _ q, n⟩, t, TyX.keep h2 fun a o _ e => s a o e, h3⟩
theorem items_keep {K : PySem.W.Frag} {CF : Addr} {H H' : Hp} {xs : List V} {its : List Itm} (p : Paired (ItmAt K CF H) xs its) (s : Same H H') : Paired (ItmAt K CF H') xs its := Paired.mapP p fun _ _ h => h.keep s
structure FormCls (K : PySem.W.Frag) (CF : Addr) : Prop where
  cl : Cls K CF
  ha : PySem.W.findIn K (.ref CF) "__class__" = some (some (.builtin "object.__class__"))
  hn : PySem.W.specialIn K (.builtin "object.__class__") "__get__" = some (some (.builtin "getset_descriptor.__get__"))
  htk : PySem.W.takesIn K (.builtin "object.__class__") = some true
  hm : PySem.W.mroIn K CF (.type "object") = some true
theorem kit_self {K : PySem.W.Frag} {C : Addr} : PySem.W.kitOne K (.ref C) (.ref C) = some true := by
  unfold PySem.W.kitOne
  rw [if_pos (by simp)]
theorem FormCls.ty {K : PySem.W.Frag} {CF x dx : Addr} {H : Hp} {fs : List (Str × V)} (T : FormCls K CF) (h : H x = some (.ins CF dx fs)) : TyX K H (.ref x) (.ref CF) := .base (.ins h T.cl T.ha T.hn T.htk T.hm)
def rawB (z : Str) : Bool := Txt.startswith z "raw_"
def formFault : Nat → List Str → List Itm → Option (V × V)
  | _, _, [] => none
  | n, _, .odd :: _ => some (.str "form", .int (n : Int))
  | n, seen, .form nm _ _ :: r => if (rawB nm || decide (nm ∈ seen)) = true then some (.str "name", .str nm) else formFault (n + 1) (seen ++ [nm]) r
def checkForms (its : List Itm) : Option (V × V) := match formFault 0 [] its with
  | some f => some f
  | none => if (decide (1 ≤ its.length) && decide (its.length ≤ 20)) = true then none else some (.str "size", .non)
def seenD (seen : List Str) : List (Key × V) := seen.map fun z => (.inr z, .bl true)
theorem seen_in (z : Str) : ∀ seen : List Str, (valV (seenD seen) (.inr z)).isSome = decide (z ∈ seen)
  | [] => rfl
  | y :: l => by
    by_cases e : y = z
    · subst e
      have : valV (seenD (y :: l)) (.inr y) = some (.bl true) := valV_pos rfl
      rw [this]
      simp
    · have : valV (seenD (y :: l)) (.inr z) = valV (seenD l) (.inr z) := valV_neg (fun q => e (Sum.inr.inj q))
      rw [this, seen_in z l]
      simp [Ne.symm e]
theorem seen_put {seen : List Str} {z : Str} (h : z ∉ seen) : putK (seenD seen) (.inr z) (.bl true) = seenD (seen ++ [z]) := by
  rw [putK_new]
  · unfold seenD
    rw [List.map_append]
    rfl
  · intro q
    unfold seenD at q
    rw [List.map_map] at q
    obtain ⟨y, hy, e⟩ := List.mem_map.mp q
    have e' : y = z := Sum.inr.inj e
    rw [← e'] at h
    exact h hy
structure TxtS (P : Program) (K : PySem.W.Frag) (mg : Str → Option Value) (CS CF CSc : Addr) : Prop where
  er : ErrS P K mg CS
  F : FormCls K CF
  nN : NoAttr K CF "name"
  nK : NoAttr K CF "kin"
  nS : NoAttr K CF "slots"
  gF : mg "Form" = some (.ref CF)
  gS : mg "Schema" = some (.ref CSc)
  isi : mg "isinstance" = none
  len : mg "len" = none
  enu : mg "enumerate" = none
  tup : mg "tuple" = none
  raw : ∃ t, mg "RAW" = some (.str "raw_" t)
  txt : ∃ t, mg "TEXT" = some (.str "text" t)
  mxs : ∃ t, mg "MAX_SORT" = some (.int 16 t)
  mxf : ∃ mc t, ClX.CRead K CSc mc ∧ ClX.CVal K CSc mc "MAX_FORMS" (.int 20) (.int 20 t)
theorem sqt_ext {K : PySem.W.Frag} {H H' : Hp} {a : Addr} {xs : List V} (e : ∀ b o, H b = some o → (∀ ps, o ≠ .tbl ps) → H' b = some o) (h : SqT K H a xs) : SqT K H' a xs := by
  rcases h with h | h
  · refine .inl ?_
    rcases h with h | ⟨o, h⟩
    · exact .inl (e _ _ h fun ps q => by cases q)
    · exact .inr ⟨o, e _ _ h fun ps q => by cases q⟩
  · exact .inr h
theorem sqt_same {K : PySem.W.Frag} {H H' : Hp} {a : Addr} {xs : List V} (e : Same H H') (h : SqT K H a xs) : SqT K H' a xs := sqt_ext (fun b o q _ => e b o q) h
section
variable {P : Program} {w : World} {K : PySem.W.Frag} {mg : Str → Option Value} {base : Heap}
/-- what InvalidSchema tells -/
def SchE (CS : Addr) (E : XK) (H : Hp) (f : V × V) : Prop := ∀ H' dd, Same H H' → H dd = none → H' dd = some (.xd [("item", f.2), ("fault", f.1)]) → E (.ref CS) (some dd) H'
def spCheckF (K : PySem.W.Frag) (CS CF : Addr) : Sp := fun vs H Q E => ∃ (a : Addr) (xs : List V) (its : List Itm), vs = [.ref a] ∧ SqT K H a xs ∧ Paired (ItmAt K CF H) xs its ∧ its.length ≤ 1000 ∧
  (match checkForms its with
   | some f => SchE CS E H f
   | none => ∀ H', Same H H' → Q .non H')
theorem scCheckF : FnScope ["forms", "names", "spot", "form"] ["forms"] (defScope sCheckForms) := ⟨rfl, rfl, rfl, by decide +kernel, rfl, by decide +kernel, by decide +kernel⟩
theorem ok_checkF {f CS CF CSc : Addr} {fd : FuncData} (F : Fun K "_check_forms" "_check_forms" sCheckForms f fd) (T : TxtS P K mg CS CF CSc) : FnOk P w K mg base (L2.CX P w) 4 f fd ["forms"] (spCheckF K CS CF) := by
  refine F.okX scCheckF (fun vs H Q E h => ?_) (fun cdv A outer s H vs Q E hr h => ?_)
  · obtain ⟨a, xs, its, rfl, _⟩ := h
    rfl
  · obtain ⟨a, xs, its, rfl, hS, hp, hl, k⟩ := h
    have hU := hu_of hr
    have hr2 : Room 2 _ := hr.mono (by decide)
    obtain ⟨tr, raw⟩ := T.raw
    obtain ⟨mc, mt, cr, cv⟩ := T.mxf
    have tkE : Takes (cxOf (L2.CX P w) P w K mg base ["forms", "names", "spot", "form"] "_check_forms" (defScope sCheckForms) f cdv A outer s H E) (fun cls dd _ H => E cls dd H) := takes_of rfl rfl rfl rfl
    refine ⟨_, pss_cons (ps_set (i := 1) scCheckF.nd rfl (Or.inl rfl) pe_dnewK)
      (pss_cons (ps_for (passes_of rfl) rfl (pi_enumT rfl T.enu (pa_cons (pv 0) pa_nil)) (pg_tup (by rfl) (pgs_cons (pg_name (i := 2) scCheckF.nd rfl (.inl rfl)) (pgs_cons (pg_name (i := 3) scCheckF.nd rfl (.inl rfl)) pgs_nil)))
        (pss_cons (ps_if (pt_not (pt_val (pe_callB call_isi (by rfl) T.isi PyProof.Rows.boot_isinstance (pa_cons (pv 3) (pa_cons (pe_glob (v := .ref CF) rfl T.gF rfl) pa_nil))))) (pss_one (ps_raise rfl tkE (pmk_sch2 T.er hr2 rfl pe_str (pv 2)))) pss_nil)
        (pss_cons (ps_if (PW.pt (pw_or (pt_val (pe_bm PySem.F.plainAttrs_str PySem.F.slot_str_startswith PySem.F.type_str_startswith mt_startswith (pe_fld (pv 3) rfl) (pa_cons (pe_glob (v := .str "raw_") rfl raw ⟨_, rfl⟩) pa_nil))) (pw_or1 (pt_cmp (pc_din hU (pe_fld (pv 3) rfl) (pv 1))))))
            (pss_one (ps_raise rfl tkE (pmk_sch2 T.er hr2 rfl pe_str (pe_fld (pv 3) rfl)))) pss_nil)
        (pss_one (ps_dput hU (pv 1) (pe_fld (pv 3) rfl) pe_bl rfl)))))
      (pss_one (ps_if (pt_not (pt_chain op_le op_le pe_int (pe_callB call_len_seq (by rfl) T.len PySem.boot_len (pa_cons (pv 0) pa_nil)) (ClX.pe_cval (pe_glob (v := .ref CSc) rfl T.gS rfl)))) (pss_one (ps_raise rfl tkE (pmk_sch1 T.er hr2 rfl pe_str))) pss_nil))), ?_⟩
    intro d hd
    have s1 : Same H (upd H d (.dK [])) := same_upd (Same.refl H) hd
    have hd1 : (upd H d (.dK [])) d = some (.dK (seenD [])) := upd_same
    have hpl : xs.length = its.length := hp.length
    have bad : ∀ (w i : V) (H1 : Hp), checkForms its = some (w, i) → Same H H1 → ∀ dd, H1 dd = none → E (.ref CS) (some dd) (upd H1 dd (.xd [("item", i), ("fault", w)])) := fun w i H1 e s1 dd hdd => by
      rw [e] at k
      exact k _ dd (same_upd s1 (s1.free hdd)) (s1.free hdd) upd_same
    refine ⟨_, rfl, a, xs, rfl, sqt_same s1 hS, for_it walk_enumT (fun i σ H' => ∃ (v2 v3 : Option V) (seen : List Str), σ = [some (.ref a), some (.ref d), v2, v3] ∧ Same H H' ∧ H' d = some (.dK (seenD seen)) ∧ seen.length = i ∧ formFault 0 [] its = formFault i seen (its.drop i))
      ⟨_, _, [], rfl, s1, hd1, rfl, rfl⟩ (fun i σ H' _ ⟨_, _, _, _, s', _⟩ => sqt_same s' hS) ?_ ?_⟩
    · rintro i x σ H1 H2 hi ⟨v2, v3, seen, rfl, s', hdd, sl, ff⟩ ⟨Tp, y, z, rfl, hT, rfl, ey, ez⟩
      have ey : some (V.int (i : Nat)) = some y := ey
      cases ey
      have ez : xs[i]? = some z := ez
      obtain ⟨it, eit, hit⟩ := LiI.paired_get hp ez
      have hil : i < its.length := (List.getElem?_eq_some_iff.mp eit).1
      have hdrop : its.drop i = it :: its.drop (i + 1) := by
        rw [List.drop_eq_getElem_cons hil]
        have := List.getElem?_eq_getElem hil
        rw [this] at eit
        rw [Option.some.inj eit]
      have s2 : Same H (upd H1 Tp (.tup [.int (i : Nat), z])) := same_upd s' (s'.free hT)
      have hd2 : (upd H1 Tp (.tup [.int (i : Nat), z])) d = some (.dK (seenD seen)) := by rw [upd_ne (ne_of_none hdd hT)]; exact hdd
      have hit2 := hit.keep s2
      refine ⟨Tp, _, rfl, .inl (.inl upd_same), rfl, _, _, rfl, ?_⟩
      refine ⟨_, _, rfl, rfl, ?_⟩
      generalize upd H1 Tp (.tup [.int (i : Nat), z]) = H2 at s2 hd2 hit2
      cases it with
      | odd =>
        obtain ⟨_, t, ht, hk⟩ := hit2
        refine ⟨_, rfl, _, _, _, _, false, rfl, .own CF, ht, hk, _, rfl, ?_⟩
        refine iteT ?_
        refine ⟨_, rfl, ?_⟩
        refine sch_ans (C := CS) (v := .str "form") (z := .int (i : Nat)) (ws := [.str "form", .int (i : Nat)]) (dvs := []) rfl (by show 2 ≤ 1000; decide) (bad _ _ H2 ?_ s2)
        unfold checkForms
        rw [ff, hdrop]
        rfl
      | form nm st ps =>
        obtain ⟨x, rfl, dx, p, fs, hx, ln, lk, ls, st2⟩ := hit2
        refine ⟨_, rfl, _, _, _, _, true, rfl, .own CF, T.F.ty hx, kit_self, _, rfl, ?_⟩
        refine iteF ?_
        refine ⟨_, rfl, x, CF, dx, fs, _, rfl, hx, T.F.cl, T.nN, ln, rfl, nm, "raw_", rfl, rfl, _, rfl, ?_⟩
        have ff1 : (rawB nm || decide (nm ∈ seen)) = true → checkForms its = some (.str "name", .str nm) := fun e => by
          unfold checkForms
          rw [ff, hdrop]
          show (match (if (rawB nm || decide (nm ∈ seen)) = true then some (V.str "name", V.str nm) else formFault (i + 1) (seen ++ [nm]) (its.drop (i + 1))) with | some f => some f | none => _) = _
          rw [if_pos e]
        have raise_ : (rawB nm || decide (nm ∈ seen)) = true → ∀ dd, H2 dd = none → E (.ref CS) (some dd) (upd H2 dd (.xd [("item", .str nm), ("fault", .str "name")])) := fun e => bad _ _ H2 (ff1 e) s2
        cases er : Txt.startswith nm "raw_" with
        | true =>
          refine iteT (iteT ?_)
          refine ⟨_, rfl, x, CF, dx, fs, _, rfl, hx, T.F.cl, T.nN, ln, ?_⟩
          exact sch_ans (C := CS) (v := .str "name") (z := .str nm) (ws := [.str "name", .str nm]) (dvs := []) rfl (by show 2 ≤ 1000; decide) (raise_ (by unfold rawB; rw [er]; rfl))
        | false =>
          refine iteF ?_
          refine ⟨_, rfl, x, CF, dx, fs, _, rfl, hx, T.F.cl, T.nN, ln, _, rfl, d, _, rfl, DGet.k (k := .inr nm) hd2, _, rfl, ?_⟩
          rw [seen_in nm seen]
          cases em : decide (nm ∈ seen) with
          | true =>
            refine iteT ?_
            refine ⟨_, rfl, x, CF, dx, fs, _, rfl, hx, T.F.cl, T.nN, ln, ?_⟩
            exact sch_ans (C := CS) (v := .str "name") (z := .str nm) (ws := [.str "name", .str nm]) (dvs := []) rfl (by show 2 ≤ 1000; decide) (raise_ (by rw [em]; exact Bool.or_true _))
          | false =>
            refine iteF ?_
            have hsl : (seenD seen).length < sizeLine := by
              unfold seenD
              rw [List.length_map, sl]
              exact Nat.lt_trans hil (Nat.lt_of_le_of_lt hl (by decide))
            refine ⟨_, rfl, _, rfl, x, CF, dx, fs, _, rfl, hx, T.F.cl, T.nN, ln, d, _, rfl, DPut.k (k := .inr nm) hd2 hsl, ?_⟩
            have hns : nm ∉ seen := of_decide_eq_false em
            refine ⟨_, _, seen ++ [nm], rfl, fun b o e => ?_, by rw [upd_same, seen_put hns], by rw [List.length_append, sl]; rfl, ?_⟩
            · rw [upd_ne (ne_of_none e hd)]
              exact s2 b o e
            · rw [ff, hdrop]
              show (if (rawB nm || decide (nm ∈ seen)) = true then some (V.str "name", V.str nm) else formFault (i + 1) (seen ++ [nm]) (its.drop (i + 1))) = _
              rw [if_neg]
              unfold rawB
              rw [er, em]
              decide
    · rintro σ H1 ⟨v2, v3, seen, rfl, s', hdd, sl, ff⟩
      have ff0 : formFault 0 [] its = none := by
        rw [ff, hpl, List.drop_length]
        rfl
      have ck : checkForms its = if (decide (1 ≤ its.length) && decide (its.length ≤ 20)) = true then none else some (.str "size", .non) := by
        unfold checkForms
        rw [ff0]
      refine ⟨_, rfl, a, xs, rfl, .inr (sqt_same s' hS), _, _, rfl, rfl, _, rfl, ?_⟩
      have size_ : ¬ (1 ≤ its.length ∧ its.length ≤ 20) → ∀ dd, H1 dd = none → E (.ref CS) (some dd) (upd H1 dd (.xd [("item", .non), ("fault", .str "size")])) := fun hn => bad _ _ H1 (by
        rw [ck, if_neg]
        intro q
        rw [Bool.and_eq_true, decide_eq_true_eq, decide_eq_true_eq] at q
        exact hn q) s'
      refine ite2 (fun h1 => ?_) (fun h1 => ?_)
      · have h1' : 1 ≤ its.length := by
          have := of_decide_eq_true h1
          omega
        refine ⟨CSc, mc, .int 20, _, rfl, cr, cv, _, _, rfl, rfl, _, rfl, ?_⟩
        by_cases h2 : ((xs.length : Nat) : Int) ≤ 20
        · rw [decide_eq_true h2]
          refine iteF ?_
          have h2' : its.length ≤ 20 := by omega
          rw [ck, if_pos (by rw [decide_eq_true h1', decide_eq_true h2']; rfl)] at k
          exact k H1 s'
        · rw [decide_eq_false h2]
          refine iteT ?_
          exact sch_ans (C := CS) (v := .str "size") (z := .non) (ws := [.str "size"]) (dvs := [.non]) rfl (by show 1 ≤ 1000; decide) (size_ (fun q => h2 (by omega)))
      · refine ⟨_, rfl, ?_⟩
        refine iteT ?_
        exact sch_ans (C := CS) (v := .str "size") (z := .non) (ws := [.str "size"]) (dvs := [.non]) rfl (by show 1 ≤ 1000; decide) (size_ (fun q => h1 (decide_eq_true (by omega))))
end
end K2

namespace K2
open PySem L2 E0
/-! ### the sorts of a row of forms -/
def takenOf (ps : List (Str × Str)) : List Str := (ps.filter fun p => !decide (p.2 = ("text" : Str))).map fun p => stk p.2
def itmSorts : Itm → List Str
  | .form _ s ps => s :: takenOf ps
  | .odd => []
def addS (acc : List Str) (z : Str) : List Str := if z ∈ acc then acc else acc ++ [z]
def sortsOf (its : List Itm) : List Str := (its.flatMap itmSorts).foldl addS []
def kinOf : Itm → Str
  | .form _ s _ => s
  | .odd => ""
def nmOf : Itm → Str
  | .form n _ _ => n
  | .odd => ""
def isForm : Itm → Bool
  | .form .. => true
  | .odd => false
/-- what a form that was made is like -/
def itmOk : Itm → Prop
  | .form n s ps => nameS n = true ∧ sortS s = true ∧ (∀ p ∈ ps, nameS p.1 = true ∧ takenS p.2 = true) ∧ ps.length ≤ 10
  | .odd => True
theorem eqv_str (a b : Str) : eqV (.str a) (.str b) = decide (a = b) := by
  show (a == b) = decide (a = b)
  by_cases h : a = b
  · subst h; simp
  · rw [decide_eq_false h]; exact beq_eq_false_iff_ne.mpr h
theorem inV_str (z : Str) : ∀ l : List Str, inV (.str z) (l.map V.str) = decide (z ∈ l)
  | [] => by simp [inV]
  | a :: l => by
    have ih := inV_str z l
    unfold inV at ih ⊢
    rw [List.map_cons, List.any_cons, ih, eqv_str]
    by_cases h : a = z
    · subst h; simp
    · simp [h, Ne.symm h]
theorem flat_strs (l : List Str) : (l.map V.str).all flatV = true := by
  rw [List.all_eq_true]
  intro x hx
  obtain ⟨z, _, rfl⟩ := List.mem_map.mp hx
  rfl
theorem nameS_len {z : Str} (h : nameS z = true) : z.length ≤ 20 := by
  unfold nameS at h
  simp only [Bool.and_eq_true, decide_eq_true_eq] at h
  exact h.1.1.2
theorem sig_lt : ∀ c ∈ SIG.cps.toList, c < 0x110000 := by decide +kernel
theorem nameS_ok {z : Str} (h : nameS z = true) : PyData.strOk z = true := by
  unfold nameS at h
  simp only [Bool.and_eq_true, decide_eq_true_eq] at h
  rw [ok_iff]
  intro c hc
  have q := List.all_eq_true.mp h.2 c hc
  exact sig_lt c (of_decide_eq_true q)
theorem sortS_name {z : Str} (h : sortS z = true) : nameS z = true := by
  unfold sortS at h
  exact (Bool.and_eq_true _ _ ▸ h).1
theorem sortS_ne {z : Str} (h : sortS z = true) : z ≠ "text" := by
  unfold sortS at h
  have q := (Bool.and_eq_true _ _ ▸ h).2
  intro e
  rw [e] at q
  exact absurd q (by decide +kernel)
theorem taken_or {z : Str} (h : takenS z = true) : z = "text" ∨ sortS (stk z) = true := by
  unfold takenS at h
  rcases Bool.or_eq_true _ _ ▸ h with q | q
  · exact .inl (of_decide_eq_true q)
  · exact .inr q
theorem stk_len2 (z : Str) : z.length ≤ (stk z).length + 1 := by
  unfold stk
  split
  · rename_i he
    have e := ends_iff z he
    rw [len_toList z, e, List.length_append, ← len_toList]
    exact Nat.le_refl _
  · exact Nat.le_succ _
theorem taken_len {z : Str} (h : takenS z = true) : z.length ≤ 21 := by
  rcases taken_or h with e | e
  · rw [e]; decide +kernel
  · have := nameS_len (sortS_name e)
    have := stk_len2 z
    omega
theorem stk_inv {z : Str} (h : PyData.strOk (stk z) = true) : PyData.strOk z = true := by
  unfold stk at h
  split at h
  · rename_i he
    rw [ok_iff] at h ⊢
    intro c hc
    rw [ends_iff z he] at hc
    rcases List.mem_append.mp hc with q | q
    · exact h c q
    · rw [List.mem_singleton.mp q]
      decide
  · exact h
theorem taken_ok {z : Str} (h : takenS z = true) : PyData.strOk z = true := by
  rcases taken_or h with e | e
  · rw [e]; decide +kernel
  · exact stk_inv (nameS_ok (sortS_name e))
theorem mem_taken {ps : List (Str × Str)} {z : Str} (h : z ∈ takenOf ps) : ∃ p ∈ ps, p.2 ≠ ("text" : Str) ∧ z = stk p.2 := by
  unfold takenOf at h
  obtain ⟨p, hp, e⟩ := List.mem_map.mp h
  obtain ⟨h1, h2⟩ := List.mem_filter.mp hp
  refine ⟨p, h1, fun q => ?_, e.symm⟩
  rw [q] at h2
  exact absurd h2 (by decide +kernel)
theorem itmSorts_ok {i : Itm} (h : itmOk i) : ∀ z ∈ itmSorts i, sortS z = true := fun z hz => by
  cases i with
  | odd => cases hz
  | form n s ps =>
    obtain ⟨h1, h2, h3, _⟩ := h
    rcases List.mem_cons.mp hz with e | hz
    · rw [e]; exact h2
    · obtain ⟨p, hp, ne, e⟩ := mem_taken hz
      rcases taken_or (h3 p hp).2 with q | q
      · exact absurd q ne
      · rw [e]; exact q
theorem addS_mem {z : Str} : ∀ {l acc : List Str}, z ∈ l.foldl addS acc ↔ z ∈ acc ∨ z ∈ l
  | [], acc => by simp
  | a :: l, acc => by
    rw [List.foldl_cons, addS_mem (l := l)]
    unfold addS
    by_cases h : a ∈ acc
    · rw [if_pos h]
      constructor
      · rintro (q | q)
        · exact .inl q
        · exact .inr (List.mem_cons_of_mem _ q)
      · rintro (q | q)
        · exact .inl q
        · rcases List.mem_cons.mp q with e | q
          · rw [e]; exact .inl h
          · exact .inr q
    · rw [if_neg h]
      constructor
      · rintro (q | q)
        · rcases List.mem_append.mp q with q | q
          · exact .inl q
          · rw [List.mem_singleton.mp q]; exact .inr (List.mem_cons_self ..)
        · exact .inr (List.mem_cons_of_mem _ q)
      · rintro (q | q)
        · exact .inl (List.mem_append_left _ q)
        · rcases List.mem_cons.mp q with e | q
          · rw [e]; exact .inl (List.mem_append_right _ (List.mem_cons_self ..))
          · exact .inr q
theorem addS_nodup : ∀ {l acc : List Str}, acc.Nodup → (l.foldl addS acc).Nodup
  | [], _, h => h
  | a :: l, acc, h => by
    rw [List.foldl_cons]
    refine addS_nodup ?_
    unfold addS
    split
    · exact h
    · rename_i q
      rw [List.nodup_append]
      exact ⟨h, by simp, fun x hx y hy e => by rw [List.mem_singleton.mp hy] at e; exact q (e ▸ hx)⟩
theorem addS_len : ∀ {l acc : List Str}, (l.foldl addS acc).length ≤ acc.length + l.length
  | [], acc => Nat.le_refl _
  | a :: l, acc => by
    rw [List.foldl_cons]
    have := addS_len (l := l) (acc := addS acc a)
    have h : (addS acc a).length ≤ acc.length + 1 := by
      unfold addS
      split
      · omega
      · rw [List.length_append]; exact Nat.le_refl _
    rw [List.length_cons]
    omega
theorem sortsOf_nodup (its : List Itm) : (sortsOf its).Nodup := addS_nodup List.nodup_nil
theorem sortsOf_mem {its : List Itm} {z : Str} : z ∈ sortsOf its ↔ ∃ i ∈ its, z ∈ itmSorts i := by
  unfold sortsOf
  rw [addS_mem]
  simp
theorem sortsOf_ok {its : List Itm} (h : ∀ i ∈ its, itmOk i) : ∀ z ∈ sortsOf its, sortS z = true := fun z hz => by
  obtain ⟨i, hi, hz⟩ := sortsOf_mem.mp hz
  exact itmSorts_ok (h i hi) z hz
theorem taken_length (ps : List (Str × Str)) : (takenOf ps).length ≤ ps.length := by
  unfold takenOf
  rw [List.length_map]
  exact List.length_filter_le _ _
theorem flat_len {its : List Itm} (h : ∀ i ∈ its, itmOk i) : (its.flatMap itmSorts).length ≤ 11 * its.length := by
  induction its with
  | nil => exact Nat.le_refl _
  | cons i l ih =>
    rw [List.flatMap_cons, List.length_append, List.length_cons]
    have h1 := ih fun j hj => h j (List.mem_cons_of_mem _ hj)
    have h2 : (itmSorts i).length ≤ 11 := by
      cases i with
      | odd => exact Nat.zero_le _
      | form n s ps =>
        obtain ⟨_, _, _, q⟩ := h _ (List.mem_cons_self ..)
        have := taken_length ps
        show (takenOf ps).length + 1 ≤ 11
        omega
    omega
theorem sortsOf_len {its : List Itm} (h : ∀ i ∈ its, itmOk i) : (sortsOf its).length ≤ 11 * its.length := by
  have h1 := addS_len (l := its.flatMap itmSorts) (acc := [])
  have h2 := flat_len h
  unfold sortsOf
  simp only [List.length_nil] at h1
  omega
def badSort (known ss : List Str) : Option Str := ss.find? fun z => !decide (z ∈ known) || decide (16 < z.length)
section
variable {P : Program} {w : World} {K : PySem.W.Frag} {mg : Str → Option Value} {base : Heap}
def spCheckS (K : PySem.W.Frag) (CS CF : Addr) : Sp := fun vs H Q E => ∃ (a b : Addr) (xs : List V) (its : List Itm) (ss : List Str), vs = [.ref a, .ref b] ∧ SqT K H a xs ∧ Paired (ItmAt K CF H) xs its ∧ (∀ i ∈ its, isForm i = true) ∧ its.length ≤ 1000 ∧
  SqT K H b (ss.map V.str) ∧ (∀ z ∈ ss, z.length ≤ 1000) ∧
  (match badSort (its.map kinOf) ss with
   | some z => SchE CS E H (.str "sort", .str z)
   | none => ∀ H', Same H H' → Q .non H')
def NCS : List Str := ["forms", "sorts", "known", "sort", "form"]
theorem scCheckS : FnScope NCS ["forms", "sorts"] (defScope sCheckSorts) := ⟨rfl, rfl, rfl, by decide +kernel, rfl, by decide +kernel, by decide +kernel⟩
theorem ok_checkS {f CS CF CSc : Addr} {fd : FuncData} (F : Fun K "_check_sorts" "_check_sorts" sCheckSorts f fd) (T : TxtS P K mg CS CF CSc) : FnOk P w K mg base (L2.CX P w) 4 f fd ["forms", "sorts"] (spCheckS K CS CF) := by
  refine F.okX scCheckS (fun vs H Q E h => ?_) (fun cdv A outer s H vs Q E hr h => ?_)
  · obtain ⟨a, b, xs, its, ss, rfl, _⟩ := h
    rfl
  · obtain ⟨a, b, xs, its, ss, rfl, hS, hp, hf, hl, hT, hz, k⟩ := h
    have hr2 : Room 2 _ := hr.mono (by decide)
    obtain ⟨tm, mxs⟩ := T.mxs
    have tkE : Takes (cxOf (L2.CX P w) P w K mg base NCS "_check_sorts" (defScope sCheckSorts) f cdv A outer s H E) (fun cls dd _ H => E cls dd H) := takes_of rfl rfl rfl rfl
    refine ⟨_, pss_cons (ps_setLc (i := 2) (own := [("form", 4)]) (g := gName 4) (tt := tYes) (te := tFld K (tVar 4) "kin") rfl scCheckS.nd rfl rfl (sw_true rfl rfl rfl (by decide +kernel)) (pi_tup (pv 0))
          (blkOk_by (N := NCS) (sc := defScope sCheckSorts) (by decide +kernel)) (fun _ _ _ _ _ => pg_name (i := 4) scCheckS.nd rfl (Or.inl rfl)) (fun _ _ _ _ _ => pts_nil) (fun _ _ _ _ _ => pe_fld (pv 4) rfl))
      (pss_one (ps_for (passes_of rfl) rfl (pi_tup (pv 1)) (pg_name (i := 3) scCheckS.nd rfl (Or.inl rfl))
        (pss_one (ps_if (PW.pt (pw_or (pt_cmpR op_notIn_seq (pv 3) (pv 2) (by rfl)) (pw_or1 (pt_cmpR op_gt (pe_callB call_len_str (by rfl) T.len PySem.boot_len (pa_cons (pv 3) pa_nil)) (pe_glob (v := .int 16) rfl mxs ⟨_, rfl⟩) (nomark _)))))
          (pss_one (ps_raise rfl tkE (pmk_sch2 T.er hr2 rfl pe_str (pv 3)))) pss_nil)))), ?_⟩
    have hpl : xs.length = its.length := hp.length
    refine ⟨_, rfl, a, rfl, ⟨_, hS⟩, fun D hD => lc_tup (K := K) (a := a) (xs := xs) (fun i H' => Same H H' ∧ H' D = some (.lst ((its.take i).map fun j => V.str (kinOf j)))) ⟨same_upd (Same.refl H) hD, upd_same⟩ (fun i H' _ ⟨s', _⟩ => sqt_same s' hS) ?_ ?_⟩
    · rintro i x H' hx ⟨s', hD'⟩
      obtain ⟨it, eit, hit⟩ := LiI.paired_get hp hx
      have hil : i < its.length := (List.getElem?_eq_some_iff.mp eit).1
      have hit' := hit.keep s'
      refine ⟨rfl, ?_⟩
      dsimp only [tYes]
      rw [if_pos rfl]
      cases it with
      | odd => exact absurd (hf _ (List.mem_of_getElem? eit)) (by decide)
      | form nm st ps =>
        obtain ⟨y, rfl, dx, p, fs, hx', ln, lk, ls, st2⟩ := hit'
        refine ⟨_, rfl, y, CF, dx, fs, _, rfl, hx', T.F.cl, T.nK, lk, _, hD', ?_, same_upd s' hD, ?_⟩
        · rw [List.length_map]
          exact Nat.lt_of_le_of_lt (List.length_take_le _ _) (Nat.lt_of_lt_of_le hil (Nat.le_trans hl (by decide)))
        · rw [upd_same, List.take_add_one, eit, List.map_append]
          rfl
    · rintro H1 ⟨s1, hD1⟩
      rw [hpl, List.take_length] at hD1
      have eD : (its.map fun j => V.str (kinOf j)) = (its.map kinOf).map V.str := by rw [List.map_map]; rfl
      rw [eD] at hD1
      generalize its.map kinOf = known at hD1 k
      refine ⟨_, rfl, b, rfl, ⟨_, sqt_same s1 hT⟩, for_tup (K := K) (a := b) (xs := ss.map V.str) (fun i σ H' => ∃ v3 v4 : Option V, σ = [some (.ref a), some (.ref b), some (.ref D), v3, v4] ∧ H' = H1 ∧ ∀ j y, j < i → ss[j]? = some y → (!decide (y ∈ known) || decide (16 < y.length)) = false) ⟨_, _, rfl, rfl, fun j y hj => by omega⟩ (fun i σ H' _ ⟨_, _, _, e, _⟩ => by rw [e]; exact sqt_same s1 hT) ?_ ?_⟩
      · rintro i x σ H' hx ⟨v3, v4, rfl, rfl, pre⟩
        obtain ⟨z, ez, rfl⟩ : ∃ z, ss[i]? = some z ∧ x = V.str z := by
          rw [List.getElem?_map] at hx
          cases q : ss[i]? with
          | none => rw [q] at hx; cases hx
          | some r => rw [q] at hx; exact ⟨r, rfl, (Option.some.inj hx).symm⟩
        have zm : z ∈ ss := List.mem_of_getElem? ez
        have raise_ : (!decide (z ∈ known) || decide (16 < z.length)) = true → ∀ dd, H' dd = none → E (.ref CS) (some dd) (upd H' dd (.xd [("item", .str z), ("fault", .str "sort")])) := fun q dd hdd => by
          have e : badSort known ss = some z := by
            unfold badSort
            exact find_pre ez pre q
          rw [e] at k
          exact k _ dd (same_upd s1 (s1.free hdd)) (s1.free hdd) upd_same
        refine ⟨_, rfl, _, rfl, D, _, rfl, .inl (SqL.of hD1), rfl, flat_strs known, _, rfl, ?_⟩
        rw [if_pos rfl, inV_str]
        cases hk : decide (z ∈ known) with
        | false =>
          refine iteT (iteT ?_)
          refine ⟨_, rfl, ?_⟩
          exact sch_ans (C := CS) (v := .str "sort") (z := .str z) (ws := [.str "sort", .str z]) (dvs := []) rfl (by show 2 ≤ 1000; decide) (raise_ (by rw [hk]; rfl))
        | true =>
          refine iteF ?_
          refine ⟨_, rfl, z, rfl, Nat.le_trans (hz z zm) (by decide), _, _, rfl, rfl, _, rfl, ?_⟩
          refine ite2 (fun h => ?_) (fun h => ?_)
          · refine ⟨_, rfl, ?_⟩
            have h' : 16 < z.length := by have := of_decide_eq_true h; omega
            exact sch_ans (C := CS) (v := .str "sort") (z := .str z) (ws := [.str "sort", .str z]) (dvs := []) rfl (by show 2 ≤ 1000; decide) (raise_ (by rw [hk, decide_eq_true h']; rfl))
          · refine ⟨_, _, rfl, rfl, fun j y hj ey => ?_⟩
            rcases Nat.lt_succ_iff_lt_or_eq.mp hj with q | q
            · exact pre j y q ey
            · rw [q, ez] at ey
              cases ey
              have h' : ¬ 16 < z.length := fun q => h (decide_eq_true (by omega))
              rw [hk, decide_eq_false h']
              rfl
      · rintro σ H' ⟨v3, v4, rfl, rfl, pre⟩
        rw [List.length_map] at pre
        have e : badSort known ss = none := by
          unfold badSort
          exact find_all pre
        rw [e] at k
        exact k _ s1
end
end K2

namespace K2
open PySem L2 E0
section
variable {P : Program} {w : World} {K : PySem.W.Frag} {mg : Str → Option Value} {base : Heap}
def spSortsIn (K : PySem.W.Frag) (CF : Addr) : Sp := fun vs H Q _ => ∃ (a : Addr) (xs : List V) (its : List Itm), vs = [.ref a] ∧ SqT K H a xs ∧ Paired (ItmAt K CF H) xs its ∧ (∀ i ∈ its, isForm i = true) ∧ (∀ i ∈ its, itmOk i) ∧ its.length ≤ 1000 ∧
  ∀ H' p, Same H H' → H p = none → H' p = some (.tup ((sortsOf its).map V.str)) → Q (.ref p) H'
def NSI : List Str := ["forms", "sorts", "form", "taken", "sort", "_", "takes"]
theorem scSortsIn : FnScope NSI ["forms"] (defScope sSortsIn) := ⟨rfl, rfl, rfl, by decide +kernel, rfl, by decide +kernel, by decide +kernel⟩
theorem take_fold {l : List Str} {i : Nat} {z : Str} {acc : List Str} (h : l[i]? = some z) : (l.take (i + 1)).foldl addS acc = addS ((l.take i).foldl addS acc) z := by
  rw [List.take_add_one, h, List.foldl_append]
  rfl
theorem sorts_upto {its : List Itm} {i : Nat} {it : Itm} (h : its[i]? = some it) : sortsOf (its.take (i + 1)) = (itmSorts it).foldl addS (sortsOf (its.take i)) := by
  unfold sortsOf
  rw [List.take_add_one, h, List.flatMap_append, List.foldl_append]
  simp
theorem taken_upto {ps : List (Str × Str)} {i : Nat} {p : Str × Str} (h : ps[i]? = some p) : takenOf (ps.take (i + 1)) = takenOf (ps.take i) ++ (if p.2 = "text" then [] else [stk p.2]) := by
  unfold takenOf
  rw [List.take_add_one, h, List.filter_append, List.map_append]
  by_cases e : p.2 = "text"
  · simp [e]
  · simp [e]
theorem len_take_fold {l : List Str} {i : Nat} {acc : List Str} (hi : i ≤ l.length) : ((l.take i).foldl addS acc).length ≤ acc.length + i := by
  have := addS_len (l := l.take i) (acc := acc)
  rw [List.length_take] at this
  omega
theorem ok_sortsIn {f fT CS CF CSc : Addr} {fd fdT : FuncData} (F : Fun K "_sorts_in" "_sorts_in" sSortsIn f fd) (T : TxtS P K mg CS CF CSc)
    (gT : mg "sort_taken" = some (.ref fT)) (kT : PySem.W.keepIn K (.ref fT) = true) (bT : Binds K fdT ["takes"] []) (GT : FnOk P w K mg base CX0 1 fT fdT ["takes"] spSortTaken) :
    FnOk P w K mg base CX0 2 f fd ["forms"] (spSortsIn K CF) := by
  refine F.ok scSortsIn (fun vs H Q E h => ?_) (fun cdv A outer s H vs Q E hr h => ?_)
  · obtain ⟨a, xs, its, rfl, _⟩ := h
    rfl
  · obtain ⟨a, xs, its, rfl, hS, hp, hf, hok, hl, k⟩ := h
    obtain ⟨tt, txt⟩ := T.txt
    refine ⟨_, pss_cons (ps_set (i := 1) scSortsIn.nd rfl (Or.inl rfl) (pe_lst pa_nil))
      (pss_cons (ps_for PassesOwn.never rfl (pi_tup (pv 0)) (pg_name (i := 2) scSortsIn.nd rfl (Or.inl rfl))
        (pss_cons (ps_setLc (i := 3) (own := [("_", 5), ("takes", 6)]) (g := gTup K 2 (gCons (gName 5) (gCons (gName 6) gNil))) rfl scSortsIn.nd rfl rfl (sw_true rfl rfl rfl (by decide +kernel)) (pi_tup (pe_fld (pv 2) rfl))
            (blkOk_by (N := NSI) (sc := defScope sSortsIn) (by decide +kernel)) (fun _ _ _ _ _ => pg_tup (by rfl) (pgs_cons (pg_name (i := 5) scSortsIn.nd rfl (.inl rfl)) (pgs_cons (pg_name (i := 6) scSortsIn.nd rfl (.inl rfl)) pgs_nil)))
            (fun _ _ _ _ _ => pts_one (pt_cmpR op_ne (pv 6) (pe_glob (v := .str "text") rfl txt ⟨_, rfl⟩) (nomark _))) (fun _ _ _ _ _ => pe_call GT hr rfl gT kT bT .nil pass0 (pa_cons (pv 6) pa_nil)))
        (pss_one (ps_for PassesOwn.never rfl (pi_list (pe_lst (pa_cons (pe_fld (pv 2) rfl) (StX.pa_star (pv 3) pa_nil)))) (pg_name (i := 4) scSortsIn.nd rfl (Or.inl rfl))
          (pss_one (ps_if (pt_cmpR op_notIn_seq (pv 4) (pv 1) (by rfl)) (pss_one (ps_expr (pe_bm PySem.F.plainAttrs_list PySem.F.slot_list_append PySem.F.type_list_append mt_append (pv 1) (pa_cons (pv 4) pa_nil)))) pss_nil))))))
      (pss_one (ps_ret (pe_callTy call_tuple_of (by rfl) T.tup PyProof.Rows.boot_tuple (pa_cons (pv 1) pa_nil))))), ?_⟩
    have hpl : xs.length = its.length := hp.length
    refine ⟨Nat.zero_le _, fun S hS0 => ?_⟩
    refine ⟨_, rfl, a, rfl, ⟨_, sqt_same (same_upd (Same.refl H) hS0) hS⟩, for_tup (K := K) (a := a) (xs := xs) (fun i σ H' => ∃ v2 v3 v4 v5 v6 : Option V, σ = [some (.ref a), some (.ref S), v2, v3, v4, v5, v6] ∧ Same H H' ∧ H' S = some (.lst ((sortsOf (its.take i)).map V.str)))
      ⟨_, _, _, _, _, rfl, same_upd (Same.refl H) hS0, by rw [upd_same]; rfl⟩ (fun i σ H' _ ⟨_, _, _, _, _, _, s', _⟩ => sqt_same s' hS) ?_ ?_⟩
    · rintro i x σ H1 hx ⟨v2, v3, v4, v5, v6, rfl, s1, hS1⟩
      obtain ⟨it, eit, hit⟩ := LiI.paired_get hp hx
      have him : it ∈ its := List.mem_of_getElem? eit
      have hil : i < its.length := (List.getElem?_eq_some_iff.mp eit).1
      have hit1 := hit.keep s1
      have ok1 := hok it him
      cases it with
      | odd => exact absurd (hf _ him) (by decide)
      | form nm st ps =>
        obtain ⟨y, rfl, dx, p, fs, hy, ln, lk, ls, ts, hp1, hts⟩ := hit1
        obtain ⟨k1, k2, k3, k4⟩ := ok1
        have htl : ts.length = ps.length := by rw [hts.length, List.length_map]
        refine ⟨_, rfl, y, CF, dx, fs, _, rfl, hy, T.F.cl, T.nS, ls, p, rfl, ⟨_, SqT.of hp1⟩, fun D hD => lc_tup (K := K) (a := p) (xs := ts.map V.ref) (fun j H' => Same H H' ∧ H' S = some (.lst ((sortsOf (its.take i)).map V.str)) ∧ H' D = some (.lst ((takenOf (ps.take j)).map V.str)) ∧ Same H1 H')
          ⟨same_upd s1 (s1.free hD), by rw [upd_ne (ne_of_none hS1 hD)]; exact hS1, upd_same, same_upd (Same.refl H1) hD⟩ (fun j H' _ ⟨_, _, _, s'⟩ => SqT.of (s' _ _ hp1)) ?_ ?_⟩
        · rintro j z H2 hz ⟨s2, hS2, hD2, s12⟩
          obtain ⟨t, et, rfl⟩ : ∃ t, ts[j]? = some t ∧ z = V.ref t := by
            rw [List.getElem?_map] at hz
            cases q : ts[j]? with
            | none => rw [q] at hz; cases hz
            | some r => rw [q] at hz; exact ⟨r, rfl, (Option.some.inj hz).symm⟩
          obtain ⟨kv, ekv, ht⟩ := LiI.paired_get hts et
          obtain ⟨pr, epr, rfl⟩ : ∃ pr, ps[j]? = some pr ∧ kv = mkP pr := by
            rw [List.getElem?_map] at ekv
            cases q : ps[j]? with
            | none => rw [q] at ekv; cases ekv
            | some r => rw [q] at ekv; exact ⟨r, rfl, (Option.some.inj ekv).symm⟩
          have hjl : j < ps.length := (List.getElem?_eq_some_iff.mp epr).1
          have ht2 : H2 t = some (.tup [.str pr.1, .str pr.2]) := s12 _ _ ht
          refine ⟨t, _, rfl, SqT.of ht2, rfl, _, _, rfl, ?_⟩
          refine ⟨_, _, rfl, rfl, rfl, ?_⟩
          refine ⟨_, rfl, rfl, _, rfl, ?_⟩
          have e : decide (V.str pr.2 = V.str "text") = decide (pr.2 = "text") := decide_eq_decide.mpr ⟨fun h => V.str.inj h, fun h => by rw [h]⟩
          rw [e]
          have tu := taken_upto epr
          by_cases et : pr.2 = "text"
          · rw [if_pos et, List.append_nil] at tu
            rw [decide_eq_true et]
            refine iteF ⟨s2, hS2, by rw [tu]; exact hD2, s12⟩
          · rw [if_neg et] at tu
            rw [decide_eq_false et]
            have tkp := (k3 pr (List.mem_of_getElem? epr)).2
            refine iteT ⟨_, rfl, pr.2, rfl, Nat.le_trans (taken_len tkp) (by decide), _, hD2, ?_, same_upd s2 (s1.free hD), ?_, ?_, ?_⟩
            · rw [List.length_map]
              have := taken_length (ps.take j)
              rw [List.length_take] at this
              have : (takenOf (ps.take j)).length ≤ 10 := by omega
              exact Nat.lt_of_le_of_lt this (by decide)
            · rw [upd_ne (ne_of_none hS1 hD)]; exact hS2
            · rw [upd_same, tu, List.map_append]; rfl
            · exact same_upd s12 hD
        · rintro H2 ⟨s2, hS2, hD2, s12⟩
          rw [List.length_map, htl, List.take_length] at hD2
          have hy2 := s12 _ _ hy
          have hnD : D ≠ S := (ne_of_none hS1 hD).symm
          refine ⟨_, rfl, y, CF, dx, fs, _, rfl, hy2, T.F.cl, T.nK, lk, _, rfl, D, _, rfl, .inr (SqL.of hD2), ?_⟩
          have tl := taken_length ps
          refine ⟨by show (V.str st :: ((takenOf ps).map V.str ++ [])).length ≤ sizeLine; rw [List.append_nil, List.length_cons, List.length_map]; exact Nat.le_trans (show (takenOf ps).length + 1 ≤ 11 by omega) (by decide), fun L hL => ⟨L, rfl, ⟨_, SqL.of upd_same⟩, ?_⟩⟩
          have eL : (V.str st :: ((takenOf ps).map V.str ++ [])) = (itmSorts (.form nm st ps)).map V.str := by rw [List.append_nil]; rfl
          have sL : Same H2 (upd H2 L (.lst ((itmSorts (.form nm st ps)).map V.str))) := same_upd (Same.refl H2) hL
          have vL : (upd H2 L (.lst ((itmSorts (.form nm st ps)).map V.str))) L = some (.lst ((itmSorts (.form nm st ps)).map V.str)) := upd_same
          rw [show (V.str st :: ((takenOf ps).map V.str ++ [])) = (itmSorts (.form nm st ps)).map V.str from eL]
          generalize upd H2 L (.lst ((itmSorts (.form nm st ps)).map V.str)) = H3 at sL vL ⊢
          have hS3 := sL _ _ hS2
          have nLS : L ≠ S := (ne_of_none hS2 hL).symm
          have il : (itmSorts (.form nm st ps)).length ≤ 11 := by show (takenOf ps).length + 1 ≤ 11; omega
          have su := sorts_upto eit
          generalize itmSorts (.form nm st ps) = zs at vL il su
          have sl : (sortsOf (its.take i)).length ≤ 11 * its.length := by
            have := sortsOf_len (its := its.take i) fun j hj => hok j (List.mem_of_mem_take hj)
            rw [List.length_take] at this
            omega
          generalize sortsOf (its.take i) = acc at hS3 su sl
          refine for_list (K := K) (a := L) (xs := zs.map V.str) (fun j σ H' => ∃ v4 v5 v6 : Option V, σ = [some (.ref a), some (.ref S), some (.ref y), some (.ref D), v4, v5, v6] ∧ Same H H' ∧ H' L = some (.lst (zs.map V.str)) ∧ H' S = some (.lst (((zs.take j).foldl addS acc).map V.str)))
            ⟨_, _, _, rfl, s2.trans sL, vL, hS3⟩ (fun j σ H' _ ⟨_, _, _, _, _, q, _⟩ => SqL.of q) ?_ ?_
          · rintro j z σ H4 hz ⟨v4, v5, v6, rfl, s4, L4, S4⟩
            obtain ⟨y2, ez, rfl⟩ : ∃ t, zs[j]? = some t ∧ z = V.str t := by
              rw [List.getElem?_map] at hz
              cases q : zs[j]? with
              | none => rw [q] at hz; cases hz
              | some r => rw [q] at hz; exact ⟨r, rfl, (Option.some.inj hz).symm⟩
            have hjl : j < zs.length := (List.getElem?_eq_some_iff.mp ez).1
            have tf := take_fold (acc := acc) ez
            have tl2 := len_take_fold (acc := acc) (Nat.le_of_lt hjl)
            refine ⟨_, rfl, _, rfl, S, _, rfl, .inl (SqL.of S4), rfl, flat_strs _, _, rfl, ?_⟩
            rw [if_pos rfl, inV_str]
            by_cases hm : y2 ∈ (zs.take j).foldl addS acc
            · rw [decide_eq_true hm]
              refine iteF ⟨_, _, _, rfl, s4, L4, ?_⟩
              rw [tf, show addS ((zs.take j).foldl addS acc) y2 = (zs.take j).foldl addS acc from if_pos hm]
              exact S4
            · rw [decide_eq_false hm]
              refine iteT ⟨_, rfl, .inl ⟨rfl, _, SqL.of S4⟩, _, rfl, S, _, _, rfl, rfl, S4, ?_, ?_⟩
              · rw [List.length_map]
                exact Nat.lt_of_le_of_lt tl2 (Nat.lt_of_le_of_lt (show acc.length + j ≤ 11011 by omega) (by decide))
              · refine ⟨_, _, _, rfl, same_upd s4 hS0, by rw [upd_ne nLS]; exact L4, ?_⟩
                rw [upd_same, tf]
                show some (HO.lst (((zs.take j).foldl addS acc).map V.str ++ [V.str y2])) = some (HO.lst ((addS ((zs.take j).foldl addS acc) y2).map V.str))
                rw [show addS ((zs.take j).foldl addS acc) y2 = (zs.take j).foldl addS acc ++ [y2] from if_neg hm, List.map_append]
                rfl
          · rintro σ H4 ⟨v4, v5, v6, rfl, s4, L4, S4⟩
            rw [List.length_map, List.take_length] at S4
            refine ⟨_, _, _, _, _, rfl, s4, ?_⟩
            rw [su]
            exact S4
    · rintro σ H1 ⟨v2, v3, v4, v5, v6, rfl, s1, hS1⟩
      rw [hpl, List.take_length] at hS1
      refine ⟨_, rfl, S, _, rfl, .inl ⟨SqL.of hS1, fun p hp0 => ?_⟩⟩
      exact k _ p (same_upd s1 (s1.free hp0)) (s1.free hp0) upd_same
end
end K2

namespace K2
open PySem PySem.Spec PyProof.Rows PySem.SeqAt L2 E0
/-! ### an own class called without arguments, and by a local name with a starred tuple -/
def tMakeLS (K : PySem.W.Frag) (i : Nat) (C : Addr) (sp : Sp) (E : XK) (te : TE) : TE := fun σ H Q => σ[i]? = some (some (.ref C)) ∧ te σ H fun y H1 => ∃ a xs, y = V.ref a ∧ (SqT K H1 a xs ∨ SqL K H1 a xs) ∧
  ∀ x dx, H1 x = none → H1 dx = none → dx ≠ x → sp (V.ref x :: xs) (upd (upd H1 dx (.own x)) x (.ins C dx [])) (fun v H2 => v = .non ∧ Q (.ref x) H2) E
section
variable {X : Cx} {CX : CXT} {k i : Nat} {f C : Addr} {sp : Sp} {E : XK} {x : Str} {e : Expr} {te : TE} {p sp_ pos : Pos}
theorem pe_makeR0 (M : Mk X.K C f) (F : FnR X.prog X.w X.K X.mg X.base CX k f sp) (hr : Room (k + 1) X.A) (hg : Gl X x) (hm : X.mg x = some (.ref C)) (hx : Passes CX X E) (hdb : (x == ("__debug__" : Str)) = false := by decide) :
    PE X (.Call (.Name x p) [] [] pos) (StX.tMakeR C sp E tNil) := by
  refine ⟨fun pins s σ H Q I h => ?_⟩
  refine wpAny_Call_Name_kw (ld_glob I hg hm ?_ hdb)
  exact PySem.W.callWith_K0 I.kIn M.kp (StX.run_makeR (us := []) M F hr hx I .nil h)
theorem pe_makeLS (M : Mk X.K C f) (F : FnR X.prog X.w X.K X.mg X.base CX k f sp) (hr : Room (k + 1) X.A) (hN : X.N[i]? = some x) (hv : Vis X.env.scope x) (hx : Passes CX X E) (he : PE X e te)
    (hdb : (x == ("__debug__" : Str)) = false := by decide) (hcd : (x == ("__classdict__" : Str)) = false := by decide) (hst : starEach [.Starred e sp_] X.env = [(true, eval e X.env)] := by rfl) :
    PE X (.Call (.Name x p) [.Starred e sp_] [] pos) (tMakeLS X.K i C sp E te) := by
  refine ⟨fun pins s σ H Q I h => ?_⟩
  obtain ⟨hs, h⟩ := h
  refine wpAny_Call_Name_kw (thn ((pe_var (pos := p) (i := i) hN hv hdb hcd).run pins s σ H (fun v H1 => v = .ref C ∧ H1 = H) I ⟨.ref C, hs, rfl, rfl⟩) fun u s1 ⟨v, H1, I1, r1, q1⟩ => ?_)
  obtain ⟨ev, eH⟩ := q1
  subst ev eH
  obtain rfl : u = Value.ref C := r1
  refine PySem.W.callWith_S (h₀ := X.base) I.ok.mod.kin M.kp (thn (he.run pins s1 σ H1 _ I1 h) fun v s2 ⟨y, H2, I2, ry, a, xs, ey, hxs, q⟩ => ?_) hst
  subst ey
  obtain rfl : v = Value.ref a := ry
  exact StX.star_any I2 hxs fun us s3 I3 rv => ⟨I3.kIn, StX.run_makeR M F hr hx I3 rv q⟩
end
/-! ### own ==, != (by the own ==), in, [ ] of an instance -/
structure OwnC (K : PySem.W.Frag) (C : Addr) (m : Str) (f : Addr) : Prop where
  fi : PySem.W.findIn K (.ref C) m = some (some (.ref f))
  fn : PySem.W.isFn K (.ref f) = true
  ff : PySem.W.fnIn K f = true
def rEqO (K : PySem.W.Frag) (C : Addr) (sp : Sp) (E : XK) : R2 := fun x y H Q => ∃ a dx fs t, x = .ref a ∧ H a = some (.ins C dx fs) ∧ TyX K H y t ∧ PySem.W.notFirst K C t = true ∧ sp [x, y] H (fun v H' => ∃ b, v = .bl b ∧ Q (.bl b) H') E
def rNeO (K : PySem.W.Frag) (C : Addr) (sp : Sp) (E : XK) : R2 := fun x y H Q => ∃ a dx fs t, x = .ref a ∧ H a = some (.ins C dx fs) ∧ TyX K H y t ∧ PySem.W.notFirst K C t = true ∧ sp [x, y] H (fun v H' => ∃ b, v = .bl b ∧ Q (.bl (!b)) H') E
def rInO (C : Addr) (sp : Sp) (E : XK) : R2 := fun x y H Q => ∃ a dx fs, y = .ref a ∧ H a = some (.ins C dx fs) ∧ sp [y, x] H (fun v H' => ∃ b, v = .bl b ∧ Q (.bl b) H') E
def rNinO (C : Addr) (sp : Sp) (E : XK) : R2 := fun x y H Q => ∃ a dx fs, y = .ref a ∧ H a = some (.ins C dx fs) ∧ sp [y, x] H (fun v H' => ∃ b, v = .bl b ∧ Q (.bl (!b)) H') E
def rIxO (C : Addr) (sp : Sp) (E : XK) : R2 := fun x y H Q => ∃ a dx fs, x = .ref a ∧ H a = some (.ins C dx fs) ∧ sp [x, y] H Q E
section
variable {X : Cx} {CX : CXT} {k : Nat} {f C : Addr} {sp : Sp} {E : XK}
theorem own_call {A : Around} {pins : List (Addr × Obj)} {s : Shared} {σ : L2.St} {H : Hp} {vs : List V} {us : List Value} {Q : VK} (F : FnR X.prog X.w X.K X.mg X.base CX k f sp) (hr : Room k A) (hfr : A.frames = X.A.frames) (hx : Passes CX X E) (I : L2.Inv X pins σ H s) (r : Vals vs us) (h : sp vs H Q E) :
    wpAny (model X.prog X.w) A (call (.ref f) us) (EP X pins σ Q) X.xe s := by
  have e0 : Env0 X.prog X.w X.K X.mg X.base A X.stack s H := by
    have e := I.env0
    exact ⟨by rw [hfr]; exact e.frames, e.mod, e.bs, e.bsz, e.funs, e.frf, e.hok, e.bare⟩
  refine wpAny_call (codeAny_mono (F A X.stack s H us vs Q E hr e0 r h) fun r s' hq => ?_)
  cases r with
  | error e => exact hx pins σ H s e s' I hq
  | ok fl =>
    cases fl with
    | ret u => exact I.after hq
    | next => exact False.elim hq
    | brk => exact False.elim hq
    | cont => exact False.elim hq
theorem op_eqO (O : OwnC X.K C "__eq__" f) (F : FnR X.prog X.w X.K X.mg X.base CX k f sp) (hr : Room k X.A) (hx : Passes CX X E) : OpR X (compareOp .Eq) (rEqO X.K C sp E) := by
  intro pins s σ H x y v u Q I rx ry h
  obtain ⟨a, dx, fs, t, rfl, ha, ht, hn, q⟩ := h
  obtain rfl : v = Value.ref a := rx
  obtain ⟨mA, J, _⟩ := ins_get I.hok ha
  obtain ⟨od, J, _⟩ := J.look
  obtain ⟨m, hF⟩ := I.fr
  obtain ⟨Pk, Z, hP, _⟩ := kit_of I ry ht
  show wpAny (model X.prog X.w) X.A (richCompare .Eq (.ref a) u) (EP X pins σ Q) X.xe s
  refine PySem.W.cmp_K (op := .Eq) (tb := t) hr.units0 hF I.ok.mod.kin J (Z.ty _ _ I.kIn hP) hn O.fi O.fn ?_
  refine wpAny_mono (own_call (vs := [V.ref a, y]) F hr rfl hx I (.cons rfl (.cons ry .nil)) q) (fun r s' hq => ?_) fun _ _ x => x
  obtain ⟨z, H', I', rz, b, ez, qq⟩ := hq
  subst ez
  obtain rfl : r = Value.bool b := rz
  exact ⟨.bl b, H', I', rfl, qq⟩
theorem entry_neO {A : Around} {M : Model} {E : Value → Shared → Prop} {s : Shared} {K : PySem.W.Frag} {x : Addr} {ox : Obj} {od : Option Obj} {u : Value} {Q : Fin → Shared → Prop} (X : K.In s.heap) (I : PySem.W.InstAt s.heap x ox C od) (O : OwnC K C "__eq__" f) (hu : A.units < cLine)
    (h : wpAny M A (call (.ref f) [.ref x, u]) (fun v s' => ∃ b, v = .bool b ∧ Q (.done (.ret (.bool (!b)))) s') E s) : wpAny M A (Builtin.«object.__ne__» ⟨[.ref x, u], []⟩) Q E s := by
  have h' : wpAny M A (callSpecialIfBound? (.ref x) "__eq__" [u]) (fun r s' => ∃ b, r = some (.bool b) ∧ Q (.done (.ret (.bool (!b)))) s') E s := PySem.W.ifBound_K X I O.fi O.fn (wpAny_mono h (fun v s' hv => by
    obtain ⟨b, rfl, q⟩ := hv
    exact ⟨b, rfl, q⟩) fun _ _ x => x)
  unfold Builtin.«object.__ne__»
  repeat (first | with_reducible refine wpAny_cRoomFor hu ?_ | (with_reducible refine wpAny_mono h' (fun r s' hv => ?fin) fun _ _ x => x) | wp_step)
  case fin =>
    obtain ⟨b, rfl, q⟩ := hv
    repeat (first | exact q | with_reducible refine wpAny_truthy_bool ?_ | wp_step)
structure NeObj (K : PySem.W.Frag) (C : Addr) : Prop where
  mo : PySem.W.mroIn K C (.type "object") = some true
  ne : PySem.W.findIn K (.ref C) "__ne__" = some (some (.builtin "object.__ne__"))
theorem op_neO (O : OwnC X.K C "__eq__" f) (N : NeObj X.K C) (FF : FnR X.prog X.w X.K X.mg X.base CX k f sp) (hr : Room (k + 2) X.A) (hx : Passes CX X E) : OpR X (compareOp .NotEq) (rNeO X.K C sp E) := by
  intro pins s σ H x y v u Q I rx ry h
  obtain ⟨a, dx, fs, t, rfl, ha, ht, hn, q⟩ := h
  obtain rfl : v = Value.ref a := rx
  obtain ⟨mA, J, _⟩ := ins_get I.hok ha
  obtain ⟨od, J, _⟩ := J.look
  obtain ⟨m, hF⟩ := I.fr
  obtain ⟨Pk, Z, hP, _⟩ := kit_of I ry ht
  have hb := Z.ty (model X.prog X.w) _ I.kIn hP
  have one : wpAny (model X.prog X.w) X.A (tryCompare (.ref a) "__ne__" u) (fun r s' => ∃ v, r = some v ∧ EP X pins σ Q v s') X.xe s := by
    unfold tryCompare
    refine wpAny_bind (ifB_ne I.kIn J N.ne (wpAny_call (codeAny_call_builtin F.cmp_object.ne.plain F.cmpEntry_ne (PySem.W.check_slot F.cmpKind_ne F.cmpSplit_ne (J.type.andThen (PySem.W.looks_mroIn I.kIn N.mo)) (F.cmpArgs_ne _ _) (entry_neO (A := X.A.in1) I.kIn J O (Nat.lt_of_le_of_lt (show X.A.units + 1 ≤ X.A.units + 64 by omega) hr.units) ?_)))))
    refine wpAny_mono (own_call (vs := [V.ref a, y]) FF (A := X.A.in1) ((hr.mono (by omega) : Room (k + 1) X.A).in1) rfl hx I (.cons rfl (.cons ry .nil)) q) (fun r s' hq => ?_) fun _ _ x => x
    obtain ⟨z, H', I', rz, b, ez, qq⟩ := hq
    subst ez
    obtain rfl : r = Value.bool b := rz
    exact ⟨b, rfl, wpAny_pure ⟨_, rfl, .bl (!b), H', I', rfl, qq⟩⟩
  show wpAny (model X.prog X.w) X.A (richCompare .NotEq (.ref a) u) (EP X pins σ Q) X.xe s
  unfold richCompare
  simp only [oneThing_ref]
  refine wpAny_holding (wpAny_bind (wpAny_cRoomFor hr.units0 ?_))
  refine wpAny_bind (J.type.here (wpAny_bind (hb.here ?_)))
  split
  · rename_i q
    have e : PySem.W.subIn X.K t (.ref C) = some false := by
      rcases Bool.or_eq_true_iff.mp hn with e | e
      · rw [beq_iff_eq.mp e] at q; simp at q
      · exact beq_iff_eq.mp e
    refine wpAny_bind ((PySem.W.looks_subIn I.kIn e).here ?_)
    simp only [Bool.false_eq_true, if_false]
    refine wpAny_bind (wpAny_mono one (fun r s' z => ?_) fun _ _ e => e)
    obtain ⟨v, rfl, hq⟩ := z
    exact wpAny_pure hq
  · refine wpAny_bind (wpAny_pure ?_)
    simp only [Bool.false_eq_true, if_false]
    refine wpAny_bind (wpAny_mono one (fun r s' z => ?_) fun _ _ e => e)
    obtain ⟨v, rfl, hq⟩ := z
    exact wpAny_pure hq
theorem op_inO (O : OwnC X.K C "__contains__" f) (F : FnR X.prog X.w X.K X.mg X.base CX k f sp) (hr : Room k X.A) (hx : Passes CX X E) : OpR X (compareOp .In) (rInO C sp E) := by
  intro pins s σ H x y v u Q I rx ry h
  obtain ⟨a, dx, fs, rfl, ha, q⟩ := h
  obtain rfl : u = Value.ref a := ry
  obtain ⟨mA, J, _⟩ := ins_get I.hok ha
  obtain ⟨od, J, _⟩ := J.look
  obtain ⟨m, hF⟩ := I.fr
  refine PySem.W.in_K hF I.ok.mod.kin J O.fi O.fn ?_
  refine wpAny_mono (own_call (vs := [V.ref a, x]) F hr rfl hx I (.cons rfl (.cons rx .nil)) q) (fun r s' hq => ?_) fun _ _ x => x
  obtain ⟨z, H', I', rz, b, ez, qq⟩ := hq
  subst ez
  obtain rfl : r = Value.bool b := rz
  exact wpAny_truthy_bool ⟨.bl b, H', I', rfl, qq⟩
theorem op_notInO (O : OwnC X.K C "__contains__" f) (F : FnR X.prog X.w X.K X.mg X.base CX k f sp) (hr : Room k X.A) (hx : Passes CX X E) : OpR X (compareOp .NotIn) (rNinO C sp E) := by
  intro pins s σ H x y v u Q I rx ry h
  obtain ⟨a, dx, fs, rfl, ha, q⟩ := h
  obtain rfl : u = Value.ref a := ry
  obtain ⟨mA, J, _⟩ := ins_get I.hok ha
  obtain ⟨od, J, _⟩ := J.look
  obtain ⟨m, hF⟩ := I.fr
  refine PySem.W.notIn_K hF I.ok.mod.kin J O.fi O.fn ?_
  refine wpAny_mono (own_call (vs := [V.ref a, x]) F hr rfl hx I (.cons rfl (.cons rx .nil)) q) (fun r s' hq => ?_) fun _ _ x => x
  obtain ⟨z, H', I', rz, b, ez, qq⟩ := hq
  subst ez
  obtain rfl : r = Value.bool b := rz
  exact wpAny_truthy_bool ⟨.bl (!b), H', I', rfl, qq⟩
theorem pe_ixO {a b : Expr} {ta tb : TE} {pos : Pos} (O : OwnC X.K C "__getitem__" f) (F : FnR X.prog X.w X.K X.mg X.base CX k f sp) (hr : Room (k + 1) X.A) (hx : Passes CX X E) (ha : PE X a ta) (hb : PE X b tb)
    (hsl : ∀ x i, subscripted b true (.ref x) i = runValue (.builtin "lifetime.subscript" ⟨[.ref x, i], []⟩) := by intro _ _; with_unfolding_all rfl) : PE X (.Subscript a b pos) (tOp (rIxO C sp E) ta tb) := by
  refine ⟨fun pins s σ H Q I h => ?_⟩
  refine Subscript_ (binT ha hb I h fun v u s2 x y H2 I2 rx ry q => ?_)
  obtain ⟨a', dx, fs, rfl, ha', q⟩ := q
  obtain rfl : v = Value.ref a' := rx
  obtain ⟨mA, J, _⟩ := ins_get I2.hok ha'
  obtain ⟨od, J, _⟩ := J.look
  obtain ⟨m, hF⟩ := I2.fr
  refine PySem.W.sub_K hF I2.ok.mod.kin J O.fi O.ff O.fn ?_ (hsl _ _)
  exact own_call (vs := [V.ref a', y]) F (A := X.A.in1) hr.in1 rfl hx I2 (.cons rfl (.cons ry .nil)) q
end
@[simp] theorem x_rEqO {K : PySem.W.Frag} {C : Addr} {sp : Sp} {E : XK} {x y : V} {H : Hp} {Q : VK} : rEqO K C sp E x y H Q = ∃ a dx fs t, x = .ref a ∧ H a = some (.ins C dx fs) ∧ TyX K H y t ∧ PySem.W.notFirst K C t = true ∧ sp [x, y] H (fun v H' => ∃ b, v = .bl b ∧ Q (.bl b) H') E := rfl
end K2

namespace K2
open PySem L2 E0
open LamX (ExtN Tabs TabS TabB)
/-! ### written values, forms made with keywords -/
/-- a written value: a text or a whole number -/
def litB : V → Bool
  | .str z => decide (z.length ≤ 1000) && PyData.strOk z
  | .int _ => true
  | _ => false
theorem litB.val {K : PySem.W.Frag} {H : Hp} {v : V} (h : litB v = true) : ValB K H v ∧ ∀ a, v ≠ .ref a := by
  cases v with
  | str z =>
    unfold litB at h
    rw [Bool.and_eq_true] at h
    exact ⟨valB_str (of_decide_eq_true h.1) h.2, fun _ => nofun⟩
  | int i => exact ⟨valB_int, fun _ => nofun⟩
  | _ => cases h
theorem mem_kwD : ∀ {ks : List Str} {zs : List V} {p : Key × V}, p ∈ kwD ks zs → ∃ k z, k ∈ ks ∧ z ∈ zs ∧ p = (.inr k, z)
  | k :: ks, z :: zs, p, h => by
    rcases List.mem_cons.mp (show p ∈ ((.inr k : Key), z) :: kwD ks zs from h) with e | h
    · exact ⟨k, z, List.mem_cons_self .., List.mem_cons_self .., e⟩
    · obtain ⟨k', z', a, b, c⟩ := mem_kwD h
      exact ⟨k', z', List.mem_cons_of_mem _ a, List.mem_cons_of_mem _ b, c⟩
  | [], _, _, h => by cases h
  | _ :: _, [], _, h => by cases h
theorem slots_kw {K : PySem.W.Frag} {H : Hp} {d : Addr} {ks : List Str} {zs : List V} (hk : ks.all keyB = true) (hz : zs.all litB = true) (hl : ks.length ≤ 1000) : SlotsOk K H d (kwD ks zs) := by
  refine ⟨fun p hp => ?_, fun p hp => ?_, ?_⟩
  · obtain ⟨k, z, a, b, rfl⟩ := mem_kwD hp
    have q := List.all_eq_true.mp hk k a
    unfold keyB at q
    rw [Bool.and_eq_true] at q
    exact ⟨k, rfl, of_decide_eq_true q.1, q.2⟩
  · obtain ⟨k, z, a, b, rfl⟩ := mem_kwD hp
    have q := litB.val (K := K) (H := H) (List.all_eq_true.mp hz z b)
    exact ⟨q.1.val, q.2 d⟩
  · unfold kwD
    rw [List.length_map, List.length_zip]
    omega
theorem kw_ne {x : Addr} {ks : List Str} {zs : List V} (hz : zs.all litB = true) : ∀ p ∈ kwD ks zs, p.2 ≠ .ref x := fun p hp => by
  obtain ⟨k, z, a, b, rfl⟩ := mem_kwD hp
  exact (litB.val (K := []) (H := fun _ => none) (List.all_eq_true.mp hz z b)).2 x
/-- behind the making of the instance and the dict -/
theorem made_same {H : Hp} {x dx d CF : Addr} {kvs : List (Key × V)} (nx : H x = none) (ndx : H dx = none) (nd : (upd (upd H dx (.own x)) x (.ins CF dx [])) d = none) : Same H (upd (upd (upd H dx (.own x)) x (.ins CF dx [])) d (.dK kvs)) ∧ (upd (upd (upd H dx (.own x)) x (.ins CF dx [])) d (.dK kvs)) x = some (.ins CF dx []) := by
  have s1 : Same H (upd (upd H dx (.own x)) x (.ins CF dx [])) := fun b o e => by
    rw [upd_ne (ne_of_none e nx), upd_ne (ne_of_none e ndx)]
    exact e
  have hx : (upd (upd H dx (.own x)) x (.ins CF dx [])) x = some (.ins CF dx []) := upd_same
  refine ⟨same_upd s1 (s1.free nd), ?_⟩
  rw [upd_ne (ne_of_none hx nd)]
  exact hx
/-- a form of written values that is right -/
theorem form_kw {K : PySem.W.Frag} {CI CF : Addr} {n s : V} {ks : List Str} {zs : List V} {H : Hp} {R : VK} {E : XK} {x dx : Addr} (hn : litB n = true) (hs : litB s = true) (hk : ks.all keyB = true) (hz : zs.all litB = true) (hl : ks.length ≤ 1000) (hlz : zs.length = ks.length) (hd : dueV n s (kwD ks zs) = none)
    (k : ∀ H', Same H H' → FormAt CF H' x n s (kwD ks zs) → R .non H') (nx : H x = none) (ndx : H dx = none) :
    spInitK K CI CF ks [.ref x, n, s] zs (upd (upd H dx (.own x)) x (.ins CF dx [])) R E := by
  refine ⟨rfl, hlz, fun d nd => ?_⟩
  obtain ⟨s2, hx2⟩ := made_same (CF := CF) (kvs := kwD ks zs) nx ndx nd
  refine ⟨x, dx, d, n, s, kwD ks zs, rfl, hx2, (litB.val hn).1.val, (litB.val hs).1.val, (litB.val (K := K) (H := H) hn).2 x, (litB.val (K := K) (H := H) hs).2 x, slots_kw hk hz hl, kw_ne hz, upd_same, ?_⟩
  rw [hd]
  intro H' p fs s' hx hp st efs
  refine k H' (fun b o e => s' b o (ne_of_none e nx) (s2 b o e)) ⟨dx, p, fs, hx, ?_, ?_, ?_, st⟩
  · rw [efs, lk_put3 ns_, lk_put3 nk_, lk_put1]
  · rw [efs, lk_put3 ks_, lk_put1]
  · rw [efs, lk_put1]
theorem form_0 {K : PySem.W.Frag} {CI CF : Addr} {n s : V} {H : Hp} {R : VK} {E : XK} {x dx : Addr} (hn : litB n = true) (hs : litB s = true) (hd : dueV n s [] = none) (k : ∀ H', Same H H' → FormAt CF H' x n s [] → R .non H') (nx : H x = none) (ndx : H dx = none) :
    spInit0 K CI CF [.ref x, n, s] (upd (upd H dx (.own x)) x (.ins CF dx [])) R E :=
  let h := form_kw (K := K) (CI := CI) (E := E) (ks := []) (zs := []) hn hs rfl rfl (Nat.zero_le _) rfl hd k nx ndx
  ⟨h.1, h.2.2⟩
/-! ### raw names -/
def rawN (z : Str) : Str := "raw_" ++ z
theorem app_list (a b : Str) : (a ++ b).cps.toList = a.cps.toList ++ b.cps.toList := by
  show (a.cps ++ b.cps).toList = _
  simp
theorem rawN_list (z : Str) : (rawN z).cps.toList = [114, 97, 119, 95] ++ z.cps.toList := by
  unfold rawN
  rw [app_list]
  rw [show ("raw_" : Str).cps.toList = [114, 97, 119, 95] by decide +kernel]
theorem rawN_len (z : Str) : (rawN z).length = z.length + 4 := by
  rw [len_toList, rawN_list, List.length_append, len_toList]
  exact Nat.add_comm _ _
theorem rawN_inj {a b : Str} (h : rawN a = rawN b) : a = b := by
  have e : (rawN a).cps.toList = (rawN b).cps.toList := by rw [h]
  rw [rawN_list, rawN_list] at e
  exact str_ext (List.append_cancel_left e)
theorem nameS_sig {z : Str} (h : nameS z = true) : z.cps.toList.all (inS SIG) = true := by
  unfold nameS at h
  rw [Bool.and_eq_true] at h
  exact h.2
theorem rawN_name {z : Str} (h : nameS z = true) (hl : z.length ≤ 16) : nameS (rawN z) = true := by
  have l := rawN_len z
  have e := nameS_sig h
  unfold nameS
  rw [rawN_list, decide_eq_true (by omega), decide_eq_true (by omega)]
  show (true && true && inS LET 114 && ([114, 97, 119, 95] ++ z.cps.toList).all (inS SIG)) = true
  rw [List.all_append, e]
  decide +kernel
theorem rawN_raw (z : Str) : rawB (rawN z) = true := by
  unfold rawB Txt.startswith
  have l := rawN_len z
  have l1 : ("raw_" : Str).length = 4 := by decide +kernel
  have e : (rawN z).cps.toList.take 4 = ("raw_" : Str).cps.toList := by
    rw [rawN_list, show ("raw_" : Str).cps.toList = [114, 97, 119, 95] by decide +kernel]
    rfl
  rw [StrLaws.subAt_eq, l1]
  simp [e]
  omega
/-! ### the faults of a schema -/
theorem formFault_none : ∀ {its : List Itm} {n : Nat} {seen : List Str}, formFault n seen its = none → (∀ i ∈ its, isForm i = true ∧ rawB (nmOf i) = false ∧ nmOf i ∉ seen) ∧ (its.map nmOf).Nodup
  | [], _, _, _ => ⟨fun i h => (nomatch h), List.nodup_nil⟩
  | .odd :: _, _, _, h => nomatch h
  | .form nm s ps :: r, n, seen, h => by
    have h' : (if (rawB nm || decide (nm ∈ seen)) = true then some (V.str "name", V.str nm) else formFault (n + 1) (seen ++ [nm]) r) = none := h
    by_cases q : (rawB nm || decide (nm ∈ seen)) = true
    · rw [if_pos q] at h'
      cases h'
    · rw [if_neg q] at h'
      have q' := Bool.not_eq_true _ ▸ q
      rw [Bool.or_eq_false_iff, decide_eq_false_iff_not] at q'
      obtain ⟨a, b⟩ := formFault_none h'
      refine ⟨fun i hi => ?_, ?_⟩
      · rcases List.mem_cons.mp hi with e | hi
        · rw [e]; exact ⟨rfl, q'.1, q'.2⟩
        · obtain ⟨a1, a2, a3⟩ := a i hi
          exact ⟨a1, a2, fun z => a3 (List.mem_append_left _ z)⟩
      · rw [List.map_cons, List.nodup_cons]
        refine ⟨fun z => ?_, b⟩
        obtain ⟨i, hi, e⟩ := List.mem_map.mp z
        exact (a i hi).2.2 (List.mem_append_right _ (by rw [e]; exact List.mem_cons_self ..))
theorem check_none {its : List Itm} (h : checkForms its = none) : (∀ i ∈ its, isForm i = true) ∧ (∀ i ∈ its, rawB (nmOf i) = false) ∧ (its.map nmOf).Nodup ∧ 1 ≤ its.length ∧ its.length ≤ 20 := by
  unfold checkForms at h
  cases e : formFault 0 [] its with
  | some f => rw [e] at h; cases h
  | none =>
    rw [e] at h
    obtain ⟨a, b⟩ := formFault_none e
    by_cases q : (decide (1 ≤ its.length) && decide (its.length ≤ 20)) = true
    · rw [Bool.and_eq_true, decide_eq_true_eq, decide_eq_true_eq] at q
      exact ⟨fun i hi => (a i hi).1, fun i hi => (a i hi).2.1, b, q.1, q.2⟩
    · have h' : (if (decide (1 ≤ its.length) && decide (its.length ≤ 20)) = true then none else some (V.str "size", V.non)) = none := h
      rw [if_neg q] at h'
      cases h'
def schDue (its : List Itm) : Option (V × V) := match checkForms its with
  | some f => some f
  | none => match badSort (its.map kinOf) (sortsOf its) with
    | some z => some (.str "sort", .str z)
    | none => none
def namesOf (its : List Itm) : List Str := its.map nmOf ++ (sortsOf its).map rawN
theorem namesOf_nodup {its : List Itm} (h1 : (its.map nmOf).Nodup) (h2 : ∀ i ∈ its, rawB (nmOf i) = false) : (namesOf its).Nodup := by
  unfold namesOf
  rw [List.nodup_append]
  refine ⟨h1, ?_, fun a ha b hb e => ?_⟩
  · exact List.Pairwise.map _ (fun a b ne q => ne (rawN_inj q)) (sortsOf_nodup its)
  · obtain ⟨i, hi, rfl⟩ := List.mem_map.mp ha
    obtain ⟨z, _, rfl⟩ := List.mem_map.mp hb
    have := h2 i hi
    rw [e, rawN_raw] at this
    cases this
def tabKV (nms : List Str) (vals : List V) : List (Key × V) := (nms.zip vals).map fun p => (.inr p.1, p.2)
theorem tab_none {z : Str} : ∀ {nms : List Str} {vals : List V}, z ∉ nms → valV (tabKV nms vals) (.inr z) = none
  | [], _, _ => rfl
  | _ :: _, [], _ => rfl
  | n :: nms, v :: vals, h => by
    have e : tabKV (n :: nms) (v :: vals) = (.inr n, v) :: tabKV nms vals := rfl
    rw [e, valV_neg (fun q => h (by rw [Sum.inr.inj q]; exact List.mem_cons_self ..))]
    exact tab_none fun q => h (List.mem_cons_of_mem _ q)
theorem tab_at {z : Str} {v : V} : ∀ {nms : List Str} {vals : List V} {i : Nat}, nms.Nodup → nms[i]? = some z → vals[i]? = some v → valV (tabKV nms vals) (.inr z) = some v
  | [], _, _, _, h, _ => nomatch h
  | _ :: _, [], _, _, _, h => nomatch h
  | n :: nms, v0 :: vals, 0, _, h1, h2 => by
    have e : tabKV (n :: nms) (v0 :: vals) = (.inr n, v0) :: tabKV nms vals := rfl
    have e1 : n = z := Option.some.inj h1
    have e2 : v0 = v := Option.some.inj h2
    rw [e, e1, e2]
    exact valV_pos rfl
  | n :: nms, v0 :: vals, i + 1, nd, h1, h2 => by
    have e : tabKV (n :: nms) (v0 :: vals) = (.inr n, v0) :: tabKV nms vals := rfl
    have nd' := List.nodup_cons.mp nd
    have hm : z ∈ nms := List.mem_of_getElem? (show nms[i]? = some z from h1)
    rw [e, valV_neg (fun q => nd'.1 (by rw [Sum.inr.inj q]; exact hm))]
    exact tab_at nd'.2 h1 h2
theorem tab_isSome {z : Str} {nms : List Str} {vals : List V} (nd : nms.Nodup) (hl : vals.length = nms.length) : (valV (tabKV nms vals) (.inr z)).isSome = decide (z ∈ nms) := by
  by_cases h : z ∈ nms
  · obtain ⟨i, hi, e⟩ := List.getElem_of_mem h
    rw [tab_at nd (i := i) (v := vals[i]'(by omega)) (by rw [List.getElem?_eq_getElem hi, e]) (List.getElem?_eq_getElem (by omega)), decide_eq_true h]
    rfl
  · rw [tab_none h, decide_eq_false h]
    rfl
theorem tab_put {nms : List Str} {vals : List V} {i : Nat} {z : Str} {v : V} (nd : nms.Nodup) (h1 : nms[i]? = some z) (h2 : vals[i]? = some v) : putK (tabKV (nms.take i) (vals.take i)) (.inr z) v = tabKV (nms.take (i + 1)) (vals.take (i + 1)) := by
  have l1 : i < nms.length := (List.getElem?_eq_some_iff.mp h1).1
  have l2 : i < vals.length := (List.getElem?_eq_some_iff.mp h2).1
  rw [putK_new]
  · unfold tabKV
    rw [List.take_add_one, List.take_add_one, h1, h2, List.zip_append (by rw [List.length_take, List.length_take]; omega), List.map_append]
    rfl
  · unfold tabKV
    rw [List.map_map]
    intro q
    obtain ⟨p, hp, e⟩ := List.mem_map.mp q
    have e' : p.1 = z := Sum.inr.inj e
    obtain ⟨hm, _⟩ := List.of_mem_zip (show (p.1, p.2) ∈ (nms.take i).zip (vals.take i) from hp)
    rw [e'] at hm
    obtain ⟨j, hj, ej⟩ := List.getElem_of_mem hm
    rw [List.getElem_take] at ej
    have hj' : j < i := by rw [List.length_take] at hj; omega
    obtain ⟨_, m1⟩ := List.getElem?_eq_some_iff.mp h1
    exact (List.pairwise_iff_getElem.mp nd) j i (by omega) l1 hj' (ej.trans m1.symm)
theorem tab_len {nms : List Str} {vals : List V} : (tabKV nms vals).length ≤ nms.length := by
  unfold tabKV
  rw [List.length_map, List.length_zip]
  omega
/-! ### the schema as it stands -/
def RowTup (H : Hp) (t : Addr) : Itm → Prop
  | .form n s ps => ∃ q, H t = some (.tup [.str n, .str s, .ref q]) ∧ SlotTup H q (ps.map mkP)
  | .odd => False
def RawAt (CF : Addr) (H : Hp) (r : Addr) (z : Str) : Prop := FormAt CF H r (.str (rawN z)) (.str z) [(.inr "text", .str "text")]
structure SchAt (K : PySem.W.Frag) (CF CSc : Addr) (H : Hp) (x : Addr) (xs : List V) (its : List Itm) (rs : List Addr) : Prop where
  ex : ∃ (dx : Addr) (fs : List (Str × V)) (a b d p : Addr) (ts : List Addr), H x = some (.ins CSc dx fs) ∧ fs.lookup ("forms" : Str) = some (.ref a) ∧ fs.lookup ("sorts" : Str) = some (.ref b) ∧ fs.lookup ("_table" : Str) = some (.ref d) ∧ fs.lookup ("_rows" : Str) = some (.ref p) ∧
    H a = some (.tup xs) ∧ H b = some (.tup ((sortsOf its).map V.str)) ∧ H d = some (.dK (tabKV (namesOf its) (xs ++ rs.map V.ref))) ∧ H p = some (.tup (ts.map V.ref)) ∧
    Paired (ItmAt K CF H) xs its ∧ Paired (RawAt CF H) rs (sortsOf its) ∧ Paired (RowTup H) ts its
  due : schDue its = none
  ok : ∀ i ∈ its, itmOk i
end K2

namespace K2
open PySem L2 E0
open LamX (ExtN Tabs TabS TabB)
/-- a dict comprehension over a list that stays -/
theorem dc_list {K : PySem.W.Frag} {a : Addr} {xs : List V} {g : TG} {tt : TT} {tk tv : TE} {vs : List Nat} {σ : L2.St} {H1 : Hp} {D : Addr} {Qd : Hp → Prop} (Pv : Nat → Hp → Prop) (h0 : Pv 0 (upd H1 D (.dK []))) (hl : ∀ i H, i ≤ xs.length → Pv i H → SqL K H a xs)
    (hs : ∀ i x H, xs[i]? = some x → Pv i H → g x (wipe σ vs) H fun σ2 H2 => wipe σ2 vs = wipe σ vs ∧ tt σ2 H2 fun b H3 =>
      if b = true then tk σ2 H3 fun y H4 => tv σ2 H4 fun z H5 => ∃ kvs k, y = kV k ∧ H5 D = some (.dK kvs) ∧ kvs.length < sizeLine ∧ Pv (i + 1) (upd H5 D (.dK (putK kvs k z))) else Pv (i + 1) H3) (hd : ∀ H, Pv xs.length H → Qd H) :
    ∃ W : Nat → Nat → Hp → Prop, (∃ m, W 0 m (upd H1 D (.dK []))) ∧ ∀ i m H, W i m H →
      ((Itl K a).stop i H ∧ Qd H) ∨ ((Itl K a).go i H ∧ ∃ Nx : Hp → Prop, (∀ H', Nx H' → ∃ m', m' < m ∧ W (i + 1) m' H') ∧ ∀ x H', (Itl K a).yld i H x H' → g x (wipe σ vs) H' fun σ2 H2 => wipe σ2 vs = wipe σ vs ∧ tt σ2 H2 fun b H3 =>
        if b = true then tk σ2 H3 fun y H4 => tv σ2 H4 fun z H5 => ∃ kvs k, y = kV k ∧ H5 D = some (.dK kvs) ∧ kvs.length < sizeLine ∧ Nx (upd H5 D (.dK (putK kvs k z))) else Nx H3) := by
  refine ⟨fun i m H => m = xs.length - i ∧ i ≤ xs.length ∧ Pv i H, ⟨xs.length, by simp, Nat.zero_le _, h0⟩, ?_⟩
  rintro i m H ⟨rfl, hi, p⟩
  have q := hl i H hi p
  by_cases hlt : i < xs.length
  · refine .inr ⟨⟨xs, xs[i], q, by simp [hlt]⟩, Pv (i + 1), fun H' p' => ⟨xs.length - (i + 1), by omega, rfl, hlt, p'⟩, fun x H' y => ?_⟩
    obtain ⟨e, y⟩ := y
    subst e
    exact hs i x _ (y xs q) p
  · have e : i = xs.length := by omega
    subst e
    exact .inl ⟨⟨xs, q, Nat.le_refl _⟩, hd H p⟩
theorem raw_due {z : Str} (h : sortS z = true) (hl : z.length ≤ 16) : dueV (.str (rawN z)) (.str z) (kwD ["text"] [.str "text"]) = none := by
  have e1 : nameV (.str (rawN z)) = true := rawN_name (sortS_name h) hl
  have e2 : sortV (.str z) = true := h
  unfold dueV
  rw [e1, e2, if_neg (by decide), if_neg (by decide)]
  decide +kernel
theorem lit_name {z : Str} (h : nameS z = true) : litB (.str z) = true := by
  have := nameS_len h
  show (decide (z.length ≤ 1000) && PyData.strOk z) = true
  rw [nameS_ok h, decide_eq_true (by omega)]
  rfl
section
variable {P : Program} {w : World} {K : PySem.W.Frag} {mg : Str → Option Value} {base : Heap}
def spSchInit (K : PySem.W.Frag) (CS CF CSc : Addr) : Sp := fun vs H Q E => ∃ (x dx p : Addr) (xs : List V) (its : List Itm), vs = [.ref x, .ref p] ∧ H x = some (.ins CSc dx []) ∧ H p = some (.tup xs) ∧ Paired (ItmAt K CF H) xs its ∧ its.length ≤ 1000 ∧ (∀ i ∈ its, itmOk i) ∧
  (match schDue its with
   | some f => SchE CS E H f
   | none => ∀ H' rs, SameX x H H' → SchAt K CF CSc H' x xs its rs → Q .non H')
def NSC : List Str := ["self", "forms", "sorts", "raw", "sort", "form"]
theorem scSchInit : FnScope NSC ["self", "forms"] (defScope sSchInit) := ⟨rfl, rfl, rfl, by decide +kernel, rfl, by decide +kernel, by decide +kernel⟩
theorem ItmAt.x {CF x : Addr} {dx CSc : Addr} {fs : List (Str × V)} {H H' : Hp} (hx : H x = some (.ins CSc dx fs)) (ne : CF ≠ CSc) {v : V} : ∀ {i : Itm}, isForm i = true → ItmAt K CF H v i → SameX x H H' → ItmAt K CF H' v i
  | .form _ _ _, _, ⟨y, e, dy, p, gs, h1, h2, h3, h4, ts, h5, h6⟩, s =>
    have n : ∀ {b xs}, H b = some (.tup xs) → b ≠ x := fun h => ne_of h hx (by intro q; cases q)
    ⟨y, e, dy, p, gs, s _ _ (ne_of h1 hx (by intro q; cases q; exact ne rfl)) h1, h2, h3, h4, ts, s _ _ (n h5) h5, Paired.mapP h6 fun t q e => s _ _ (n e) e⟩
  | .odd, h, _, _ => nomatch h
theorem items_x {CF x : Addr} {dx CSc : Addr} {fs : List (Str × V)} {H H' : Hp} (hx : H x = some (.ins CSc dx fs)) (ne : CF ≠ CSc) (s : SameX x H H') : ∀ {xs : List V} {its : List Itm}, Paired (ItmAt K CF H) xs its → (∀ i ∈ its, isForm i = true) → Paired (ItmAt K CF H') xs its
  | _, _, .nil, _ => .nil
  | _, _, .cons a t, h => .cons (ItmAt.x hx ne (h _ (List.mem_cons_self ..)) a s) (items_x hx ne s t fun i hi => h i (List.mem_cons_of_mem _ hi))
theorem FormAt.off {CF y D : Addr} {H : Hp} {o : HO} {n s : V} {kvs : List (Key × V)} (h : FormAt CF H y n s kvs) (h1 : ∀ xs, H D ≠ some (.tup xs)) (h2 : ∀ d fs, H D ≠ some (.ins CF d fs)) : FormAt CF (upd H D o) y n s kvs := by
  obtain ⟨dx, p, fs, a, b, c, d, e⟩ := h.ex
  exact ⟨dx, p, fs, by rw [upd_ne (fun q => h2 dx fs (by rw [← q]; exact a))]; exact a, b, c, d, e.upd h1⟩
theorem paired_app {α β : Type} {F : α → β → Prop} : ∀ {a : List α} {b : List β} {c : List α} {d : List β}, Paired F a b → Paired F c d → Paired F (a ++ c) (b ++ d)
  | _, _, _, _, .nil, h => h
  | _, _, _, _, .cons x t, h => .cons x (paired_app t h)
theorem paired_map {α β γ δ : Type} {F : α → β → Prop} {G : γ → δ → Prop} {f : α → γ} {g : β → δ} (h : ∀ a b, F a b → G (f a) (g b)) : ∀ {a : List α} {b : List β}, Paired F a b → Paired G (a.map f) (b.map g)
  | _, _, .nil => .nil
  | _, _, .cons x t => .cons (h _ _ x) (paired_map h t)
/-- an instance that is called z -/
def NamedAt (CF : Addr) (H : Hp) (v : V) (z : Str) : Prop := ∃ y dy fs, v = .ref y ∧ H y = some (.ins CF dy fs) ∧ List.lookup ("name" : Str) fs = some (.str z)
theorem named_forms {CF : Addr} {H : Hp} : ∀ {xs : List V} {its : List Itm}, Paired (ItmAt K CF H) xs its → (∀ i ∈ its, isForm i = true) → Paired (NamedAt CF H) xs (its.map nmOf)
  | _, _, .nil, _ => .nil
  | _, .odd :: _, .cons a t, h => nomatch h _ (List.mem_cons_self ..)
  | _, .form n s ps :: _, .cons a t, h => by
    obtain ⟨y, e, dy, p, fs, h1, h2, _⟩ := a
    exact .cons ⟨y, dy, fs, e, h1, h2⟩ (named_forms t fun i hi => h i (List.mem_cons_of_mem _ hi))
theorem named_raws {CF : Addr} {H : Hp} {rs : List Addr} {ss : List Str} (h : Paired (RawAt CF H) rs ss) : Paired (NamedAt CF H) (rs.map V.ref) (ss.map rawN) :=
  paired_map (fun r z q => by
    obtain ⟨dy, p, fs, h1, h2, _⟩ := q.ex
    exact ⟨r, dy, fs, rfl, h1, h2⟩) h
theorem SchE.same {CS : Addr} {E : XK} {H H2 : Hp} {f : V × V} (k : SchE CS E H f) (s : Same H H2) : SchE CS E H2 f := fun H' dd s' hdd e => k H' dd (s.trans s') (s.free hdd) e
theorem nk1 : ¬ (("forms" : Str) = "sorts") := by decide +kernel
theorem nk2 : ¬ (("forms" : Str) = "_table") := by decide +kernel
theorem nk3 : ¬ (("forms" : Str) = "_rows") := by decide +kernel
theorem nk4 : ¬ (("sorts" : Str) = "_table") := by decide +kernel
theorem nk5 : ¬ (("sorts" : Str) = "_rows") := by decide +kernel
theorem nk6 : ¬ (("_table" : Str) = "_rows") := by decide +kernel
structure SchCls (K : PySem.W.Frag) (CSc : Addr) : Prop where
  cl : Cls K CSc
  n1 : NoAttr K CSc "forms"
  n2 : NoAttr K CSc "sorts"
  n3 : NoAttr K CSc "_table"
  n4 : NoAttr K CSc "_rows"
theorem body_schInit {fI fCF fSI fCS CI CS CF CSc : Addr} {fdCF fdSI fdCS : FuncData} (T : TxtS P K mg CS CF CSc) (SC : SchCls K CSc) (ne : CF ≠ CSc) (MF : Mk K CF fI) (G1 : FnRK P w K mg base 5 fI ["text"] (spInitK K CI CF ["text"]))
    (GCF : FnOk P w K mg base (L2.CX P w) 4 fCF fdCF ["forms"] (spCheckF K CS CF)) (gCF : mg "_check_forms" = some (.ref fCF)) (kCF : PySem.W.keepIn K (.ref fCF) = true) (bCF : Binds K fdCF ["forms"] [])
    (GSI : FnOk P w K mg base CX0 2 fSI fdSI ["forms"] (spSortsIn K CF)) (gSI : mg "_sorts_in" = some (.ref fSI)) (kSI : PySem.W.keepIn K (.ref fSI) = true) (bSI : Binds K fdSI ["forms"] [])
    (GCS : FnOk P w K mg base (L2.CX P w) 4 fCS fdCS ["forms", "sorts"] (spCheckS K CS CF)) (gCS : mg "_check_sorts" = some (.ref fCS)) (kCS : PySem.W.keepIn K (.ref fCS) = true) (bCS : Binds K fdCS ["forms", "sorts"] [])
    {f : Addr} {cdv : Value} {A : Around} {outer : List Env} {s : Shared} {H : Hp} {vs : List V} {Q : VK} {E : XK} (hr : Room 6 (A.deeper (PyProof.Rows.envOfC "Schema.__init__" (defScope sSchInit) s.heap.objs.size f cdv))) (h : spSchInit K CS CF CSc vs H Q E) :
    ∃ t, PSs (cxOf (L2.CX P w) P w K mg base NSC "Schema.__init__" (defScope sSchInit) f cdv A outer s H E) (defBody sSchInit) t ∧ t { nx := fun _ H' => Q .non H', rt := Q } (L2.start NSC vs) H := by
  obtain ⟨x, dx, p, xs, its, rfl, hx, hp0, hp, hl, hok, k⟩ := h
  have hr4 : Room 4 _ := hr.mono (by decide)
  have hr2 : Room 2 _ := hr.mono (by decide)
  obtain ⟨tr, raw⟩ := T.raw
  obtain ⟨tt, txt⟩ := T.txt
  have tkE : Takes (cxOf (L2.CX P w) P w K mg base NSC "Schema.__init__" (defScope sSchInit) f cdv A outer s H E) (fun cls dd _ H => E cls dd H) := takes_of rfl rfl rfl rfl
  have hx' := passes_call tkE (E := E) (fun _ _ _ _ q => q)
  refine ⟨_, pss_cons (ps_expr (pe_call GCF hr4 (by rfl) gCF kCF bCF .nil hx' (pa_cons (pv 1) pa_nil)))
    (pss_cons (ps_set (i := 2) scSchInit.nd rfl (Or.inl rfl) (pe_call GSI hr2 (by rfl) gSI kSI bSI .nil pass0 (pa_cons (pv 1) pa_nil)))
    (pss_cons (ps_expr (pe_call GCS hr4 (by rfl) gCS kCS bCS .nil hx' (pa_cons (pv 1) (pa_cons (pv 2) pa_nil))))
    (pss_cons (ps_fld (pv 0) (pv 1) rfl)
    (pss_cons (ps_fld (pv 0) (pv 2) rfl)
    (pss_cons (ps_setLc (i := 3) (own := [("sort", 4)]) (g := gName 4) (tt := tYes) rfl scSchInit.nd rfl rfl (sw_true rfl rfl rfl (by decide +kernel)) (pi_tup (pv 2))
        (blkOk_by (N := NSC) (sc := defScope sSchInit) (by decide +kernel)) (fun _ _ _ _ _ => pg_name (i := 4) scSchInit.nd rfl (Or.inl rfl)) (fun _ _ _ _ _ => pts_nil)
        (fun _ _ _ _ _ => pe_makeKW (E := E0) MF G1 hr rfl T.gF passL (pa_cons (pe_op op_add_str (pe_glob (v := .str "raw_") rfl raw ⟨_, rfl⟩) (pv 4)) (pa_cons (pv 4) pa_nil)) (pk_cons (pe_glob (v := .str "text") rfl txt ⟨_, rfl⟩) pk_nil)))
    (pss_cons (ps_fld (pv 0) (pe_dc (own := [("form", 5)]) (g := gName 5) (tt := tYes) (tk := tFld K (tVar 5) "name") rfl scSchInit.nd (pi_list (pe_lst (StX.pa_star (pv 1) (StX.pa_star (pv 3) pa_nil))))
        (blkOk_by (N := NSC) (sc := defScope sSchInit) (by decide +kernel)) (fun _ _ _ _ _ => pg_name (i := 5) scSchInit.nd rfl (Or.inl rfl)) (fun _ _ _ _ _ => pts_nil) (fun _ _ _ _ _ => pe_fld (pv 5) rfl) (fun _ _ _ _ _ => pv 5)) rfl)
    (pss_one (ps_fld (pv 0) (pe_tupleOf rfl T.tup (pe_lc (own := [("form", 5)]) (g := gName 5) (tt := tYes) (te := tTup (tCons (tFld K (tVar 5) "name") (tCons (tFld K (tVar 5) "kin") (tCons (tFld K (tVar 5) "slots") tNil)))) rfl scSchInit.nd (pi_tup (pv 1))
        (blkOk_by (N := NSC) (sc := defScope sSchInit) (by decide +kernel)) (fun _ _ _ _ _ => pg_name (i := 5) scSchInit.nd rfl (Or.inl rfl)) (fun _ _ _ _ _ => pts_nil) (fun _ _ _ _ _ => pe_tup (pa_cons (pe_fld (pv 5) rfl) (pa_cons (pe_fld (pv 5) rfl) (pa_cons (pe_fld (pv 5) rfl) pa_nil)))))) rfl)))))))), ?_⟩
  have n01 : ∀ {b : Addr} {xs : List V}, H b = some (.tup xs) → b ≠ x := fun h => ne_of h hx (by intro q; cases q)
  refine ⟨_, rfl, p, xs, its, rfl, SqT.of hp0, hp, hl, ?_⟩
  cases e0 : checkForms its with
  | some f =>
    have e1 : schDue its = some f := by unfold schDue; rw [e0]
    rw [e1] at k
    exact k
  | none =>
    obtain ⟨hf, hraw, hnd, l1, l2⟩ := check_none e0
    intro H1 s1
    refine ⟨_, rfl, p, xs, its, rfl, SqT.of (s1 _ _ hp0), items_keep hp s1, hf, hok, hl, fun H2 b s2 nb hb => ?_⟩
    have s02 := s1.trans s2
    have hss := sortsOf_ok hok
    have hsl : (sortsOf its).length ≤ 220 := by have := sortsOf_len hok; omega
    refine ⟨_, rfl, _, rfl, p, b, xs, its, sortsOf its, rfl, SqT.of (s02 _ _ hp0), items_keep hp s02, hf, hl, SqT.of hb, fun z hz => Nat.le_trans (nameS_len (sortS_name (hss z hz))) (by decide), ?_⟩
    cases e1 : badSort (its.map kinOf) (sortsOf its) with
    | some z =>
      have e2 : schDue its = some (.str "sort", .str z) := by unfold schDue; rw [e0]; dsimp only; rw [e1]
      rw [e2] at k
      exact SchE.same k s02
    | none =>
      have e2 : schDue its = none := by unfold schDue; rw [e0]; dsimp only; rw [e1]
      rw [e2] at k
      have h16 : ∀ z ∈ sortsOf its, z.length ≤ 16 := fun z hz => by
        unfold badSort at e1
        rw [List.find?_eq_none] at e1
        have q := e1 z hz
        rw [Bool.or_eq_true, not_or] at q
        have q2 : ¬ 16 < z.length := fun h => q.2 (decide_eq_true h)
        omega
      intro H3 s3
      have s03 := s02.trans s3
      have hx3 := s03 _ _ hx
      have hb3 := s3 _ _ hb
      refine ⟨_, rfl, _, rfl, x, CSc, dx, _, rfl, hx3, SC.cl, SC.n1, (by show 0 < 1000; decide), ?_⟩
      refine ⟨_, rfl, _, rfl, x, CSc, dx, _, rfl, upd_same, SC.cl, SC.n2, (by show 1 < 1000; decide), ?_⟩
      rw [upd_upd]
      have X4 : SameX x H (upd H3 x (.ins CSc dx (putF "sorts" (.ref b) (putF "forms" (.ref p) [])))) := SameX.trans (Same.x s03) SameX.upd
      have hx4 : (upd H3 x (.ins CSc dx (putF "sorts" (.ref b) (putF "forms" (.ref p) [])))) x = some (.ins CSc dx (putF "sorts" (.ref b) (putF "forms" (.ref p) []))) := upd_same
      have hb4 : (upd H3 x (.ins CSc dx (putF "sorts" (.ref b) (putF "forms" (.ref p) [])))) b = some (.tup ((sortsOf its).map V.str)) := by rw [upd_ne (ne_of hb3 hx3 (by intro q; cases q))]; exact hb3
      generalize upd H3 x (.ins CSc dx (putF "sorts" (.ref b) (putF "forms" (.ref p) []))) = H4 at X4 hx4 hb4 ⊢
      have hp4 : H4 p = some (.tup xs) := X4 _ _ (n01 hp0) hp0
      have it4 := items_x hx ne X4 hp hf
      -- the raw forms
      refine ⟨_, rfl, b, rfl, ⟨_, SqT.of hb4⟩, fun D hD => lc_tup (K := K) (a := b) (xs := (sortsOf its).map V.str) (fun i H' => ∃ rs : List Addr, Same H4 H' ∧ H' D = some (.lst (rs.map V.ref)) ∧ rs.length = i ∧ Paired (RawAt CF H') rs ((sortsOf its).take i))
        ⟨[], same_upd (Same.refl H4) hD, upd_same, rfl, .nil⟩ (fun i H' _ ⟨_, s', _⟩ => SqT.of (s' _ _ hb4)) ?_ ?_⟩
      · rintro i v H' hv ⟨rs, s', hD', rl, pr⟩
        obtain ⟨z, ez, rfl⟩ : ∃ z, (sortsOf its)[i]? = some z ∧ v = V.str z := by
          rw [List.getElem?_map] at hv
          cases q : (sortsOf its)[i]? with
          | none => rw [q] at hv; cases hv
          | some r => rw [q] at hv; exact ⟨r, rfl, (Option.some.inj hv).symm⟩
        have zm : z ∈ sortsOf its := List.mem_of_getElem? ez
        have il : i < (sortsOf its).length := (List.getElem?_eq_some_iff.mp ez).1
        have zl := h16 z zm
        have zs := hss z zm
        have nr := rawN_name (sortS_name zs) zl
        refine ⟨rfl, ?_⟩
        dsimp only [tYes]
        rw [if_pos rfl]
        refine ⟨_, rfl, _, _, rfl, rfl, ?_, _, rfl, fun y dy ny ndy nyd => ?_⟩
        · rw [show ("raw_" : Str).length = 4 by decide +kernel]
          exact Nat.le_trans (show 4 + z.length ≤ 20 by omega) (by decide)
        · refine form_kw (ks := ["text"]) (zs := [.str "text"]) (n := .str (rawN z)) (s := .str z) (lit_name nr) (lit_name (sortS_name zs)) (by decide +kernel) (by decide +kernel) (by decide) rfl (raw_due zs zl) (fun H'' s'' F => ⟨rfl, _, s'' _ _ hD', ?_, rs ++ [y], ?_, ?_, ?_, ?_⟩) ny ndy
          · rw [List.length_map, rl]
            exact Nat.lt_of_lt_of_le il (Nat.le_trans hsl (by decide))
          · exact same_upd (s'.trans s'') hD
          · rw [upd_same, List.map_append]; rfl
          · rw [List.length_append, rl]; rfl
          · have hD'' := s'' _ _ hD'
            have o1 : ∀ xs, H'' D ≠ some (.tup xs) := fun xs q => by rw [hD''] at q; cases q
            have o2 : ∀ d fs, H'' D ≠ some (.ins CF d fs) := fun d fs q => by rw [hD''] at q; cases q
            rw [List.take_add_one, ez]
            exact Paired.snoc (Paired.mapP pr fun r z q => FormAt.off (FormAt.same q s'') o1 o2) (FormAt.off F o1 o2)
      · rintro H5 ⟨rs, s5, hD5, rl, pr⟩
        rw [List.length_map, List.take_length] at pr
        rw [List.length_map] at rl
        have hx5 := s5 _ _ hx4
        have hp5 := s5 _ _ hp4
        have hxl : xs.length = its.length := hp.length
        -- the table
        refine ⟨_, rfl, p, xs, rfl, .inl (SqT.of hp5), _, rfl, D, rs.map V.ref, rfl, .inr (SqL.of hD5), ?_⟩
        have el : xs ++ (rs.map V.ref ++ []) = xs ++ rs.map V.ref := by rw [List.append_nil]
        have vl : (xs ++ rs.map V.ref).length = (namesOf its).length := by
          unfold namesOf
          rw [List.length_append, List.length_append, List.length_map, List.length_map, List.length_map, hxl, rl]
        have nl : (namesOf its).length ≤ 240 := by
          unfold namesOf
          rw [List.length_append, List.length_map, List.length_map]
          omega
        refine ⟨by show (xs ++ (rs.map V.ref ++ [])).length ≤ sizeLine; rw [el, vl]; exact Nat.le_trans nl (by decide), fun L hL => ⟨L, rfl, ⟨_, SqL.of upd_same⟩, ?_⟩⟩
        have s56 : Same H5 (upd H5 L (.lst (xs ++ (rs.map V.ref ++ [])))) := same_upd (Same.refl H5) hL
        have hL6 : (upd H5 L (.lst (xs ++ (rs.map V.ref ++ [])))) L = some (.lst (xs ++ rs.map V.ref)) := by rw [upd_same, el]
        generalize upd H5 L (.lst (xs ++ (rs.map V.ref ++ []))) = H6 at s56 hL6 ⊢
        have s46 := s5.trans s56
        have it6 := items_keep it4 s46
        have pr6 : Paired (RawAt CF H6) rs (sortsOf its) := Paired.mapP pr fun r z q => FormAt.same q s56
        have nd := namesOf_nodup hnd hraw
        have nam : Paired (NamedAt CF H6) (xs ++ rs.map V.ref) (namesOf its) := paired_app (named_forms it6 hf) (named_raws pr6)
        generalize eN : namesOf its = nms at vl nl nd nam
        generalize eV : xs ++ rs.map V.ref = vals at vl hL6 nam
        refine fun d hd => dc_list (K := K) (a := L) (xs := vals) (fun i H' => Same H6 H' ∧ H' d = some (.dK (tabKV (nms.take i) (vals.take i)))) ⟨same_upd (Same.refl H6) hd, by rw [upd_same]; rfl⟩ (fun i H' _ ⟨s', _⟩ => SqL.of (s' _ _ hL6)) ?_ ?_
        · rintro i v H' hv ⟨s', hd'⟩
          obtain ⟨z, ez, y, dy, fs, rfl, hy, ln⟩ := LiI.paired_get nam hv
          refine ⟨rfl, ?_⟩
          dsimp only [tYes]
          rw [if_pos rfl]
          refine ⟨_, rfl, y, CF, dy, fs, _, rfl, s' _ _ hy, T.F.cl, T.nN, ln, _, rfl, _, .inr z, rfl, hd', ?_, same_upd s' hd, ?_⟩
          · exact Nat.lt_of_le_of_lt (Nat.le_trans tab_len (show (nms.take i).length ≤ 240 by rw [List.length_take]; omega)) (by decide)
          · rw [upd_same, tab_put nd ez hv]
        · rintro H7 ⟨s7, hd7⟩
          rw [show vals.take vals.length = vals from List.take_length, show nms.take vals.length = nms by rw [vl, List.take_length]] at hd7
          have s47 := s46.trans s7
          have hx7 := s47 _ _ hx4
          refine ⟨_, rfl, x, CSc, dx, _, rfl, hx7, SC.cl, SC.n3, (by show 2 < 1000; decide), ?_⟩
          have X8 : SameX x H7 (upd H7 x (.ins CSc dx (putF "_table" (.ref d) (putF "sorts" (.ref b) (putF "forms" (.ref p) []))))) := SameX.upd
          have hx8 : (upd H7 x (.ins CSc dx (putF "_table" (.ref d) (putF "sorts" (.ref b) (putF "forms" (.ref p) []))))) x = some (.ins CSc dx (putF "_table" (.ref d) (putF "sorts" (.ref b) (putF "forms" (.ref p) [])))) := upd_same
          generalize upd H7 x (.ins CSc dx (putF "_table" (.ref d) (putF "sorts" (.ref b) (putF "forms" (.ref p) [])))) = H8 at X8 hx8 ⊢
          have n7 : ∀ {b : Addr} {xs : List V}, H7 b = some (.tup xs) → b ≠ x := fun h => ne_of h hx7 (by intro q; cases q)
          have hp7 := s47 _ _ hp4
          have hp8 := X8 _ _ (n7 hp7) hp7
          have it8 := items_x hx7 ne X8 (items_keep it4 s47) hf
          have hd8 := X8 _ _ (ne_of hd7 hx7 (by intro q; cases q)) hd7
          have hb7 := s47 _ _ hb4
          have hb8 := X8 _ _ (n7 hb7) hb7
          have pr8 : Paired (RawAt CF H8) rs (sortsOf its) := Paired.mapP pr6 fun r z q => by
            obtain ⟨dy, pq, fs, h1, h2, h3, h4, ts, h5, h6⟩ := (FormAt.same q s7).ex
            exact ⟨dy, pq, fs, X8 _ _ (ne_of h1 hx7 (by intro q; cases q; exact ne rfl)) h1, h2, h3, h4, ts, X8 _ _ (n7 h5) h5, Paired.mapP h6 fun t q e => X8 _ _ (n7 e) e⟩
          -- the rows
          refine ⟨_, rfl, p, rfl, ⟨_, SqT.of hp8⟩, fun D2 hD2 => lc_tup (K := K) (a := p) (xs := xs) (fun i H' => ∃ ts : List Addr, Same H8 H' ∧ H' D2 = some (.lst (ts.map V.ref)) ∧ ts.length = i ∧ Paired (RowTup H') ts (its.take i))
            ⟨[], same_upd (Same.refl H8) hD2, upd_same, rfl, .nil⟩ (fun i H' _ ⟨_, s', _⟩ => SqT.of (s' _ _ hp8)) ?_ ?_⟩
          · rintro i v H' hv ⟨ts, s', hD', tl, pt⟩
            obtain ⟨it, eit, hit⟩ := LiI.paired_get it8 hv
            have il : i < its.length := (List.getElem?_eq_some_iff.mp eit).1
            have hit' := hit.keep s'
            cases it with
            | odd => exact absurd (hf _ (List.mem_of_getElem? eit)) (by decide)
            | form nm st ps =>
              obtain ⟨y, rfl, dy, q, fs, hy, ln, lk, ls, st2⟩ := hit'
              refine ⟨rfl, ?_⟩
              dsimp only [tYes]
              rw [if_pos rfl]
              refine ⟨_, rfl, y, CF, dy, fs, _, rfl, hy, T.F.cl, T.nN, ln, _, rfl, y, CF, dy, fs, _, rfl, hy, T.F.cl, T.nK, lk, _, rfl, y, CF, dy, fs, _, rfl, hy, T.F.cl, T.nS, ls, (by show 3 ≤ sizeLine; decide), fun t ht => ?_⟩
              have sT : Same H' (upd H' t (.tup [.str nm, .str st, .ref q])) := same_upd (Same.refl H') ht
              have hT : (upd H' t (.tup [.str nm, .str st, .ref q])) t = some (.tup [.str nm, .str st, .ref q]) := upd_same
              generalize upd H' t (.tup [.str nm, .str st, .ref q]) = H'' at sT hT ⊢
              have hDt := sT _ _ hD'
              have o1 : ∀ xs, H'' D2 ≠ some (.tup xs) := fun xs q => by rw [hDt] at q; cases q
              have sl : ∀ {q : Addr} {kvs : List (Key × V)}, SlotTup H' q kvs → SlotTup (upd H'' D2 (.lst (ts.map V.ref ++ [.ref t]))) q kvs := fun h => (h.same sT).upd o1
              refine ⟨_, hDt, ?_, ts ++ [t], same_upd (s'.trans sT) hD2, ?_, ?_, ?_⟩
              · rw [List.length_map, tl]
                exact Nat.lt_of_lt_of_le il (Nat.le_trans l2 (by decide))
              · rw [upd_same, List.map_append]; rfl
              · rw [List.length_append, tl]; rfl
              · rw [List.take_add_one, eit]
                refine Paired.snoc (Paired.mapP pt fun t2 i2 e => ?_) ?_
                · cases i2 with
                  | odd => exact e
                  | form n2 s2 p2 =>
                    obtain ⟨q2, e1, e2⟩ := e
                    exact ⟨q2, by rw [upd_ne (fun z => o1 _ (by rw [← z]; exact sT _ _ e1))]; exact sT _ _ e1, sl e2⟩
                · exact ⟨q, by rw [upd_ne (fun z => o1 _ (by rw [← z]; exact hT))]; exact hT, sl st2⟩
          · rintro H9 ⟨ts, s9, hD9, tl, pt⟩
            rw [hxl, List.take_length] at pt
            refine .inl ⟨D2, _, rfl, SqL.of hD9, fun tp htp => ?_⟩
            have s10 : Same H9 (upd H9 tp (.tup (ts.map V.ref))) := same_upd (Same.refl H9) htp
            have htp10 : (upd H9 tp (.tup (ts.map V.ref))) tp = some (.tup (ts.map V.ref)) := upd_same
            generalize upd H9 tp (.tup (ts.map V.ref)) = H10 at s10 htp10 ⊢
            have s810 := s9.trans s10
            have hx10 := s810 _ _ hx8
            refine ⟨_, rfl, x, CSc, dx, _, rfl, hx10, SC.cl, SC.n4, (by show 3 < 1000; decide), ?_⟩
            have X11 : SameX x H10 (upd H10 x (.ins CSc dx (putF "_rows" (.ref tp) (putF "_table" (.ref d) (putF "sorts" (.ref b) (putF "forms" (.ref p) [])))))) := SameX.upd
            have hx11 : (upd H10 x (.ins CSc dx (putF "_rows" (.ref tp) (putF "_table" (.ref d) (putF "sorts" (.ref b) (putF "forms" (.ref p) [])))))) x = some (.ins CSc dx (putF "_rows" (.ref tp) (putF "_table" (.ref d) (putF "sorts" (.ref b) (putF "forms" (.ref p) []))))) := upd_same
            generalize upd H10 x (.ins CSc dx (putF "_rows" (.ref tp) (putF "_table" (.ref d) (putF "sorts" (.ref b) (putF "forms" (.ref p) []))))) = H11 at X11 hx11 ⊢
            have n10 : ∀ {b : Addr} {xs : List V}, H10 b = some (.tup xs) → b ≠ x := fun h => ne_of h hx10 (by intro q; cases q)
            have hp10 := s810 _ _ hp8
            have hb10 := s810 _ _ hb8
            have hd10 := s810 _ _ hd8
            have XX : SameX x H H11 := SameX.trans X4 (SameX.trans (Same.x s47) (SameX.trans X8 (SameX.trans (Same.x s810) X11)))
            refine k H11 rs XX ⟨⟨dx, _, p, b, d, tp, ts, hx11, ?_, ?_, ?_, lk_put1, X11 _ _ (n10 hp10) hp10, X11 _ _ (n10 hb10) hb10, ?_, X11 _ _ (n10 htp10) htp10, items_x hx ne XX hp hf, ?_, ?_⟩, e2, hok⟩
            · rw [lk_put3 nk3, lk_put3 nk2, lk_put3 nk1, lk_put1]
            · rw [lk_put3 nk5, lk_put3 nk4, lk_put1]
            · rw [lk_put3 nk6, lk_put1]
            · rw [eN, eV]
              exact X11 _ _ (ne_of hd10 hx10 (by intro q; cases q)) hd10
            · refine Paired.mapP pr8 fun r z q => ?_
              obtain ⟨dy, pq, fs, h1, h2, h3, h4, ts, h5, h6⟩ := (FormAt.same q s810).ex
              exact ⟨dy, pq, fs, X11 _ _ (ne_of h1 hx10 (by intro q; cases q; exact ne rfl)) h1, h2, h3, h4, ts, X11 _ _ (n10 h5) h5, Paired.mapP h6 fun t q e => X11 _ _ (n10 e) e⟩
            · refine Paired.mapP pt fun t2 i2 e => ?_
              cases i2 with
              | odd => exact e
              | form n2 s2 p2 =>
                obtain ⟨q2, e1, ts2, e3, e4⟩ := e
                have a1 := s10 _ _ e1
                have a3 := s10 _ _ e3
                exact ⟨q2, X11 _ _ (n10 a1) a1, ts2, X11 _ _ (n10 a3) a3, Paired.mapP e4 fun t q e => by
                  have a := s10 _ _ e
                  exact X11 _ _ (n10 a) a⟩
end
end K2

namespace K2
open PySem L2 E0
open LamX (ExtN Tabs TabS TabB)
/-! ### a schema made -/
def SchRes (K : PySem.W.Frag) (CS CF CSc : Addr) (xs : List V) (its : List Itm) (E : XK) (H : Hp) (Q : VK) : Prop := match schDue its with
  | some f => SchE CS E H f
  | none => ∀ H' x rs, Same H H' → SchAt K CF CSc H' x xs its rs → H x = none → Q (.ref x) H'
section
variable {P : Program} {w : World} {K : PySem.W.Frag} {mg : Str → Option Value} {base : Heap}
def spSchNew (K : PySem.W.Frag) (CS CF CSc : Addr) : Sp := fun vs H Q E => ∃ ws rest, vs = ws ++ rest ∧ ws.length = ([("self" : Str)] : List Str).length ∧ rest.length ≤ sizeLine ∧ ∀ p, H p = none → spSchInit K CS CF CSc (ws ++ [V.ref p]) (upd H p (.tup rest)) Q E
theorem sch_made {CS CF CSc : Addr} {xs : List V} {its : List Itm} {H : Hp} {Q : VK} {E : XK} (hp : Paired (ItmAt K CF H) xs its) (hl : its.length ≤ 1000) (hok : ∀ i ∈ its, itmOk i) (k : SchRes K CS CF CSc xs its E H Q) {x dx : Addr} (nx : H x = none) (ndx : H dx = none) (ne : dx ≠ x) :
    spSchNew K CS CF CSc (.ref x :: xs) (upd (upd H dx (.own x)) x (.ins CSc dx [])) (fun v H2 => v = .non ∧ Q (.ref x) H2) E := by
  refine ⟨[.ref x], xs, rfl, rfl, by rw [hp.length]; exact Nat.le_trans hl (by decide), fun p np => ?_⟩
  have s1 : Same H (upd (upd H dx (.own x)) x (.ins CSc dx [])) := fun b o e => by
    rw [upd_ne (ne_of_none e nx), upd_ne (ne_of_none e ndx)]
    exact e
  have hx1 : (upd (upd H dx (.own x)) x (.ins CSc dx [])) x = some (.ins CSc dx []) := upd_same
  have s2 : Same H (upd (upd (upd H dx (.own x)) x (.ins CSc dx [])) p (.tup xs)) := same_upd s1 (s1.free np)
  have hx2 : (upd (upd (upd H dx (.own x)) x (.ins CSc dx [])) p (.tup xs)) x = some (.ins CSc dx []) := by rw [upd_ne (ne_of_none hx1 np)]; exact hx1
  refine ⟨x, dx, p, xs, its, rfl, hx2, upd_same, items_keep hp s2, hl, hok, ?_⟩
  unfold SchRes at k
  cases e : schDue its with
  | some f =>
    rw [e] at k
    exact SchE.same k s2
  | none =>
    rw [e] at k
    exact fun H' rs sX at_ => ⟨rfl, k H' x rs (fun b o e => sX b o (ne_of_none e nx) (s2 b o e)) at_ nx⟩
theorem schInit_fnR {f : Addr} {fd : FuncData} {fI fCF fSI fCS CI CS CF CSc : Addr} {fdCF fdSI fdCS : FuncData} (F : Fun K "__init__" "Schema.__init__" sSchInit f fd) (T : TxtS P K mg CS CF CSc) (SC : SchCls K CSc) (ne : CF ≠ CSc) (MF : Mk K CF fI) (G1 : FnRK P w K mg base 5 fI ["text"] (spInitK K CI CF ["text"]))
    (GCF : FnOk P w K mg base (L2.CX P w) 4 fCF fdCF ["forms"] (spCheckF K CS CF)) (gCF : mg "_check_forms" = some (.ref fCF)) (kCF : PySem.W.keepIn K (.ref fCF) = true) (bCF : Binds K fdCF ["forms"] [])
    (GSI : FnOk P w K mg base CX0 2 fSI fdSI ["forms"] (spSortsIn K CF)) (gSI : mg "_sorts_in" = some (.ref fSI)) (kSI : PySem.W.keepIn K (.ref fSI) = true) (bSI : Binds K fdSI ["forms"] [])
    (GCS : FnOk P w K mg base (L2.CX P w) 4 fCS fdCS ["forms", "sorts"] (spCheckS K CS CF)) (gCS : mg "_check_sorts" = some (.ref fCS)) (kCS : PySem.W.keepIn K (.ref fCS) = true) (bCS : Binds K fdCS ["forms", "sorts"] []) :
    FnR P w K mg base (L2.CX P w) 7 f (spSchNew K CS CF CSc) := by
  obtain ⟨oc, od, kV, doc, pm, an, cdv, ct, osl, rfl, lk, hcd⟩ := F.ex
  refine StX.fn_star (N := NSC) (ps := ["self"]) (pv := "forms") lk hcd scSchInit StX.cxUp (StX.bind_star1 (B := fun us => bindArgs (PySem.W.fnOf "__init__" "Schema.__init__" (defArgs sSchInit) (defBody sSchInit) (defScope sSchInit) .none kV doc pm an cdv ct) ⟨us, []⟩) (fun a => rfl) (fun a r rs => rfl)) fun A outer s H vs Q E hr h => ?_
  exact body_schInit T SC ne MF G1 GCF gCF kCF bCF GSI gSI kSI bSI GCS gCS kCS bCS hr h
def spSchOf (K : PySem.W.Frag) (CS CF CSc : Addr) : Sp := fun vs H Q E => ∃ (a : Addr) (xs : List V) (its : List Itm), vs = [.ref CSc, .ref a] ∧ H a = some (.tup xs) ∧ Paired (ItmAt K CF H) xs its ∧ its.length ≤ 1000 ∧ (∀ i ∈ its, itmOk i) ∧ SchRes K CS CF CSc xs its E H Q
theorem scSchOf : FnScope ["cls", "forms"] ["cls", "forms"] (defScope sSchOf) := ⟨rfl, rfl, rfl, by decide +kernel, rfl, by decide +kernel, by decide +kernel⟩
theorem ok_schOf {f fSc CS CF CSc : Addr} {fd : FuncData} (F : Fun K "of" "Schema.of" sSchOf f fd) (T : TxtS P K mg CS CF CSc) (MS : Mk K CSc fSc) (GI : FnR P w K mg base (L2.CX P w) 7 fSc (spSchNew K CS CF CSc)) :
    FnOk P w K mg base (L2.CX P w) 9 f fd ["cls", "forms"] (spSchOf K CS CF CSc) := by
  refine F.okX scSchOf (fun vs H Q E h => ?_) (fun cdv A outer s H vs Q E hr h => ?_)
  · obtain ⟨a, xs, its, rfl, _⟩ := h
    rfl
  · obtain ⟨a, xs, its, rfl, ha, hp, hl, hok, k⟩ := h
    have hr2 : Room 2 _ := hr.mono (by decide)
    have tkE : Takes (cxOf (L2.CX P w) P w K mg base ["cls", "forms"] "Schema.of" (defScope sSchOf) f cdv A outer s H E) (fun cls dd _ H => E cls dd H) := takes_of rfl rfl rfl rfl
    refine ⟨_, pss_cons (ps_if (pt_not (pt_val (pe_callB call_isi (by rfl) T.isi PyProof.Rows.boot_isinstance (pa_cons (pv 1) (pa_cons (pe_bltn (v := .ty "tuple") rfl T.tup PyProof.Rows.boot_tuple rfl) pa_nil))))) (pss_one (ps_raise rfl tkE (pmk_sch1 T.er hr2 rfl pe_str))) pss_nil)
      (pss_one (ps_ret (pe_makeLS (i := 0) MS GI hr rfl (Or.inl rfl) (passes_call tkE (fun _ _ _ _ q => q)) (pv 1)))), ?_⟩
    refine ⟨_, rfl, _, _, _, _, true, rfl, .ty "tuple", .base (.tup ha), kit_ty (by decide +kernel), _, rfl, ?_⟩
    refine iteF ?_
    exact ⟨rfl, _, rfl, a, xs, rfl, .inl (SqT.of ha), fun x dx nx ndx ne => sch_made hp hl hok k nx ndx ne⟩
/-! ### its own comparing and asking -/
def dpItm : Itm → PyData
  | .form n s ps => .tuple [.str n, .str s, .tuple (ps.map dpP)]
  | .odd => .none
def rowsD (its : List Itm) : PyData := .tuple (its.map dpItm)
theorem dpRows {H : Hp} : ∀ {ts : List Addr} {its : List Itm}, Paired (RowTup H) ts its → DpAll K H (ts.map V.ref) (its.map dpItm)
  | _, _, .nil => .nil
  | _, .odd :: _, .cons a _ => nomatch a
  | _, .form n s ps :: _, .cons a t => by
    obtain ⟨q, h1, us, h2, h3⟩ := a
    exact .cons (.tup (SqT.of h1) (.cons (.str _) (.cons (.str _) (.cons (.tup (SqT.of h2) (dpPairs h3)) .nil)))) (dpRows t)
theorem lay_itm {i : Itm} (h : itmOk i) (hf : isForm i = true) : (dpItm i).canLay0 = true ∧ (dpItm i).depth ≤ 3 := by
  cases i with
  | odd => cases hf
  | form n s ps =>
    obtain ⟨h1, h2, h3, _⟩ := h
    have q := shForm (nameS_ok h1) (nameS_ok (sortS_name h2)) fun p hp => ⟨nameS_ok (h3 p hp).1, taken_ok (h3 p hp).2⟩
    have hd : ∀ ps : List (Str × Str), PyData.depthAll (ps.map dpP) ≤ 1 := fun ps => by
      induction ps with
      | nil => exact Nat.zero_le _
      | cons i l ih =>
        have e : PyData.depth (dpP i) = 1 := by simp [dpP, PyData.depth, PyData.depthAll]
        rw [List.map_cons]
        simp only [PyData.depthAll, e]
        omega
    have hd2 := hd ps
    unfold SeqAt.shaped at q
    rw [Bool.and_eq_true] at q
    refine ⟨?_, ?_⟩
    · have q1 := q.1
      simp [PyData.canLay0, PyData.canLayAll0] at q1
      simp [dpItm, PyData.canLay0, PyData.canLayAll0, q1]
    · simp [dpItm, PyData.depth, PyData.depthAll]
      omega
theorem shRows {its : List Itm} (h : ∀ i ∈ its, itmOk i) (hf : ∀ i ∈ its, isForm i = true) : SeqAt.shaped (rowsD its) = true := by
  have h1 : PyData.canLayAll0 (its.map dpItm) = true ∧ PyData.depthAll (its.map dpItm) ≤ 3 := by
    induction its with
    | nil => exact ⟨rfl, Nat.zero_le _⟩
    | cons i l ih =>
      obtain ⟨a, b⟩ := ih (fun j hj => h j (List.mem_cons_of_mem _ hj)) (fun j hj => hf j (List.mem_cons_of_mem _ hj))
      obtain ⟨c, d⟩ := lay_itm (h i (List.mem_cons_self ..)) (hf i (List.mem_cons_self ..))
      refine ⟨?_, ?_⟩
      · simp [PyData.canLayAll0, a, c]
      · rw [List.map_cons]
        simp only [PyData.depthAll]
        omega
  have e : PyData.depthAll (its.map dpItm) + 1 ≤ 64 := by omega
  simp [rowsD, SeqAt.shaped, PyData.canLay0, PyData.depth, h1.1]
  omega
theorem due_forms {its : List Itm} (h : schDue its = none) : checkForms its = none ∧ badSort (its.map kinOf) (sortsOf its) = none := by
  unfold schDue at h
  cases e : checkForms its with
  | some f => rw [e] at h; cases h
  | none =>
    rw [e] at h
    refine ⟨rfl, ?_⟩
    cases e2 : badSort (its.map kinOf) (sortsOf its) with
    | none => rfl
    | some z => dsimp only at h; rw [e2] at h; cases h
def spSchEq (K : PySem.W.Frag) (CF CSc : Addr) : Sp := fun vs H Q _ => ∃ (x : Addr) (xs : List V) (its : List Itm) (rs : List Addr) (y : V), vs = [.ref x, y] ∧ SchAt K CF CSc H x xs its rs ∧
  ((∃ x2 ys jts ss, y = .ref x2 ∧ SchAt K CF CSc H x2 ys jts ss ∧ Q (.bl (PyData.eqv (rowsD its) (rowsD jts))) H) ∨ (∃ t, TyX K H y t ∧ PySem.W.kitOne K t (.ref CSc) = some false ∧ Q (.bl false) H))
theorem scSchEq : FnScope ["self", "other"] ["self", "other"] (defScope sSchEq) := ⟨rfl, rfl, rfl, by decide +kernel, rfl, by decide +kernel, by decide +kernel⟩
theorem ok_schEq {f CS CF CSc : Addr} {fd : FuncData} (F : Fun K "__eq__" "Schema.__eq__" sSchEq f fd) (T : TxtS P K mg CS CF CSc) (SC : SchCls K CSc) (FC : FormCls K CSc) : FnOk P w K mg base CX0 1 f fd ["self", "other"] (spSchEq K CF CSc) := by
  refine F.ok scSchEq (fun vs H Q E h => ?_) (fun cdv A outer s H vs Q E hr h => ?_)
  · obtain ⟨x, xs, its, rs, y, rfl, _⟩ := h
    rfl
  · obtain ⟨x, xs, its, rs, y, rfl, S, k⟩ := h
    refine ⟨_, pss_one (ps_ret (pe_and (pe_callB call_isi (by rfl) T.isi PyProof.Rows.boot_isinstance (pa_cons (pv 1) (pa_cons (pe_glob (v := .ref CSc) rfl T.gS rfl) pa_nil))) (pe_one (pe_cmpR (op_eqD hr.units) (pe_fld (pv 0) rfl) (pe_fld (pv 1) rfl) (nomark _))))), ?_⟩
    rcases k with ⟨x2, ys, jts, ss, rfl, S2, q⟩ | ⟨t, ht, hk, q⟩
    · obtain ⟨dx, fs, a, b, d, p, ts, h1, _, _, _, h5, _, _, _, h9, _, _, h12⟩ := S.ex
      obtain ⟨dy, gs, a2, b2, d2, p2, us, i1, _, _, _, i5, _, _, _, i9, _, _, i12⟩ := S2.ex
      have f1 := (check_none (due_forms S.due).1).1
      have f2 := (check_none (due_forms S2.due).1).1
      refine ⟨_, rfl, _, _, _, _, true, rfl, .own CSc, FC.ty i1, kit_self, _, rfl, ?_⟩
      refine iteT ?_
      exact ⟨_, rfl, x, CSc, dx, fs, _, rfl, h1, SC.cl, SC.n4, h5, _, rfl, x2, CSc, dy, gs, _, rfl, i1, SC.cl, SC.n4, i5, _, _, .tup (SqT.of h9) (dpRows h12), .tup (SqT.of i9) (dpRows i12), shRows S.ok f1, shRows S2.ok f2, q⟩
    · refine ⟨_, rfl, _, _, _, _, false, rfl, .own CSc, ht, hk, _, rfl, ?_⟩
      exact iteF q
def hasV (its : List Itm) : V → Bool
  | .str z => decide (z ∈ namesOf its)
  | _ => false
def spSchHas (K : PySem.W.Frag) (CF CSc : Addr) : Sp := fun vs H Q _ => ∃ (x : Addr) (xs : List V) (its : List Itm) (rs : List Addr) (y : V), vs = [.ref x, y] ∧ SchAt K CF CSc H x xs its rs ∧ ValB K H y ∧ Q (.bl (hasV its y)) H
theorem scSchHas : FnScope ["self", "x"] ["self", "x"] (defScope sSchHas) := ⟨rfl, rfl, rfl, by decide +kernel, rfl, by decide +kernel, by decide +kernel⟩
theorem sch_vals {CF CSc x : Addr} {H : Hp} {xs : List V} {its : List Itm} {rs : List Addr} (S : SchAt K CF CSc H x xs its rs) : (xs ++ rs.map V.ref).length = (namesOf its).length ∧ (namesOf its).Nodup := by
  obtain ⟨dx, fs, a, b, d, p, ts, h1, h2, h3, h4, h5, h6, h7, h8, h9, h10, h11, h12⟩ := S.ex
  obtain ⟨f1, f2, f3, _⟩ := check_none (due_forms S.due).1
  refine ⟨?_, namesOf_nodup f3 f2⟩
  unfold namesOf
  rw [List.length_append, List.length_append, List.length_map, List.length_map, List.length_map, h10.length, h11.length]
theorem ok_schHas {f CS CF CSc : Addr} {fd : FuncData} (F : Fun K "__contains__" "Schema.__contains__" sSchHas f fd) (T : TxtS P K mg CS CF CSc) (gStr : mg "str" = none) (SC : SchCls K CSc) : FnOk P w K mg base CX0 1 f fd ["self", "x"] (spSchHas K CF CSc) := by
  refine F.ok scSchHas (fun vs H Q E h => ?_) (fun cdv A outer s H vs Q E hr h => ?_)
  · obtain ⟨x, xs, its, rs, y, rfl, _⟩ := h
    rfl
  · obtain ⟨x, xs, its, rs, y, rfl, S, hy, q⟩ := h
    have hU := hu_of hr
    refine ⟨_, pss_one (ps_ret (pe_and (pe_callB call_isi (by rfl) T.isi PyProof.Rows.boot_isinstance (pa_cons (pv 1) (pa_cons (pe_bltn (v := .ty "str") rfl gStr PyProof.Rows.boot_str rfl) pa_nil))) (pe_one (pe_cmp (pc_din hU (pv 1) (pe_fld (pv 0) rfl)) rfl)))), ?_⟩
    obtain ⟨dx, fs, a, b, d, p, ts, h1, h2, h3, h4, h5, h6, h7, h8, h9, h10, h11, h12⟩ := S.ex
    obtain ⟨vl, nd⟩ := sch_vals S
    rcases hy with ⟨z, rfl, hz, ho⟩ | ⟨n1, _, t, ht, hk⟩
    · refine ⟨_, rfl, _, _, _, _, true, rfl, .ty "str", .base (.str z), kit_ty (by decide +kernel), _, rfl, ?_⟩
      refine iteT ?_
      refine ⟨_, rfl, _, rfl, x, CSc, dx, fs, _, rfl, h1, SC.cl, SC.n3, h4, d, _, rfl, DGet.k (k := .inr z) h8, ?_⟩
      rw [tab_isSome nd vl]
      exact q
    · refine ⟨_, rfl, _, _, _, _, false, rfl, .ty "str", ht, hk, _, rfl, ?_⟩
      refine iteF ?_
      cases y with
      | str z => exact absurd rfl (n1 z)
      | _ => exact q
end
end K2

namespace K2
open PySem L2 E0
open LamX (ExtN Tabs TabS TabB)
section
variable {P : Program} {w : World} {K : PySem.W.Frag} {mg : Str → Option Value} {base : Heap}
def UnkE (CU : Addr) (E : XK) (H : Hp) (y : V) : Prop := ∀ H' dd, Same H H' → H dd = none → H' dd = some (.xd [("word", y)]) → E (.ref CU) (some dd) H'
def spSchGet (K : PySem.W.Frag) (CU CF CSc : Addr) : Sp := fun vs H Q E => ∃ (x : Addr) (xs : List V) (its : List Itm) (rs : List Addr) (y : V), vs = [.ref x, y] ∧ SchAt K CF CSc H x xs its rs ∧ ValB K H y ∧
  ((∃ z v, y = .str z ∧ valV (tabKV (namesOf its) (xs ++ rs.map V.ref)) (.inr z) = some v ∧ Q v H) ∨ (hasV its y = false ∧ UnkE CU E H y))
theorem scSchGet : FnScope ["self", "at"] ["self", "at"] (defScope sSchGet) := ⟨rfl, rfl, rfl, by decide +kernel, rfl, by decide +kernel, by decide +kernel⟩
theorem ok_schGet {f CS CU CF CSc : Addr} {fd : FuncData} (F : Fun K "__getitem__" "Schema.__getitem__" sSchGet f fd) (T : TxtS P K mg CS CF CSc) (TU : ErrU P K mg CU) (gStr : mg "str" = none) (SC : SchCls K CSc) : FnOk P w K mg base (L2.CX P w) 3 f fd ["self", "at"] (spSchGet K CU CF CSc) := by
  refine F.okX scSchGet (fun vs H Q E h => ?_) (fun cdv A outer s H vs Q E hr h => ?_)
  · obtain ⟨x, xs, its, rs, y, rfl, _⟩ := h
    rfl
  · obtain ⟨x, xs, its, rs, y, rfl, S, hy, q⟩ := h
    have hU := hu_of hr
    have tkE : Takes (cxOf (L2.CX P w) P w K mg base ["self", "at"] "Schema.__getitem__" (defScope sSchGet) f cdv A outer s H E) (fun cls dd _ H => E cls dd H) := takes_of rfl rfl rfl rfl
    refine ⟨_, pss_cons (ps_if (PW.pt (pw_or (pt_not (pt_val (pe_callB call_isi (by rfl) T.isi PyProof.Rows.boot_isinstance (pa_cons (pv 1) (pa_cons (pe_bltn (v := .ty "str") rfl gStr PyProof.Rows.boot_str rfl) pa_nil))))) (pw_or1 (pt_cmp (pc_dnotin hU (pv 1) (pe_fld (pv 0) rfl))))))
        (pss_one (ps_raise rfl tkE (pmk_unk TU hr rfl (pv 1)))) pss_nil)
      (pss_one (ps_ret (pe_dget hU (pe_fld (pv 0) rfl) (pv 1) (fun _ _ => rfl)))), ?_⟩
    obtain ⟨dx, fs, a, b, d, p, ts, h1, h2, h3, h4, h5, h6, h7, h8, h9, h10, h11, h12⟩ := S.ex
    obtain ⟨vl, nd⟩ := sch_vals S
    have raise_ : hasV its y = false → ∀ dd, H dd = none → E (.ref CU) (some dd) (upd H dd (.xd [("word", y)])) := fun hv dd hdd => by
      rcases q with ⟨z, v, rfl, hz, _⟩ | ⟨_, k⟩
      · exfalso
        have e := tab_isSome (z := z) nd vl
        rw [hz] at e
        have e2 : hasV its (.str z) = true := e.symm
        rw [e2] at hv
        cases hv
      · exact k _ dd (same_upd (Same.refl H) hdd) hdd upd_same
    rcases hy with ⟨z, rfl, hz, ho⟩ | ⟨n1, _, t, ht, hk⟩
    · refine ⟨_, rfl, _, _, _, _, true, rfl, .ty "str", .base (.str z), kit_ty (by decide +kernel), _, rfl, ?_⟩
      refine iteF ?_
      refine ⟨_, rfl, _, rfl, x, CSc, dx, fs, _, rfl, h1, SC.cl, SC.n3, h4, d, _, rfl, DGet.k (k := .inr z) h8, _, rfl, ?_⟩
      rw [tab_isSome nd vl]
      cases e : decide (z ∈ namesOf its) with
      | false =>
        refine iteT ?_
        refine ⟨_, rfl, ?_⟩
        exact unk_ans (C := CU) (v := .str z) (raise_ (by show decide (z ∈ namesOf its) = false; exact e))
      | true =>
        refine iteF ?_
        refine ⟨_, rfl, x, CSc, dx, fs, _, rfl, h1, SC.cl, SC.n3, h4, _, rfl, d, ?_⟩
        rcases q with ⟨z', v, e', hz', q⟩ | ⟨hv, _⟩
        · cases e'
          exact ⟨v, rfl, dg (k := .inr z) h8 hz', q⟩
        · exfalso
          have hv' : decide (z ∈ namesOf its) = false := hv
          rw [e] at hv'
          cases hv'
    · refine ⟨_, rfl, _, _, _, _, false, rfl, .ty "str", ht, hk, _, rfl, ?_⟩
      refine iteT (iteT ?_)
      refine ⟨_, rfl, ?_⟩
      refine unk_ans (C := CU) (v := y) (raise_ ?_)
      cases y with
      | str z => exact absurd rfl (n1 z)
      | _ => rfl
end
/-! ### it stands while tables of code grow -/
theorem SlotTup.ext {H H' : Hp} {p : Addr} {kvs : List (Key × V)} (h : SlotTup H p kvs) (e : ExtN H H') : SlotTup H' p kvs := by
  obtain ⟨ts, e1, e2⟩ := h
  exact ⟨ts, e _ _ e1 fun _ => nofun, Paired.mapP e2 fun t q z => e _ _ z fun _ => nofun⟩
theorem FormAt.ext {CF y : Addr} {H H' : Hp} {n s : V} {kvs : List (Key × V)} (h : FormAt CF H y n s kvs) (e : ExtN H H') : FormAt CF H' y n s kvs := by
  obtain ⟨dx, p, fs, a, b, c, d, st⟩ := h.ex
  exact ⟨dx, p, fs, e _ _ a fun _ => nofun, b, c, d, st.ext e⟩
theorem ItmAt.ext {K : PySem.W.Frag} {CF : Addr} {H H' : Hp} {v : V} : ∀ {i : Itm}, ItmAt K CF H v i → ExtN H H' → ItmAt K CF H' v i
  | .form _ _ _, ⟨x, e, f⟩, s => ⟨x, e, f.ext s⟩
  | .odd, ⟨h1, t, h2, h3⟩, s => ⟨fun a e => let ⟨o, q, n⟩ := h1 a e; ⟨o, s _ _ q n, n⟩, t, TyX.keep h2 fun a o e q => by
      obtain ⟨o', q', n⟩ := h1 a e
      rw [q] at q'
      cases q'
      exact s _ _ q n, h3⟩
theorem items_ext {K : PySem.W.Frag} {CF : Addr} {H H' : Hp} {xs : List V} {its : List Itm} (p : Paired (ItmAt K CF H) xs its) (s : ExtN H H') : Paired (ItmAt K CF H') xs its := Paired.mapP p fun _ _ h => h.ext s
theorem SchAt.ext {K : PySem.W.Frag} {CF CSc x : Addr} {H H' : Hp} {xs : List V} {its : List Itm} {rs : List Addr} (S : SchAt K CF CSc H x xs its rs) (e : ExtN H H') : SchAt K CF CSc H' x xs its rs := by
  obtain ⟨dx, fs, a, b, d, p, ts, h1, h2, h3, h4, h5, h6, h7, h8, h9, h10, h11, h12⟩ := S.ex
  refine ⟨⟨dx, fs, a, b, d, p, ts, e _ _ h1 fun _ => nofun, h2, h3, h4, h5, e _ _ h6 fun _ => nofun, e _ _ h7 fun _ => nofun, e _ _ h8 fun _ => nofun, e _ _ h9 fun _ => nofun, items_ext h10 e, Paired.mapP h11 fun r z q => FormAt.ext q e, Paired.mapP h12 fun t i q => ?_⟩, S.due, S.ok⟩
  cases i with
  | odd => exact q
  | form n s ps =>
    obtain ⟨q2, e1, e2⟩ := q
    exact ⟨q2, e _ _ e1 fun _ => nofun, e2.ext e⟩
theorem SchAt.same {K : PySem.W.Frag} {CF CSc x : Addr} {H H' : Hp} {xs : List V} {its : List Itm} {rs : List Addr} (S : SchAt K CF CSc H x xs its rs) (e : Same H H') : SchAt K CF CSc H' x xs its rs := S.ext (ExtN.of e)
end K2

namespace K2
open PySem L2
section
variable {P : Program} {w : World} {K : PySem.W.Frag} {mg : Str → Option Value} {base : Heap}
open PySem.W PySem.Calls in
/-- the __init__ of such a class, as the text has it: super().__init__('..'); self.fld = part -/
theorem ok_planErrInit {C fI cda cc : Addr} (T : ErrC P K mg C fI cda cc "part" "InvalidPlan.__init__" sPlanErr)
    {kV doc pm ct oc : Value} {od an : Option Addr} {osl : Array (Option Value)}
    (lk : K.lookup fI = some ⟨oc, od, .func (PySem.W.ksFn "__init__" "InvalidPlan.__init__" (defArgs sPlanErr) (defBody sPlanErr) (defScope sPlanErr) .none kV doc pm an (.ref cda) ct cc), osl⟩) :
    FnOk P w K mg base (L2.CX P w) 1 fI (PySem.W.ksFn "__init__" "InvalidPlan.__init__" (defArgs sPlanErr) (defBody sPlanErr) (defScope sPlanErr) .none kV doc pm an (.ref cda) ct cc) ["self", "part"] (spErr C "part") := by
  refine ⟨fun vs H Q E h => ?_, fun A outer s H args us vs Q E hr e0 hbd r h => ?_⟩
  · obtain ⟨a, y, rfl, _⟩ := h
    rfl
  · obtain ⟨a, y, rfl, ha, k⟩ := h
    obtain ⟨u0, u, rfl, r1, r2⟩ := vals2 r
    obtain rfl : u0 = Value.ref a := r1
    have KX : K.In s.heap := e0.mod.kin.keeps fun b o e => (e0.bs b o e).1
    have lim : s.heap.NoLimit := e0.mod.nolimit.keeps fun b o e => (e0.bs b o e).1
    obtain ⟨t1, hx⟩ := exo_at e0.hok ha
    obtain ⟨nm, q, N, bs, bm, sn, sub, ab, col, dd, k0, k1, k2, k3, k5, hC, hbm⟩ := T.ox.cls
    have hcl : clsIn K C = some { name := nm, bases := bs, mro := .ref C :: bm, ns := N, qualname := q, hasDict := true, slotNames := sn, subclasses := sub, abstract := ab, collection := col, hasDel := false } := by unfold clsIn; rw [hC] <;> rfl
    have hal := T.al _ hcl
    obtain ⟨ccl, cdd, cvs, ccs, file, tf, hcda, hvs, hfile⟩ := T.cod
    obtain ⟨cl, cld, csl, hcel⟩ := T.cel
    refine ks_codeAny_call_defAt (fd := ksFn "__init__" "InvalidPlan.__init__" (defArgs sPlanErr) (defBody sPlanErr) (defScope sPlanErr) .none kV doc pm an (.ref cda) ct cc) (body := defBody sPlanErr) hr.depth (KX _ _ lk) rfl lim (codeRec_of KX T.cd) rfl hbd (show ∀ x ∈ (defScope sPlanErr).names, x.2 ≠ .cell by decide +kernel) ?_ (fun h0 hns hk => ?_)
    · intro z hz
      rcases List.mem_cons.mp hz with e | hz
      · rw [e]; rfl
      · rcases List.mem_cons.mp hz with e | hz
        · rw [e]; rfl
        · cases hz
    · generalize eL : s.heap.objs.size = L at hns
      rw [show (callEnv (ksFn "__init__" "InvalidPlan.__init__" (defArgs sPlanErr) (defBody sPlanErr) (defScope sPlanErr) .none kV doc pm an (.ref cda) ct cc) L fI) = ksEnv "InvalidPlan.__init__" (defScope sPlanErr) L fI (.ref cda) cc from rfl]
      have up : ∀ {b o}, K.lookup b = some o → h0.get? b = some o := fun {b o} e => hk b o (KX b o e)
      have KX0 : K.In h0 := fun b o e => up e
      have hx0 := hk _ _ hx
      obtain ⟨mb, hmb, hbl⟩ := e0.mod.blt
      have hbk : ∀ b o, base.get? b = some o → h0.get? b = some o := fun b o e => hk b o (e0.bs b o e).1
      refine ks_wpAt_execs_cons (ks_wpAt_Expr_any (ks_wpAt_MethodCall (ks_wpAt_super_base (fd := ksFn "__init__" "InvalidPlan.__init__" (defArgs sPlanErr) (defBody sPlanErr) (defScope sPlanErr) .none kV doc pm an (.ref cda) ct cc) rfl rfl (by decide +kernel) rfl (up lk) rfl rfl rfl (up hcda) rfl hvs hfile T.top ?_)))
      refine ks_loadName_global rfl rfl (loadGlobal_builtin (env := ksEnv "InvalidPlan.__init__" (defScope sPlanErr) L fI (.ref cda) cc) (e0.mod.glob.keeps hbk) (mg_none_of e0.mod.kin e0.mod.glob T.sup) (hmb.keeps hbk) ((hbl _ (by decide +kernel)).trans PyProof.Rows.Boot.«super») ⟨rfl, ?_⟩)
      refine wpAny_loadName_free rfl rfl rfl ⟨_, up hcel, rfl⟩ ?_
      refine wpAny_loadName_local rfl rfl hns rfl ?_
      refine ks_wpAny_isType_cls (up hC) rfl ⟨rfl, ?_⟩
      refine ks_wpAny_call_super (up hC) rfl hx0 rfl (fun c e => by cases e) (looks_mroIn KX0 T.mr) (fun h1 so1 up1 => ?_)
      have KX1 : K.In h1 := fun b o e => up1 _ _ (up e)
      have hI1 : InstAt h1 a { cls := Value.ref C, data := Data.fields #[Value.ref t1, Value.none, Value.none, Value.none, Value.bool false, Value.none] } C none := ⟨up1 _ _ hx0, rfl, rfl, trivial⟩
      refine kxs_getMethod kxs_ValueError so1 (looks_opaque KX1 T.opq) (fun A Q E s k q => wpAny_bind ((looks_clsIn KX1 hcl) A _ E s k (wpAny_pure q))) rfl KX1 hal (hI1.type.andThen (looks_subIn KX1 T.ve)) (ks_ne KX1 hI1 hcl) (by decide +kernel) ?_
      generalize hu : h1.objs.size = z
      have lt1 : ∀ {b o}, h1.get? b = some o → b ≠ z := fun {b o} e q => by
        have w1 := Heap.lt_size e
        rw [q, ← hu] at w1
        exact Nat.lt_irrefl _ w1
      have up2 : ∀ b o, h1.get? b = some o → (h1.push (kxs_mw "ValueError.__init__" a)).get? b = some o := fun b o e => Heap.get?_push_of_some _ e
      have hmw : (h1.push (kxs_mw "ValueError.__init__" a)).get? z = some (kxs_mw "ValueError.__init__" a) := by
        rw [← hu]
        exact Heap.get?_push_size _ rfl
      generalize h1.push (kxs_mw "ValueError.__init__" a) = h2 at up2 hmw
      have all2 : ∀ b o, h0.get? b = some o → h2.get? b = some o := fun b o e => up2 b o (up1 b o e)
      refine kxs_callWith (i := "ValueError.__init__") (u := z) (x := a) (by rfl) (evalArgs_plain ?_)
      refine Calls.spliced_cons ?_
      refine Calls.Constant_str (pos := ⟨7, 25, 7, 39⟩) (k := 0) ?_
      refine Calls.spliced_nil ⟨hmw, ?_⟩
      have hbn : ∀ {b o}, h0.get? b = some o → H b ≠ none ∨ b = L → base.get? b = none := fun {b o} _ q => by
        cases e : base.get? b with
        | none => rfl
        | some v =>
          have w1 := e0.bs b v e
          rcases q with q | q
          · exact absurd w1.2 q
          · have w2 := Heap.lt_size w1.1
            rw [q, ← eL] at w2
            exact absurd w2 (Nat.lt_irrefl _)
      have aL : a ≠ L := fun q => by
        have w2 := Heap.lt_size hx
        rw [q, ← eL] at w2
        exact Nat.lt_irrefl _ w2
      have ba : base.get? a = none := hbn hx0 (.inl (by rw [ha]; exact fun q => nomatch q))
      have bz : base.get? z = none := by
        cases e : base.get? z with
        | none => rfl
        | some v => exact absurd rfl (lt1 (up1 _ _ (hbk _ _ e)))
      obtain ⟨oL, eL1, eL2, hoL, rL⟩ := id hns
      have F2 : PyProof.Rows.Fr base L h2 (fun x => List.lookup x ([("self" : Str), "part"].zip [Value.ref a, u]).reverse) := ⟨⟨oL, eL1, eL2, all2 _ _ hoL, rL⟩, fun b o e => all2 b o (hbk b o e), by rw [← eL]; exact e0.bsz⟩
      have za : z ≠ a := fun q => lt1 (up1 _ _ hx0) q.symm
      have zL : z ≠ L := fun q => lt1 (up1 _ _ hoL) q.symm
      refine kxs_call (t := t1) (dv := none) (c2 := .none) (s := ⟨h2, _, _, _, _⟩) F2 e0.mod.kin (news_at aL ba (all2 _ _ hx0)) F.excBase_ValueError T.ei (List.mem_cons_of_mem _ (mem_rest zL bz hmw za)) (.head rest_ne) (by show 1 ≤ sizeLine; decide) (fun t3 h3 F3 N3 _ => ?_)
      have k3 : ∀ b o, b ≠ L → b ≠ a → h2.get? b = some o → h3.get? b = some o := kept_of_news (fun b o e => all2 b o (hbk b o e)) F3 (fun p hp => N3 p (List.mem_cons_of_mem _ (List.mem_cons_of_mem _ hp)))
      have hx3 : h3.get? a = some ({ cls := .ref C, dict := none, data := .fields #[.ref t3, .none, .none, .none, .bool false, .none] } : Obj) := (N3 _ (List.mem_cons_of_mem _ (List.mem_cons_self ..))).1
      have all3 : ∀ b o, b ≠ a → s.heap.get? b = some o → h3.get? b = some o := fun b o hb e => k3 b o (fun q => by
        have w2 := Heap.lt_size e
        rw [q, ← eL] at w2
        exact Nat.lt_irrefl _ w2) hb (all2 b o (hk b o e))
      have KX3 : K.In h3 := e0.mod.kin.keeps F3.keep
      show wpAt _ _ _ (execs _ _) _ _ _
      refine ks_wpAt_execs_cons (ks_wpAt_Assign_Attr (wpAt_of_wpAny ?_))
      refine wpAny_Name (wpAny_loadName_local rfl rfl F3.ns rfl ?_) (by decide)
      refine wpAny_Name (wpAny_loadName_local rfl rfl F3.ns rfl ?_) (by decide)
      refine set_plain KX3 (ox := { cls := .ref C, dict := none, data := .fields #[.ref t3, .none, .none, .none, .bool false, .none] }) (od := none) ⟨hx3, rfl, rfl, trivial⟩ T.ox.sa ?_
      refine HandSPX.exc_osa KX3 hx3 hcl (show HandSPX.refsVE (.ref C :: bm) = true from hbm) rfl T.nf (fun hF tkF dx kF dn dne hxF hnF => ?_)
      have Ldx : s.heap.objs.size ≤ dx := by
        obtain ⟨o3, _, _, e3, _⟩ := F3.ns
        have w2 := Heap.lt_size e3
        rw [eL]
        exact Nat.le_trans (Nat.le_of_lt w2) dn
      have Hdx : H dx = none := e0.hok.fresh Ldx
      have keepF : ∀ b o, b ≠ a → s.heap.get? b = some o → hF.get? b = some o := fun b o nb e => kF b o nb (all3 b o nb e)
      have na : ∀ {b : Addr}, H b = none → b ≠ a := fun {b} n q => by
        rw [q, ha] at n
        cases n
      have nd : ∀ {b : Addr} {o : Obj}, s.heap.get? b = some o → b ≠ dx := fun {b o} e q => by
        have w2 := Heap.lt_size e
        rw [q] at w2
        exact absurd (Nat.lt_of_lt_of_le w2 Ldx) (Nat.lt_irrefl _)
      have same : ∀ b o, H b = some o → o ≠ exo a C none → (upd (upd H dx (exd dx [("part", y)])) a (exo a C (some dx))) b = some o := fun b o e ne => by
        rw [upd_ne (fun q => ne (by rw [q, ha] at e; exact (Option.some.inj e).symm)), upd_ne (ne_of_none e Hdx)]
        exact e
      have un : Un (frs outer) [] H (upd (upd H dx (exd dx [("part", y)])) a (exo a C (some dx))) s.heap hF := {
        keep := fun b o e n _ _ => keepF b o (na n) e
        slot := fun b o e n _ _ => ⟨o.slots, keepF b o (na n) e⟩
        free := fun b o e n _ => by
          rw [upd_ne (na n), upd_ne (nd e)]
          exact n
        there := fun b o e _ => by
          by_cases q : b = a
          · rw [q]
            exact ⟨_, hxF⟩
          · exact ⟨o, keepF b o q e⟩
        tups := fun b xs e => same b _ e (fun q => exo_tup q.symm)
        frzs := fun b o v e => same b _ e (fun q => exo_frz q.symm)
        tbls := fun b ps e => ⟨#[], by rw [same b _ e (fun q => exo_tbl q.symm)]; simp⟩ }
      have okF : HOk P w (upd (upd H dx (exd dx [("part", y)])) a (exo a C (some dx))) hF := fun b o e => by
        by_cases q : b = a
        · subst q
          rw [upd_same] at e
          cases e
          exact exo_ok hxF
        · rw [upd_ne q] at e
          by_cases q2 : b = dx
          · subst q2
            rw [upd_same] at e
            cases e
            exact exd_ok hnF (relO_put (fs := []) r2 fun g => True.intro)
          · rw [upd_ne q2] at e
            exact (e0.hok b o e).stay (fun c v hc z => keepF c v (by
                rcases hc with hc | hc
                · rw [hc]
                  exact q
                · exact at_ne ha hc exo_own) z) (fun c hc => same c _ hc (fun q => exo_own q.symm)) (fun c xs hc => same c _ hc (fun q => exo_tup q.symm))
      show wpAt _ _ _ (execs [] _) _ _ _
      refine wpAt_of_wpAny (wpAny_pure ?_)
      exact ⟨.non, _, rfl, e0.bare, un, okF, rfl, k dx Hdx dne⟩
end
end K2

namespace K2
open PySem L2
section
variable {P : Program} {w : World} {K : PySem.W.Frag} {mg : Str → Option Value} {base : Heap}
open PySem.W PySem.Calls in
/-- the __init__ of such a class, as the text has it: super().__init__('..'); self.fld = part -/
theorem ok_flowErrInit {dV : Value} {C fI cda cc : Addr} (T : ErrC2 P K mg C fI cda cc "fault" "word" "InvalidFlow.__init__" sFlowErr dV)
    {kV doc pm ct oc : Value} {od an : Option Addr} {osl : Array (Option Value)}
    (lk : K.lookup fI = some ⟨oc, od, .func (PySem.W.ksFn "__init__" "InvalidFlow.__init__" (defArgs sFlowErr) (defBody sFlowErr) (defScope sFlowErr) dV kV doc pm an (.ref cda) ct cc), osl⟩) :
    FnOk P w K mg base (L2.CX P w) 1 fI (PySem.W.ksFn "__init__" "InvalidFlow.__init__" (defArgs sFlowErr) (defBody sFlowErr) (defScope sFlowErr) dV kV doc pm an (.ref cda) ct cc) ["self", "fault", "word"] (spErr2 C "fault" "word") := by
  refine ⟨fun vs H Q E h => ?_, fun A outer s H args us vs Q E hr e0 hbd r h => ?_⟩
  · obtain ⟨a, y, y2, rfl, _⟩ := h
    rfl
  · obtain ⟨a, y, y2, rfl, ha, k⟩ := h
    obtain ⟨u0, u, u2, rfl, r1, r2, r3⟩ : ∃ u0 u1 u2, us = [u0, u1, u2] ∧ RelV (.ref a) u0 ∧ RelV y u1 ∧ RelV y2 u2 := by
      cases r with
      | cons a1 t => cases t with
        | cons a2 t => cases t with
          | cons a3 t => cases t; exact ⟨_, _, _, rfl, a1, a2, a3⟩
    obtain rfl : u0 = Value.ref a := r1
    have KX : K.In s.heap := e0.mod.kin.keeps fun b o e => (e0.bs b o e).1
    have lim : s.heap.NoLimit := e0.mod.nolimit.keeps fun b o e => (e0.bs b o e).1
    obtain ⟨t1, hx⟩ := exo_at e0.hok ha
    obtain ⟨nm, q, N, bs, bm, sn, sub, ab, col, dd, k0, k1, k2, k3, k5, hC, hbm⟩ := T.ox.cls
    have hcl : clsIn K C = some { name := nm, bases := bs, mro := .ref C :: bm, ns := N, qualname := q, hasDict := true, slotNames := sn, subclasses := sub, abstract := ab, collection := col, hasDel := false } := by unfold clsIn; rw [hC] <;> rfl
    have hal := T.al _ hcl
    obtain ⟨ccl, cdd, cvs, ccs, file, tf, hcda, hvs, hfile⟩ := T.cod
    obtain ⟨cl, cld, csl, hcel⟩ := T.cel
    refine ks_codeAny_call_defAt (fd := ksFn "__init__" "InvalidFlow.__init__" (defArgs sFlowErr) (defBody sFlowErr) (defScope sFlowErr) dV kV doc pm an (.ref cda) ct cc) (body := defBody sFlowErr) hr.depth (KX _ _ lk) rfl lim (codeRec_of KX T.cd) rfl hbd (show ∀ x ∈ (defScope sFlowErr).names, x.2 ≠ .cell by decide +kernel) ?_ (fun h0 hns hk => ?_)
    · intro z hz
      rcases List.mem_cons.mp hz with e | hz
      · rw [e]; rfl
      · rcases List.mem_cons.mp hz with e | hz
        · rw [e]; rfl
        · rcases List.mem_cons.mp hz with e | hz
          · rw [e]; rfl
          · cases hz
    · generalize eL : s.heap.objs.size = L at hns
      rw [show (callEnv (ksFn "__init__" "InvalidFlow.__init__" (defArgs sFlowErr) (defBody sFlowErr) (defScope sFlowErr) dV kV doc pm an (.ref cda) ct cc) L fI) = ksEnv "InvalidFlow.__init__" (defScope sFlowErr) L fI (.ref cda) cc from rfl]
      have up : ∀ {b o}, K.lookup b = some o → h0.get? b = some o := fun {b o} e => hk b o (KX b o e)
      have KX0 : K.In h0 := fun b o e => up e
      have hx0 := hk _ _ hx
      obtain ⟨mb, hmb, hbl⟩ := e0.mod.blt
      have hbk : ∀ b o, base.get? b = some o → h0.get? b = some o := fun b o e => hk b o (e0.bs b o e).1
      refine ks_wpAt_execs_cons (ks_wpAt_Expr_any (ks_wpAt_MethodCall (ks_wpAt_super_base (fd := ksFn "__init__" "InvalidFlow.__init__" (defArgs sFlowErr) (defBody sFlowErr) (defScope sFlowErr) dV kV doc pm an (.ref cda) ct cc) rfl rfl (by decide +kernel) rfl (up lk) rfl rfl rfl (up hcda) rfl hvs hfile T.top ?_)))
      refine ks_loadName_global rfl rfl (loadGlobal_builtin (env := ksEnv "InvalidFlow.__init__" (defScope sFlowErr) L fI (.ref cda) cc) (e0.mod.glob.keeps hbk) (mg_none_of e0.mod.kin e0.mod.glob T.sup) (hmb.keeps hbk) ((hbl _ (by decide +kernel)).trans PyProof.Rows.Boot.«super») ⟨rfl, ?_⟩)
      refine wpAny_loadName_free rfl rfl rfl ⟨_, up hcel, rfl⟩ ?_
      refine wpAny_loadName_local rfl rfl hns rfl ?_
      refine ks_wpAny_isType_cls (up hC) rfl ⟨rfl, ?_⟩
      refine ks_wpAny_call_super (up hC) rfl hx0 rfl (fun c e => by cases e) (looks_mroIn KX0 T.mr) (fun h1 so1 up1 => ?_)
      have KX1 : K.In h1 := fun b o e => up1 _ _ (up e)
      have hI1 : InstAt h1 a { cls := Value.ref C, data := Data.fields #[Value.ref t1, Value.none, Value.none, Value.none, Value.bool false, Value.none] } C none := ⟨up1 _ _ hx0, rfl, rfl, trivial⟩
      refine kxs_getMethod kxs_ValueError so1 (looks_opaque KX1 T.opq) (fun A Q E s k q => wpAny_bind ((looks_clsIn KX1 hcl) A _ E s k (wpAny_pure q))) rfl KX1 hal (hI1.type.andThen (looks_subIn KX1 T.ve)) (ks_ne KX1 hI1 hcl) (by decide +kernel) ?_
      generalize hu : h1.objs.size = z
      have lt1 : ∀ {b o}, h1.get? b = some o → b ≠ z := fun {b o} e q => by
        have w1 := Heap.lt_size e
        rw [q, ← hu] at w1
        exact Nat.lt_irrefl _ w1
      have up2 : ∀ b o, h1.get? b = some o → (h1.push (kxs_mw "ValueError.__init__" a)).get? b = some o := fun b o e => Heap.get?_push_of_some _ e
      have hmw : (h1.push (kxs_mw "ValueError.__init__" a)).get? z = some (kxs_mw "ValueError.__init__" a) := by
        rw [← hu]
        exact Heap.get?_push_size _ rfl
      generalize h1.push (kxs_mw "ValueError.__init__" a) = h2 at up2 hmw
      have all2 : ∀ b o, h0.get? b = some o → h2.get? b = some o := fun b o e => up2 b o (up1 b o e)
      refine kxs_callWith (i := "ValueError.__init__") (u := z) (x := a) (by rfl) (evalArgs_plain ?_)
      refine Calls.spliced_cons ?_
      refine Calls.Constant_str (pos := ⟨12, 25, 12, 41⟩) (k := 0) ?_
      refine Calls.spliced_nil ⟨hmw, ?_⟩
      have hbn : ∀ {b o}, h0.get? b = some o → H b ≠ none ∨ b = L → base.get? b = none := fun {b o} _ q => by
        cases e : base.get? b with
        | none => rfl
        | some v =>
          have w1 := e0.bs b v e
          rcases q with q | q
          · exact absurd w1.2 q
          · have w2 := Heap.lt_size w1.1
            rw [q, ← eL] at w2
            exact absurd w2 (Nat.lt_irrefl _)
      have aL : a ≠ L := fun q => by
        have w2 := Heap.lt_size hx
        rw [q, ← eL] at w2
        exact Nat.lt_irrefl _ w2
      have ba : base.get? a = none := hbn hx0 (.inl (by rw [ha]; exact fun q => nomatch q))
      have bz : base.get? z = none := by
        cases e : base.get? z with
        | none => rfl
        | some v => exact absurd rfl (lt1 (up1 _ _ (hbk _ _ e)))
      obtain ⟨oL, eL1, eL2, hoL, rL⟩ := id hns
      have F2 : PyProof.Rows.Fr base L h2 (fun x => List.lookup x ([("self" : Str), "fault", "word"].zip [Value.ref a, u, u2]).reverse) := ⟨⟨oL, eL1, eL2, all2 _ _ hoL, rL⟩, fun b o e => all2 b o (hbk b o e), by rw [← eL]; exact e0.bsz⟩
      have za : z ≠ a := fun q => lt1 (up1 _ _ hx0) q.symm
      have zL : z ≠ L := fun q => lt1 (up1 _ _ hoL) q.symm
      refine kxs_call (t := t1) (dv := none) (c2 := .none) (s := ⟨h2, _, _, _, _⟩) F2 e0.mod.kin (news_at aL ba (all2 _ _ hx0)) F.excBase_ValueError T.ei (List.mem_cons_of_mem _ (mem_rest zL bz hmw za)) (.head rest_ne) (by show 1 ≤ sizeLine; decide) (fun t3 h3 F3 N3 _ => ?_)
      have k3 : ∀ b o, b ≠ L → b ≠ a → h2.get? b = some o → h3.get? b = some o := kept_of_news (fun b o e => all2 b o (hbk b o e)) F3 (fun p hp => N3 p (List.mem_cons_of_mem _ (List.mem_cons_of_mem _ hp)))
      have hx3 : h3.get? a = some ({ cls := .ref C, dict := none, data := .fields #[.ref t3, .none, .none, .none, .bool false, .none] } : Obj) := (N3 _ (List.mem_cons_of_mem _ (List.mem_cons_self ..))).1
      have all3 : ∀ b o, b ≠ a → s.heap.get? b = some o → h3.get? b = some o := fun b o hb e => k3 b o (fun q => by
        have w2 := Heap.lt_size e
        rw [q, ← eL] at w2
        exact Nat.lt_irrefl _ w2) hb (all2 b o (hk b o e))
      have KX3 : K.In h3 := e0.mod.kin.keeps F3.keep
      show wpAt _ _ _ (execs _ _) _ _ _
      refine ks_wpAt_execs_cons (ks_wpAt_Assign_Attr (wpAt_of_wpAny ?_))
      refine wpAny_Name (wpAny_loadName_local rfl rfl F3.ns rfl ?_) (by decide)
      refine wpAny_Name (wpAny_loadName_local rfl rfl F3.ns rfl ?_) (by decide)
      refine set_plain KX3 (ox := { cls := .ref C, dict := none, data := .fields #[.ref t3, .none, .none, .none, .bool false, .none] }) (od := none) ⟨hx3, rfl, rfl, trivial⟩ T.ox.sa ?_
      refine HandSPX.exc_osa KX3 hx3 hcl (show HandSPX.refsVE (.ref C :: bm) = true from hbm) rfl T.nf (fun hF0 tkF0 dx kF0 dn dne hxF0 hnF0 => ?_)
      have Ldx : s.heap.objs.size ≤ dx := by
        obtain ⟨o3, _, _, e3, _⟩ := F3.ns
        have w2 := Heap.lt_size e3
        rw [eL]
        exact Nat.le_trans (Nat.le_of_lt w2) dn
      have Hdx : H dx = none := e0.hok.fresh Ldx
      obtain ⟨oL3, eL3, eL4, hoL3, rL3⟩ := F3.ns
      have nsF : hF0.Ns L (fun x => List.lookup x ([("self" : Str), "fault", "word"].zip [Value.ref a, u, u2]).reverse) := ⟨oL3, eL3, eL4, kF0 _ _ aL.symm hoL3, rL3⟩
      have KXF : K.In hF0 := fun b o e => kF0 b o (fun q => by
        have w1 := e0.mod.kin b o e
        rw [q, ba] at w1
        cases w1) (KX3 b o e)
      show wpAt _ _ _ (execs _ _) _ _ _
      refine ks_wpAt_execs_cons (ks_wpAt_Assign_Attr (wpAt_of_wpAny ?_))
      refine wpAny_Name (wpAny_loadName_local rfl rfl nsF rfl ?_) (by decide)
      refine wpAny_Name (wpAny_loadName_local rfl rfl nsF rfl ?_) (by decide)
      have wi0 : Within (fun z => if z = ("fault" : Str) then some u else none) ["fault"] := fun z hz => by
        by_cases q : z = "fault"
        · rw [q]; exact List.mem_cons_self ..
        · dsimp only at hz
          rw [if_neg q] at hz
          exact absurd hz (by simp)
      obtain ⟨oD, _, _, hoD, _, _⟩ := hnF0.count wi0
      refine set_plain KXF (ox := { cls := .ref C, dict := some dx, data := .fields #[.ref t3, .none, .none, .none, .bool false, .none] }) (od := some oD) ⟨hxF0, rfl, rfl, hoD⟩ T.ox.sa ?_
      refine PySem.OEX.osa_old KXF hxF0 hnF0 wi0 (by decide) hcl (show HandSPX.refsVE (.ref C :: bm) = true from hbm) rfl T.nf2 (fun hF tkF kG hnF => ?_)
      have hxF := kG a _ dne.symm hxF0
      have na : ∀ {b : Addr}, H b = none → b ≠ a := fun {b} n q => by
        rw [q, ha] at n
        cases n
      have nd : ∀ {b : Addr} {o : Obj}, s.heap.get? b = some o → b ≠ dx := fun {b} {o} e q => by
        have w2 := Heap.lt_size e
        rw [q] at w2
        exact absurd (Nat.lt_of_lt_of_le w2 Ldx) (Nat.lt_irrefl _)
      have keepF : ∀ b o, b ≠ a → s.heap.get? b = some o → hF.get? b = some o := fun b o nb e => kG b o (nd e) (kF0 b o nb (all3 b o nb e))
      have same : ∀ b o, H b = some o → o ≠ exo a C none → (upd (upd H dx (exd dx [("word", y2), ("fault", y)])) a (exo a C (some dx))) b = some o := fun b o e ne => by
        rw [upd_ne (fun q => ne (by rw [q, ha] at e; exact (Option.some.inj e).symm)), upd_ne (ne_of_none e Hdx)]
        exact e
      have un : Un (frs outer) [] H (upd (upd H dx (exd dx [("word", y2), ("fault", y)])) a (exo a C (some dx))) s.heap hF := {
        keep := fun b o e n _ _ => keepF b o (na n) e
        slot := fun b o e n _ _ => ⟨o.slots, keepF b o (na n) e⟩
        free := fun b o e n _ => by
          rw [upd_ne (na n), upd_ne (nd e)]
          exact n
        there := fun b o e _ => by
          by_cases q : b = a
          · rw [q]
            exact ⟨_, hxF⟩
          · exact ⟨o, keepF b o q e⟩
        tups := fun b xs e => same b _ e (fun q => exo_tup q.symm)
        frzs := fun b o v e => same b _ e (fun q => exo_frz q.symm)
        tbls := fun b ps e => ⟨#[], by rw [same b _ e (fun q => exo_tbl q.symm)]; simp⟩ }
      have okF : HOk P w (upd (upd H dx (exd dx [("word", y2), ("fault", y)])) a (exo a C (some dx))) hF := fun b o e => by
        by_cases q : b = a
        · subst q
          rw [upd_same] at e
          cases e
          exact exo_ok hxF
        · rw [upd_ne q] at e
          by_cases q2 : b = dx
          · subst q2
            rw [upd_same] at e
            cases e
            exact exd_ok hnF (relO_put r3 (relO_put (fs := []) r2 fun g => True.intro))
          · rw [upd_ne q2] at e
            exact (e0.hok b o e).stay (fun c v hc z => keepF c v (by
                rcases hc with hc | hc
                · rw [hc]
                  exact q
                · exact at_ne ha hc exo_own) z) (fun c hc => same c _ hc (fun q => exo_own q.symm)) (fun c xs hc => same c _ hc (fun q => exo_tup q.symm))
      show wpAt _ _ _ (execs [] _) _ _ _
      refine wpAt_of_wpAny (wpAny_pure ?_)
      exact ⟨.non, _, rfl, e0.bare, un, okF, rfl, k dx Hdx dne⟩
end
end K2

namespace K2
open PySem L2
/-! ### raising InvalidPlan and InvalidFlow -/
structure ErrP (P : Program) (K : PySem.W.Frag) (mg : Str → Option Value) (C : Addr) : Prop where
  ex : ∃ fI cda cc, ErrC P K mg C fI cda cc "part" "InvalidPlan.__init__" sPlanErr
  mgC : mg "InvalidPlan" = some (.ref C)
structure ErrW (P : Program) (K : PySem.W.Frag) (mg : Str → Option Value) (C : Addr) : Prop where
  ex : ∃ fI cda cc, ErrC2 P K mg C fI cda cc "fault" "word" "InvalidFlow.__init__" sFlowErr .none
  mgC : mg "InvalidFlow" = some (.ref C)
theorem bnd_flow2 {K : PySem.W.Frag} {cda cc : Addr} {kV doc pm ct : Value} {an : Option Addr} :
    Binds K (PySem.W.ksFn "__init__" "InvalidFlow.__init__" (defArgs sFlowErr) (defBody sFlowErr) (defScope sFlowErr) .none kV doc pm an (.ref cda) ct cc) ["self", "fault", "word"] [] :=
  .all fun us hl => match us, hl with | [_, _, _], _ => rfl
section
variable {X : Cx} {C : Addr}
theorem pmk_plan {e : Expr} {te : TE} {p pos : Pos} (T : ErrP X.prog X.K X.mg C) (hr : Room 2 X.A) (hg : Gl X "InvalidPlan") (he : PE X e te)
    (hs : starEach [e] X.env = (false, eval e X.env) :: starEach [] X.env := by rfl) :
    PMk X (.Call (.Name "InvalidPlan" p) [e] [] pos) (tMkO C (spErr C "part") [] (tCons te tNil)) := by
  obtain ⟨fI, cda, cc, TC⟩ := T.ex
  obtain ⟨oc, od, kV, doc, pm, an, ct, osl, lk⟩ := TC.fn
  exact pmk_oex TC.ox TC.fi TC.ti (ok_planErrInit TC lk) hr (.all fun us hl => match us, hl with | [_, _], _ => rfl) .nil passL hg T.mgC (pa_cons he pa_nil (by exact hs)) (by decide) hs (by rfl)
theorem pmk_flow {e f : Expr} {te tf : TE} {p pos : Pos} (T : ErrW X.prog X.K X.mg C) (hr : Room 2 X.A) (hg : Gl X "InvalidFlow") (he : PE X e te) (hf : PE X f tf)
    (hs : starEach [e, f] X.env = (false, eval e X.env) :: starEach [f] X.env := by rfl) (hs2 : starEach [f] X.env = (false, eval f X.env) :: starEach [] X.env := by rfl) (hpl : (backTo pos (starEach [f] X.env)).any (·.1) = false := by rfl) :
    PMk X (.Call (.Name "InvalidFlow" p) [e, f] [] pos) (tMkO C (spErr2 C "fault" "word") [] (tCons te (tCons tf tNil))) := by
  obtain ⟨fI, cda, cc, TC⟩ := T.ex
  obtain ⟨oc, od, kV, doc, pm, an, ct, osl, lk⟩ := TC.fn
  exact pmk_oex TC.ox TC.fi TC.ti (ok_flowErrInit TC lk) hr bnd_flow2 .nil passL hg T.mgC (pa_cons he (pa_cons hf pa_nil (by exact hs2)) (by exact hs)) (by decide) hs hpl
theorem flow_ans {H1 : Hp} {v z : V} {Q : XK} (k : ∀ d, H1 d = none → Q (.ref C) (some d) (upd H1 d (.xd [("word", z), ("fault", v)]))) :
    ([v, z] : List V).length ≤ 1000 ∧ ∀ a, H1 a = none → spErr2 C "fault" "word" (.ref a :: ([v, z] ++ [])) (upd H1 a (exo a C none))
      (fun u H2 => u = .non ∧ ∃ (d : Addr) (fs : List (Str × V)), H2 a = some (exo a C (some d)) ∧ H2 d = some (exd d fs) ∧ H1 d = none ∧ Q (.ref C) (some d) (upd (del H2 a) d (.xd fs))) (fun _ _ _ => False) := by
  refine ⟨by show 2 ≤ 1000; decide, fun a na => ⟨a, v, z, rfl, upd_same, fun dx ndx ne => ?_⟩⟩
  rw [upd_ne ne] at ndx
  refine ⟨rfl, dx, [("word", z), ("fault", v)], upd_same, by rw [upd_ne ne, upd_same], ndx, ?_⟩
  rw [del_made na ne]
  exact k dx ndx
end
/-! ### is_word -/
def wordV (ws : List Str) : V → Bool
  | .str z => inV (.str z) (ws.map V.str)
  | _ => false
def spWordQ (K : PySem.W.Frag) : Sp := fun vs H Q _ => ∃ (v : V) (p : Addr) (ws : List Str), vs = [v, .ref p] ∧ Val K H v ∧ SqT K H p (ws.map V.str) ∧ Q (.bl (wordV ws v)) H
theorem flatStrs : ∀ ws : List Str, (ws.map V.str).all flatV = true
  | [] => rfl
  | _ :: ws => by rw [List.map_cons, List.all_cons, flatStrs ws]; rfl
theorem NotStr.wordV {K : PySem.W.Frag} {H : Hp} {v : V} {ws : List Str} (h : NotStr K H v) : wordV ws v = false := by
  cases v with
  | str z => exact absurd rfl (h.1 z)
  | _ => rfl
section
variable {P : Program} {w : World} {K : PySem.W.Frag} {mg : Str → Option Value} {base : Heap}
theorem scWordQ : FnScope ["value", "words"] ["value", "words"] (defScope sWordQ) := ⟨rfl, rfl, rfl, by decide +kernel, rfl, by decide +kernel, by decide +kernel⟩
theorem ok_wordQ {f : Addr} {fd : FuncData} (F : Fun K "is_word" "is_word" sWordQ f fd) (T : TxtN mg) : FnOk P w K mg base CX0 1 f fd ["value", "words"] (spWordQ K) := by
  refine F.ok scWordQ (fun vs H Q E h => ?_) (fun cdv A outer s H vs Q E hr h => ?_)
  · obtain ⟨v, p, ws, rfl, _⟩ := h
    rfl
  · obtain ⟨v, p, ws, rfl, hv, hp, q⟩ := h
    refine ⟨_, pss_one (ps_ret (pe_and (pe_callB call_isi (by rfl) T.isi PyProof.Rows.boot_isinstance (pa_cons (pv 0) (pa_cons (pe_bltn (v := .ty "str") rfl T.str PyProof.Rows.boot_str rfl) pa_nil)))
      (pe_one (pe_cmpR op_in_seq (pv 0) (pv 1) (by with_unfolding_all rfl))))), ?_⟩
    rcases hv with ⟨z, rfl, hz, ho⟩ | hv
    · refine ⟨_, rfl, _, _, _, _, true, rfl, .ty "str", .base (.str z), kit_ty (by decide +kernel), _, rfl, ?_⟩
      refine iteT ?_
      exact ⟨_, rfl, _, rfl, p, _, rfl, .inr hp, rfl, flatStrs ws, q⟩
    · have e := hv.wordV (ws := ws)
      obtain ⟨n1, _, t, ht, hk⟩ := hv
      refine ⟨_, rfl, _, _, _, _, false, rfl, .ty "str", ht, hk, _, rfl, ?_⟩
      rw [e] at q
      exact iteF q
end
end K2

namespace K2
open PySem L2
/-! ### Plan.__init__ -/
def ORD : List Str := ["steps", "choice", "loop", "stop", "leave", "again"]
def planDue (o s u : V) : Option Str :=
  if wordV ORD o = false then some "order" else if s ≠ .non ∧ nameV s = false then some "sets" else if u ≠ .non ∧ nameV u = false then some "uses" else if s ≠ .non ∧ u ≠ .non then some "deed" else none
def planF (o s u : V) : List (Str × V) := putF "uses" u (putF "sets" s (putF "order" o []))
structure TxtP (P : Program) (K : PySem.W.Frag) (mg : Str → Option Value) (CP CI fN fW pO : Addr) (fdN fdW : FuncData) : Prop where
  er : ErrP P K mg CI
  gN : mg "is_name" = some (.ref fN)
  kN : PySem.W.keepIn K (.ref fN) = true
  bN : Binds K fdN ["value"] []
  gW : mg "is_word" = some (.ref fW)
  kW : PySem.W.keepIn K (.ref fW) = true
  bW : Binds K fdW ["value", "words"] []
  gO : mg "ORDERS" = some (.ref pO)
  hO : ∀ H, SqT K H pO (ORD.map V.str)
  cl : Cls K CP
  n1 : NoAttr K CP "order"
  n2 : NoAttr K CP "sets"
  n3 : NoAttr K CP "uses"
def spPlanInit (K : PySem.W.Frag) (CP CI : Addr) : Sp := fun vs H Q E => ∃ (x dx : Addr) (o s u : V), vs = [.ref x, o, s, u] ∧ H x = some (.ins CP dx []) ∧ Val K H o ∧ Val K H s ∧ Val K H u ∧ o ≠ .ref x ∧ s ≠ .ref x ∧ u ≠ .ref x ∧
  (match planDue o s u with
   | some k => ∀ H' dd, SameX x H H' → H dd = none → H' dd = some (.xd [("part", .str k)]) → E (.ref CI) (some dd) H'
   | none => ∀ H', SameX x H H' → H' x = some (.ins CP dx (planF o s u)) → Q .non H')
section
variable {P : Program} {w : World} {K : PySem.W.Frag} {mg : Str → Option Value} {base : Heap}
theorem scPlan : FnScope ["self", "order", "sets", "uses"] ["self", "order", "sets", "uses"] (defScope sPlanInit) := ⟨rfl, rfl, rfl, by decide +kernel, rfl, by decide +kernel, by decide +kernel⟩
theorem body_plan {f fN fW CP CI pO : Addr} {fdN fdW : FuncData} (T : TxtP P K mg CP CI fN fW pO fdN fdW)
    (GN : FnOk P w K mg base CX0 1 fN fdN ["value"] (spName K)) (GW : FnOk P w K mg base CX0 1 fW fdW ["value", "words"] (spWordQ K))
    {qual : Str} {cdv : Value} {A : Around} {outer : List Env} {s : Shared} {H : Hp} {vs : List V} {Q : VK} {E : XK} (hr : Room 2 (A.deeper (PyProof.Rows.envOfC qual (defScope sPlanInit) s.heap.objs.size f cdv))) (h : spPlanInit K CP CI vs H Q E) :
    ∃ t, PSs (cxOf (L2.CX P w) P w K mg base ["self", "order", "sets", "uses"] qual (defScope sPlanInit) f cdv A outer s H E) (defBody sPlanInit) t ∧ t { nx := fun _ H' => Q .non H', rt := Q } (L2.start ["self", "order", "sets", "uses"] vs) H := by
  obtain ⟨x, dx, o, sv, u, rfl, hx, ho, hs, hu, no, ns, nu, k⟩ := h
  have hr1 : Room 1 _ := hr.mono (by decide)
  have tkE : Takes (cxOf (L2.CX P w) P w K mg base ["self", "order", "sets", "uses"] qual (defScope sPlanInit) f cdv A outer s H E) (fun cls dd _ H => E cls dd H) := takes_of rfl rfl rfl rfl
  refine ⟨_, pss_cons (ps_if (pt_not (pt_val (pe_call GW hr1 (by rfl) T.gW T.kW T.bW .nil pass0 (pa_cons (pv 1) (pa_cons (pe_glob (v := .ref _) rfl T.gO rfl) pa_nil))))) (pss_one (ps_raise rfl tkE (pmk_plan T.er hr rfl pe_str))) pss_nil)
    (pss_cons (ps_if (PW.pt (pw_and (pt_cmpR op_notN (pv 2) pe_non (nomark _)) (pw_and1 (pt_not (pt_val (pe_call GN hr1 (by rfl) T.gN T.kN T.bN .nil pass0 (pa_cons (pv 2) pa_nil))))))) (pss_one (ps_raise rfl tkE (pmk_plan T.er hr rfl pe_str))) pss_nil)
    (pss_cons (ps_if (PW.pt (pw_and (pt_cmpR op_notN (pv 3) pe_non (nomark _)) (pw_and1 (pt_not (pt_val (pe_call GN hr1 (by rfl) T.gN T.kN T.bN .nil pass0 (pa_cons (pv 3) pa_nil))))))) (pss_one (ps_raise rfl tkE (pmk_plan T.er hr rfl pe_str))) pss_nil)
    (pss_cons (ps_if (PW.pt (pw_and (pt_cmpR op_notN (pv 2) pe_non (nomark _)) (pw_and1 (pt_cmpR op_notN (pv 3) pe_non (nomark _))))) (pss_one (ps_raise rfl tkE (pmk_plan T.er hr rfl pe_str))) pss_nil)
    (pss_cons (ps_fld (pv 0) (pv 1) rfl) (pss_cons (ps_fld (pv 0) (pv 2) rfl) (pss_one (ps_fld (pv 0) (pv 3) rfl))))))), ?_⟩
  have rs : ∀ (w1 : Str) (H1 : Hp), planDue o sv u = some w1 → Same H H1 → ∀ dd, H1 dd = none → E (.ref CI) (some dd) (upd H1 dd (.xd [("part", .str w1)])) := fun w1 H1 e s1 dd hdd => by
    rw [e] at k
    exact k _ dd (Same.x (same_upd s1 (s1.free hdd))) (s1.free hdd) upd_same
  refine ⟨_, rfl, o, pO, ORD, rfl, ho, T.hO H, _, rfl, ?_⟩
  cases e0 : wordV ORD o with
  | false =>
    refine iteT ?_
    exact raise_ans (rs "order" H (by unfold planDue; rw [if_pos e0]) (Same.refl H))
  | true =>
    refine iteF ?_
    have p0 : ¬ (wordV ORD o = false) := by rw [e0]; decide
    have dz : ∀ {v : V}, v = .non → (!decide (v = V.non)) = false := fun {v} h => by rw [decide_eq_true h]; rfl
    have dn : ∀ {v : V}, v ≠ .non → (!decide (v = V.non)) = true := fun {v} h => by rw [decide_eq_false h]; rfl
    refine ⟨_, rfl, rfl, _, rfl, ?_⟩
    by_cases hs0 : sv = V.non
    case' pos =>
      rw [dz hs0]
      refine iteF (iteF ?_)
      have c1 : ¬ (sv ≠ .non ∧ nameV sv = false) := fun z => z.1 hs0
      have s1 : Same H H := Same.refl H
    case' neg =>
      rw [dn hs0]
      refine iteT ?_
      refine ⟨_, rfl, sv, rfl, hs, fun H1 s1 => ⟨_, rfl, ?_⟩⟩
      rcases Bool.eq_false_or_eq_true (nameV sv) with e1 | e1
      rotate_left
      · rw [e1]
        refine iteT ?_
        exact raise_ans (rs "sets" H1 (by unfold planDue; rw [if_neg p0, if_pos ⟨hs0, e1⟩]) s1)
      rw [e1]
      refine iteF ?_
      have c1 : ¬ (sv ≠ .non ∧ nameV sv = false) := fun z => by rw [e1] at z; cases z.2
    all_goals
      refine ⟨_, rfl, rfl, _, rfl, ?_⟩
      by_cases hu0 : u = V.non
      case' pos =>
        rw [dz hu0]
        refine iteF (iteF ?_)
        have c2 : ¬ (u ≠ .non ∧ nameV u = false) := fun z => z.1 hu0
        have s2 := s1
      case' neg =>
        rw [dn hu0]
        refine iteT ?_
        refine ⟨_, rfl, u, rfl, Val.same hu s1, fun H2 s2' => ⟨_, rfl, ?_⟩⟩
        have s2 := s1.trans s2'
        rcases Bool.eq_false_or_eq_true (nameV u) with e2 | e2
        rotate_left
        · rw [e2]
          refine iteT ?_
          exact raise_ans (rs "uses" H2 (by unfold planDue; rw [if_neg p0, if_neg c1, if_pos ⟨hu0, e2⟩]) s2)
        rw [e2]
        refine iteF ?_
        have c2 : ¬ (u ≠ .non ∧ nameV u = false) := fun z => by rw [e2] at z; cases z.2
      all_goals
        refine ⟨_, rfl, rfl, _, rfl, ?_⟩
        by_cases c3 : sv ≠ .non ∧ u ≠ .non
        · rw [dn c3.1]
          refine iteT ?_
          refine ⟨_, rfl, rfl, _, rfl, ?_⟩
          rw [dn c3.2]
          refine iteT ?_
          exact raise_ans (rs "deed" _ (by unfold planDue; rw [if_neg p0, if_neg c1, if_neg c2, if_pos c3]) s2)
        · have k2 := k
          rw [show planDue o sv u = none by unfold planDue; rw [if_neg p0, if_neg c1, if_neg c2, if_neg c3]] at k2
          first
          | rw [dz hs0]
            refine iteF (iteF ?_)
            refine ⟨_, rfl, _, rfl, x, CP, dx, _, rfl, s2 _ _ hx, T.cl, T.n1, (by show 0 < 1000; decide), ?_⟩
            refine ⟨_, rfl, _, rfl, x, CP, dx, _, rfl, upd_same, T.cl, T.n2, (by show 1 < 1000; decide), ?_⟩
            rw [upd_upd]
            refine ⟨_, rfl, _, rfl, x, CP, dx, _, rfl, upd_same, T.cl, T.n3, (by show 2 < 1000; decide), ?_⟩
            rw [upd_upd]
            exact k2 _ (SameX.trans (Same.x s2) SameX.upd) upd_same
          | rw [dn hs0]
            refine iteT ?_
            refine ⟨_, rfl, rfl, _, rfl, ?_⟩
            rw [dz (Decidable.byContradiction fun z => c3 ⟨hs0, z⟩)]
            refine iteF ?_
            refine ⟨_, rfl, _, rfl, x, CP, dx, _, rfl, s2 _ _ hx, T.cl, T.n1, (by show 0 < 1000; decide), ?_⟩
            refine ⟨_, rfl, _, rfl, x, CP, dx, _, rfl, upd_same, T.cl, T.n2, (by show 1 < 1000; decide), ?_⟩
            rw [upd_upd]
            refine ⟨_, rfl, _, rfl, x, CP, dx, _, rfl, upd_same, T.cl, T.n3, (by show 2 < 1000; decide), ?_⟩
            rw [upd_upd]
            exact k2 _ (SameX.trans (Same.x s2) SameX.upd) upd_same
end
end K2

namespace K2
open PySem L2
abbrev psPl : List Str := ["self", "order", "sets", "uses"]
abbrev FunPl (K : PySem.W.Frag) (f : Addr) (fd : FuncData) : Prop := FunD K "__init__" "Plan.__init__" (defArgs sPlanInit) (defBody sPlanInit) (defScope sPlanInit) [.str "steps"] [("sets", .non), ("uses", .non)] f fd
section
variable {K : PySem.W.Frag} {f : Addr} {fd : FuncData}
theorem pb_pos (F : FunPl K f fd) : ∃ ds, Vals [.non, .non] ds ∧ Binds K fd psPl ds := by
  refine FunD.binds F 2 1 (by simp) (by rfl) (fun T D doc pm an cdv ct us its ks l1 l2 l3 => ?_) (by simp)
  match us, its, ks, l1, l2, l3 with
  | [_, _], [_], [_, _], _, _, _ => exact ⟨_, rfl, _, _, _, _, _, _, rfl, rfl, _, _, _, _, _, _, rfl, rfl, rfl⟩
theorem pb_none (F : FunPl K f fd) : ∃ ds, Vals [.str "steps", .non, .non] ds ∧ Binds K fd psPl ds := by
  refine FunD.binds F 1 0 (by simp) (by rfl) (fun T D doc pm an cdv ct us its ks l1 l2 l3 => ?_) (by simp)
  match us, its, ks, l1, l2, l3 with
  | [_], [_], [_, _], _, _, _ => exact ⟨_, rfl, _, _, _, _, _, _, rfl, rfl, _, _, _, _, _, _, rfl, rfl, rfl⟩
theorem pb_su (F : FunPl K f fd) : ∃ its mv : List Value, KBn K fd psPl 2 ["sets", "uses"] (fun us ws => us ++ ws) (fun vs zs => vs ++ zs) := by
  refine FunD.kbinds F 2 ["sets", "uses"] [] (fun vs _ _ zs => vs ++ zs) (by simp) (by simp) (by simp) (fun r1 _ _ r4 => r1.append r4) (fun T D doc pm an cdv ct us its mv ws l1 l2 l3 l4 => ?_)
  match us, its, mv, ws, l1, l2, l3, l4 with
  | [_, _], [_], [], [_, _], _, _, _, _ => exact ⟨_, rfl, rfl⟩
theorem pb_u (F : FunPl K f fd) : ∃ its mv : List Value, KBn K fd psPl 2 ["uses"] (fun us ws => us ++ mv ++ ws) (fun vs zs => vs ++ [.non] ++ zs) := by
  refine FunD.kbinds F 2 ["uses"] [("sets", .non)] (fun vs _ ms zs => vs ++ ms ++ zs) (by simp) (by simp) (by simp) (fun r1 _ r3 r4 => (r1.append r3).append r4) (fun T D doc pm an cdv ct us its mv ws l1 l2 l3 l4 => ?_)
  match us, its, mv, ws, l1, l2, l3, l4 with
  | [_, _], [_], [_], [_], _, _, _, _ => exact ⟨_, rfl, _, _, _, _, _, _, rfl, rfl, rfl⟩
theorem pb_s1 (F : FunPl K f fd) : ∃ its mv : List Value, KBn K fd psPl 1 ["sets"] (fun us ws => us ++ its ++ ws ++ mv) (fun vs zs => vs ++ [.str "steps"] ++ zs ++ [.non]) := by
  refine FunD.kbinds F 1 ["sets"] [("uses", .non)] (fun vs ds ms zs => vs ++ ds ++ zs ++ ms) (by simp) (by simp) (by simp) (fun r1 r2 r3 r4 => ((r1.append r2).append r4).append r3) (fun T D doc pm an cdv ct us its mv ws l1 l2 l3 l4 => ?_)
  match us, its, mv, ws, l1, l2, l3, l4 with
  | [_], [_], [_], [_], _, _, _, _ => exact ⟨_, rfl, _, _, _, _, _, _, rfl, rfl, rfl⟩
theorem pb_u1 (F : FunPl K f fd) : ∃ its mv : List Value, KBn K fd psPl 1 ["uses"] (fun us ws => us ++ its ++ mv ++ ws) (fun vs zs => vs ++ [.str "steps"] ++ [.non] ++ zs) := by
  refine FunD.kbinds F 1 ["uses"] [("sets", .non)] (fun vs ds ms zs => vs ++ ds ++ ms ++ zs) (by simp) (by simp) (by simp) (fun r1 r2 r3 r4 => ((r1.append r2).append r3).append r4) (fun T D doc pm an cdv ct us its mv ws l1 l2 l3 l4 => ?_)
  match us, its, mv, ws, l1, l2, l3, l4 with
  | [_], [_], [_], [_], _, _, _, _ => exact ⟨_, rfl, _, _, _, _, _, _, rfl, rfl, rfl⟩
theorem pb_su1 (F : FunPl K f fd) : ∃ its mv : List Value, KBn K fd psPl 1 ["sets", "uses"] (fun us ws => us ++ its ++ ws) (fun vs zs => vs ++ [.str "steps"] ++ zs) := by
  refine FunD.kbinds F 1 ["sets", "uses"] [] (fun vs ds _ zs => vs ++ ds ++ zs) (by simp) (by simp) (by simp) (fun r1 r2 _ r4 => (r1.append r2).append r4) (fun T D doc pm an cdv ct us its mv ws l1 l2 l3 l4 => ?_)
  match us, its, mv, ws, l1, l2, l3, l4 with
  | [_], [_], [], [_, _], _, _, _, _ => exact ⟨_, rfl, rfl⟩
theorem pb_osu (F : FunPl K f fd) : ∃ its mv : List Value, KBn K fd psPl 1 ["order", "sets", "uses"] (fun us ws => us ++ ws) (fun vs zs => vs ++ zs) := by
  refine FunD.kbinds F 1 ["order", "sets", "uses"] [] (fun vs _ _ zs => vs ++ zs) (by simp) (by simp) (by simp) (fun r1 _ _ r4 => r1.append r4) (fun T D doc pm an cdv ct us its mv ws l1 l2 l3 l4 => ?_)
  match us, its, mv, ws, l1, l2, l3, l4 with
  | [_], [_], [], [_, _, _], _, _, _, _ => exact ⟨_, rfl, rfl⟩
theorem pb_os (F : FunPl K f fd) : ∃ its mv : List Value, KBn K fd psPl 1 ["order", "sets"] (fun us ws => us ++ ws ++ mv) (fun vs zs => vs ++ zs ++ [.non]) := by
  refine FunD.kbinds F 1 ["order", "sets"] [("uses", .non)] (fun vs _ ms zs => vs ++ zs ++ ms) (by simp) (by simp) (by simp) (fun r1 _ r3 r4 => (r1.append r4).append r3) (fun T D doc pm an cdv ct us its mv ws l1 l2 l3 l4 => ?_)
  match us, its, mv, ws, l1, l2, l3, l4 with
  | [_], [_], [_], [_, _], _, _, _, _ => exact ⟨_, rfl, _, _, _, _, _, _, rfl, rfl, rfl⟩
end
section
variable {P : Program} {w : World} {K : PySem.W.Frag} {mg : Str → Option Value} {base : Heap}
theorem ok_plan {f fN fW CP CI pO : Addr} {fd fdN fdW : FuncData} (F : FunPl K f fd) (T : TxtP P K mg CP CI fN fW pO fdN fdW)
    (GN : FnOk P w K mg base CX0 1 fN fdN ["value"] (spName K)) (GW : FnOk P w K mg base CX0 1 fW fdW ["value", "words"] (spWordQ K)) : FnOk P w K mg base (L2.CX P w) 3 f fd psPl (spPlanInit K CP CI) := by
  refine FunD.ok F scPlan (fun vs H Q E h => ?_) (fun cdv A outer s H vs Q E hr h => ?_)
  · obtain ⟨x, dx, o, sv, u, rfl, _⟩ := h
    rfl
  · exact body_plan T GN GW hr h
end
end K2

namespace K2
open PySem L2
/-! ### a plan as it stands -/
def PlanAt (CP : Addr) (H : Hp) (x : Addr) (o s u : V) : Prop := ∃ dx, H x = some (.ins CP dx (planF o s u))
theorem PlanAt.same {CP x : Addr} {H H' : Hp} {o s u : V} (h : PlanAt CP H x o s u) (e : Same H H') : PlanAt CP H' x o s u := let ⟨dx, q⟩ := h; ⟨dx, e _ _ q⟩
theorem plan_look {o s u : V} : (planF o s u).lookup ("order" : Str) = some o ∧ (planF o s u).lookup ("sets" : Str) = some s ∧ (planF o s u).lookup ("uses" : Str) = some u := by
  refine ⟨rfl, rfl, rfl⟩
theorem val_str {K : PySem.W.Frag} {H : Hp} {z : Str} (h : z.length ≤ 1000) (o : PyData.strOk z = true) : Val K H (.str z) := .inl ⟨z, rfl, h, o⟩
theorem val_non {K : PySem.W.Frag} {H : Hp} : Val K H .non := valB_non.val
theorem val_int {K : PySem.W.Frag} {H : Hp} {i : Int} : Val K H (.int i) := valB_int.val
def PlanBad (CI : Addr) (H : Hp) (E : XK) (k : Str) : Prop := ∀ H' dd, Same H H' → H dd = none → H' dd = some (.xd [("part", .str k)]) → E (.ref CI) (some dd) H'
def PlanRes (CP CI : Addr) (H : Hp) (x : Addr) (o s u : V) (R : VK) (E : XK) : Prop := match planDue o s u with
  | some k => PlanBad CI H E k
  | none => ∀ H', Same H H' → PlanAt CP H' x o s u → R .non H'
theorem plan_made {K : PySem.W.Frag} {CP CI x dx : Addr} {H : Hp} {o s u : V} {R : VK} {E : XK} (nx : H x = none) (ndx : H dx = none) (ho : Val K H o) (hs : Val K H s) (hu : Val K H u) (h : PlanRes CP CI H x o s u R E) :
    spPlanInit K CP CI [.ref x, o, s, u] (upd (upd H dx (.own x)) x (.ins CP dx [])) R E := by
  have e1 : Same H (upd (upd H dx (.own x)) x (.ins CP dx [])) := same_upd (same_upd (Same.refl H) ndx) nx
  have sx : ∀ H', SameX x (upd (upd H dx (.own x)) x (.ins CP dx [])) H' → Same H H' := fun H' e b v q => e b v (ne_of_none q nx) (e1 _ _ q)
  refine ⟨x, dx, o, s, u, rfl, upd_same, ho.same e1, hs.same e1, hu.same e1, ho.ne nx, hs.ne nx, hu.ne nx, ?_⟩
  unfold PlanRes at h
  cases e : planDue o s u with
  | some k =>
    rw [e] at h
    intro H' dd s' nd hd
    refine h H' dd (sx _ s') ?_ hd
    exact e1.free nd
  | none =>
    rw [e] at h
    intro H' s' hx'
    exact h H' (sx _ s') ⟨dx, hx'⟩
structure TxtPl (P : Program) (w : World) (K : PySem.W.Frag) (mg : Str → Option Value) (base : Heap) (CP CI fP : Addr) (fdP : FuncData) : Prop where
  M : Mk K CP fP
  F : FunPl K fP fdP
  G : FnOk P w K mg base (L2.CX P w) 3 fP fdP psPl (spPlanInit K CP CI)
  g : mg "Plan" = some (.ref CP)
  C : FormCls K CP
  n1 : NoAttr K CP "order"
  n2 : NoAttr K CP "sets"
  n3 : NoAttr K CP "uses"
end K2

namespace K2
open PySem L2 E0
structure SchK (P : Program) (w : World) (K : PySem.W.Frag) (mg : Str → Option Value) (base : Heap) (CU CF CSc fEq fHas fGet : Addr) : Prop where
  SC : SchCls K CSc
  FC : FormCls K CF
  OG : OwnC K CSc "__getitem__" fGet
  OH : OwnC K CSc "__contains__" fHas
  OE : OwnC K CSc "__eq__" fEq
  NE : NeObj K CSc
  GG : FnR P w K mg base (L2.CX P w) 3 fGet (spSchGet K CU CF CSc)
  GH : FnR P w K mg base CX0 1 fHas (spSchHas K CF CSc)
  GE : FnR P w K mg base CX0 1 fEq (spSchEq K CF CSc)
  fN : NoAttr K CF "name"
  fS : NoAttr K CF "slots"
/-- the names of the slots that take a text -/
def textsOf (ps : List (Str × Str)) : List Str := (ps.filter fun p => decide (p.2 = ("text" : Str))).map (·.1)
theorem texts_upto {ps : List (Str × Str)} {i : Nat} {p : Str × Str} (h : ps[i]? = some p) : textsOf (ps.take (i + 1)) = textsOf (ps.take i) ++ (if p.2 = "text" then [p.1] else []) := by
  unfold textsOf
  rw [List.take_add_one, h, List.filter_append, List.map_append]
  by_cases e : p.2 = "text"
  · simp [e]
  · simp [e]
theorem texts_len (ps : List (Str × Str)) : (textsOf ps).length ≤ ps.length := by
  unfold textsOf
  rw [List.length_map]
  exact List.length_filter_le ..
def slotsV (ps : List (Str × Str)) : List V := [V.non] ++ (textsOf ps).map V.str
theorem slots_flat (ps : List (Str × Str)) : (slotsV ps).all flatV = true := by
  show ([V.non] ++ (textsOf ps).map V.str).all flatV = true
  rw [List.all_append, flatStrs]
  rfl
def FlowBad (CW : Addr) (H : Hp) (E : XK) (k : Str) (y : V) : Prop := ∀ H' dd, Same H H' → H dd = none → H' dd = some (.xd [("word", y), ("fault", .str k)]) → E (.ref CW) (some dd) H'
def spCheckPlan (K : PySem.W.Frag) (CF CSc CP CW : Addr) : Sp := fun vs H Q E => ∃ (x : Addr) (xs : List V) (its : List Itm) (rs : List Addr) (y p : V), vs = [.ref x, y, p] ∧ SchAt K CF CSc H x xs its rs ∧ ValB K H y ∧
  ((hasV its y = false ∧ FlowBad CW H E "form" y) ∨
   ∃ z yf n so ps, y = .str z ∧ hasV its y = true ∧ valV (tabKV (namesOf its) (xs ++ rs.map V.ref)) (.inr z) = some (.ref yf) ∧ FormAt CF H yf n so (ps.map mkP) ∧ ps.length ≤ 5 ∧
    ((∃ t, TyX K H p t ∧ PySem.W.kitOne K t (.ref CP) = some false ∧ FlowBad CW H E "plan" y) ∨
     ∃ pa o sv u, p = .ref pa ∧ PlanAt CP H pa o sv u ∧ flatV sv = true ∧ flatV u = true ∧
      if (inV sv (slotsV ps) && inV u (slotsV ps)) = true then ∀ H', Same H H' → Q .non H' else FlowBad CW H E "slot" y))
section
variable {P : Program} {w : World} {K : PySem.W.Frag} {mg : Str → Option Value} {base : Heap}
def NCP : List Str := ["schema", "word", "plan", "slots", "slot", "takes"]
theorem scCheckP : FnScope NCP ["schema", "word", "plan"] (defScope sCheckPlan) := ⟨rfl, rfl, rfl, by decide +kernel, rfl, by decide +kernel, by decide +kernel⟩
theorem ok_checkP {f fEq fHas fGet fP CU CF CSc CP CW : Addr} {fd fdP : FuncData} (F : Fun K "_check_plan" "_check_plan" sCheckPlan f fd) (SK : SchK P w K mg base CU CF CSc fEq fHas fGet) (TP : TxtPl P w K mg base CP CI fP fdP) (TW : ErrW P K mg CW)
    (gI : mg "isinstance" = none) (txt : ∃ t, mg "TEXT" = some (.str "text" t)) :
    FnOk P w K mg base (L2.CX P w) 5 f fd ["schema", "word", "plan"] (spCheckPlan K CF CSc CP CW) := by
  refine F.okX scCheckP (fun vs H Q E h => ?_) (fun cdv A outer s H vs Q E hr h => ?_)
  · obtain ⟨x, xs, its, rs, y, p, rfl, _⟩ := h
    rfl
  · obtain ⟨x, xs, its, rs, y, p, rfl, S, hy, k⟩ := h
    obtain ⟨tt, txt⟩ := txt
    have hr1 : Room 1 _ := hr.mono (by decide)
    have hr2 : Room 2 _ := hr.mono (by decide)
    have tkE : Takes (cxOf (L2.CX P w) P w K mg base NCP "_check_plan" (defScope sCheckPlan) f cdv A outer s H E) (fun cls dd _ H => E cls dd H) := takes_of rfl rfl rfl rfl
    refine ⟨_, pss_cons (ps_if (pt_cmpR (op_notInO (E := E0) SK.OH SK.GH hr1 pass0) (pv 1) (pv 0) (by rfl)) (pss_one (ps_raise rfl tkE (pmk_flow TW hr2 rfl pe_str (pv 1)))) pss_nil)
      (pss_cons (ps_if (pt_not (pt_val (pe_callB call_isi (by rfl) gI PyProof.Rows.boot_isinstance (pa_cons (pv 2) (pa_cons (pe_glob (v := .ref CP) rfl TP.g rfl) pa_nil))))) (pss_one (ps_raise rfl tkE (pmk_flow TW hr2 rfl pe_str (pv 1)))) pss_nil)
      (pss_cons (ps_set (i := 3) scCheckP.nd rfl (Or.inl rfl) (pe_op op_cat (pe_lst (pa_cons pe_non pa_nil))
          (pe_lc (own := [("slot", 4), ("takes", 5)]) (g := gTup K 2 (gCons (gName 4) (gCons (gName 5) gNil)))  rfl scCheckP.nd (pi_tup (pe_fld (pe_ixO (E := E0) SK.OG SK.GG (hr.mono (by decide)) passL (pv 0) (pv 1)) rfl))
            (blkOk_by (N := NCP) (sc := defScope sCheckPlan) (by decide +kernel)) (fun _ _ _ _ _ => pg_tup (by rfl) (pgs_cons (pg_name (i := 4) scCheckP.nd rfl (.inl rfl)) (pgs_cons (pg_name (i := 5) scCheckP.nd rfl (.inl rfl)) pgs_nil)))
            (fun _ _ _ _ _ => pts_one (pt_cmpR op_eq (pv 5) (pe_glob (v := .str "text") rfl txt ⟨_, rfl⟩) (nomark _))) (fun _ _ _ _ _ => pv 4))))
      (pss_one (ps_if (PW.pt (pw_or (pt_cmpR op_notIn_seq (pe_fld (pv 2) rfl) (pv 3) (by rfl)) (pw_or1 (pt_cmpR op_notIn_seq (pe_fld (pv 2) rfl) (pv 3) (by rfl))))) (pss_one (ps_raise rfl tkE (pmk_flow TW hr2 rfl pe_str (pv 1)))) pss_nil)))), ?_⟩
    obtain ⟨dx, fs, a, b, d, pR, ts, h1, h2, h3, h4, h5, h6, h7, h8, h9, h10, h11, h12⟩ := S.ex
    have bad : ∀ {kk : Str} {H1 : Hp}, FlowBad CW H E kk y → Same H H1 → ∀ dd, H1 dd = none → E (.ref CW) (some dd) (upd H1 dd (.xd [("word", y), ("fault", .str kk)])) := fun kb s1 dd hdd =>
      kb _ dd (same_upd s1 (s1.free hdd)) (s1.free hdd) upd_same
    refine ⟨_, rfl, _, rfl, x, dx, fs, rfl, h1, x, xs, its, rs, y, rfl, S, hy, _, rfl, _, rfl, ?_⟩
    rcases k with ⟨hv, kb⟩ | ⟨z, yf, n, so, ps, ez, hv, hyf, FA, pl, k⟩
    · rw [hv]
      refine iteT ?_
      exact ⟨_, rfl, flow_ans (bad kb (Same.refl H))⟩
    · rw [hv]
      refine iteF ?_
      rcases k with ⟨t, ht, hk, kb⟩ | ⟨pa, o, sv, u, rfl, ⟨dp, hp⟩, fsv, fu, k⟩
      · refine ⟨_, rfl, _, _, _, _, false, rfl, .own CP, ht, hk, _, rfl, ?_⟩
        refine iteT ?_
        exact ⟨_, rfl, flow_ans (bad kb (Same.refl H))⟩
      · refine ⟨_, rfl, _, _, _, _, true, rfl, .own CP, TP.C.ty hp, kit_self, _, rfl, ?_⟩
        refine iteF ?_
        refine ⟨by show 1 ≤ sizeLine; decide, fun L0 hL0 => ?_⟩
        have s0 : Same H (upd H L0 (.lst [.non])) := same_upd (Same.refl H) hL0
        have v0 : (upd H L0 (.lst [.non])) L0 = some (.lst [.non]) := upd_same
        generalize upd H L0 (.lst [.non]) = H0 at s0 v0 ⊢
        obtain ⟨dxf, pf, ff, hyF, ln, lk, ls, tf, hpf, htf⟩ := FA.ex
        have htl : tf.length = ps.length := by rw [htf.length, List.length_map]
        refine ⟨_, rfl, _, rfl, x, dx, fs, rfl, s0 _ _ h1, x, xs, its, rs, y, rfl, S.same s0, hy.same s0, .inl ⟨z, .ref yf, ez, hyf, ?_⟩⟩
        refine ⟨yf, CF, dxf, ff, _, rfl, s0 _ _ hyF, SK.FC.cl, SK.fS, ls, pf, rfl, ⟨_, SqT.of (s0 _ _ hpf)⟩, fun D hD => lc_tup (K := K) (a := pf) (xs := tf.map V.ref) (fun j H' => Same H0 H' ∧ H' D = some (.lst ((textsOf (ps.take j)).map V.str)))
          ⟨same_upd (Same.refl H0) hD, by rw [upd_same]; rfl⟩ (fun j H' _ ⟨s', _⟩ => SqT.of (s' _ _ (s0 _ _ hpf))) ?_ ?_⟩
        · rintro j zz H2 hz ⟨s2, hD2⟩
          obtain ⟨t, et, rfl⟩ : ∃ t, tf[j]? = some t ∧ zz = V.ref t := by
            rw [List.getElem?_map] at hz
            cases q : tf[j]? with
            | none => rw [q] at hz; cases hz
            | some r => rw [q] at hz; exact ⟨r, rfl, (Option.some.inj hz).symm⟩
          obtain ⟨kv, ekv, ht⟩ := LiI.paired_get htf et
          obtain ⟨pr, epr, rfl⟩ : ∃ pr, ps[j]? = some pr ∧ kv = mkP pr := by
            rw [List.getElem?_map] at ekv
            cases q : ps[j]? with
            | none => rw [q] at ekv; cases ekv
            | some r => rw [q] at ekv; exact ⟨r, rfl, (Option.some.inj ekv).symm⟩
          have ht2 : H2 t = some (.tup [.str pr.1, .str pr.2]) := s2 _ _ (s0 _ _ ht)
          refine ⟨t, _, rfl, SqT.of ht2, rfl, _, _, rfl, ?_⟩
          refine ⟨_, _, rfl, rfl, rfl, ?_⟩
          refine ⟨_, rfl, rfl, _, rfl, ?_⟩
          have e : decide (V.str pr.2 = V.str "text") = decide (pr.2 = ("text" : Str)) := decide_eq_decide.mpr ⟨fun h => V.str.inj h, fun h => by rw [h]⟩
          rw [e]
          have tu := texts_upto epr
          by_cases et : pr.2 = ("text" : Str)
          · rw [if_pos et] at tu
            rw [decide_eq_true et]
            refine iteT ⟨_, rfl, _, hD2, ?_, ?_, ?_⟩
            · rw [List.length_map]
              have := texts_len (ps.take j)
              rw [List.length_take] at this
              have : (textsOf (ps.take j)).length ≤ 10 := by omega
              exact Nat.lt_of_le_of_lt this (by decide)
            · exact same_upd s2 hD
            · rw [upd_same, tu, List.map_append]; rfl
          · rw [if_neg et, List.append_nil] at tu
            rw [decide_eq_false et]
            refine iteF ⟨s2, by rw [tu]; exact hD2⟩
        · rintro H2 ⟨s2, hD2⟩
          rw [List.length_map, htl, List.take_length] at hD2
          have tl := texts_len ps
          refine ⟨L0, D, _, _, rfl, rfl, s2 _ _ v0, hD2, ?_, fun L hL => ?_⟩
          · rw [List.length_map]
            show 1 + (textsOf ps).length ≤ sizeLine
            exact Nat.le_trans (show 1 + (textsOf ps).length ≤ 11 by omega) (by decide)
          have s3 : Same H (upd H2 L (.lst ([V.non] ++ (textsOf ps).map V.str))) := same_upd (s0.trans s2) ((s0.trans s2).free hL)
          have v3 : (upd H2 L (.lst ([V.non] ++ (textsOf ps).map V.str))) L = some (.lst ([V.non] ++ (textsOf ps).map V.str)) := upd_same
          generalize upd H2 L (.lst ([V.non] ++ (textsOf ps).map V.str)) = H3 at s3 v3 ⊢
          have v3 : H3 L = some (.lst (slotsV ps)) := v3
          refine ⟨_, rfl, pa, CP, dp, _, _, rfl, s3 _ _ hp, TP.C.cl, TP.n2, plan_look.2.1, _, rfl, L, _, rfl, .inl (SqL.of v3), fsv, slots_flat ps, _, rfl, ?_⟩
          rw [if_pos rfl]
          cases e1 : inV sv (slotsV ps) with
          | false =>
            rw [e1, Bool.false_and, if_neg Bool.false_ne_true] at k
            refine iteT (iteT ?_)
            exact ⟨_, rfl, flow_ans (bad k s3)⟩
          | true =>
            rw [e1, Bool.true_and] at k
            refine iteF ?_
            refine ⟨_, rfl, pa, CP, dp, _, _, rfl, s3 _ _ hp, TP.C.cl, TP.n3, plan_look.2.2, _, rfl, L, _, rfl, .inl (SqL.of v3), fu, slots_flat ps, _, rfl, ?_⟩
            rw [if_pos rfl]
            cases e2 : inV u (slotsV ps) with
            | false =>
              rw [e2, if_neg Bool.false_ne_true] at k
              refine iteT ?_
              exact ⟨_, rfl, flow_ans (bad k s3)⟩
            | true =>
              rw [e2, if_pos rfl] at k
              exact iteF (k H3 s3)
end
end K2

namespace K2
open PySem PySem.Spec PyProof.Rows L2
section
variable {prog : Program} {w : World} {A : Around} {E : Value → Shared → Prop} {s : Shared}
/-- no stored key is equal to this one -/
structure Apart' (prog : Program) (w : World) (A : Around) (s : Shared) (es : Array DictEntry) (key : Value) : Prop where
  eqs : ∀ e ∈ es, SeqAt.EqAt A s e.key key false
  nstr : ∀ e ∈ es, ∀ z t, key = .str z t → e.key.isStr z = false
  nref : ∀ e ∈ es, (e.key == key) = false
  qk : QuietAt prog w 8 s key
  qe : ∀ e ∈ es, QuietAt prog w 8 s e.key
theorem tell_false {key : Value} {stored : List Value} {Q : Bool → Shared → Prop} (qk : QuietAt prog w 8 s key) (qs : ∀ v ∈ stored, QuietAt prog w 8 s v) (h : Q false s) : wpAny (model prog w) A (tableMayTell key stored) Q E s := by
  unfold tableMayTell
  by_cases h0 : stored.isEmpty = true
  · rw [if_pos h0]
    exact wpAny_pure h
  · rw [if_neg h0]
    refine wpAny_bind (qk _ _ _ ?_)
    rw [if_neg (by simp)]
    refine wpAny_bind ?_
    refine wpAny_forIn_list _ (fun rest b s' => s' = s ∧ b = (none, ()) ∧ ∀ v ∈ rest, QuietAt prog w 8 s v) _ ?_ ?_ _ _ ⟨rfl, rfl, qs⟩
    · rintro x rest b s' ⟨rfl, rfl, hr⟩
      refine wpAny_bind (hr x (List.mem_cons_self ..) _ _ _ ?_)
      rw [if_neg (by simp)]
      exact wpAny_pure ⟨rfl, rfl, fun v hv => hr v (List.mem_cons_of_mem _ hv)⟩
    · rintro b s' ⟨rfl, rfl, _⟩
      exact wpAny_pure h
theorem wp_ite' {α : Type} {c : Prop} [Decidable c] {a b : Sem α} {Q : α → Shared → Prop} (h1 : c → wpAny (model prog w) A a Q E s) (h2 : ¬ c → wpAny (model prog w) A b Q E s) : wpAny (model prog w) A (if c then a else b) Q E s := by
  by_cases h : c
  · rw [if_pos h]; exact h1 h
  · rw [if_neg h]; exact h2 h
theorem find_none {d : Addr} {o : Obj} {es : Array DictEntry} {ep : Nat} {key : Value} {hh : Int} {Q : Option Nat → Shared → Prop} (ho : s.heap.get? d = some o) (hd : o.data = .dict es ep) (ap : Apart' prog w A s es key) (h : Q none s) :
    wpAny (model prog w) A (dictFind d key hh) Q E s := by
  have walk : wpAny (model prog w) A (dictWalkPlain d key hh es (placesWithHash es.size (fun i => es[i]?.map (·.hash)) hh)) Q E s := by
    unfold dictWalkPlain
    refine wpAny_bind ?_
    refine wpAny_forIn_list _ (fun rest b s' => s' = s ∧ b = (none, ())) _ ?_ ?_ _ _ ⟨rfl, rfl⟩
    · rintro x rest b s' ⟨rfl, rfl⟩
      cases hx : es[x]? with
      | none => exact wpAny_pure ⟨rfl, rfl⟩
      | some e =>
        have he : e ∈ es := Array.mem_of_getElem? hx
        dsimp only
        by_cases hq : (e.hash == hh) = true
        · rw [if_pos hq]
          refine wpAny_bind (wpAny_dictEpoch ho hd (wpAny_bind (ap.eqs e he _ _ _ _ (wpAny_bind (wpAny_dictEpoch ho hd ?_)))))
          show wpAny _ _ (if (ep != ep) = true then _ else _) _ E _
          rw [if_neg (by simp)]
          exact wpAny_bind (wpAny_rule (wpAny_pure ⟨rfl, rfl⟩))
        · rw [if_neg hq]
          exact wpAny_pure ⟨rfl, rfl⟩
    · rintro b s' ⟨rfl, rfl⟩
      exact wpAny_pure h
  unfold dictFind
  try with_reducible refine wpAny_holding ?_
  refine wpAny_bind (wpAny_dictEntries ho hd ?_)
  dsimp only
  have nstr : ∀ z t, key = .str z t → (es.findIdx? fun e => e.key.isStr z) = none := fun z t e =>
    Array.findIdx?_eq_none_iff.mpr fun x hx => by rw [ap.nstr x hx z t e]
  have qs : ∀ v ∈ (placesWithHash es.size (fun i => es[i]?.map (·.hash)) hh).filterMap (fun i => es[i]?.map (·.key)), QuietAt prog w 8 s v := fun v hv => by
    obtain ⟨i, _, hi⟩ := List.mem_filterMap.mp hv
    cases he : es[i]? with
    | none => rw [he] at hi; cases hi
    | some e =>
      rw [he] at hi
      obtain rfl : e.key = v := by simpa using hi
      exact ap.qe e (Array.mem_of_getElem? he)
  generalize (placesWithHash es.size (fun i => es[i]?.map (·.hash)) hh).filterMap (fun i => es[i]?.map (·.key)) = stored at qs ⊢
  generalize placesWithHash es.size (fun i => es[i]?.map (·.hash)) hh = places at walk ⊢
  by_cases hc : ((key :: stored).all carriedByValue) = true
  · rw [if_pos hc]
    split
    next z t =>
      split
      next =>
        unfold foundByValue
        rw [nstr z t rfl]
        exact wpAny_pure h
      next => exact walk
    next => exact walk
  · rw [if_neg hc]
    cases key
    case' ref b =>
      dsimp only
      rw [if_neg (by
        rw [Bool.not_eq_true, Array.any_eq_false]
        intro i hi
        rw [ap.nref _ (Array.getElem_mem hi)]
        simp)]
    case' str z t =>
      dsimp only
      refine wp_ite' (fun _ => ?_) (fun _ => ?_)
      · unfold foundByValue
        rw [nstr z t rfl]
        exact wpAny_pure h
    all_goals
      try dsimp only
      refine wp_ite' (fun _ => wpAny_bind (wpAny_pure ?_)) (fun _ => wpAny_bind (tell_false ap.qk qs ?_))
      all_goals
        rw [if_neg (by simp)]
        refine wpAny_bind ?_
        refine wpAny_forIn_list _ (fun rest b s' => s' = s ∧ b = (none, none)) _ ?_ ?_ _ _ ⟨rfl, rfl⟩
        · rintro x rest b s' ⟨rfl, rfl⟩
          cases hx : es[x]? with
          | none => exact wpAny_pure ⟨rfl, rfl⟩
          | some e =>
            have he : e ∈ es := Array.mem_of_getElem? hx
            dsimp only
            by_cases hq : (e.hash == hh) = true
            · rw [if_pos hq]
              refine wpAny_bind (wpAny_dictEpoch ho hd (wpAny_bind (ap.eqs e he _ _ _ _ (wpAny_bind (wpAny_dictEpoch ho hd ?_)))))
              rw [if_neg (by simp)]
              rw [if_neg (by simp)]
              refine wpAny_bind (wpAny_rule ?_)
              rw [if_neg (by simp)]
              exact wpAny_pure ⟨rfl, rfl⟩
            · rw [if_neg hq]
              exact wpAny_pure ⟨rfl, rfl⟩
        · rintro b s' ⟨rfl, rfl⟩
          exact wpAny_pure h
end
end K2

namespace K2
open PySem PySem.Spec PyProof.Rows L2
/-! ### a display whose keys are of different kinds -/
def entsOf (es : Array DictEntry) : List (Value × Value) := es.toList.map fun e => (e.key, e.val)
section
variable {prog : Program} {w : World} {A : Around} {E : Value → Shared → Prop}
/-- what a key is good for while only the dict at D changes -/
structure KeyG (prog : Program) (w : World) (A : Around) (D : Addr) (h : Heap) (v : Value) : Prop where
  hash : ∀ (E : Value → Shared → Prop) (s : Shared) (Q : Int → Shared → Prop), Heap.SameBut D h s.heap → (∀ hh n, Q hh { s with toks := s.toks + n }) → wpAny (model prog w) A (pyHash v) Q E s
  quiet : ∀ s : Shared, Heap.SameBut D h s.heap → QuietAt prog w 8 s v
structure PairG (A : Around) (D : Addr) (h : Heap) (u v : Value) : Prop where
  eq : ∀ s : Shared, Heap.SameBut D h s.heap → SeqAt.EqAt A s u v false
  nstr : ∀ z t, v = .str z t → u.isStr z = false
  nref : (u == v) = false
theorem set_new {D : Addr} {h : Heap} {s : Shared} {es : Array DictEntry} {ep : Nat} {key v : Value} {Q : Unit → Shared → Prop} (sb : Heap.SameBut D h s.heap) (R : DT.Raw s.heap D es ep) (hz : es.size ≤ sizeLine) (kg : KeyG prog w A D h key) (ke : ∀ e ∈ es, KeyG prog w A D h e.key) (pg : ∀ e ∈ es, PairG A D h e.key key)
    (q : ∀ s' es', Heap.SameBut D h s'.heap → DT.Raw s'.heap D es' (ep + 1) → entsOf es' = entsOf es ++ [(key, v)] → (∃ n, s' = { s with heap := s'.heap, toks := s.toks + n }) → Q () s') :
    wpAny (model prog w) A (dictSet D key v) Q E s := by
  obtain ⟨o, ho, hc, hd⟩ := R
  unfold dictSet
  try with_reducible refine wpAny_holding ?_
  refine wpAny_bind (kg.hash _ _ _ sb fun hh n => ?_)
  unfold dictSetHashed
  try with_reducible refine wpAny_holding ?_
  have sb' : Heap.SameBut D h (Shared.heap { s with toks := s.toks + n }) := sb
  refine wpAny_bind (find_none (s := { s with toks := s.toks + n }) ho hd ⟨fun e he => (pg e he).eq _ sb', fun e he => (pg e he).nstr, fun e he => (pg e he).nref, kg.quiet _ sb', fun e he => (ke e he).quiet _ sb'⟩ ?_)
  refine wpAny_bind (wpAny_rule (wpAny_updateDictKeys (s := { s with toks := s.toks + n }) (hz := hz) ho hd ?_))
  refine q _ (es.push ⟨hh, key, v⟩) (sb.trans (Heap.SameBut.update ..)) ⟨_, Heap.get?_update_self _ ho (Obj.isFreed_of_dict (Obj.data_mapDictKeys hd _)), hc.mapDictKeys _, Obj.data_mapDictKeys hd _⟩ ?_ ⟨n, rfl⟩
  unfold entsOf
  rw [Array.toList_push, List.map_append]
  rfl
theorem mem_ents {es : Array DictEntry} {e : DictEntry} (h : e ∈ es) : (e.key, e.val) ∈ entsOf es := List.mem_map.mpr ⟨e, Array.mem_toList_iff.mpr h, rfl⟩
theorem store_all {D : Addr} {h : Heap} : ∀ (vs : List (Value × Value)) (s : Shared) (es : Array DictEntry) (ep : Nat) (Q : PUnit → Shared → Prop), Heap.SameBut D h s.heap → DT.Raw s.heap D es ep → es.size + vs.length ≤ sizeLine → (∀ p ∈ entsOf es ++ vs, KeyG prog w A D h p.1) →
    (∀ p ∈ entsOf es, ∀ q ∈ vs, PairG A D h p.1 q.1) → vs.Pairwise (fun p q => PairG A D h p.1 q.1) →
    (∀ s' es' ep', Heap.SameBut D h s'.heap → DT.Raw s'.heap D es' ep' → entsOf es' = entsOf es ++ vs → (∃ n, s' = { s with heap := s'.heap, toks := s.toks + n }) → Q PUnit.unit s') →
    wpAny (model prog w) A (forIn vs PUnit.unit fun (x : Value × Value) (_ : PUnit) => (do dictSet D x.1 x.2; pure (ForInStep.yield PUnit.unit) : Sem (ForInStep PUnit))) Q E s
  | [], s, es, ep, Q, sb, R, _, _, _, _, q => by
    rw [List.forIn_nil]
    exact wpAny_pure (q s es ep sb R (List.append_nil _).symm ⟨0, rfl⟩)
  | x :: vs, s, es, ep, Q, sb, R, hz, kg, pg, pw, q => by
    rw [List.forIn_cons]
    rw [List.length_cons] at hz
    obtain ⟨p1, p2⟩ := List.pairwise_cons.mp pw
    refine wpAny_bind (wpAny_bind (set_new sb R (by omega) (kg x (by simp)) (fun e he => kg _ (List.mem_append_left _ (mem_ents he))) (fun e he => pg _ (mem_ents he) x (List.mem_cons_self ..)) fun s1 es1 sb1 R1 e1 ⟨n1, h1⟩ => wpAny_pure ?_))
    have l1 : es1.size = es.size + 1 := by
      have := congrArg List.length e1
      unfold entsOf at this
      simpa using this
    refine store_all vs s1 es1 _ _ sb1 R1 (by omega) (fun p hp => kg p ?_) (fun p hp y hy => ?_) p2 fun s2 es2 ep2 sb2 R2 e2 ⟨n2, h2⟩ => q s2 es2 ep2 sb2 R2 ?_ ⟨n1 + n2, ?_⟩
    · rw [e1] at hp
      simp only [List.mem_append, List.mem_cons, List.not_mem_nil, or_false] at hp ⊢
      rcases hp with (hp | hp) | hp
      · exact .inl hp
      · exact .inr (.inl (by rw [hp]))
      · exact .inr (.inr hp)
    · rw [e1] at hp
      rcases List.mem_append.mp hp with hp | hp
      · exact pg p hp y (List.mem_cons_of_mem _ hy)
      · rw [List.mem_singleton.mp hp]
        exact p1 y hy
    · rw [e2, e1, List.append_assoc]
      rfl
    · rw [h2, h1]
      show _ = { s with heap := _, toks := s.toks + (n1 + n2) }
      rw [← Nat.add_assoc]
theorem walk_disp {s : Shared} {env : Env} {keys : List (Option Expr)} {values : List Expr} {pos : Pos} {Q : Value → Shared → Prop} (hall : keys.all (·.isSome) = true) (hl : keys.length = values.length) (h0 : keys ≠ []) (hlen : keys.length ≤ 15)
    (h : wpAny (model prog w) A (evalPairs (pairTrees keys values env pos)) (fun vs s₁ =>
      wpAny (model prog w) A (forIn vs PUnit.unit fun (x : Value × Value) (_ : PUnit) => (do dictSet s.heap.objs.size x.1 x.2; pure (ForInStep.yield PUnit.unit) : Sem (ForInStep PUnit))) (fun _ s2 => Q (.ref s.heap.objs.size) s2) E s₁) E
      { s with heap := s.heap.push { cls := .type "dict", data := .dict #[] } }) :
    wpAny (model prog w) A (eval (.Dict keys values pos) env) Q E s := by
  have hn := pairTrees_length keys values env pos hall hl
  rw [arm_eval_Dict, zip_pairTrees keys values env pos hall hl, dictDisplay_pairs _ (by
    intro he
    rw [he] at hn
    exact h0 (List.length_eq_zero_iff.mp hn.symm)) (by omega)]
  refine wpAny_bind (wpAny_standAt (wpAny_bind ?_))
  unfold subDict
  refine wpAny_bind (wpAny_alloc ?_)
  refine wpAny_bind (wpAny_holding ?_)
  rw [if_pos (by omega)]
  refine wpAny_bind (wpAny_mono h (fun vs s₁ h₁ => ?_) fun _ _ e => e)
  refine wpAny_holding ?_
  exact wpAny_bind (wpAny_mono h₁ (fun _ s2 h2 => wpAny_pure (wpAny_pure (wpAny_pure h2))) fun _ _ e => e)
end
end K2

namespace K2
open PySem PySem.Spec PyProof.Rows L2
def KdO (d : Addr) (es : Array DictEntry) (ep : Nat) : HO := .ext fun h => DT.Raw h d es ep ∧ (d == sysModules) = false
section
variable {P : Program} {w : World} {H : Hp} {h : Heap} {d : Addr} {es : Array DictEntry} {ep : Nat}
theorem kd_ok (r : DT.Raw h d es ep) (n : (d == sysModules) = false) : ObjOk P w H h d (KdO d es ep) := ⟨⟨r, n⟩, let ⟨o, ho, _⟩ := r; ⟨o, ho⟩, fun h1 h2 x k => ⟨x.1.at' k, x.2⟩⟩
theorem kd_of (ok : HOk P w H h) (e : H d = some (KdO d es ep)) : DT.Raw h d es ep ∧ (d == sysModules) = false := (ok d _ e).1
end
inductive KeyVOk (H : Hp) : V → Prop
  | str (z : Str) : KeyVOk H (.str z)
  | int (i : Int) : KeyVOk H (.int i)
  | bl (b : Bool) : KeyVOk H (.bl b)
  | tup {a : Addr} {ws : List Str} (e : H a = some (.tup (ws.map V.str))) : KeyVOk H (.ref a)
def ApV (u v : V) : Prop := (∃ y z, u = .str y ∧ v = .str z ∧ y ≠ z) ∨ ((∃ y, u = .str y) ∧ ∀ z, v ≠ .str z) ∨ ((∃ y, v = .str y) ∧ ∀ z, u ≠ .str z)
theorem KeyVOk.same {H H' : Hp} {v : V} (k : KeyVOk H v) (s : ∀ b o, H b = some o → H' b = some o) : KeyVOk H' v := by
  cases k with
  | str z => exact .str z
  | int i => exact .int i
  | bl b => exact .bl b
  | tup e => exact .tup (s _ _ e)
section
variable {X : Cx} {pins : List (Addr × Obj)} {σ : L2.St} {H : Hp} {s : Shared} {D : Addr}
theorem tup_at (I : L2.Inv X pins σ H s) {a : Addr} {ws : List Str} (e : H a = some (.tup (ws.map V.str))) : IsTupleKey (mixKind X.prog X.w) s.heap (ws.map (Sum.inr : Str → Key)) a := by
  have e' : H a = some (.tup ((ws.map (Sum.inr : Str → Key)).map kV)) := by
    rw [e, List.map_map]
    rfl
  exact key_of I.hok e'
theorem tup_keep {P : Program} {w : World} {h h' : Heap} {a : Addr} {ks : List Key} (sb : Heap.SameBut D h h') (ne : a ≠ D) (k : IsTupleKey (mixKind P w) h ks a) : IsTupleKey (mixKind P w) h' ks a :=
  let ⟨o, its, n, h1, r⟩ := k; ⟨o, its, n, (sb.2 a ne).trans h1, r⟩
theorem keyG_of (I : L2.Inv X pins σ H s) (hu : X.A.units < cLine) {v : V} {x : Value} (r : RelV v x) (k : KeyVOk H v) (nD : v ≠ .ref D) : KeyG X.prog X.w X.A D s.heap x := by
  cases k with
  | str z =>
    obtain ⟨t, rfl⟩ := r
    exact ⟨fun E s' Q _ q => wpAny_pyHash_str (q _ 1), fun s' _ => QuietAt.byValue rfl⟩
  | int i =>
    obtain ⟨t, rfl⟩ := r
    exact ⟨fun E s' Q _ q => wpAny_pyHash_int (q _ 1), fun s' _ => QuietAt.byValue rfl⟩
  | bl b =>
    cases r
    exact ⟨fun E s' Q _ q => pyHash_leaf (k := .num (if b = true then 1 else 0)) (by simp [Leaf.isOf]) (q _ 1), fun s' _ => QuietAt.byValue rfl⟩
  | @tup a ws e =>
    obtain rfl : x = Value.ref a := r
    have ne : a ≠ D := fun z => nD (by rw [z])
    have tk := tup_at I e
    exact ⟨fun E s' Q sb q => wpAny_pyHash_tuple hu (tup_keep sb ne tk) (q _ _), fun s' sb A E Q q => wpAny_eqIsQuiet_tuple (tup_keep sb ne tk) q⟩
theorem isT {P : Program} {w : World} {h : Heap} {ks : List Key} {a : Addr} (k : IsTupleKey (mixKind P w) h ks a) : ∃ its, h.IsTuple a its := by
  obtain ⟨o, its, n, h1, h2, h3, _⟩ := k
  exact ⟨its, o, h1, h2, n, h3⟩
theorem pairG_of (I : L2.Inv X pins σ H s) (hu : X.A.units < cLine) {u v : V} {x y : Value} (rx : RelV u x) (ry : RelV v y) (ku : KeyVOk H u) (kv : KeyVOk H v) (ap : ApV u v) (nu : u ≠ .ref D) (nv : v ≠ .ref D) : PairG X.A D s.heap x y := by
  rcases ap with ⟨a, b, rfl, rfl, ne⟩ | ⟨⟨a, rfl⟩, n⟩ | ⟨⟨a, rfl⟩, n⟩
  · obtain ⟨t1, rfl⟩ := rx
    obtain ⟨t2, rfl⟩ := ry
    have e : (a == b) = false := beq_eq_false_iff_ne.mpr ne
    refine ⟨fun s' _ => ?_, fun z t q => ?_, ?_⟩
    · have := SeqAt.EqAt.str_str (A := X.A) (s := s') a t1 b t2
      rw [e] at this
      exact this
    · cases q
      exact e
    · exact beq_eq_false_iff_ne.mpr fun q => ne (Value.str.inj q).1
  · obtain ⟨t1, rfl⟩ := rx
    cases kv with
    | str z => exact absurd rfl (n z)
    | int i =>
      obtain ⟨t2, rfl⟩ := ry
      exact ⟨fun s' _ => SeqAt.EqAt.str_int a t1 i t2, (fun _ _ q => nomatch q), rfl⟩
    | bl b =>
      cases ry
      exact ⟨fun s' _ => SeqAt.EqAt.str_bool a t1 b, (fun _ _ q => nomatch q), rfl⟩
    | @tup p ws e =>
      obtain rfl : y = Value.ref p := ry
      have ne : p ≠ D := fun z => nv (by rw [z])
      exact ⟨fun s' sb => let ⟨_, it⟩ := isT (tup_keep sb ne (tup_at I e)); SeqAt.EqAt.str_tuple a t1 it hu, (fun _ _ q => nomatch q), rfl⟩
  · obtain ⟨t2, rfl⟩ := ry
    cases ku with
    | str z => exact absurd rfl (n z)
    | int i =>
      obtain ⟨t1, rfl⟩ := rx
      exact ⟨fun s' _ => SeqAt.EqAt.int_str i t1 a t2, fun _ _ _ => rfl, rfl⟩
    | bl b =>
      cases rx
      exact ⟨fun s' _ => SeqAt.EqAt.bool_str b a t2, fun _ _ _ => rfl, rfl⟩
    | @tup p ws e =>
      obtain rfl : x = Value.ref p := rx
      have ne : p ≠ D := fun z => nu (by rw [z])
      exact ⟨fun s' sb => let ⟨_, it⟩ := isT (tup_keep sb ne (tup_at I e)); SeqAt.EqAt.tuple_str a t2 it hu, fun _ _ _ => rfl, rfl⟩
end
theorem vv_mem {ps : List (V × V)} {ws : List (Value × Value)} (r : VV ps ws) : ∀ q ∈ ws, ∃ p ∈ ps, RelV p.1 q.1 := by
  induction r with
  | nil => intro q hq; cases hq
  | @cons a b as bs h t ih =>
    intro q hq
    rcases List.mem_cons.mp hq with rfl | hq
    · exact ⟨a, List.mem_cons_self .., h.1⟩
    · obtain ⟨p, h1, h2⟩ := ih q hq
      exact ⟨p, List.mem_cons_of_mem _ h1, h2⟩
theorem vv_pw {R : Value → Value → Prop} {S : V → V → Prop} {ps : List (V × V)} {ws : List (Value × Value)} (r : VV ps ws) (C : V → Prop) (hC : ∀ p ∈ ps, C p.1) (h : ∀ {u v x y}, C u → C v → S u v → RelV u x → RelV v y → R x y) (pw : ps.Pairwise fun p q => S p.1 q.1) : ws.Pairwise fun p q => R p.1 q.1 := by
  induction r with
  | nil => exact .nil
  | @cons a b as bs h1 t ih =>
    obtain ⟨p1, p2⟩ := List.pairwise_cons.mp pw
    refine List.pairwise_cons.mpr ⟨fun q hq => ?_, ih (fun p hp => hC p (List.mem_cons_of_mem _ hp)) p2⟩
    obtain ⟨p, hp, rp⟩ : ∃ p ∈ as, RelV p.1 q.1 := by
      have key : ∀ {as : List (V × V)} {bs : List (Value × Value)}, VV as bs → ∀ q ∈ bs, ∃ p ∈ as, RelV p.1 q.1 := fun r => vv_mem r
      exact key t q hq
    exact h (hC a (List.mem_cons_self ..)) (hC p (List.mem_cons_of_mem _ hp)) (p1 p hp) h1.1 rp
/-- {k: v, ..}, the keys texts and one other key -/
def tDispX (trs : List (TE × TE)) : TE := fun σ H Q => ∀ p, H p = none → tPairs trs σ (upd H p (.dK [])) fun ps H2 => H2 p = some (.dK []) ∧ ps.length ≤ 15 ∧ (∀ q ∈ ps, KeyVOk H2 q.1 ∧ q.1 ≠ .ref p) ∧ ps.Pairwise (fun q r => ApV q.1 r.1) ∧
  ∀ es ep, VV ps (entsOf es) → Q (.ref p) (upd H2 p (KdO p es ep))
theorem pe_dispX {X : Cx} {pos : Pos} {keys : List (Option Expr)} {values : List Expr} {trs : List (TE × TE)} (hu : X.A.units < cLine) (h : PPs X pos keys values trs) (hall : keys.all (·.isSome) = true) (hl : keys.length = values.length) (h0 : keys ≠ [])
    (h15 : keys.length ≤ 15) : PE X (.Dict keys values pos) (tDispX trs) := by
  refine ⟨fun pins s σ H Q I q => ?_⟩
  have hn := I.hok.fresh (Nat.le_refl s.heap.objs.size)
  have I1 := I.laid (a := s.heap.objs.size) (o := .dK []) (h' := s.heap.push { cls := .type "dict", data := .dict #[] }) (t' := s.toks) (fun _ _ q => Heap.get?_push_of_some _ q) (Nat.le_refl _) (dk_empty s.heap I.big)
  refine walk_disp hall hl h0 h15 (thn (h.run pins _ σ _ _ I1 (q _ hn)) fun ws s2 ⟨ps, H2, I2, rel, e, hz, kok, pw, q2⟩ => ?_)
  obtain ⟨z, hd, vs0, r0, dd⟩ := dk_of I2.hok e
  cases r0
  obtain ⟨o, es, ep, ho, hc, hdat, _, hpairs, _⟩ := dd
  have hes : es.toList = [] := by
    generalize es.toList = l at hpairs
    cases hpairs
    rfl
  have e0 : entsOf es = [] := by
    unfold entsOf
    rw [hes]
    rfl
  have z0 : es.size = 0 := by
    rw [← Array.length_toList, hes]
    rfl
  have rl : ps.length = ws.length := Paired.length rel
  refine store_all (h := s2.heap) ws s2 es ep _ (Heap.SameBut.refl _ _) ⟨o, ho, hc, hdat⟩ ?_ (fun p hp => ?_) (fun p hp => ?_) ?_ fun s' es' ep' sb R e3 ⟨n, hs'⟩ => ?_
  · rw [z0, ← rl, sizeLine_eq]
    omega
  · rw [e0, List.nil_append] at hp
    obtain ⟨q, hq, rq⟩ := vv_mem rel p hp
    exact keyG_of I2 hu rq (kok q hq).1 (kok q hq).2
  · rw [e0] at hp
    cases hp
  · exact vv_pw (S := ApV) rel (fun v => KeyVOk H2 v ∧ v ≠ .ref s.heap.objs.size) (fun p hp => kok p hp) (fun c1 c2 ap r1 r2 => pairG_of I2 hu r1 r2 c1.1 c2.1 ap c1.2 c2.2) pw
  · rw [e0, List.nil_append] at e3
    rw [hs']
    refine ⟨.ref s.heap.objs.size, upd H2 s.heap.objs.size (KdO s.heap.objs.size es' ep'), ?_, rfl, q2 es' ep' (by rw [e3]; exact rel)⟩
    have he : ∃ q, s'.heap.get? s.heap.objs.size = some q := let ⟨q, hq, _⟩ := R; ⟨q, hq⟩
    exact d_write I2 (by rw [e]; exact True.intro) sb he (kd_ok R hd)
end K2

namespace K2
open PySem PySem.Spec PyProof.Rows L2
/-! ### for k, v in d.items(): a dict whose entries are known -/
def ItX (d : Addr) (ents : Array DictEntry) (ep : Nat) (ps : List (V × V)) : It :=
  ⟨fun i H => H d = some (KdO d ents ep) ∧ i < ps.length, fun i H x H' => ∃ T k v, ps[i]? = some (k, v) ∧ x = .ref T ∧ H T = none ∧ H' = upd H T (.tup [k, v]), fun i H => H d = some (KdO d ents ep) ∧ ps.length ≤ i⟩
theorem vv_get {ps : List (V × V)} {ws : List (Value × Value)} (r : VV ps ws) {i : Nat} {q : Value × Value} (h : ws[i]? = some q) : ∃ p, ps[i]? = some p ∧ RelV p.1 q.1 ∧ RelV p.2 q.2 := by
  induction r generalizing i with
  | nil => cases h
  | @cons a b as bs h1 t ih =>
    cases i with
    | zero =>
      cases Option.some.inj h
      exact ⟨a, rfl, h1⟩
    | succ i => exact ih h
section
variable {P : Program} {w : World} {K : PySem.W.Frag} {d : Addr} {ents : Array DictEntry} {ep : Nat} {ps : List (V × V)}
theorem ents_at {i : Nat} (hi : i < ents.size) : (entsOf ents)[i]? = some (ents[i].key, ents[i].val) := by
  unfold entsOf
  rw [List.getElem?_map, Array.getElem?_toList, Array.getElem?_eq_getElem hi]
  rfl
theorem ents_len : (entsOf ents).length = ents.size := by
  unfold entsOf
  rw [List.length_map, Array.length_toList]
theorem turn_itX {elts : List Expr} {kk : Nat} {tp : Pos} (it : Addr) (vv : VV ps (entsOf ents)) : Turn P w K (.Tuple elts kk tp) (ItX d ents ep ps) [it] it (fun i h => ∃ ok ov, IsItemIter h it d i ents.size ep ok ov) where
  mem := List.mem_singleton.mpr rfl
  obj := fun i h st b hb => by
    obtain rfl : b = it := List.mem_singleton.mp hb
    obtain ⟨ok, ov, x⟩ := st
    exact ⟨_, x, fun v z => nomatch z⟩
  keep := fun i h h' ⟨ok, ov, x⟩ k => ⟨ok, ov, k it (List.mem_singleton.mpr rfl) _ x⟩
  item := by
    intro X e1 e2 e3 hc i pins s σ H E I fresh st go
    subst e1 e2 e3
    obtain ⟨hd, hi⟩ := go
    obtain ⟨R, _⟩ := kd_of I.hok hd
    have ln : ps.length = ents.size := by rw [Paired.length vv, ents_len]
    have hi' : i < ents.size := by omega
    obtain ⟨⟨k, v⟩, hkv, rk, rv⟩ := vv_get vv (ents_at hi')
    obtain ⟨ok, ov, he⟩ := st
    have low : it < s.heap.objs.size := Heap.lt_size he
    refine DT.nextI he R hi' fun h1 out tupAt size kept => ?_
    refine ⟨_, rfl, wpAny_letOwnedTupleGo_items (s := { s with heap := h1 }) out fun h2 he2 sb => ?_⟩
    have tup2 := (sb.2 _ (Nat.ne_of_gt low)).trans tupAt
    have new : ObjOk X.prog X.w (upd H s.heap.objs.size (.tup [k, v])) h2 s.heap.objs.size (.tup [k, v]) := ⟨by show 2 ≤ sizeLine; decide, [ents[i].key, ents[i].val], .cons rk (.cons rv .nil), ⟨_, tup2, rfl, _, rfl⟩⟩
    have J : L2.Inv X pins σ (upd H s.heap.objs.size (.tup [k, v])) { s with heap := h2 } :=
      I.turnedNew (t' := s.toks) (ch := [it]) (fun b ob nb e => (sb.2 b (fun z => nb (List.mem_singleton.mpr z))).trans (kept b ob (fun z => nb (List.mem_singleton.mpr z)) e)) fresh (Nat.le_refl _) new
    refine ⟨.ref s.heap.objs.size, _, J, rfl, ⟨_, k, v, hkv, rfl, I.hok.fresh (Nat.le_refl _), rfl⟩, ⟨_, _, he2⟩, fun b hb => ?_⟩
    obtain rfl : b = it := List.mem_singleton.mp hb
    rw [upd_ne (Nat.ne_of_lt low)]
    exact (fresh _ (List.mem_singleton.mpr rfl)).1
  done := by
    intro X e1 e2 e3 hc i pins s σ H E I fresh st go
    subst e1 e2 e3
    obtain ⟨hd, hi⟩ := go
    obtain ⟨f0, f1, f2, f3, f4, f5⟩ := fresh it (List.mem_singleton.mpr rfl)
    obtain ⟨R, _⟩ := kd_of I.hok hd
    have ln : ps.length = ents.size := by rw [Paired.length vv, ents_len]
    obtain ⟨ok, ov, he⟩ := st
    exact DT.endI (I.ok.hd hc) he R (by omega) fun h1 eb => ⟨rfl, I.turned (t' := s.toks) (fun b ob nb e => eb b ob nb e) f0 f1 f3 f4 f5⟩
  self := fun A i s Q E ⟨_, _, x⟩ h => PySem.W.kcp_self x h
theorem walk_itX : Walk (ItX d ents ep ps) ps.length (fun H => H d = some (KdO d ents ep)) (YPair (fun i => ps[i]?.map Prod.fst) (fun i => ps[i]?.map Prod.snd)) := by
  refine ⟨fun _ _ hi q => ⟨q, hi⟩, fun _ q => ⟨q, Nat.le_refl _⟩, fun i H x H' _ _ y => ?_⟩
  obtain ⟨T, k, v, q1, q2, q3, q4⟩ := y
  exact ⟨T, k, v, q2, q3, q4, by simp [q1], by simp [q1]⟩
end
def iItX (i : Nat) : TI := fun σ H R => ∃ d ents ep ps, σ[i]? = some (some (.ref d)) ∧ H d = some (KdO d ents ep) ∧ VV ps (entsOf ents) ∧ R (ItX d ents ep ps) H
theorem pi_itX {X : Cx} {i : Nat} {e : Expr} {apos cpos tp : Pos} {elts : List Expr} {kk : Nat} (he : PE X e (tVar i)) (hbase : attributeBase e "items" X.env (eval e X.env) = eval e X.env := by rfl) (hline : (apos.endLine == cpos.line) = true := by rfl) :
    PI X (.Tuple elts kk tp) (.Call (.Attribute e "items" apos) [] [] cpos) (iItX i) := by
  refine ⟨fun pins s σ H R I h => ?_⟩
  obtain ⟨d, ents, ep, ps, hv, hd, vv, q⟩ := h
  have hq : tVar i σ H (fun x H1 => x = .ref d ∧ H1 = H) := ⟨_, hv, rfl, rfl⟩
  refine wpAny_Call_method (T := "dict") (id := "dict.items") hbase rfl hline F.plainAttrs_dict F.slot_dict_items F.type_dict_items (thn (he.run pins s σ H _ I hq) fun u s1 hh => ?_)
  obtain ⟨x, H1, I1, rx, rfl, rfl⟩ := hh
  obtain rfl : u = Value.ref d := rx
  obtain ⟨Rw, nsm⟩ := kd_of I1.hok hd
  have nod : ∀ b, Value.ref d = .ref b → ∃ ob, s1.heap.get? b = some ob ∧ ob.dict = none := fun b e => by
    cases e
    obtain ⟨o, ho, hc, _⟩ := Rw
    exact ⟨o, ho, hc.2.1⟩
  refine ⟨Rw.typeIs, nod, ?_⟩
  have I2 : L2.Inv X pins σ H1 { s1 with heap := s1.heap.push { cls := .type "dict_items", data := .fields #[.ref d] } } := I1.kept (t' := s1.toks) fun b ob z => Heap.get?_push_of_some _ z
  have fin : wpAny (model X.prog X.w) X.A (pyIter (.ref s1.heap.objs.size)) (PIE X pins σ (.Tuple elts kk tp) R) X.xe { s1 with heap := s1.heap.push { cls := .type "dict_items", data := .fields #[.ref d] } } := by
    refine DT.iterI (d := d) (es := ents) (ep := ep) ⟨_, Heap.get?_push_size _ rfl, rfl, rfl⟩ (Rw.push _) (pi_one (tk := s1.toks) I2 _ (turn_itX _ vv) ⟨.none, .none, ?_⟩ q)
    exact Heap.get?_push_size _ rfl
  show wpAny _ _ (callWith cpos (.builtin "dict.items") [.ref d] [] []) _ X.xe s1
  exact method_meetsIn F.slot_dict_items F.entry_dict_items rfl (PySem.evalArgs_none ⟨rfl, Rw.typeIs, F.args_dict_items_1 _, _, DT.meetsItems (es := ents) (ep := ep) nsm, ⟨Rw, fin⟩⟩)
end K2

namespace K2
open PySem L2 E0
/-! ### all but the dicts of this content stands -/
def ButD (kvs0 : List (Key × V)) (H H' : Hp) : Prop := ∀ b o, H b = some o → o ≠ .dK kvs0 → H' b = some o
section
variable {kvs0 : List (Key × V)} {H H' : Hp} {K : PySem.W.Frag} {CF CSc CP : Addr}
theorem ButD.of {d : Addr} (hd : H d = some (.dK kvs0)) (e : ∀ b o, b ≠ d → H b = some o → H' b = some o) : ButD kvs0 H H' := fun b o q n => e b o (fun z => n (by rw [z, hd] at q; exact (Option.some.inj q).symm)) q
theorem Same.but (s : Same H H') : ButD kvs0 H H' := fun b o q _ => s b o q
theorem SlotTup.but {p : Addr} {kvs : List (Key × V)} (h : SlotTup H p kvs) (e : ButD kvs0 H H') : SlotTup H' p kvs := by
  obtain ⟨ts, e1, e2⟩ := h
  exact ⟨ts, e _ _ e1 nofun, Paired.mapP e2 fun t q z => e _ _ z nofun⟩
theorem FormAt.but {y : Addr} {n s : V} {kvs : List (Key × V)} (h : FormAt CF H y n s kvs) (e : ButD kvs0 H H') : FormAt CF H' y n s kvs := by
  obtain ⟨dx, p, fs, a, b, c, d, st⟩ := h.ex
  exact ⟨dx, p, fs, e _ _ a nofun, b, c, d, st.but e⟩
theorem items_but : ∀ {xs : List V} {its : List Itm}, Paired (ItmAt K CF H) xs its → (∀ i ∈ its, isForm i = true) → ButD kvs0 H H' → Paired (ItmAt K CF H') xs its
  | _, _, .nil, _, _ => .nil
  | _, .odd :: _, .cons _ _, h, _ => nomatch h _ (List.mem_cons_self ..)
  | _, .form _ _ _ :: _, .cons a t, h, e => by
    obtain ⟨x, q, f⟩ := a
    exact .cons ⟨x, q, f.but e⟩ (items_but t (fun i hi => h i (List.mem_cons_of_mem _ hi)) e)
theorem SchAt.but {x : Addr} {xs : List V} {its : List Itm} {rs : List Addr} (S : SchAt K CF CSc H x xs its rs) (e : ButD kvs0 H H') (n : tabKV (namesOf its) (xs ++ rs.map V.ref) ≠ kvs0) : SchAt K CF CSc H' x xs its rs := by
  obtain ⟨dx, fs, a, b, d, p, ts, h1, h2, h3, h4, h5, h6, h7, h8, h9, h10, h11, h12⟩ := S.ex
  have f1 := (check_none (due_forms S.due).1).1
  refine ⟨⟨dx, fs, a, b, d, p, ts, e _ _ h1 nofun, h2, h3, h4, h5, e _ _ h6 nofun, e _ _ h7 nofun, e _ _ h8 (fun q => n (HO.dK.inj q)), e _ _ h9 nofun, items_but h10 f1 e, Paired.mapP h11 fun r z q => FormAt.but q e, Paired.mapP h12 fun t i q => ?_⟩, S.due, S.ok⟩
  cases i with
  | odd => exact q
  | form n s ps =>
    obtain ⟨q2, e1, e2⟩ := q
    exact ⟨q2, e _ _ e1 nofun, e2.but e⟩
theorem PlanAt.but {x : Addr} {o s u : V} (h : PlanAt CP H x o s u) (e : ButD kvs0 H H') : PlanAt CP H' x o s u := let ⟨dx, q⟩ := h; ⟨dx, e _ _ q nofun⟩
end
/-! ### an entry of a dict of plans -/
/-- y names a form of the schema, with these slots -/
def NamesF (CF : Addr) (its : List Itm) (xs : List V) (rs : List Addr) (H : Hp) (y : V) (ps : List (Str × Str)) : Prop :=
  ∃ z yf n so, y = .str z ∧ hasV its y = true ∧ valV (tabKV (namesOf its) (xs ++ rs.map V.ref)) (.inr z) = some (.ref yf) ∧ FormAt CF H yf n so (ps.map mkP) ∧ ps.length ≤ 5
def PlanOf (CP : Addr) (H : Hp) (p : V) (sv u : V) : Prop := ∃ pa o, p = .ref pa ∧ PlanAt CP H pa o sv u ∧ flatV sv = true ∧ flatV u = true
def EntOk (K : PySem.W.Frag) (CF CP : Addr) (its : List Itm) (xs : List V) (rs : List Addr) (H : Hp) (y p : V) : Prop := ValB K H y ∧ ∃ ps sv u, NamesF CF its xs rs H y ps ∧ PlanOf CP H p sv u ∧ (inV sv (slotsV ps) && inV u (slotsV ps)) = true
def EntBad (K : PySem.W.Frag) (CF CP : Addr) (its : List Itm) (xs : List V) (rs : List Addr) (H : Hp) (y p : V) (k : Str) : Prop := ValB K H y ∧
  ((hasV its y = false ∧ k = "form") ∨ ∃ ps, NamesF CF its xs rs H y ps ∧ ((k = "plan" ∧ (∀ a, p = .ref a → ∃ o, H a = some o) ∧ ∃ t, TyX K H p t ∧ PySem.W.kitOne K t (.ref CP) = some false) ∨
    (k = "slot" ∧ ∃ sv u, PlanOf CP H p sv u ∧ (inV sv (slotsV ps) && inV u (slotsV ps)) = false)))
section
variable {K : PySem.W.Frag} {CF CSc CP CW : Addr} {its : List Itm} {xs : List V} {rs : List Addr} {H H' : Hp} {y p : V} {k : Str}
theorem NamesF.same {ps : List (Str × Str)} (h : NamesF CF its xs rs H y ps) (e : Same H H') : NamesF CF its xs rs H' y ps := let ⟨z, yf, n, so, a, b, c, d, l⟩ := h; ⟨z, yf, n, so, a, b, c, d.same e, l⟩
theorem NamesF.but {kvs0 : List (Key × V)} {ps : List (Str × Str)} (h : NamesF CF its xs rs H y ps) (e : ButD kvs0 H H') : NamesF CF its xs rs H' y ps := let ⟨z, yf, n, so, a, b, c, d, l⟩ := h; ⟨z, yf, n, so, a, b, c, d.but e, l⟩
theorem PlanOf.same {sv u : V} (h : PlanOf CP H p sv u) (e : Same H H') : PlanOf CP H' p sv u := let ⟨pa, o, a, b, c⟩ := h; ⟨pa, o, a, b.same e, c⟩
theorem PlanOf.but {kvs0 : List (Key × V)} {sv u : V} (h : PlanOf CP H p sv u) (e : ButD kvs0 H H') : PlanOf CP H' p sv u := let ⟨pa, o, a, b, c⟩ := h; ⟨pa, o, a, b.but e, c⟩
theorem EntOk.same (h : EntOk K CF CP its xs rs H y p) (e : Same H H') : EntOk K CF CP its xs rs H' y p := let ⟨v, ps, sv, u, a, b, c⟩ := h; ⟨v.same e, ps, sv, u, a.same e, b.same e, c⟩
theorem valB_key {z : Str} (h : ValB K H (.str z)) : ValB K H' (.str z) := by
  rcases h with ⟨z', e, a, b⟩ | ⟨n, _⟩
  · cases e
    exact .inl ⟨z, rfl, a, b⟩
  · exact absurd rfl (n z)
theorem EntOk.but {kvs0 : List (Key × V)} (h : EntOk K CF CP its xs rs H y p) (e : ButD kvs0 H H') : EntOk K CF CP its xs rs H' y p := by
  obtain ⟨v, ps, sv, u, a, b, c⟩ := h
  obtain ⟨z, yf, n, so, rfl, a'⟩ := id a
  exact ⟨valB_key v, ps, sv, u, a.but e, b.but e, c⟩
theorem EntBad.same (h : EntBad K CF CP its xs rs H y p k) (e : Same H H') : EntBad K CF CP its xs rs H' y p k := by
  obtain ⟨v, r⟩ := h
  refine ⟨v.same e, ?_⟩
  rcases r with r | ⟨ps, a, ⟨e1, h0, t, ht, hk⟩ | ⟨e1, sv, u, b, c⟩⟩
  · exact .inl r
  · exact .inr ⟨ps, a.same e, .inl ⟨e1, fun q z => let ⟨o, w⟩ := h0 q z; ⟨o, e _ _ w⟩, t, TyX.keep ht fun q o _ w => e q o w, hk⟩⟩
  · exact .inr ⟨ps, a.same e, .inr ⟨e1, sv, u, b.same e, c⟩⟩
theorem check_ok {x : Addr} {Q : VK} {E : XK} (S : SchAt K CF CSc H x xs its rs) (h : EntOk K CF CP its xs rs H y p) (q : ∀ H', Same H H' → Q .non H') : spCheckPlan K CF CSc CP CW [.ref x, y, p] H Q E := by
  obtain ⟨v, ps, sv, u, ⟨z, yf, n, so, e1, e2, e3, e4, e5⟩, ⟨pa, o, e6, e7, e8, e9⟩, c⟩ := h
  exact ⟨x, xs, its, rs, y, p, rfl, S, v, .inr ⟨z, yf, n, so, ps, e1, e2, e3, e4, e5, .inr ⟨pa, o, sv, u, e6, e7, e8, e9, by rw [if_pos c]; exact q⟩⟩⟩
theorem check_bad {x : Addr} {Q : VK} {E : XK} (S : SchAt K CF CSc H x xs its rs) (h : EntBad K CF CP its xs rs H y p k) (q : FlowBad CW H E k y) : spCheckPlan K CF CSc CP CW [.ref x, y, p] H Q E := by
  obtain ⟨v, r⟩ := h
  refine ⟨x, xs, its, rs, y, p, rfl, S, v, ?_⟩
  rcases r with ⟨r, rfl⟩ | ⟨ps, ⟨z, yf, n, so, e1, e2, e3, e4, e5⟩, ⟨rfl, h0, t, ht, hk⟩ | ⟨rfl, sv, u, ⟨pa, o, e6, e7, e8, e9⟩, c⟩⟩
  · exact .inl ⟨r, q⟩
  · exact .inr ⟨z, yf, n, so, ps, e1, e2, e3, e4, e5, .inl ⟨t, ht, hk, q⟩⟩
  · exact .inr ⟨z, yf, n, so, ps, e1, e2, e3, e4, e5, .inr ⟨pa, o, sv, u, e6, e7, e8, e9, by rw [if_neg (by rw [c]; decide)]; exact q⟩⟩
end
theorem ps_or {X : Cx} {st : Stmt} {t u : TS} (h1 : PS X st t) (h2 : PS X st u) : PS X st (fun D σ H => t D σ H ∨ u D σ H) := by
  refine ⟨fun pins s σ H D I h => ?_⟩
  rcases h with h | h
  · exact h1.run pins s σ H D I h
  · exact h2.run pins s σ H D I h
end K2

namespace K2
open PySem L2 E0
def steps : V := .str "steps"
theorem due_steps : planDue (.str "steps") .non .non = none := by decide +kernel
theorem val_steps {K : PySem.W.Frag} {H : Hp} : Val K H (.str "steps") := val_str (z := "steps") (by decide +kernel) (by decide +kernel)
theorem plan_made0 {K : PySem.W.Frag} {CP CI x dx : Addr} {H : Hp} {R : VK} {E : XK} (nx : H x = none) (ndx : H dx = none) (h : ∀ H', Same H H' → PlanAt CP H' x steps .non .non → R .non H') :
    spPlanInit K CP CI (.ref x :: (([] : List V) ++ [.str "steps", .non, .non])) (upd (upd H dx (.own x)) x (.ins CP dx [])) R E :=
  plan_made nx ndx val_steps val_non val_non (by unfold PlanRes; rw [due_steps]; exact h)
theorem tab_snoc {nms : List Str} {vals : List V} {i : Nat} {z : Str} {v : V} (nd : nms.Nodup) (h1 : nms[i]? = some z) (l : vals.length = i) : putK (tabKV (nms.take i) vals) (.inr z) v = tabKV (nms.take (i + 1)) (vals ++ [v]) := by
  have e := tab_put (nms := nms) (vals := vals ++ [v]) (i := i) (v := v) nd h1 (by subst l; simp)
  have e1 : (vals ++ [v]).take i = vals := by subst l; simp
  have e2 : (vals ++ [v]).take (i + 1) = vals ++ [v] := List.take_of_length_le (by rw [List.length_append, l]; exact Nat.le_refl _)
  rw [e1, e2] at e
  exact e
/-- what the dict of a flow holds for each name -/
def PlansFor (CP : Addr) (kvs : List (Key × V)) (H : Hp) (nms : List Str) (vals : List V) : Prop :=
  vals.length = nms.length ∧ ∀ (i : Nat) (z : Str) (v : V), nms[i]? = some z → vals[i]? = some v → valV kvs (.inr z) = some v ∨ (valV kvs (.inr z) = none ∧ ∃ a, v = .ref a ∧ PlanAt CP H a steps .non .non)
structure FlowAt (CFl CP : Addr) (kvs : List (Key × V)) (H : Hp) (f sch : Addr) (nms : List Str) (vals : List V) : Prop where
  ex : ∃ (dx d : Addr) (fs : List (Str × V)), H f = some (.ins CFl dx fs) ∧ fs.lookup ("schema" : Str) = some (.ref sch) ∧ fs.lookup ("_plans" : Str) = some (.ref d) ∧ fs.lookup ("plan" : Str) = none ∧ H d = some (.dK (tabKV nms vals))
  pf : PlansFor CP kvs H nms vals
structure FlowCls (K : PySem.W.Frag) (CFl : Addr) : Prop where
  cl : Cls K CFl
  n1 : NoAttr K CFl "schema"
  n2 : NoAttr K CFl "_plans"
def spFlowInit (K : PySem.W.Frag) (CF CSc CP CFl CW : Addr) : Sp := fun vs H Q E => ∃ (x dx sch d : Addr) (xs : List V) (its : List Itm) (rs : List Addr), vs = [.ref x, .ref sch, .ref d] ∧ H x = some (.ins CFl dx []) ∧ SchAt K CF CSc H sch xs its rs ∧
  ((∃ (ents : Array DictEntry) (ep : Nat) (ps : List (V × V)) (j : Nat) (y p : V) (k : Str), H d = some (KdO d ents ep) ∧ VV ps (entsOf ents) ∧ ps[j]? = some (y, p) ∧ (∀ (i : Nat) (y p : V), i < j → ps[i]? = some (y, p) → EntOk K CF CP its xs rs H y p) ∧ EntBad K CF CP its xs rs H y p k ∧ FlowBad CW H E k y) ∨
   (∃ kvs, H d = some (.dK kvs) ∧ tabKV (namesOf its) (xs ++ rs.map V.ref) ≠ kvs ∧ (∀ kv ∈ kvs, EntOk K CF CP its xs rs H (kV kv.1) kv.2) ∧ (∀ kv ∈ kvs, ∃ a, kv.2 = .ref a ∧ a ≠ x) ∧ its.length ≤ 100 ∧
     ∀ H' vals, SameX x H H' → FlowAt CFl CP kvs H' x sch (namesOf its) vals → Q .non H'))
def NFI : List Str := ["self", "schema", "plans", "word", "plan", "names", "form", "sort", "name"]
section
variable {P : Program} {w : World} {K : PySem.W.Frag} {mg : Str → Option Value} {base : Heap}
theorem scFlowI : FnScope NFI ["self", "schema", "plans"] (defScope sFlowInit) := ⟨rfl, rfl, rfl, by decide +kernel, rfl, by decide +kernel, by decide +kernel⟩
theorem ok_flowInit {f fEq fHas fGet fP fCP CU CF CSc CP CI CFl CW : Addr} {fd fdP fdCP : FuncData} (F : Fun K "__init__" "Flow.__init__" sFlowInit f fd) (SK : SchK P w K mg base CU CF CSc fEq fHas fGet) (TP : TxtPl P w K mg base CP CI fP fdP) (FL : FlowCls K CFl)
    (GCP : FnOk P w K mg base (L2.CX P w) 5 fCP fdCP ["schema", "word", "plan"] (spCheckPlan K CF CSc CP CW)) (gCP : mg "_check_plan" = some (.ref fCP)) (kCP : PySem.W.keepIn K (.ref fCP) = true) (bCP : Binds K fdCP ["schema", "word", "plan"] []) (raw : ∃ t, mg "RAW" = some (.str "raw_" t)) :
    FnOk P w K mg base (L2.CX P w) 6 f fd ["self", "schema", "plans"] (spFlowInit K CF CSc CP CFl CW) := by
  refine F.okX scFlowI (fun vs H Q E h => ?_) (fun cdv A outer s H vs Q E hr h => ?_)
  · obtain ⟨x, dx, sch, d, xs, its, rs, rfl, _⟩ := h
    rfl
  · obtain ⟨x, dx, sch, d, xs, its, rs, rfl, hx, S, k⟩ := h
    obtain ⟨tr, raw⟩ := raw
    have hU := hu_of hr
    have tkE : Takes (cxOf (L2.CX P w) P w K mg base NFI "Flow.__init__" (defScope sFlowInit) f cdv A outer s H E) (fun cls dd _ H => E cls dd H) := takes_of rfl rfl rfl rfl
    have hx' := passes_call tkE (E := E) (fun _ _ _ _ q => q)
    obtain ⟨dsP, rP, bP⟩ := pb_none TP.F
    refine ⟨_, pss_cons (ps_or
        (ps_lock (ps_for (passes_of rfl) rfl (pi_items (pv 2)) (pg_tup (by rfl) (pgs_cons (pg_name (i := 3) scFlowI.nd rfl (.inl rfl)) (pgs_cons (pg_name (i := 4) scFlowI.nd rfl (.inl rfl)) pgs_nil)))
          (pss_one (ps_expr (pe_call (E := E0) GCP hr rfl gCP kCP bCP .nil passL (pa_cons (pv 1) (pa_cons (pv 3) (pa_cons (pv 4) pa_nil))))))))
        (ps_for (passes_of rfl) rfl (pi_itX (i := 2) (pv 2)) (pg_tup (by rfl) (pgs_cons (pg_name (i := 3) scFlowI.nd rfl (.inl rfl)) (pgs_cons (pg_name (i := 4) scFlowI.nd rfl (.inl rfl)) pgs_nil)))
          (pss_one (ps_expr (pe_call GCP hr rfl gCP kCP bCP .nil hx' (pa_cons (pv 1) (pa_cons (pv 3) (pa_cons (pv 4) pa_nil))))))))
      (pss_cons (ps_set (i := 5) scFlowI.nd rfl (Or.inl rfl) (pe_op op_cat
          (pe_lc (own := [("form", 6)]) (g := gName 6) (tt := tYes) (te := tFld K (tVar 6) "name") rfl scFlowI.nd (pi_tup (pe_fld (pv 1) rfl))
            (blkOk_by (N := NFI) (sc := defScope sFlowInit) (by decide +kernel)) (fun _ _ _ _ _ => pg_name (i := 6) scFlowI.nd rfl (Or.inl rfl)) (fun _ _ _ _ _ => pts_nil) (fun _ _ _ _ _ => pe_fld (pv 6) rfl))
          (pe_lc (own := [("sort", 7)]) (g := gName 7) (tt := tYes) rfl scFlowI.nd (pi_tup (pe_fld (pv 1) rfl))
            (blkOk_by (N := NFI) (sc := defScope sFlowInit) (by decide +kernel)) (fun _ _ _ _ _ => pg_name (i := 7) scFlowI.nd rfl (Or.inl rfl)) (fun _ _ _ _ _ => pts_nil) (fun _ _ _ _ _ => pe_op op_add_str (pe_glob (v := .str "raw_") rfl raw ⟨_, rfl⟩) (pv 7)))))
      (pss_cons (ps_fld (pv 0) (pv 1) rfl)
      (pss_one (ps_fld (pv 0) (pe_dc (own := [("name", 8)]) (g := gName 8) (tt := tYes) rfl scFlowI.nd (pi_list (pv 5))
          (blkOk_by (N := NFI) (sc := defScope sFlowInit) (by decide +kernel)) (fun _ _ _ _ _ => pg_name (i := 8) scFlowI.nd rfl (Or.inl rfl)) (fun _ _ _ _ _ => pts_nil) (fun _ _ _ _ _ => pv 8)
          (fun _ _ _ _ _ => pe_dget2 (tx := tMake CP (spPlanInit K CP CI) [.str "steps", .non, .non] E0 tNil) hU (pv 2) (pv 8) (pe_make0 (E := E0) TP.M TP.G (hr.mono (by decide)) rfl TP.g bP rP passL) ⟨rfl, rfl, rfl, rfl⟩)) rfl)))), ?_⟩
    obtain ⟨dxs, fss, a, b, dt, pR, ts, h1, h2, h3, h4, h5, h6, h7, h8, h9, h10, h11, h12⟩ := S.ex
    rcases k with ⟨ents, ep, ps, j, y, p, kk, hd, vv, ej, hok, hbad, kb⟩ | ⟨kvs, hd, net, hok, hnx, itl, k⟩
    · refine .inr ⟨d, ents, ep, ps, rfl, hd, vv, for_it walk_itX (fun i σ H' => ∃ v3 v4 : Option V, σ = [some (.ref x), some (.ref sch), some (.ref d), v3, v4, none, none, none, none] ∧ Same H H' ∧ i ≤ j)
        ⟨_, _, rfl, Same.refl H, Nat.zero_le _⟩ (fun i σ H' _ ⟨_, _, _, s', _⟩ => s' _ _ hd) ?_ ?_⟩
      · rintro i v σ H1 H2 hi ⟨v3, v4, rfl, s1, ij⟩ ⟨Tp, y', p', rfl, hT, rfl, ey, ez⟩
        obtain ⟨q, eq⟩ : ∃ q, ps[i]? = some q := ⟨ps[i], List.getElem?_eq_getElem hi⟩
        have ey : ps[i]?.map Prod.fst = some y' := ey
        have ez : ps[i]?.map Prod.snd = some p' := ez
        rw [eq] at ey ez
        have ey : some q.1 = some y' := ey
        have ez : some q.2 = some p' := ez
        cases ey
        cases ez
        have s2 : Same H (upd H1 Tp (.tup [q.1, q.2])) := same_upd s1 (s1.free hT)
        have vT : (upd H1 Tp (.tup [q.1, q.2])) Tp = some (.tup [q.1, q.2]) := upd_same
        generalize upd H1 Tp (.tup [q.1, q.2]) = H2 at s2 vT ⊢
        refine ⟨Tp, _, rfl, .inl (.inl vT), rfl, _, _, rfl, ?_⟩
        refine ⟨_, _, rfl, rfl, ?_⟩
        refine ⟨_, rfl, _, rfl, _, rfl, ?_⟩
        dsimp only [tNil, List.cons_append, List.nil_append]
        rcases Nat.lt_or_eq_of_le ij with lt | rfl
        · exact check_ok (S.same s2) ((hok i q.1 q.2 lt eq).same s2) fun H3 s3 => ⟨_, _, rfl, s2.trans s3, lt⟩
        · rw [eq] at ej
          cases ej
          exact check_bad (S.same s2) (hbad.same s2) fun H' dd s' hdd e => kb H' dd (s2.trans s') (s2.free hdd) e
      · rintro σ H1 ⟨v3, v4, rfl, s1, ij⟩
        have := (List.getElem?_eq_some_iff.mp ej).1
        omega
    · refine .inl ⟨d, .dK kvs, hd, True.intro, fun od => ?_⟩
      have hu0 : (upd H d (.frz od (.dK kvs))) d = some (.frz od (.dK kvs)) := upd_same
      have unl : ∀ H' : Hp, (∀ b o, b ≠ d → H b = some o → H' b = some o) → Same H (upd H' d (.dK kvs)) := fun H' k b o e => by
        by_cases q : b = d
        · rw [q, upd_same]
          rw [q, hd] at e
          exact e
        · rw [upd_ne q]
          exact k b o q e
      refine ⟨_, rfl, d, od, kvs, rfl, hu0, for_it walk_items (fun i σ H' => ∃ v3 v4 : Option V, σ = [some (.ref x), some (.ref sch), some (.ref d), v3, v4, none, none, none, none] ∧ (∀ b o, b ≠ d → H b = some o → H' b = some o) ∧ H' d = some (.frz od (.dK kvs)))
        ⟨_, _, rfl, fun b o q e => by rw [upd_ne q]; exact e, hu0⟩ (fun i σ H' _ ⟨_, _, _, _, e⟩ => e) ?_ ?_⟩
      · rintro i v σ H1 H2 hi ⟨v3, v4, rfl, s1, hf⟩ ⟨Tp, y', p', rfl, hT, rfl, ey, ez⟩
        obtain ⟨q, eq⟩ : ∃ q, kvs[i]? = some q := ⟨kvs[i], List.getElem?_eq_getElem hi⟩
        have ey : kvs[i]?.map (fun kv => kV kv.1) = some y' := ey
        have ez : kvs[i]?.map Prod.snd = some p' := ez
        rw [eq] at ey ez
        have ey : some (kV q.1) = some y' := ey
        have ez : some q.2 = some p' := ez
        cases ey
        cases ez
        have s2 : ∀ b o, b ≠ d → H b = some o → (upd H1 Tp (.tup [kV q.1, q.2])) b = some o := fun b o z e => by
          have e1 := s1 b o z e
          rw [upd_ne (ne_of_none e1 hT)]
          exact e1
        have hf2 : (upd H1 Tp (.tup [kV q.1, q.2])) d = some (.frz od (.dK kvs)) := by rw [upd_ne (ne_of_none hf hT)]; exact hf
        have vT : (upd H1 Tp (.tup [kV q.1, q.2])) Tp = some (.tup [kV q.1, q.2]) := upd_same
        generalize upd H1 Tp (.tup [kV q.1, q.2]) = H2 at s2 hf2 vT ⊢
        have bd : ButD kvs H H2 := ButD.of hd s2
        refine ⟨Tp, _, rfl, .inl (.inl vT), rfl, _, _, rfl, ?_⟩
        refine ⟨_, _, rfl, rfl, ?_⟩
        refine ⟨_, rfl, _, rfl, _, rfl, ?_⟩
        dsimp only [tNil, List.cons_append, List.nil_append]
        exact check_ok (S.but bd net) ((hok q (List.mem_of_getElem? eq)).but bd) fun H3 s3 => ⟨_, _, rfl, fun b o z e => s3 _ _ (s2 b o z e), s3 _ _ hf2⟩
      · rintro σ H1 ⟨v3, v4, rfl, s1, hf⟩
        refine ⟨hf, ?_⟩
        have s2 := unl H1 s1
        have hd2 : (upd H1 d (.dK kvs)) d = some (.dK kvs) := upd_same
        generalize upd H1 d (.dK kvs) = H2 at s2 hd2 ⊢
        have S2 := S.same s2
        have f1 := (check_none (due_forms S.due).1).1
        have nam : Paired (NamedAt CF H2) xs (its.map nmOf) := named_forms (items_keep h10 s2) f1
        have xl : xs.length = its.length := h10.length
        have hss := sortsOf_ok S.ok
        have hsl : (sortsOf its).length ≤ 1100 := by have := sortsOf_len S.ok; omega
        have nml : (its.map nmOf).length ≤ 100 := by rw [List.length_map]; exact itl
        -- the names of the forms
        refine ⟨_, rfl, sch, CSc, dxs, fss, _, rfl, s2 _ _ h1, SK.SC.cl, SK.SC.n1, h2, a, rfl, ⟨_, SqT.of (s2 _ _ h6)⟩, fun D hD => lc_tup (K := K) (a := a) (xs := xs) (fun i H' => Same H2 H' ∧ H' D = some (.lst (((its.map nmOf).take i).map V.str)))
          ⟨same_upd (Same.refl H2) hD, by rw [upd_same]; rfl⟩ (fun i H' _ ⟨s', _⟩ => SqT.of (s' _ _ (s2 _ _ h6))) ?_ ?_⟩
        · rintro i v H3 hv ⟨s3, hD3⟩
          obtain ⟨z, ez, y, dy, fs, rfl, hy, ln⟩ := LiI.paired_get nam hv
          refine ⟨rfl, ?_⟩
          dsimp only [tYes]
          rw [if_pos rfl]
          refine ⟨_, rfl, y, CF, dy, fs, _, rfl, s3 _ _ hy, SK.FC.cl, SK.fN, ln, _, hD3, ?_, same_upd s3 hD, ?_⟩
          · rw [List.length_map, List.length_take]
            exact Nat.lt_of_le_of_lt (show min i (its.map nmOf).length ≤ 100 by omega) (by decide)
          · rw [upd_same, List.take_add_one, ez, List.map_append]
            rfl
        · rintro H3 ⟨s3, hD3⟩
          have e0 : (its.map nmOf).take xs.length = its.map nmOf := by rw [xl, ← List.length_map (f := nmOf), List.take_length]
          rw [e0] at hD3
          have s03 := s2.trans s3
          refine ⟨_, rfl, sch, CSc, dxs, fss, _, rfl, s03 _ _ h1, SK.SC.cl, SK.SC.n2, h3, b, rfl, ⟨_, SqT.of (s03 _ _ h7)⟩, fun D2 hD2 => lc_tup (K := K) (a := b) (xs := (sortsOf its).map V.str) (fun i H' => Same H3 H' ∧ H' D2 = some (.lst ((((sortsOf its).map rawN).take i).map V.str)))
            ⟨same_upd (Same.refl H3) hD2, by rw [upd_same]; rfl⟩ (fun i H' _ ⟨s', _⟩ => SqT.of (s' _ _ (s03 _ _ h7))) ?_ ?_⟩
          · rintro i v H4 hv ⟨s4, hD4⟩
            obtain ⟨z, ez, rfl⟩ : ∃ z, (sortsOf its)[i]? = some z ∧ v = V.str z := by
              rw [List.getElem?_map] at hv
              cases q : (sortsOf its)[i]? with
              | none => rw [q] at hv; cases hv
              | some r => rw [q] at hv; exact ⟨r, rfl, (Option.some.inj hv).symm⟩
            have zl := nameS_len (sortS_name (hss z (List.mem_of_getElem? ez)))
            have eraw : ((sortsOf its).map rawN)[i]? = some (rawN z) := by rw [List.getElem?_map, ez]; rfl
            refine ⟨rfl, ?_⟩
            dsimp only [tYes]
            rw [if_pos rfl]
            refine ⟨_, rfl, _, _, rfl, rfl, ?_, _, hD4, ?_, same_upd s4 hD2, ?_⟩
            · rw [show ("raw_" : Str).length = 4 by decide +kernel]
              exact Nat.le_trans (show 4 + z.length ≤ 24 by omega) (by decide)
            · rw [List.length_map, List.length_take, List.length_map]
              exact Nat.lt_of_le_of_lt (show min i (sortsOf its).length ≤ 1100 by omega) (by decide)
            · rw [upd_same, List.take_add_one, eraw, List.map_append]
              rfl
          · rintro H4 ⟨s4, hD4⟩
            have e1 : ((sortsOf its).map rawN).take ((sortsOf its).map V.str).length = (sortsOf its).map rawN := by rw [List.length_map, ← List.length_map (f := rawN), List.take_length]
            rw [e1] at hD4
            have s04 := s03.trans s4
            refine ⟨D, D2, _, _, rfl, rfl, s4 _ _ hD3, hD4, ?_, fun L hL => ?_⟩
            · rw [List.length_map, List.length_map, List.length_map, List.length_map]
              rw [List.length_map] at nml
              exact Nat.le_trans (show its.length + (sortsOf its).length ≤ 1200 by omega) (by decide)
            have eN : (its.map nmOf).map V.str ++ ((sortsOf its).map rawN).map V.str = (namesOf its).map V.str := by unfold namesOf; rw [List.map_append]
            rw [eN]
            have s5 : Same H (upd H4 L (.lst ((namesOf its).map V.str))) := same_upd s04 (s04.free hL)
            have hd5 : (upd H4 L (.lst ((namesOf its).map V.str))) d = some (.dK kvs) := by
              have e4 := s4 _ _ (s3 _ _ hd2)
              rw [upd_ne (ne_of_none e4 hL)]
              exact e4
            have hL5 : (upd H4 L (.lst ((namesOf its).map V.str))) L = some (.lst ((namesOf its).map V.str)) := upd_same
            generalize upd H4 L (.lst ((namesOf its).map V.str)) = H5 at s5 hd5 hL5 ⊢
            have hx5 := s5 _ _ hx
            refine ⟨_, rfl, _, rfl, x, CFl, dx, _, rfl, hx5, FL.cl, FL.n1, (by show 0 < 1000; decide), ?_⟩
            have X6 : SameX x H (upd H5 x (.ins CFl dx (putF "schema" (.ref sch) []))) := SameX.trans (Same.x s5) SameX.upd
            have hx6 : (upd H5 x (.ins CFl dx (putF "schema" (.ref sch) []))) x = some (.ins CFl dx (putF "schema" (.ref sch) [])) := upd_same
            have hd6 : (upd H5 x (.ins CFl dx (putF "schema" (.ref sch) []))) d = some (.dK kvs) := by rw [upd_ne (ne_of hd5 hx5 (by intro q; cases q))]; exact hd5
            have hL6 : (upd H5 x (.ins CFl dx (putF "schema" (.ref sch) []))) L = some (.lst ((namesOf its).map V.str)) := by rw [upd_ne (ne_of hL5 hx5 (by intro q; cases q))]; exact hL5
            generalize upd H5 x (.ins CFl dx (putF "schema" (.ref sch) [])) = H6 at X6 hx6 hd6 hL6 ⊢
            obtain ⟨_, nd⟩ := sch_vals S
            have nmsl : (namesOf its).length ≤ 1200 := by
              rw [List.length_map] at nml
              unfold namesOf
              rw [List.length_append, List.length_map, List.length_map]
              omega
            generalize namesOf its = nms at k hL6 nd nmsl
            refine ⟨_, rfl, L, rfl, ⟨_, SqL.of hL6⟩, fun D3 hD3 => dc_list (K := K) (a := L) (xs := nms.map V.str) (fun i H' => ∃ vals, Same H6 H' ∧ H' D3 = some (.dK (tabKV (nms.take i) vals)) ∧ PlansFor CP kvs H' (nms.take i) vals)
              ⟨[], same_upd (Same.refl H6) hD3, by rw [upd_same]; rfl, rfl, fun i z v e => by cases e⟩ (fun i H' _ ⟨_, s', _⟩ => SqL.of (s' _ _ hL6)) ?_ ?_⟩
            · rintro i v H7 hv ⟨vals, s7, hD7, pf⟩
              obtain ⟨z, ez, rfl⟩ : ∃ z, nms[i]? = some z ∧ v = V.str z := by
                rw [List.getElem?_map] at hv
                cases q : nms[i]? with
                | none => rw [q] at hv; cases hv
                | some r => rw [q] at hv; exact ⟨r, rfl, (Option.some.inj hv).symm⟩
              have il := (List.getElem?_eq_some_iff.mp ez).1
              have hd7 := s7 _ _ hd6
              refine ⟨rfl, ?_⟩
              dsimp only [tYes]
              rw [if_pos rfl]
              refine ⟨_, rfl, _, rfl, d, rfl, .inl ⟨kvs, .inl hd7⟩, _, rfl, fun xp dxp nxp ndxp nep => ?_⟩
              refine plan_made0 nxp ndxp fun H8 s8 PA => ⟨rfl, ?_⟩
              have hd8 := s8 _ _ hd7
              have hD8 := s8 _ _ hD7
              obtain ⟨pl, pv'⟩ := pf
              have tl : (nms.take i).length = i := by rw [List.length_take]; omega
              refine ⟨_, DGet.k (k := .inr z) hd8, _, .inr z, rfl, hD8, ?_, vals ++ [(valV kvs (.inr z)).getD (.ref xp)], ?_, ?_, ?_⟩
              · have := tab_len (nms := nms.take i) (vals := vals)
                exact Nat.lt_of_le_of_lt (show (tabKV (nms.take i) vals).length ≤ 1200 by omega) (by decide)
              · exact same_upd (s7.trans s8) hD3
              · rw [upd_same, tab_snoc nd ez (by omega)]
              · refine ⟨by rw [List.length_append, List.length_take, pl, tl]; simp; omega, fun i' z' v' e1 e2 => ?_⟩
                have kp : ∀ a, PlanAt CP H8 a steps .non .non → PlanAt CP (upd H8 D3 (.dK (putK (tabKV (nms.take i) vals) (.inr z) ((valV kvs (.inr z)).getD (.ref xp))))) a steps .non .non := fun a ⟨dq, q⟩ => ⟨dq, by rw [upd_ne (ne_of q hD8 (by intro q; cases q))]; exact q⟩
                by_cases lt : i' < i
                · rw [List.getElem?_take_of_lt (by omega)] at e1
                  rw [List.getElem?_append_left (by omega)] at e2
                  rcases pv' i' z' v' (by rw [List.getElem?_take_of_lt lt]; exact e1) e2 with q | ⟨q, a', ea, pa⟩
                  · exact .inl q
                  · exact .inr ⟨q, a', ea, kp a' (pa.same s8)⟩
                · have il2 := (List.getElem?_eq_some_iff.mp e2).1
                  rw [List.length_append, pl, tl] at il2
                  have ei : i' = i := by simp at il2; omega
                  subst ei
                  rw [List.getElem?_take_of_lt (by omega), ez] at e1
                  cases e1
                  rw [List.getElem?_append_right (by omega)] at e2
                  have e3 : (valV kvs (.inr z)).getD (.ref xp) = v' := by simpa [pl, tl] using e2
                  obtain ⟨ov, ek⟩ : ∃ ov, valV kvs (.inr z) = ov := ⟨_, rfl⟩
                  cases ov with
                  | some v0 => rw [ek] at e3; exact .inl (by rw [ek, ← e3]; rfl)
                  | none => rw [ek] at e3; exact .inr ⟨ek, xp, e3.symm, kp xp PA⟩
            · rintro H7 ⟨vals, s7, hD7, pf⟩
              rw [List.length_map, List.take_length] at hD7 pf
              have hx7 := s7 _ _ hx6
              refine ⟨_, rfl, x, CFl, dx, _, rfl, hx7, FL.cl, FL.n2, (by show 1 < 1000; decide), ?_⟩
              refine k _ vals (SameX.trans X6 (SameX.trans (Same.x s7) SameX.upd)) ⟨⟨dx, D3, _, upd_same, rfl, rfl, rfl, ?_⟩, pf.1, fun i z v e1 e2 => ?_⟩
              · rw [upd_ne (ne_of hD7 hx7 (by intro q; cases q))]
                exact hD7
              · rcases pf.2 i z v e1 e2 with q | ⟨q, a', ea, dq, pa⟩
                · exact .inl q
                · refine .inr ⟨q, a', ea, dq, ?_⟩
                  rw [upd_ne (ne_of pa hx7 (by
                    intro q
                    injection q with q1 q2 q3
                    have l : (3 : Nat) = 1 := congrArg List.length q3
                    omega))]
                  exact pa
end
end K2

namespace K2
open PySem L2 E0
/-! ### Flow.plan -/
def spFlowPlan (K : PySem.W.Frag) (CU CF CSc CFl CP : Addr) : Sp := fun vs H Q E => ∃ (f sch : Addr) (xs : List V) (its : List Itm) (rs : List Addr) (kvs : List (Key × V)) (vals : List V) (y : V), vs = [.ref f, y] ∧ SchAt K CF CSc H sch xs its rs ∧ FlowAt CFl CP kvs H f sch (namesOf its) vals ∧ ValB K H y ∧
  ((hasV its y = false ∧ UnkE CU E H y) ∨ ∃ z, y = .str z ∧ hasV its y = true ∧ ∀ (i : Nat) (v : V), (namesOf its)[i]? = some z → vals[i]? = some v → Q v H)
section
variable {P : Program} {w : World} {K : PySem.W.Frag} {mg : Str → Option Value} {base : Heap}
theorem scFlowP : FnScope ["self", "name"] ["self", "name"] (defScope sFlowPlan) := ⟨rfl, rfl, rfl, by decide +kernel, rfl, by decide +kernel, by decide +kernel⟩
theorem ok_flowPlan {f fEq fHas fGet CU CF CSc CP CFl : Addr} {fd : FuncData} (F : Fun K "plan" "Flow.plan" sFlowPlan f fd) (SK : SchK P w K mg base CU CF CSc fEq fHas fGet) (FL : FlowCls K CFl) (TU : ErrU P K mg CU) :
    FnOk P w K mg base (L2.CX P w) 3 f fd ["self", "name"] (spFlowPlan K CU CF CSc CFl CP) := by
  refine F.okX scFlowP (fun vs H Q E h => ?_) (fun cdv A outer s H vs Q E hr h => ?_)
  · obtain ⟨fl, sch, xs, its, rs, kvs, vals, y, rfl, _⟩ := h
    rfl
  · obtain ⟨fl, sch, xs, its, rs, kvs, vals, y, rfl, S, FA, hy, k⟩ := h
    have hU := hu_of hr
    have hr1 : Room 1 _ := hr.mono (by decide)
    have tkE : Takes (cxOf (L2.CX P w) P w K mg base ["self", "name"] "Flow.plan" (defScope sFlowPlan) f cdv A outer s H E) (fun cls dd _ H => E cls dd H) := takes_of rfl rfl rfl rfl
    refine ⟨_, pss_cons (ps_if (pt_cmpR (op_notInO (E := E0) SK.OH SK.GH hr1 pass0) (pv 1) (pe_fld (pv 0) rfl) (by rfl)) (pss_one (ps_raise rfl tkE (pmk_unk TU hr rfl (pv 1)))) pss_nil)
      (pss_one (ps_ret (pe_dget hU (pe_fld (pv 0) rfl) (pv 1) (fun _ _ => rfl)))), ?_⟩
    obtain ⟨dxs, fss, a, b, dt, pR, ts, h1, h2, h3, h4, h5, h6, h7, h8, h9, h10, h11, h12⟩ := S.ex
    obtain ⟨dx, d, fs, g1, g2, g3, _, g4⟩ := FA.ex
    obtain ⟨_, nd⟩ := sch_vals S
    refine ⟨_, rfl, _, rfl, fl, CFl, dx, fs, _, rfl, g1, FL.cl, FL.n1, g2, sch, dxs, fss, rfl, h1, sch, xs, its, rs, y, rfl, S, hy, _, rfl, _, rfl, ?_⟩
    rcases k with ⟨hv, ku⟩ | ⟨z, rfl, hv, k⟩
    · rw [hv]
      refine iteT ?_
      exact ⟨_, rfl, unk_ans fun dd hdd => ku _ dd (same_upd (Same.refl H) hdd) hdd upd_same⟩
    · rw [hv]
      refine iteF ?_
      have hm : z ∈ namesOf its := of_decide_eq_true hv
      obtain ⟨i, hi, ei⟩ := List.getElem_of_mem hm
      have e1 : (namesOf its)[i]? = some z := by rw [List.getElem?_eq_getElem hi, ei]
      have hi2 : i < vals.length := by rw [FA.pf.1]; exact hi
      have e2 : vals[i]? = some vals[i] := List.getElem?_eq_getElem hi2
      refine ⟨_, rfl, fl, CFl, dx, fs, _, rfl, g1, FL.cl, FL.n2, g3, _, rfl, d, _, rfl, ?_, k i _ e1 e2⟩
      exact dg (k := .inr z) g4 (tab_at nd e1 e2)
end
end K2

namespace K2
open PySem L2 E0
theorem ps_dead {X : Cx} {st : Stmt} : PS X st (fun _ _ _ => False) := ⟨fun _ _ _ _ _ _ h => h.elim⟩
theorem pss_dead {X : Cx} {st : List Stmt} : PSs X st (fun _ _ _ => False) := ⟨fun _ _ _ _ _ _ h => h.elim⟩
theorem pt_dead {X : Cx} {e : Expr} : PT X e (fun _ _ _ => False) := ⟨fun _ _ _ _ _ _ h => h.elim⟩
theorem pe_dead {X : Cx} {e : Expr} : PE X e (fun _ _ _ => False) := ⟨fun _ _ _ _ _ _ h => h.elim⟩
/-! ### what is told of an error -/
def LCN : List Str := ["InvalidSchema", "InvalidPattern", "InvalidTemplate", "InvalidRule", "InvalidGuard", "InvalidFlow", "InvalidForm", "InvalidPlan", "InvalidTree", "InvalidPart", "InvalidAnswer", "InvalidPath", "InvalidPoint", "InvalidOrder", "WrongTree", "NoDeed", "UnknownName"]
structure ClsG (mg : Str → Option Value) (cx : Str → Addr) : Prop where
  g : ∀ n ∈ LCN, mg n = some (.ref (cx n))
  isi : mg "isinstance" = none
structure ClsT (K : PySem.W.Frag) (cx : Str → Addr) (me : Str) : Prop where
  L : ExcL K (cx me)
  kf : ∀ n ∈ LCN, n ≠ me → PySem.W.kitOne K (.ref (cx me)) (.ref (cx n)) = some false
structure ClsA (K : PySem.W.Frag) (mg : Str → Option Value) (cx : Str → Addr) : Prop where
  G : ClsG mg cx
  P : ClsT K cx "InvalidPlan"
  W : ClsT K cx "InvalidFlow"
  U : ClsT K cx "UnknownName"
  p1 : PySem.W.findIn K (.ref (cx "InvalidPlan")) "part" = some none
  w1 : PySem.W.findIn K (.ref (cx "InvalidFlow")) "fault" = some none
  w2 : PySem.W.findIn K (.ref (cx "InvalidFlow")) "word" = some none
  u1 : PySem.W.findIn K (.ref (cx "UnknownName")) "word" = some none
def TupOut (H : Hp) (xs : List V) (Q : VK) : Prop := ∀ H' p, Same H H' → H p = none → H' p = some (.tup xs) → Q (.ref p) H'
def ErrAt (H : Hp) (a C : Addr) (fs : List (Str × V)) : Prop := ∃ dd, H a = some (ExK (.ref C) (some dd) a) ∧ H dd = some (.xd fs)
def spValCls (cx : Str → Addr) : Sp := fun vs H Q _ => ∃ (a : Addr) (y : V), vs = [.ref a] ∧ ErrAt H a (cx "UnknownName") [("word", y)] ∧ TupOut H [.str "UnknownName", y] Q
def spCls (cx : Str → Addr) : Sp := fun vs H Q _ => ∃ (a : Addr), vs = [.ref a] ∧
  ((∃ v, ErrAt H a (cx "InvalidPlan") [("part", v)] ∧ TupOut H [.str "InvalidPlan", v] Q) ∨ (∃ y k, ErrAt H a (cx "InvalidFlow") [("word", y), ("fault", k)] ∧ TupOut H [.str "InvalidFlow", k, y] Q) ∨
   (∃ y, ErrAt H a (cx "UnknownName") [("word", y)] ∧ TupOut H [.str "UnknownName", y] Q))
section
variable {P : Program} {w : World} {K : PySem.W.Frag} {mg : Str → Option Value} {base : Heap}
theorem scValCls : FnScope ["_law_error"] ["_law_error"] (defScope sValueClass) := ⟨rfl, rfl, rfl, by decide +kernel, rfl, by decide +kernel, by decide +kernel⟩
theorem scCls : FnScope ["_law_error", "_law_told"] ["_law_error"] (defScope sClass) := ⟨rfl, rfl, rfl, by decide +kernel, rfl, by decide +kernel, by decide +kernel⟩
theorem ok_valCls {f : Addr} {fd : FuncData} {cx : Str → Addr} (F : Fun K "_law_value_class" "_law_value_class" sValueClass f fd) (A : ClsA K mg cx) : FnOk P w K mg base CX0 1 f fd ["_law_error"] (spValCls cx) := by
  refine F.ok scValCls (fun vs H Q E h => ?_) (fun cdv A' outer s H vs Q E hr h => ?_)
  · obtain ⟨a, y, rfl, _⟩ := h
    rfl
  · obtain ⟨a, y, rfl, ⟨dd, ha, hd⟩, k⟩ := h
    refine ⟨_, pss_cons (ps_if (PW.pt (pw_or (pt_val (pe_callB call_isK (by rfl) A.G.isi PyProof.Rows.boot_isinstance (pa_cons (pv 0) (pa_cons (pe_glob (v := .ref _) rfl (A.G.g "InvalidPath" (by decide +kernel)) rfl) pa_nil)))) (pw_or1 (pt_val (pe_callB call_isK (by rfl) A.G.isi PyProof.Rows.boot_isinstance (pa_cons (pv 0) (pa_cons (pe_glob (v := .ref _) rfl (A.G.g "InvalidPoint" (by decide +kernel)) rfl) pa_nil))))))) pss_dead pss_nil) (pss_cons (ps_if (pt_val (pe_callB call_isK (by rfl) A.G.isi PyProof.Rows.boot_isinstance (pa_cons (pv 0) (pa_cons (pe_glob (v := .ref _) rfl (A.G.g "InvalidOrder" (by decide +kernel)) rfl) pa_nil)))) pss_dead pss_nil) (pss_cons (ps_if (PW.pt (pw_or (pt_val (pe_callB call_isK (by rfl) A.G.isi PyProof.Rows.boot_isinstance (pa_cons (pv 0) (pa_cons (pe_glob (v := .ref _) rfl (A.G.g "WrongTree" (by decide +kernel)) rfl) pa_nil)))) (pw_or1 (pt_val (pe_callB call_isK (by rfl) A.G.isi PyProof.Rows.boot_isinstance (pa_cons (pv 0) (pa_cons (pe_glob (v := .ref _) rfl (A.G.g "NoDeed" (by decide +kernel)) rfl) pa_nil))))))) pss_dead pss_nil) (pss_cons (ps_if (PW.pt (pw_or (pt_val (pe_callB call_isK (by rfl) A.G.isi PyProof.Rows.boot_isinstance (pa_cons (pv 0) (pa_cons (pe_glob (v := .ref _) rfl (A.G.g "UnknownName" (by decide +kernel)) rfl) pa_nil)))) (pw_or1 pt_dead))) (pss_one (ps_ret (pe_tup (pa_cons (pe_ifExp (pt_val (pe_callB call_isK (by rfl) A.G.isi PyProof.Rows.boot_isinstance (pa_cons (pv 0) (pa_cons (pe_glob (v := .ref _) rfl (A.G.g "UnknownName" (by decide +kernel)) rfl) pa_nil)))) pe_str pe_dead) (pa_cons (pe_exk (pv 0)) pa_nil))))) pss_nil) (pss_dead)))), ?_⟩
    refine ⟨_, rfl, a, _, _, dd, _, false, rfl, ha, hd, A.U.L, A.U.kf "InvalidPath" (by decide +kernel) (by decide +kernel), _, rfl, ?_⟩
    refine iteF ?_
    refine ⟨_, rfl, a, _, _, dd, _, false, rfl, ha, hd, A.U.L, A.U.kf "InvalidPoint" (by decide +kernel) (by decide +kernel), _, rfl, ?_⟩
    refine iteF ?_
    refine ⟨_, rfl, a, _, _, dd, _, false, rfl, ha, hd, A.U.L, A.U.kf "InvalidOrder" (by decide +kernel) (by decide +kernel), _, rfl, ?_⟩
    refine iteF ?_
    refine ⟨_, rfl, a, _, _, dd, _, false, rfl, ha, hd, A.U.L, A.U.kf "WrongTree" (by decide +kernel) (by decide +kernel), _, rfl, ?_⟩
    refine iteF ?_
    refine ⟨_, rfl, a, _, _, dd, _, false, rfl, ha, hd, A.U.L, A.U.kf "NoDeed" (by decide +kernel) (by decide +kernel), _, rfl, ?_⟩
    refine iteF ?_
    refine ⟨_, rfl, a, _, _, dd, _, true, rfl, ha, hd, A.U.L, kit_self, _, rfl, ?_⟩
    refine iteT (iteT ?_)
    refine ⟨_, rfl, a, _, _, dd, _, true, rfl, ha, hd, A.U.L, kit_self, _, rfl, ?_⟩
    refine iteT ?_
    refine ⟨_, rfl, a, _, dd, _, y, rfl, ha, hd, A.U.L, A.u1, by simp [List.lookup], (by show 2 ≤ sizeLine; decide), fun p hp => ?_⟩
    exact k _ p (same_upd (Same.refl H) hp) hp upd_same
theorem ok_cls {f fV : Addr} {fd fdV : FuncData} {cx : Str → Addr} (F : Fun K "_law_class" "_law_class" sClass f fd) (A : ClsA K mg cx) (GV : FnOk P w K mg base CX0 1 fV fdV ["_law_error"] (spValCls cx)) (gV : mg "_law_value_class" = some (.ref fV)) (kV' : PySem.W.keepIn K (.ref fV) = true) (bV : Binds K fdV ["_law_error"] []) :
    FnOk P w K mg base CX0 2 f fd ["_law_error"] (spCls cx) := by
  refine F.ok scCls (fun vs H Q E h => ?_) (fun cdv A' outer s H vs Q E hr h => ?_)
  · obtain ⟨a, rfl, _⟩ := h
    rfl
  · obtain ⟨a, rfl, k⟩ := h
    refine ⟨_, pss_cons (ps_if (PW.pt (pw_or (pt_val (pe_callB call_isK (by rfl) A.G.isi PyProof.Rows.boot_isinstance (pa_cons (pv 0) (pa_cons (pe_glob (v := .ref _) rfl (A.G.g "InvalidSchema" (by decide +kernel)) rfl) pa_nil)))) (pw_or1 (pt_val (pe_callB call_isK (by rfl) A.G.isi PyProof.Rows.boot_isinstance (pa_cons (pv 0) (pa_cons (pe_glob (v := .ref _) rfl (A.G.g "InvalidPattern" (by decide +kernel)) rfl) pa_nil))))))) pss_dead pss_nil) (pss_cons (ps_if (pt_val (pe_callB call_isK (by rfl) A.G.isi PyProof.Rows.boot_isinstance (pa_cons (pv 0) (pa_cons (pe_glob (v := .ref _) rfl (A.G.g "InvalidTemplate" (by decide +kernel)) rfl) pa_nil)))) pss_dead pss_nil) (pss_cons (ps_if (pt_val (pe_callB call_isK (by rfl) A.G.isi PyProof.Rows.boot_isinstance (pa_cons (pv 0) (pa_cons (pe_glob (v := .ref _) rfl (A.G.g "InvalidRule" (by decide +kernel)) rfl) pa_nil)))) pss_dead pss_nil) (pss_cons (ps_if (pt_val (pe_callB call_isK (by rfl) A.G.isi PyProof.Rows.boot_isinstance (pa_cons (pv 0) (pa_cons (pe_glob (v := .ref _) rfl (A.G.g "InvalidGuard" (by decide +kernel)) rfl) pa_nil)))) pss_dead pss_nil) (pss_cons (ps_if (pt_val (pe_callB call_isK (by rfl) A.G.isi PyProof.Rows.boot_isinstance (pa_cons (pv 0) (pa_cons (pe_glob (v := .ref _) rfl (A.G.g "InvalidFlow" (by decide +kernel)) rfl) pa_nil)))) (pss_one (ps_ret (pe_tup (pa_cons pe_str (pa_cons (pe_exk (pv 0)) (pa_cons (pe_exk (pv 0)) pa_nil)))))) pss_nil) (pss_cons (ps_if (PW.pt (pw_or (pt_val (pe_callB call_isK (by rfl) A.G.isi PyProof.Rows.boot_isinstance (pa_cons (pv 0) (pa_cons (pe_glob (v := .ref _) rfl (A.G.g "InvalidForm" (by decide +kernel)) rfl) pa_nil)))) (pw_or1 (pt_val (pe_callB call_isK (by rfl) A.G.isi PyProof.Rows.boot_isinstance (pa_cons (pv 0) (pa_cons (pe_glob (v := .ref _) rfl (A.G.g "InvalidPlan" (by decide +kernel)) rfl) pa_nil))))))) (pss_one (ps_ret (pe_tup (pa_cons (pe_ifExp (pt_val (pe_callB call_isK (by rfl) A.G.isi PyProof.Rows.boot_isinstance (pa_cons (pv 0) (pa_cons (pe_glob (v := .ref _) rfl (A.G.g "InvalidForm" (by decide +kernel)) rfl) pa_nil)))) pe_dead pe_str) (pa_cons (pe_exk (pv 0)) pa_nil))))) pss_nil) (pss_cons (ps_if (PW.pt (pw_or (pt_val (pe_callB call_isK (by rfl) A.G.isi PyProof.Rows.boot_isinstance (pa_cons (pv 0) (pa_cons (pe_glob (v := .ref _) rfl (A.G.g "InvalidTree" (by decide +kernel)) rfl) pa_nil)))) (pw_or1 (pt_val (pe_callB call_isK (by rfl) A.G.isi PyProof.Rows.boot_isinstance (pa_cons (pv 0) (pa_cons (pe_glob (v := .ref _) rfl (A.G.g "InvalidPart" (by decide +kernel)) rfl) pa_nil))))))) pss_dead pss_nil) (pss_cons (ps_if (pt_val (pe_callB call_isK (by rfl) A.G.isi PyProof.Rows.boot_isinstance (pa_cons (pv 0) (pa_cons (pe_glob (v := .ref _) rfl (A.G.g "InvalidAnswer" (by decide +kernel)) rfl) pa_nil)))) pss_dead pss_nil) (pss_one (ps_ret (pe_call GV hr rfl gV kV' bV .nil pass0 (pa_cons (pv 0) pa_nil))))))))))), ?_⟩
    rcases k with ⟨v, ⟨dd, ha, hd⟩, k⟩ | ⟨y, kk, ⟨dd, ha, hd⟩, k⟩ | ⟨y, ⟨dd, ha, hd⟩, k⟩
    · refine ⟨_, rfl, a, _, _, dd, _, false, rfl, ha, hd, A.P.L, A.P.kf "InvalidSchema" (by decide +kernel) (by decide +kernel), _, rfl, ?_⟩
      refine iteF ?_
      refine ⟨_, rfl, a, _, _, dd, _, false, rfl, ha, hd, A.P.L, A.P.kf "InvalidPattern" (by decide +kernel) (by decide +kernel), _, rfl, ?_⟩
      refine iteF ?_
      refine ⟨_, rfl, a, _, _, dd, _, false, rfl, ha, hd, A.P.L, A.P.kf "InvalidTemplate" (by decide +kernel) (by decide +kernel), _, rfl, ?_⟩
      refine iteF ?_
      refine ⟨_, rfl, a, _, _, dd, _, false, rfl, ha, hd, A.P.L, A.P.kf "InvalidRule" (by decide +kernel) (by decide +kernel), _, rfl, ?_⟩
      refine iteF ?_
      refine ⟨_, rfl, a, _, _, dd, _, false, rfl, ha, hd, A.P.L, A.P.kf "InvalidGuard" (by decide +kernel) (by decide +kernel), _, rfl, ?_⟩
      refine iteF ?_
      refine ⟨_, rfl, a, _, _, dd, _, false, rfl, ha, hd, A.P.L, A.P.kf "InvalidFlow" (by decide +kernel) (by decide +kernel), _, rfl, ?_⟩
      refine iteF ?_
      refine ⟨_, rfl, a, _, _, dd, _, false, rfl, ha, hd, A.P.L, A.P.kf "InvalidForm" (by decide +kernel) (by decide +kernel), _, rfl, ?_⟩
      refine iteF ?_
      refine ⟨_, rfl, a, _, _, dd, _, true, rfl, ha, hd, A.P.L, kit_self, _, rfl, ?_⟩
      refine iteT ?_
      refine ⟨_, rfl, a, _, _, dd, _, false, rfl, ha, hd, A.P.L, A.P.kf "InvalidForm" (by decide +kernel) (by decide +kernel), _, rfl, ?_⟩
      refine iteF ?_
      refine ⟨_, rfl, a, _, dd, _, v, rfl, ha, hd, A.P.L, A.p1, by simp [List.lookup], (by show 2 ≤ sizeLine; decide), fun p hp => ?_⟩
      exact k _ p (same_upd (Same.refl H) hp) hp upd_same
    · refine ⟨_, rfl, a, _, _, dd, _, false, rfl, ha, hd, A.W.L, A.W.kf "InvalidSchema" (by decide +kernel) (by decide +kernel), _, rfl, ?_⟩
      refine iteF ?_
      refine ⟨_, rfl, a, _, _, dd, _, false, rfl, ha, hd, A.W.L, A.W.kf "InvalidPattern" (by decide +kernel) (by decide +kernel), _, rfl, ?_⟩
      refine iteF ?_
      refine ⟨_, rfl, a, _, _, dd, _, false, rfl, ha, hd, A.W.L, A.W.kf "InvalidTemplate" (by decide +kernel) (by decide +kernel), _, rfl, ?_⟩
      refine iteF ?_
      refine ⟨_, rfl, a, _, _, dd, _, false, rfl, ha, hd, A.W.L, A.W.kf "InvalidRule" (by decide +kernel) (by decide +kernel), _, rfl, ?_⟩
      refine iteF ?_
      refine ⟨_, rfl, a, _, _, dd, _, false, rfl, ha, hd, A.W.L, A.W.kf "InvalidGuard" (by decide +kernel) (by decide +kernel), _, rfl, ?_⟩
      refine iteF ?_
      refine ⟨_, rfl, a, _, _, dd, _, true, rfl, ha, hd, A.W.L, kit_self, _, rfl, ?_⟩
      refine iteT ?_
      refine ⟨_, rfl, a, _, dd, _, kk, rfl, ha, hd, A.W.L, A.w1, by rfl, ?_⟩
      refine ⟨_, rfl, a, _, dd, _, y, rfl, ha, hd, A.W.L, A.w2, by rfl, (by show 3 ≤ sizeLine; decide), fun p hp => ?_⟩
      exact k _ p (same_upd (Same.refl H) hp) hp upd_same
    · refine ⟨_, rfl, a, _, _, dd, _, false, rfl, ha, hd, A.U.L, A.U.kf "InvalidSchema" (by decide +kernel) (by decide +kernel), _, rfl, ?_⟩
      refine iteF ?_
      refine ⟨_, rfl, a, _, _, dd, _, false, rfl, ha, hd, A.U.L, A.U.kf "InvalidPattern" (by decide +kernel) (by decide +kernel), _, rfl, ?_⟩
      refine iteF ?_
      refine ⟨_, rfl, a, _, _, dd, _, false, rfl, ha, hd, A.U.L, A.U.kf "InvalidTemplate" (by decide +kernel) (by decide +kernel), _, rfl, ?_⟩
      refine iteF ?_
      refine ⟨_, rfl, a, _, _, dd, _, false, rfl, ha, hd, A.U.L, A.U.kf "InvalidRule" (by decide +kernel) (by decide +kernel), _, rfl, ?_⟩
      refine iteF ?_
      refine ⟨_, rfl, a, _, _, dd, _, false, rfl, ha, hd, A.U.L, A.U.kf "InvalidGuard" (by decide +kernel) (by decide +kernel), _, rfl, ?_⟩
      refine iteF ?_
      refine ⟨_, rfl, a, _, _, dd, _, false, rfl, ha, hd, A.U.L, A.U.kf "InvalidFlow" (by decide +kernel) (by decide +kernel), _, rfl, ?_⟩
      refine iteF ?_
      refine ⟨_, rfl, a, _, _, dd, _, false, rfl, ha, hd, A.U.L, A.U.kf "InvalidForm" (by decide +kernel) (by decide +kernel), _, rfl, ?_⟩
      refine iteF ?_
      refine ⟨_, rfl, a, _, _, dd, _, false, rfl, ha, hd, A.U.L, A.U.kf "InvalidPlan" (by decide +kernel) (by decide +kernel), _, rfl, ?_⟩
      refine iteF ?_
      refine ⟨_, rfl, a, _, _, dd, _, false, rfl, ha, hd, A.U.L, A.U.kf "InvalidTree" (by decide +kernel) (by decide +kernel), _, rfl, ?_⟩
      refine iteF ?_
      refine ⟨_, rfl, a, _, _, dd, _, false, rfl, ha, hd, A.U.L, A.U.kf "InvalidPart" (by decide +kernel) (by decide +kernel), _, rfl, ?_⟩
      refine iteF ?_
      refine ⟨_, rfl, a, _, _, dd, _, false, rfl, ha, hd, A.U.L, A.U.kf "InvalidAnswer" (by decide +kernel) (by decide +kernel), _, rfl, ?_⟩
      refine iteF ?_
      exact ⟨_, rfl, a, y, rfl, ⟨dd, ha, hd⟩, k⟩
end
end K2

namespace K2
open PySem L2 E0
open LamX (ExtN Tabs TabS TabB LamS lamS_by lamSB)
/-! ### _law_got: a call that is refused -/
def TGot (cx : Str → Addr) : (XK → Hp → VK → Prop) → Hp → VK → Prop := fun tl H Q => ∀ (H0 : Hp) (E' : XK) (Q' : VK), Same H H0 →
  (∀ (dd : Addr) (v : V) (H' : Hp), H' dd = some (.xd [("part", v)]) → TupOut H' [.str "InvalidPlan", v] Q → E' (.ref (cx "InvalidPlan")) (some dd) H') →
  (∀ (dd : Addr) (y k : V) (H' : Hp), H' dd = some (.xd [("word", y), ("fault", k)]) → TupOut H' [.str "InvalidFlow", k, y] Q → E' (.ref (cx "InvalidFlow")) (some dd) H') →
  (∀ (dd : Addr) (y : V) (H' : Hp), H' dd = some (.xd [("word", y)]) → TupOut H' [.str "UnknownName", y] Q → E' (.ref (cx "UnknownName")) (some dd) H') → tl E' H0 Q'
def NG : List Str := ["_law_deed", "_law_error", "_law_found", "e"]
theorem scGot : FnScope NG ["_law_deed"] (defScope sGot) := ⟨rfl, rfl, rfl, by decide +kernel, rfl, by decide +kernel, by decide +kernel⟩
structure TxtG (P : Program) (w : World) (K : PySem.W.Frag) (mg : Str → Option Value) (base : Heap) (cx : Str → Addr) (CE fG fC : Addr) (fdG fdC : FuncData) : Prop where
  F : Fun K "_law_got" "_law_got" sGot fG fdG
  b : Binds K fdG ["_law_deed"] []
  g : mg "_law_got" = some (.ref fG)
  gE : mg "RuleengineError" = some (.ref CE)
  A : ClsA K mg cx
  xP : PySem.W.exmOne K (.ref (cx "InvalidPlan")) (.ref CE) = some true
  xW : PySem.W.exmOne K (.ref (cx "InvalidFlow")) (.ref CE) = some true
  xU : PySem.W.exmOne K (.ref (cx "UnknownName")) (.ref CE) = some true
  GC : FnOk P w K mg base CX0 2 fC fdC ["_law_error"] (spCls cx)
  gC : mg "_law_class" = some (.ref fC)
  kC : PySem.W.keepIn K (.ref fC) = true
  bC : Binds K fdC ["_law_error"] []
theorem got_gives {X : Cx} {cx : Str → Addr} {g CE fG fC : Addr} {fdG fdC : FuncData} {cdg : Value} {q : Str} (AA : TxtG X.prog X.w X.K X.mg X.base cx CE fG fC fdG fdC) (hr : Room 3 X.A) :
    LamX.GivesTo X NG "_law_got" (defScope sGot) g cdg (defBody sGot) "_law_deed" q (TGot cx) := by
  intro f c' s H Q tl act hc h
  refine ⟨_, pss_cons (ps_set (i := 1) scGot.nd rfl (.inl rfl) pe_non)
    (pss_cons (ps_set (i := 2) scGot.nd rfl (.inl rfl) (pe_lst pa_nil))
    (pss_cons (ps_try_keep (i := 3) (j := 1) (c := .ref CE) (tb := fun W D σ H => ∃ (Ech : XK) (Q' : VK), (∀ cls d σ' H', Ech cls d H' → W cls d σ' H') ∧ σ[0]? = some (some (.ref f)) ∧ H c' = some (LamX.CodeO c' q) ∧ tl Ech H Q' ∧ Q' = (fun x H1 => ([x] : List V).length ≤ sizeLine ∧ ∀ p, H1 p = none → D.nx (σ.set 2 (some (.ref p))) (upd H1 p (.lst [x]))))
        rfl rfl rfl scGot.nd rfl rfl rfl rfl (by decide) (Or.inr rfl) ⟨rfl, by decide, .inl AA.gE⟩ (fun W pn xe tk _ => ?_) (by decide) (by decide) rfl)
    (pss_one (ps_ret (pe_ifExp (pt_cmpR op_isN (pv 1) pe_non (nomark _)) (pv 2) (pe_call AA.GC (hr.deeper _) rfl AA.gC AA.kC AA.bC .nil pass0 (pa_cons (pv 1) pa_nil))))))), ?_⟩
  · refine ⟨fun pins s' σ H' D I h' => ?_⟩
    obtain ⟨Ech, Q', hW, h1, h2, h3, rfl⟩ := h'
    exact (pss_one (ps_set (i := 2) scGot.nd rfl (.inl rfl) (pe_lst (pa_cons (act W pn xe Ech _ _ tk hW) pa_nil)))).run pins s' σ H' D I ⟨h1, h2, h3⟩
  · refine ⟨by decide, fun l nl => ?_⟩
    have s0 : Same H (upd H l (.lst [])) := same_upd (Same.refl H) nl
    generalize upd H l (.lst []) = H0 at s0 ⊢
    refine ⟨fun cls d H' => (cls = .ref (cx "InvalidPlan") ∧ ∃ (dd : Addr) (v : V), d = some dd ∧ H' dd = some (.xd [("part", v)]) ∧ TupOut H' [.str "InvalidPlan", v] Q) ∨
      (cls = .ref (cx "InvalidFlow") ∧ ∃ (dd : Addr) (y k : V), d = some dd ∧ H' dd = some (.xd [("word", y), ("fault", k)]) ∧ TupOut H' [.str "InvalidFlow", k, y] Q) ∨
      (cls = .ref (cx "UnknownName") ∧ ∃ (dd : Addr) (y : V), d = some dd ∧ H' dd = some (.xd [("word", y)]) ∧ TupOut H' [.str "UnknownName", y] Q), _, ?_, rfl, s0 _ _ hc, ?_, rfl⟩
    · rintro cls d σ' H' (⟨rfl, dd, v, rfl, hd, k⟩ | ⟨rfl, dd, y, kk, rfl, hd, k⟩ | ⟨rfl, dd, y, rfl, hd, k⟩)
      case' inl => refine ⟨AA.xP, fun a na hlen => ?_⟩
      case' inr.inl => refine ⟨AA.xW, fun a na hlen => ?_⟩
      case' inr.inr => refine ⟨AA.xU, fun a na hlen => ?_⟩
      all_goals
        have hlen : σ'.length = 4 := hlen
        obtain ⟨s0, s1, s2, s3, rfl⟩ : ∃ s0 s1 s2 s3, σ' = [s0, s1, s2, s3] := by
          match σ', hlen with
          | [s0, s1, s2, s3], _ => exact ⟨s0, s1, s2, s3, rfl⟩
        have nda : dd ≠ a := ne_of_none hd na
        refine ⟨_, rfl, rfl, _, rfl, ?_⟩
        refine iteF ?_
        refine ⟨_, rfl, a, rfl, ?_⟩
        have k2 : ∀ xs, TupOut H' xs Q → ∀ u, TupOut (upd H' a u) xs Q := fun xs k u H'' p s'' np hp => by
          have npa : p ≠ a := fun e => by rw [e, upd_same] at np; cases np
          rw [upd_ne npa] at np
          exact k H'' p (fun b o e => s'' b o (by rw [upd_ne (ne_of_none e na)]; exact e)) np hp
        first
        | exact .inl ⟨v, ⟨dd, upd_same, by rw [upd_ne nda]; exact hd⟩, k2 _ k _⟩
        | exact .inr (.inl ⟨y, kk, ⟨dd, upd_same, by rw [upd_ne nda]; exact hd⟩, k2 _ k _⟩)
        | exact .inr (.inr ⟨y, ⟨dd, upd_same, by rw [upd_ne nda]; exact hd⟩, k2 _ k _⟩)
    · exact h H0 _ _ s0 (fun dd v H' hd k => .inl ⟨rfl, dd, v, rfl, hd, k⟩) (fun dd y k H' hd kk => .inr (.inl ⟨rfl, dd, y, k, rfl, hd, kk⟩)) (fun dd y H' hd k => .inr (.inr ⟨rfl, dd, y, rfl, hd, k⟩))
theorem pe_got {X : Cx} {T : List (Addr × Str)} {cx : Str → Addr} {CE fG fC c Pt : Addr} {fdG fdC : FuncData} {k : Nat} {params : Arguments} {body : Expr} {scope : Scope} {t : XK → TE} {p lpos pos : Pos} (A : TxtG X.prog X.w X.K X.mg X.base cx CE fG fC fdG fdC) (hg : Gl X "_law_got")
    (TB : TabB X.base X.mg c Pt) (hcode : X.env.code = .ref c) (hmT : (Pt, X.env.qual ++ "<lambda>") ∈ T) (hu : ∀ p ∈ T, p.1 = Pt → p.2 = X.env.qual ++ "<lambda>") (hr3 : Room 3 X.A) (hr : Room (k + 2) X.A) (L : LamS X.env.scope scope) (hdef : defaultsOf params X.env = ([], []))
    (hbind : ∀ (q : Str) (cl : List (Str × Addr)) (pm cv ctv : Value), bindArgs (PySem.W.kla_fn "<lambda>" q params body scope cl pm cv ctv) ⟨[], []⟩ = pure [])
    (hbody : ∀ (A : Around) (outer : List Env) (s : Shared) (H : Hp) (E : XK) (f c' : Addr), Room k (A.deeper (LamX.lamEnv X scope s.heap.objs.size f c')) → PE (LamX.lamCx X A outer s H E scope f c') body (t E)) :
    PE X (.Call (.Name "_law_got" p) [.Lambda params body scope lpos] [] pos) (LamX.tLam T (TGot cx) t) := by
  obtain ⟨oc, od, kV, doc, pm, an, cdv, ct, osl, e, lk, hcd⟩ := A.F.ex
  subst e
  exact LamX.pe_lamcall (a := "_law_deed") (Ng := NG) hg A.g A.F.kp lk hcd A.b scGot rfl (Or.inl rfl) (got_gives A hr3) TB hcode hmT hu hr L hdef hbind hbody
end K2

namespace K2
open PySem PySem.Spec PyProof.Rows L2
/-! ### repr, where no repr is under way -/
inductive RepV (K : PySem.W.Frag) (H : Hp) : V → Str → Prop
  | non : RepV K H .non "None"
  | bl (b : Bool) : RepV K H (.bl b) (if b then "True" else "False")
  | int (i : Int) (h : i.natAbs.log2 < 1920) : RepV K H (.int i) (toString i)
  | str (z : Str) (h : (reprText z).length ≤ sizeLine) : RepV K H (.str z) (reprText z)
  | dct {a : Addr} (e : H a = some (.dK [])) : RepV K H (.ref a) (PyData.dict []).shown
  | dat {a : Addr} {d : PyData} (e : Dp K H (.ref a) d) (h1 : d.showable = true) (h2 : d.hasDict = false) (h3 : d.depth ≤ 64) (h4 : d.shown.length ≤ sizeLine) : RepV K H (.ref a) d.shown
section
variable {X : Cx}
theorem call_rep (hg : X.A.guards = some []) (hu : X.A.units + 80 < cLine) : CallR X (.builtin "repr") (fun xs H Q => ∃ v t, xs = [v] ∧ RepV X.K H v t ∧ Q (.str t) H) := by
  intro pins s σ H xs us Q I r h
  obtain ⟨v, t, rfl, hr, q⟩ := h
  obtain ⟨u, rfl, rx⟩ := vals1 r
  cases hr with
  | non =>
    cases rx
    exact PySem.P.repr_of_none ⟨.str _, H, I.tok _, ⟨_, rfl⟩, q⟩
  | bl b =>
    cases rx
    exact PySem.P.repr_of_bool ⟨.str _, H, I.tok _, ⟨_, rfl⟩, q⟩
  | int i hz =>
    obtain ⟨t, rfl⟩ := rx
    exact PySem.P.repr_of_int hz ⟨.str _, H, I.tok _, ⟨_, rfl⟩, q⟩
  | str z hz =>
    obtain ⟨t, rfl⟩ := rx
    exact PySem.P.repr_of_str ⟨.str _, H, I.tok _, ⟨_, rfl⟩, q⟩ hz
  | @dct a e =>
    obtain rfl : u = Value.ref a := rx
    obtain ⟨_, hd, vs0, r0, dd⟩ := dk_of I.hok e
    cases r0
    obtain ⟨o, es, ep, ho, hc, hdat, _, hp, _⟩ := dd
    have hes : es.toList = [] := by
      generalize es.toList = l at hp
      cases hp
      rfl
    have rd : Reads s.heap (.ref a) (.dict []) [a] := by
      have := Reads.dict (kvs := []) (as := []) (bs := []) ho hc.1 hdat (by rw [hes]; exact .nil) (by rw [hes]; exact .nil)
      simpa using this
    have ne : a ≠ sysModules := beq_eq_false_iff_ne.mp hd
    refine repr_of_reads' rd (by decide) (fun _ => by simp [Ne.symm ne]) hg (by show X.A.units + 2 < cLine; omega) (fun _ _ e => e) (fun h' u tk hk => ?_) (by decide)
    exact ⟨.str _, H, I.kept (t' := tk) hk, ⟨u, rfl⟩, q⟩
  | @dat a d hd h1 h2 h3 h4 =>
    obtain rfl : u = Value.ref a := rx
    obtain ⟨as, rd⟩ := Dp.reads I d (.ref a) (.ref a) hd rfl
    refine repr_of_reads' rd h1 (fun z => by rw [h2] at z; cases z) hg (by omega) (fun _ _ e => e) (fun h' u tk hk => ?_) h4
    exact ⟨.str d.shown, H, I.kept (t' := tk) hk, ⟨u, rfl⟩, q⟩
end
def rRep (K : PySem.W.Frag) : List V → Hp → VK → Prop := fun xs H Q => ∃ v t, xs = [v] ∧ RepV K H v t ∧ Q (.str t) H
section
variable {P : Program} {w : World} {K : PySem.W.Frag} {mg : Str → Option Value} {base : Heap}
/-! ### _law_doubled -/
def spDoubled : Sp := fun vs H Q _ => vs = [] ∧ ∀ H' p q ys, Same H H' → H p = none → H' p = some (.tup [.ref q, .ref q]) → H' q = some (.tup ys) → Q (.ref p) H'
theorem scDoubled : FnScope ["_law_found", "_law_n"] [] (defScope sDoubled) := ⟨rfl, rfl, rfl, by decide +kernel, rfl, by decide +kernel, by decide +kernel⟩
theorem ok_doubled {f : Addr} {fd : FuncData} (F : Fun K "_law_doubled" "_law_doubled" sDoubled f fd) (gR : mg "range" = none) : FnOk P w K mg base CX0 1 f fd [] spDoubled := by
  refine F.ok scDoubled (fun vs H Q E h => ?_) (fun cdv A outer s H vs Q E hr h => ?_)
  · obtain ⟨rfl, _⟩ := h
    rfl
  · obtain ⟨rfl, q⟩ := h
    refine ⟨_, pss_cons (ps_set (i := 0) scDoubled.nd rfl (Or.inl rfl) (pe_tup pa_nil))
      (pss_cons (ps_for PassesOwn.never rfl (pi_range1 rfl gR (pa_cons pe_int pa_nil)) (pg_name (i := 1) scDoubled.nd rfl (Or.inl rfl))
        (pss_one (ps_set (i := 0) scDoubled.nd rfl (Or.inl rfl) (pe_tup (pa_cons (pv 0) (pa_cons (pv 0) pa_nil))))))
      (pss_one (ps_ret (pv 0)))), ?_⟩
    refine ⟨by decide, fun p0 hp0 => ?_⟩
    refine ⟨60, rfl, by decide, by decide, for_range (n := 60) (fun i σ H' => ∃ (v2 : Option V) (p : Addr) (ys : List V), σ = [some (.ref p), v2] ∧ Same H H' ∧ H p = none ∧ H' p = some (.tup ys) ∧ (0 < i → ∃ q zs, ys = [.ref q, .ref q] ∧ H' q = some (.tup zs)))
      ⟨_, p0, _, rfl, same_upd (Same.refl H) hp0, hp0, upd_same, fun h => by omega⟩ ?_ ?_⟩
    · rintro i σ H1 hi ⟨v2, p, ys, rfl, s1, hp, h0, hx⟩
      refine ⟨_, rfl, _, rfl, (by show 2 ≤ sizeLine; decide), fun t ht => ?_⟩
      have s4 : Same H1 (upd H1 t (.tup [.ref p, .ref p])) := same_upd (Same.refl H1) ht
      exact ⟨_, t, _, rfl, s1.trans s4, s1.free ht, upd_same, fun _ => ⟨p, ys, rfl, s4 _ _ h0⟩⟩
    · rintro σ H1 ⟨v2, p, ys, rfl, s1, hp, h0, hx⟩
      obtain ⟨r, zs, rfl, hz⟩ := hx (by decide)
      exact ⟨_, rfl, q _ p r zs s1 hp h0 hz⟩
end
end K2

namespace K2
open PySem PySem.Spec PyProof.Rows L2 E0 EG
open LamX (ExtN Tabs TabS TabB LamS lamS_by)
section
variable {P : Program} {w : World} {K : PySem.W.Frag} {mg : Str → Option Value} {base : Heap}
theorem okG {x qual : Str} {st : Stmt} {f : Addr} {fd : FuncData} {N ps : List Str} {k : Nat} {sp : Sp} (F : Fun K x qual st f fd) (S : FnScope N ps (defScope st)) (len : ∀ vs H Q E, sp vs H Q E → vs.length = ps.length)
    (bd : ∀ (cdv : Value) (A : Around) (outer : List Env) (s : Shared) (H : Hp) (vs : List V) (Q : VK) (E : XK), Room k (A.deeper (PyProof.Rows.envOfC qual (defScope st) s.heap.objs.size f cdv)) → A.guards = some [] → sp vs H Q E →
      ∃ t, PSs (cxOf CX0 P w K mg base N qual (defScope st) f cdv A outer s H E).nox (defBody st) t ∧ t { nx := fun _ H' => Q .non H', rt := Q } (L2.start N vs) H) : FnG P w K mg base CX0 (k + 1) f fd ps sp := by
  obtain ⟨oc, od, kV, doc, pm, an, cdv, ct, osl, rfl, lk, hcd⟩ := F.ex
  refine fnG_of lk hcd S len fun A outer s H vs Q E hr hG hsp => ?_
  obtain ⟨t, h, q⟩ := bd cdv A outer s H vs Q E hr hG hsp
  exact ⟨t, h.nox, q⟩
theorem okGC {x qual : Str} {st : Stmt} {f c : Addr} {fd : FuncData} {N ps : List Str} {k : Nat} {sp : Sp} (F : FunC K x qual st f fd c) (S : FnScope N ps (defScope st)) (len : ∀ vs H Q E, sp vs H Q E → vs.length = ps.length)
    (bd : ∀ (A : Around) (outer : List Env) (s : Shared) (H : Hp) (vs : List V) (Q : VK) (E : XK), Room k (A.deeper (PyProof.Rows.envOfC qual (defScope st) s.heap.objs.size f (.ref c))) → A.guards = some [] → sp vs H Q E →
      ∃ t, PSs (cxOf CX0 P w K mg base N qual (defScope st) f (.ref c) A outer s H E).nox (defBody st) t ∧ t { nx := fun _ H' => Q .non H', rt := Q } (L2.start N vs) H) : FnG P w K mg base CX0 (k + 1) f fd ps sp := by
  obtain ⟨oc, od, kV, doc, pm, an, ct, osl, rfl, lk, hcd⟩ := F.ex
  refine fnG_of lk hcd S len fun A outer s H vs Q E hr hG hsp => ?_
  obtain ⟨t, h, q⟩ := bd A outer s H vs Q E hr hG hsp
  exact ⟨t, h.nox, q⟩
theorem sql_same {H H' : Hp} {a : Addr} {xs : List V} (e : Same H H') (h : SqL K H a xs) : SqL K H' a xs := by
  rcases h with h | h
  · refine .inl ?_
    rcases h with h | ⟨o, h⟩
    · exact .inl (e _ _ h)
    · exact .inr ⟨o, e _ _ h⟩
  · exact .inr h
mutual
theorem Dp.same {H H' : Hp} (e : Same H H') : ∀ {v : V} {d : PyData}, Dp K H v d → Dp K H' v d
  | _, _, .non => .non
  | _, _, .bl b => .bl b
  | _, _, .int i => .int i
  | _, _, .str z => .str z
  | _, _, .lst h a => .lst (sql_same e h) (DpAll.same e a)
  | _, _, .tup h a => .tup (sqt_same e h) (DpAll.same e a)
theorem DpAll.same {H H' : Hp} (e : Same H H') : ∀ {vs : List V} {ds : List PyData}, DpAll K H vs ds → DpAll K H' vs ds
  | _, _, .nil => .nil
  | _, _, .cons a t => .cons (Dp.same e a) (DpAll.same e t)
end
theorem RepV.same {H H' : Hp} {v : V} {t : Str} (h : RepV K H v t) (e : Same H H') : RepV K H' v t := by
  cases h with
  | non => exact .non
  | bl b => exact .bl b
  | int i h => exact .int i h
  | str z h => exact .str z h
  | dct q => exact .dct (e _ _ q)
  | dat q h1 h2 h3 h4 => exact .dat (Dp.same e q) h1 h2 h3 h4
/-- a value that is told: one with a repr, or a row of things -/
def OddAt (K : PySem.W.Frag) (H : Hp) (v : V) : Prop := (∃ a xs, v = .ref a ∧ (H a = some (.tup xs) ∨ H a = some (.lst xs))) ∨
  ((∃ t, RepV K H v t) ∧ ∃ t, TyX K H v t ∧ PySem.W.kitOne K t (.type "tuple") = some false ∧ PySem.W.kitOne K t (.type "list") = some false)
def spIsIt (K : PySem.W.Frag) : Sp := fun vs H Q _ => ∃ (p : Addr) (z : Str) (v : V), vs = [.ref p, .str z, v] ∧ H p = some (.tup [.str z, v]) ∧ OddAt K H v ∧ ∀ H', Same H H' → Q (.bl true) H'
theorem scIsIt : FnScope ["_law_told", "_law_word", "_law_odd"] ["_law_told", "_law_word", "_law_odd"] (defScope sIsIt) := ⟨rfl, rfl, rfl, by decide +kernel, rfl, by decide +kernel, by decide +kernel⟩
structure TxtI (mg : Str → Option Value) : Prop where
  isi : mg "isinstance" = none
  tup : mg "tuple" = none
  lst : mg "list" = none
  len : mg "len" = none
  rep : mg "repr" = none
theorem ok_isIt {f : Addr} {fd : FuncData} (F : Fun K "_law_is_it" "_law_is_it" sIsIt f fd) (T : TxtI mg) : FnG P w K mg base CX0 1 f fd ["_law_told", "_law_word", "_law_odd"] (spIsIt K) := by
  refine okG F scIsIt (fun vs H Q E h => ?_) (fun cdv A outer s H vs Q E hr hG h => ?_)
  · obtain ⟨p, z, v, rfl, _⟩ := h
    rfl
  · obtain ⟨p, z, v, rfl, hp, hv, k⟩ := h
    have hu80 : (A.deeper (PyProof.Rows.envOfC "_law_is_it" (defScope sIsIt) s.heap.objs.size f cdv)).units + 80 < cLine := by
      have := hr.un
      omega
    refine ⟨_, pss_cons (ps_if (PW.pt (pw_or (pt_not (pt_val (pe_callB call_isi (by rfl) T.isi PyProof.Rows.boot_isinstance (pa_cons (pv 0) (pa_cons (pe_bltn (v := .ty "tuple") rfl T.tup PyProof.Rows.boot_tuple rfl) pa_nil)))))
          (pw_or (pt_cmpR op_ne (pe_callB call_len_seq (by rfl) T.len PySem.boot_len (pa_cons (pv 0) pa_nil)) pe_int (nomark _))
          (pw_or1 (pt_cmpR op_ne (pe_ix ix_tup (pv 0) pe_int (fun _ _ => rfl)) (pv 1) (nomark _)))))) (pss_one (ps_ret pe_bl)) pss_nil)
      (pss_cons (ps_if (pt_val (pe_callB call_isiT (by rfl) T.isi PyProof.Rows.boot_isinstance (pa_cons (pv 2) (pa_cons (pe_tup (pa_cons (pe_bltn (v := .ty "tuple") rfl T.tup PyProof.Rows.boot_tuple rfl) (pa_cons (pe_bltn (v := .ty "list") rfl T.lst PyProof.Rows.boot_list rfl) pa_nil))) pa_nil))))
          (pss_one (ps_ret (pe_and (pe_cmpR op_eq (pe_callB call_isi (by rfl) T.isi PyProof.Rows.boot_isinstance (pa_cons (pe_ix ix_tup (pv 0) pe_int (fun _ _ => rfl)) (pa_cons (pe_bltn (v := .ty "tuple") rfl T.tup PyProof.Rows.boot_tuple rfl) pa_nil)))
              (pe_callB call_isi (by rfl) T.isi PyProof.Rows.boot_isinstance (pa_cons (pv 2) (pa_cons (pe_bltn (v := .ty "tuple") rfl T.tup PyProof.Rows.boot_tuple rfl) pa_nil))) (nomark _))
            (pe_one (pe_cmpR op_eq (pe_callB call_len_seq (by rfl) T.len PySem.boot_len (pa_cons (pe_ix ix_tup (pv 0) pe_int (fun _ _ => rfl)) pa_nil)) (pe_callB call_len_seq (by rfl) T.len PySem.boot_len (pa_cons (pv 2) pa_nil)) (nomark _)))))) pss_nil)
      (pss_one (ps_ret (pe_cmpR op_eq (pe_callB (call_rep hG hu80) (by rfl) T.rep PyProof.Rows.boot_repr (pa_cons (pe_ix ix_tup (pv 0) pe_int (fun _ _ => rfl)) pa_nil)) (pe_callB (call_rep hG hu80) (by rfl) T.rep PyProof.Rows.boot_repr (pa_cons (pv 2) pa_nil)) (nomark _))))), ?_⟩
    refine ⟨_, rfl, _, _, _, _, true, rfl, .ty "tuple", .base (.tup hp), kit_ty (by decide +kernel), _, rfl, ?_⟩
    refine iteF ?_
    have eL : (!decide (V.int (([V.str z, v] : List V).length : Int) = V.int 2)) = false := by simp
    have eZ : (!decide (V.str z = V.str z)) = false := by simp
    refine ⟨_, rfl, p, _, rfl, .inr (SqT.of hp), rfl, _, rfl, ?_⟩
    rw [eL]
    refine iteF ?_
    refine ⟨_, rfl, p, _, 0, _, rfl, rfl, SqT.of hp, rfl, _, rfl, rfl, _, rfl, ?_⟩
    rw [eZ]
    refine iteF ?_
    have two : ([V.ty "tuple", V.ty "list"] : List V).length ≤ sizeLine := by show 2 ≤ sizeLine; decide
    rcases hv with ⟨a, xs, rfl, hx⟩ | ⟨⟨rt, hrt⟩, t, ht, k1, k2⟩
    · refine ⟨_, rfl, two, fun tp ntp => ?_⟩
      have s1 : Same H (upd H tp (.tup [V.ty "tuple", V.ty "list"])) := same_upd (Same.refl H) ntp
      have v1 : (upd H tp (.tup [V.ty "tuple", V.ty "list"])) tp = some (.tup [V.ty "tuple", V.ty "list"]) := upd_same
      generalize upd H tp (.tup [V.ty "tuple", V.ty "list"]) = H1 at s1 v1 ⊢
      have hp1 := s1 _ _ hp
      have eB : ∀ b : Bool, decide (V.bl b = V.bl b) = true := fun b => by simp
      have eN : ∀ n : Nat, decide (V.int (n : Int) = V.int (n : Int)) = true := fun n => by simp
      rcases hx with hx | hx
      · have hx1 := s1 _ _ hx
        refine ⟨.ref a, tp, _, _, _, true, rfl, v1, .cons (.ty "tuple") (.cons (.ty "list") .nil), .base (.tup hx1), kitAny_cons (b := true) (kit_ty (by decide +kernel)) (fun h => nomatch h) (fun _ => rfl), _, rfl, ?_⟩
        refine iteT ?_
        refine ⟨_, rfl, p, _, 1, _, rfl, rfl, SqT.of hp1, rfl, _, _, _, _, true, rfl, .ty "tuple", .base (.tup hx1), kit_ty (by decide +kernel), ?_⟩
        refine ⟨_, rfl, _, _, _, _, true, rfl, .ty "tuple", .base (.tup hx1), kit_ty (by decide +kernel), rfl, _, rfl, ?_⟩
        rw [eB]
        refine iteT ?_
        refine ⟨_, rfl, p, _, 1, _, rfl, rfl, SqT.of hp1, rfl, a, xs, rfl, .inr (SqT.of hx1), ?_⟩
        refine ⟨_, rfl, a, xs, rfl, .inr (SqT.of hx1), rfl, ?_⟩
        rw [eN]
        exact k H1 s1
      · have hx1 := s1 _ _ hx
        refine ⟨.ref a, tp, _, _, _, true, rfl, v1, .cons (.ty "tuple") (.cons (.ty "list") .nil), .base (.lst hx1), kitAny_cons (b := false) (kit_ty (by decide +kernel)) (fun _ => kitAny_cons (b := true) (kit_ty (by decide +kernel)) (fun h => nomatch h) (fun _ => rfl)) (fun h => nomatch h), _, rfl, ?_⟩
        refine iteT ?_
        refine ⟨_, rfl, p, _, 1, _, rfl, rfl, SqT.of hp1, rfl, _, _, _, _, false, rfl, .ty "tuple", .base (.lst hx1), kit_ty (by decide +kernel), ?_⟩
        refine ⟨_, rfl, _, _, _, _, false, rfl, .ty "tuple", .base (.lst hx1), kit_ty (by decide +kernel), rfl, _, rfl, ?_⟩
        rw [eB]
        refine iteT ?_
        refine ⟨_, rfl, p, _, 1, _, rfl, rfl, SqT.of hp1, rfl, a, xs, rfl, .inl (SqL.of hx1), ?_⟩
        refine ⟨_, rfl, a, xs, rfl, .inl (SqL.of hx1), rfl, ?_⟩
        rw [eN]
        exact k H1 s1
    · refine ⟨_, rfl, two, fun tp ntp => ?_⟩
      have s1 : Same H (upd H tp (.tup [V.ty "tuple", V.ty "list"])) := same_upd (Same.refl H) ntp
      have v1 : (upd H tp (.tup [V.ty "tuple", V.ty "list"])) tp = some (.tup [V.ty "tuple", V.ty "list"]) := upd_same
      generalize upd H tp (.tup [V.ty "tuple", V.ty "list"]) = H1 at s1 v1 ⊢
      have hp1 := s1 _ _ hp
      have hr1 := hrt.same s1
      refine ⟨v, tp, _, _, _, false, rfl, v1, .cons (.ty "tuple") (.cons (.ty "list") .nil), TyX.keep ht fun a o _ e => s1 a o e, kitAny_cons (b := false) k1 (fun _ => kitAny_cons (b := false) k2 (fun _ => kitAny_nil) (fun h => nomatch h)) (fun h => nomatch h), _, rfl, ?_⟩
      refine iteF ?_
      refine ⟨_, rfl, p, _, 1, _, rfl, rfl, SqT.of hp1, rfl, v, rt, rfl, hr1, ?_⟩
      refine ⟨_, rfl, v, rt, rfl, hr1, rfl, ?_⟩
      rw [show decide (V.str rt = V.str rt) = true by simp]
      exact k H1 s1
end
end K2

namespace K2
open PySem L2 E0
/-! ### _law_base -/
def ROWS : List (Str × List (Str × Str)) := [("Seq", [("items", "s*")]), ("Pick", [("items", "s*")]), ("Loop", [("items", "s*")]), ("Pair", [("one", "s"), ("two", "s")]), ("Full", [("who", "text"), ("items", "s*")]), ("Wrap", [("who", "text"), ("body", "s")]), ("Set", [("who", "text")]), ("Use", [("who", "text")]), ("Let", [("what", "text"), ("who", "text")]), ("Leave", []), ("Again", []), ("Stop", [])]
def ITS : List Itm := ROWS.map fun r => Itm.form r.1 "s" r.2
def rowOk (r : Str × List (Str × Str)) : Bool := nameS r.1 && (r.2.all fun p => nameS p.1 && takenS p.2) && decide (r.2.length ≤ 5) && decide ((r.2.map (·.1)).Nodup)
theorem rows_ok : ROWS.all rowOk = true := by decide +kernel
theorem its_due : schDue ITS = none := by decide +kernel
theorem its_ok : ∀ i ∈ ITS, itmOk i := fun i hi => by
  obtain ⟨r, hr, rfl⟩ := List.mem_map.mp hi
  have h := List.all_eq_true.mp rows_ok r hr
  unfold rowOk at h
  rw [Bool.and_eq_true, Bool.and_eq_true, Bool.and_eq_true] at h
  obtain ⟨⟨⟨h1, h2⟩, h3⟩, h4⟩ := h
  refine ⟨h1, by decide +kernel, fun p hp => ?_, Nat.le_trans (of_decide_eq_true h3) (by decide)⟩
  have q := List.all_eq_true.mp h2 p hp
  rw [Bool.and_eq_true] at q
  exact q
theorem merge_app : ∀ {more acc : List (Key × V)}, ((acc ++ more).map Prod.fst).Nodup → mergeK acc more = acc ++ more
  | [], acc, _ => (List.append_nil acc).symm
  | p :: more, acc, h => by
    have e : putK acc p.1 p.2 = acc ++ [p] := putK_new fun q => by
      rw [List.map_append, List.map_cons, List.nodup_append] at h
      exact h.2.2 _ q _ (List.mem_cons_self ..) rfl
    show mergeK (putK acc p.1 p.2) more = _
    rw [e, merge_app (by rw [List.append_assoc]; exact h), List.append_assoc]
    rfl
theorem val_name {K : PySem.W.Frag} {H : Hp} {z : Str} (h : nameS z = true) : Val K H (.str z) := .inl ⟨z, rfl, Nat.le_trans (nameS_len h) (by decide), nameS_ok h⟩
theorem row_parts {r : Str × List (Str × Str)} (ok : rowOk r = true) : nameS r.1 = true ∧ (∀ p ∈ r.2, nameS p.1 = true ∧ takenS p.2 = true) ∧ r.2.length ≤ 5 := by
  unfold rowOk at ok
  rw [Bool.and_eq_true, Bool.and_eq_true, Bool.and_eq_true] at ok
  refine ⟨ok.1.1.1, fun p hp => ?_, of_decide_eq_true ok.1.2⟩
  have q := List.all_eq_true.mp ok.1.1.2 p hp
  rw [Bool.and_eq_true] at q
  exact q
theorem row_slots {K : PySem.W.Frag} {H : Hp} {d : Addr} {r : Str × List (Str × Str)} (ok : rowOk r = true) : SlotsOk K H d (r.2.map mkP) := by
  obtain ⟨_, h2, h3⟩ := row_parts ok
  refine ⟨fun p hp => ?_, fun p hp => ?_, by rw [List.length_map]; omega⟩
  · obtain ⟨q, hq, rfl⟩ := List.mem_map.mp hp
    have k := (h2 q hq).1
    exact ⟨q.1, rfl, Nat.le_trans (nameS_len k) (by decide), nameS_ok k⟩
  · obtain ⟨q, hq, rfl⟩ := List.mem_map.mp hp
    have k := (h2 q hq).2
    exact ⟨.inl ⟨q.2, rfl, Nat.le_trans (taken_len k) (by decide), taken_ok k⟩, nofun⟩
theorem row_due {r : Str × List (Str × Str)} (ok : rowOk r = true) : dueV (.str r.1) (.str "s") (r.2.map mkP) = none := by
  obtain ⟨h1, h2, h3⟩ := row_parts ok
  have e1 : nameV (.str r.1) = true := h1
  have e2 : sortV (.str "s") = true := by decide +kernel
  have e3 : badK (r.2.map mkP) = none := by
    unfold badK
    rw [Option.map_eq_none_iff, List.find?_eq_none]
    intro p hp
    obtain ⟨q, hq, rfl⟩ := List.mem_map.mp hp
    have : goodP (mkP q) = true := by
      show (nameS q.1 && takenS q.2) = true
      rw [(h2 q hq).1, (h2 q hq).2]
      rfl
    rw [this]
    decide
  unfold dueV
  rw [e1, e2, e3, if_neg (by decide), if_neg (by decide)]
  show (if 5 < (r.2.map mkP).length then some (V.str "size") else none) = none
  rw [if_neg (by rw [List.length_map]; omega)]
/-- a row as the law writes it -/
def RowAt (H : Hp) (v : V) (r : Str × List (Str × Str)) : Prop := ∃ t d, v = .ref t ∧ H t = some (.tup [.str r.1, .ref d]) ∧ H d = some (.dK (r.2.map mkP))
theorem RowAt.same {H H' : Hp} {v : V} {r : Str × List (Str × Str)} (h : RowAt H v r) (e : Same H H') : RowAt H' v r := let ⟨t, d, a, b, c⟩ := h; ⟨t, d, a, e _ _ b, e _ _ c⟩
theorem RowAt.off {H : Hp} {v : V} {r : Str × List (Str × Str)} {D : Addr} {o : HO} {zs : List V} (h : RowAt H v r) (hD : H D = some (.lst zs)) : RowAt (upd H D o) v r :=
  let ⟨t, d, a, b, c⟩ := h; ⟨t, d, a, by rw [upd_ne (ne_of b hD nofun)]; exact b, by rw [upd_ne (ne_of c hD nofun)]; exact c⟩
def litT (ps : List (Str × Str)) : List (TE × TE) := ps.map fun p => (tC (.str p.1), tC (.str p.2))
theorem lit_pairs {σ : L2.St} {H : Hp} : ∀ (ps : List (Str × Str)) {Q : List (V × V) → Hp → Prop}, Q (ps.map fun p => (.str p.1, .str p.2)) H → tPairs (litT ps) σ H Q
  | [], _, q => q
  | _ :: ps, _, q => lit_pairs ps q
theorem disp_made {σ : L2.St} {H : Hp} (ps : List (Str × Str)) {Q : VK} (nd : (ps.map (·.1)).Nodup) (hl : ps.length ≤ 15) (k : ∀ H' d, Same H H' → H' d = some (.dK (ps.map mkP)) → Q (.ref d) H') : tDisp (litT ps) σ H Q := by
  intro p np
  refine lit_pairs ps ⟨upd_same, ps.map mkP, ?_, by rw [List.length_map]; exact hl, ?_⟩
  · rw [List.map_map]
    rfl
  · rw [upd_upd, merge_app (acc := []) (by
      rw [List.nil_append, List.map_map]
      exact List.Pairwise.map (R := fun a b => a ≠ b) (S := fun a b => a ≠ b) _ (fun a b h q => h (Sum.inr.inj q)) nd |> fun h => by rw [List.map_map] at h; exact h), List.nil_append]
    exact k _ p (same_upd (Same.refl H) np) upd_same
theorem ent_made {σ : L2.St} {H : Hp} (r : Str × List (Str × Str)) {Q : VK} (ok : rowOk r = true) (k : ∀ H' v, Same H H' → RowAt H' v r → Q v H') : tTup (tCons (tC (.str r.1)) (tCons (tDisp (litT r.2)) tNil)) σ H Q := by
  unfold rowOk at ok
  rw [Bool.and_eq_true, Bool.and_eq_true, Bool.and_eq_true] at ok
  dsimp only [tTup, tCons, tC, tNil]
  refine disp_made r.2 (of_decide_eq_true ok.2) (Nat.le_trans (of_decide_eq_true ok.1.2) (by decide)) fun H1 d s1 hd => ?_
  refine ⟨by show 2 ≤ sizeLine; decide, fun t nt => ?_⟩
  have s2 : Same H1 (upd H1 t (.tup [.str r.1, .ref d])) := same_upd (Same.refl H1) nt
  exact k _ _ (s1.trans s2) ⟨t, d, rfl, upd_same, s2 _ _ hd⟩
theorem ent_made0 {σ : L2.St} {H : Hp} (s : Str) {Q : VK} (k : ∀ H' v, Same H H' → RowAt H' v (s, []) → Q v H') : tTup (tCons (tC (.str s)) (tCons tDNewK tNil)) σ H Q := by
  intro d nd
  have s1 : Same H (upd H d (.dK [])) := same_upd (Same.refl H) nd
  have v1 : (upd H d (.dK [])) d = some (.dK []) := upd_same
  generalize upd H d (.dK []) = H1 at s1 v1 ⊢
  refine ⟨by show 2 ≤ sizeLine; decide, fun t nt => ?_⟩
  have s2 : Same H1 (upd H1 t (.tup [.str s, .ref d])) := same_upd (Same.refl H1) nt
  exact k _ _ (s1.trans s2) ⟨t, d, rfl, upd_same, s2 _ _ v1⟩
def rowT (r : Str × List (Str × Str)) : TE := match r.2 with
  | [] => tTup (tCons (tC (.str r.1)) (tCons tDNewK tNil))
  | p :: ps => tTup (tCons (tC (.str r.1)) (tCons (tDisp (litT (p :: ps))) tNil))
def rowsTA : List (Str × List (Str × Str)) → TA
  | [] => tNil
  | r :: rs => tCons (rowT r) (rowsTA rs)
theorem rows_made {σ : L2.St} : ∀ (rs : List (Str × List (Str × Str))) {H : Hp} {Q : List V → Hp → Prop}, rs.all rowOk = true → (∀ H' vs, Same H H' → Paired (RowAt H') vs rs → Q vs H') → rowsTA rs σ H Q
  | [], H, Q, _, k => k H [] (Same.refl H) .nil
  | r :: rs, H, Q, ok, k => by
    rw [List.all_cons, Bool.and_eq_true] at ok
    show rowT r σ H (fun x H1 => rowsTA rs σ H1 fun xs H2 => Q (x :: xs) H2)
    have fin : ∀ H' v, Same H H' → RowAt H' v r → rowsTA rs σ H' fun xs H2 => Q (v :: xs) H2 := fun H1 v s1 h1 =>
      rows_made rs ok.2 fun H2 vs s2 h2 => k H2 (v :: vs) (s1.trans s2) (.cons (h1.same s2) h2)
    obtain ⟨n, ps⟩ := r
    cases ps with
    | nil => exact ent_made0 n fin
    | cons p ps => exact ent_made (n, p :: ps) ok.1 fin
def R1 : List (Str × List (Str × Str)) := ROWS.take 3
def R2' : List (Str × List (Str × Str)) := (ROWS.drop 3).take 2
def R3 : List (Str × List (Str × Str)) := (ROWS.drop 5).take 3
def R4 : List (Str × List (Str × Str)) := ROWS.drop 8
theorem of_use {K : PySem.W.Frag} {CS CF CSc t : Addr} {H : Hp} {xs : List V} {its : List Itm} {Q : VK} {E : XK} (ht : H t = none) (pt : Paired (ItmAt K CF H) xs its) (hl : its.length ≤ 1000) (ok : ∀ i ∈ its, itmOk i) (due : schDue its = none) (k : ∀ H' x rs, Same H H' → SchAt K CF CSc H' x xs its rs → H x = none → Q (.ref x) H') :
    spSchOf K CS CF CSc [.ref CSc, .ref t] (upd H t (.tup xs)) Q E := by
  have s1 : Same H (upd H t (.tup xs)) := same_upd (Same.refl H) ht
  refine ⟨t, xs, its, rfl, upd_same, items_keep pt s1, hl, ok, ?_⟩
  unfold SchRes
  rw [due]
  exact fun H' x rs s' S nx => k H' x rs (s1.trans s') S (s1.free nx)
theorem form_off {K : PySem.W.Frag} {CF D : Addr} {H : Hp} {o : HO} {zs : List V} (hD : H D = some (.lst zs)) : ∀ {xs : List V} {its : List Itm}, Paired (ItmAt K CF H) xs its → (∀ i ∈ its, isForm i = true) → Paired (ItmAt K CF (upd H D o)) xs its
  | _, _, .nil, _ => .nil
  | _, .odd :: _, .cons a t, h => nomatch h _ (List.mem_cons_self ..)
  | _, .form n s ps :: _, .cons a t, h => by
    obtain ⟨x, e, f⟩ := a
    exact .cons ⟨x, e, f.off (fun xs q => by rw [hD] at q; cases q) (fun d fs q => by rw [hD] at q; cases q)⟩ (form_off hD t fun i hi => h i (List.mem_cons_of_mem _ hi))
structure TxtBa (P : Program) (w : World) (K : PySem.W.Frag) (mg : Str → Option Value) (base : Heap) (CI CF CS CSc pO fO pS fS : Addr) (fdO fdS : FuncData) : Prop where
  gF : mg "Form" = some (.ref CF)
  gS : mg "Schema" = some (.ref CSc)
  tup : mg "tuple" = none
  rd : ∃ mc, ClX.CRead K CF mc ∧ ClX.CMet K CF mc "of" pO fO
  rd2 : ∃ mc, ClX.CRead K CSc mc ∧ ClX.CMet K CSc mc "of" pS fS
  GO : FnOk P w K mg base (L2.CX P w) 7 fO fdO ["cls", "name", "sort", "slots"] (spOf K CI CF)
  bO : Binds K fdO ["cls", "name", "sort", "slots"] []
  GS : FnOk P w K mg base (L2.CX P w) 9 fS fdS ["cls", "forms"] (spSchOf K CS CF CSc)
  bS : Binds K fdS ["cls", "forms"] []
def NBA : List Str := ["_law_rows", "_law_word", "_law_openings"]
theorem scBase : FnScope NBA [] (defScope sBase) := ⟨rfl, rfl, rfl, by decide +kernel, rfl, by decide +kernel, by decide +kernel⟩
def spBase (K : PySem.W.Frag) (CF CSc : Addr) : Sp := fun vs H Q _ => vs = [] ∧ ∀ H' x xs rs, Same H H' → SchAt K CF CSc H' x xs ITS rs → H x = none → Q (.ref x) H'
section
variable {P : Program} {w : World} {K : PySem.W.Frag} {mg : Str → Option Value} {base : Heap}
theorem ok_base {f CI CF CS CSc pO fO pS fS : Addr} {fd fdO fdS : FuncData} (F : Fun K "_law_base" "_law_base" sBase f fd) (T : TxtBa P w K mg base CI CF CS CSc pO fO pS fS fdO fdS) : FnOk P w K mg base CX0 11 f fd [] (spBase K CF CSc) := by
  refine F.ok scBase (fun vs H Q E h => ?_) (fun cdv A outer s H vs Q E hr h => ?_)
  · obtain ⟨rfl, _⟩ := h
    rfl
  · obtain ⟨rfl, k⟩ := h
    obtain ⟨mc, rd, met⟩ := T.rd
    obtain ⟨mc2, rd2, met2⟩ := T.rd2
    have hr7 : Room 7 _ := hr.mono (by decide)
    have hr : Room 9 _ := hr.mono (by decide)
    have GR : FnR P w K mg base (L2.CX P w) 7 fO (spOf K CI CF) := (T.GO.raw T.bO .nil).imp fun vs H Q E h => by rw [List.append_nil]; exact h
    have GR2 : FnR P w K mg base (L2.CX P w) 9 fS (spSchOf K CS CF CSc) := (T.GS.raw T.bS .nil).imp fun vs H Q E h => by rw [List.append_nil]; exact h
    refine ⟨_, pss_cons (ps_set (i := 0) scBase.nd rfl (.inl rfl) (show PE _ _ (tLst (rowsTA R1)) from pe_lst (pa_cons (pe_tup (pa_cons pe_str (pa_cons (pe_disp (pps_cons pe_str pe_str pps_nil) rfl rfl (by intro q; cases q) (by decide)) pa_nil))) (pa_cons (pe_tup (pa_cons pe_str (pa_cons (pe_disp (pps_cons pe_str pe_str pps_nil) rfl rfl (by intro q; cases q) (by decide)) pa_nil))) (pa_cons (pe_tup (pa_cons pe_str (pa_cons (pe_disp (pps_cons pe_str pe_str pps_nil) rfl rfl (by intro q; cases q) (by decide)) pa_nil))) pa_nil)))))
      (pss_cons (ps_set (i := 0) scBase.nd rfl (.inl rfl) (pe_op op_cat (pv 0) (show PE _ _ (tLst (rowsTA R2')) from pe_lst (pa_cons (pe_tup (pa_cons pe_str (pa_cons (pe_disp (pps_cons pe_str pe_str (pps_cons pe_str pe_str pps_nil)) rfl rfl (by intro q; cases q) (by decide)) pa_nil))) (pa_cons (pe_tup (pa_cons pe_str (pa_cons (pe_disp (pps_cons pe_str pe_str (pps_cons pe_str pe_str pps_nil)) rfl rfl (by intro q; cases q) (by decide)) pa_nil))) pa_nil)))))
      (pss_cons (ps_set (i := 0) scBase.nd rfl (.inl rfl) (pe_op op_cat (pv 0) (show PE _ _ (tLst (rowsTA R3)) from pe_lst (pa_cons (pe_tup (pa_cons pe_str (pa_cons (pe_disp (pps_cons pe_str pe_str (pps_cons pe_str pe_str pps_nil)) rfl rfl (by intro q; cases q) (by decide)) pa_nil))) (pa_cons (pe_tup (pa_cons pe_str (pa_cons (pe_disp (pps_cons pe_str pe_str pps_nil) rfl rfl (by intro q; cases q) (by decide)) pa_nil))) (pa_cons (pe_tup (pa_cons pe_str (pa_cons (pe_disp (pps_cons pe_str pe_str pps_nil) rfl rfl (by intro q; cases q) (by decide)) pa_nil))) pa_nil))))))
      (pss_cons (ps_set (i := 0) scBase.nd rfl (.inl rfl) (pe_op op_cat (pv 0) (show PE _ _ (tLst (rowsTA R4)) from pe_lst (pa_cons (pe_tup (pa_cons pe_str (pa_cons (pe_disp (pps_cons pe_str pe_str (pps_cons pe_str pe_str pps_nil)) rfl rfl (by intro q; cases q) (by decide)) pa_nil))) (pa_cons (pe_tup (pa_cons pe_str (pa_cons pe_dnewK pa_nil))) (pa_cons (pe_tup (pa_cons pe_str (pa_cons pe_dnewK pa_nil))) (pa_cons (pe_tup (pa_cons pe_str (pa_cons pe_dnewK pa_nil))) pa_nil)))))))
      (pss_one (ps_ret (ClX.pe_cmeth (E := E0) (pe_glob (v := .ref CSc) rfl T.gS rfl) rd2 met2 GR2 hr passL (pa_cons (pe_callTy call_tuple_of (by rfl) T.tup PyProof.Rows.boot_tuple (pa_cons (pe_lc (own := [("_law_word", 1), ("_law_openings", 2)]) (g := gTup K 2 (gCons (gName 1) (gCons (gName 2) gNil))) (tt := tYes)
        (te := ClX.tCMeth CF (spOf K CI CF) E0 (tC (.ref CF)) (tCons (tVar 1) (tCons (tC (.str "s")) (tCons (tVar 2) tNil)))) rfl scBase.nd (pi_list (pv 0))
        (blkOk_by (N := NBA) (sc := defScope sBase) (by decide +kernel)) (fun _ _ _ _ _ => pg_tup (by rfl) (pgs_cons (pg_name (i := 1) scBase.nd rfl (.inl rfl)) (pgs_cons (pg_name (i := 2) scBase.nd rfl (.inl rfl)) pgs_nil))) (fun _ _ _ _ _ => pts_nil)
        (fun _ _ _ _ _ => ClX.pe_cmeth (E := E0) (pe_glob (v := .ref CF) rfl T.gF rfl) rd met GR hr7 passL (pa_cons (pv 1) (pa_cons pe_str (pa_cons (pv 2) pa_nil))))) pa_nil)) pa_nil))))))), ?_⟩
    have ok1 : R1.all rowOk = true := by decide +kernel
    have ok2 : R2'.all rowOk = true := by decide +kernel
    have ok3 : R3.all rowOk = true := by decide +kernel
    have ok4 : R4.all rowOk = true := by decide +kernel
    have big : sizeLine ≥ 16777216 := by decide
    dsimp only [tSeq, tAsg, tLst]
    refine rows_made R1 ok1 fun H1 vs1 s1 p1 => ?_
    have l1 : vs1.length = 3 := p1.length
    refine ⟨by omega, fun A1 na1 => ?_⟩
    have s2 : Same H1 (upd H1 A1 (.lst vs1)) := same_upd (Same.refl H1) na1
    have w2 : (upd H1 A1 (.lst vs1)) A1 = some (.lst vs1) := upd_same
    have p2 : Paired (RowAt (upd H1 A1 (.lst vs1))) vs1 R1 := Paired.mapP p1 fun _ _ z => z.same s2
    have s02 := s1.trans s2
    generalize upd H1 A1 (.lst vs1) = H2 at s02 w2 p2 ⊢
    have step : ∀ {Hc : Hp} {A : Addr} {vs : List V} {rs qs : List (Str × List (Str × Str))} {R : V → Hp → Prop}, Same H Hc → Hc A = some (.lst vs) → Paired (RowAt Hc) vs rs → vs.length + qs.length ≤ 1000 → qs.all rowOk = true →
        (∀ H' p vs', Same H H' → H' p = some (.lst vs') → Paired (RowAt H') vs' (rs ++ qs) → vs'.length = vs.length + qs.length → R (.ref p) H') →
        rowsTA qs [some (.ref A), none, none] Hc (fun xs H1 => xs.length ≤ sizeLine ∧ ∀ p, H1 p = none → rCat (.ref A) (.ref p) (upd H1 p (.lst xs)) R) := by
      intro Hc A vs rs qs R sc hA pc hl okq kk
      refine rows_made qs okq fun Hd ws sd pd => ?_
      have lw : ws.length = qs.length := pd.length
      refine ⟨by omega, fun B nB => ?_⟩
      have se : Same Hd (upd Hd B (.lst ws)) := same_upd (Same.refl Hd) nB
      have wB : (upd Hd B (.lst ws)) B = some (.lst ws) := upd_same
      have pe := Paired.mapP pd fun _ _ z => RowAt.same z se
      have sce := sc.trans (sd.trans se)
      have wA := se _ _ (sd _ _ hA)
      have pce := Paired.mapP pc fun _ _ z => RowAt.same z (sd.trans se)
      generalize upd Hd B (.lst ws) = He at wB pe sce wA pce ⊢
      refine ⟨A, B, vs, ws, rfl, rfl, wA, wB, by omega, fun p np => ?_⟩
      have sf : Same He (upd He p (.lst (vs ++ ws))) := same_upd (Same.refl He) np
      exact kk _ p (vs ++ ws) (sce.trans sf) upd_same (Paired.mapP (paired_app pce pe) fun _ _ z => RowAt.same z sf) (by rw [List.length_append, lw])
    refine ⟨_, rfl, ?_⟩
    refine step s02 w2 p2 (by rw [l1]; decide) ok2 fun H3 A3 vs3 s3 w3 p3 l3 => ?_
    refine ⟨_, rfl, ?_⟩
    refine step s3 w3 p3 (by rw [l3, l1]; decide) ok3 fun H4 A4 vs4 s4 w4 p4 l4 => ?_
    refine ⟨_, rfl, ?_⟩
    refine step s4 w4 p4 (by rw [l4, l3, l1]; decide) ok4 fun H5 A5 vs5 s5 w5 p5 l5 => ?_
    have eR : R1 ++ R2' ++ R3 ++ R4 = ROWS := rfl
    rw [eR] at p5
    have lR : ROWS.length = 12 := rfl
    have lv : vs5.length = 12 := by rw [p5.length, lR]
    refine ⟨rfl, ?_⟩
    refine ⟨_, rfl, A5, rfl, ⟨_, SqL.of w5⟩, fun D hD => lc_list (K := K) (a := A5) (xs := vs5) (fun i H' => ∃ xs : List V, Same H5 H' ∧ H' D = some (.lst xs) ∧ xs.length = i ∧ Paired (ItmAt K CF H') xs (ITS.take i))
      ⟨[], same_upd (Same.refl H5) hD, upd_same, rfl, .nil⟩ (fun i H' _ ⟨_, s', _⟩ => SqL.of (s' _ _ w5)) ?_ ?_⟩
    · rintro i x H6 hx ⟨xs, s6, hD6, xl, pt⟩
      obtain ⟨r, er, t, d, rfl, ht, hd⟩ := LiI.paired_get p5 hx
      have il := (List.getElem?_eq_some_iff.mp er).1
      have rok := List.all_eq_true.mp rows_ok r (List.mem_of_getElem? er)
      have eit : ITS[i]? = some (Itm.form r.1 "s" r.2) := by
        unfold ITS
        rw [List.getElem?_map, er]
        rfl
      refine ⟨t, _, rfl, SqT.of (s6 _ _ ht), rfl, _, _, rfl, ?_⟩
      refine ⟨_, _, rfl, rfl, rfl, ?_⟩
      dsimp only [tYes]
      rw [if_pos rfl]
      refine ⟨rfl, _, rfl, _, rfl, ?_⟩
      refine ⟨d, .str r.1, .str "s", r.2.map mkP, rfl, val_name (row_parts rok).1, val_name (by decide +kernel), row_slots rok, s6 _ _ hd, ?_⟩
      rw [row_due rok]
      intro H7 y s7 ny FA
      have hD7 := s7 _ _ hD6
      refine ⟨xs, hD7, by rw [xl]; omega, xs ++ [.ref y], same_upd (s6.trans s7) hD, upd_same, by rw [List.length_append, xl]; rfl, ?_⟩
      rw [List.take_add_one, eit]
      have fr : ∀ i' ∈ ITS.take i, isForm i' = true := fun i' hi' => by
        obtain ⟨r', _, rfl⟩ := List.mem_map.mp (List.mem_of_mem_take hi')
        rfl
      refine Paired.snoc (form_off hD7 (items_keep pt s7) fr) ⟨y, rfl, FA.off (fun xs q => by rw [hD7] at q; cases q) (fun d fs q => by rw [hD7] at q; cases q)⟩
    · rintro H6 ⟨xs, s6, hD6, xl, pt⟩
      rw [lv, List.take_of_length_le (by show (ROWS.map _).length ≤ 12; rw [List.length_map, lR]; exact Nat.le_refl _)] at pt
      refine ⟨D, xs, rfl, .inl ⟨SqL.of hD6, fun t nt => ?_⟩⟩
      exact of_use nt pt (by show (ROWS.map _).length ≤ 1000; rw [List.length_map, lR]; decide) its_ok its_due fun H7 x rs s7 S nx => k H7 x xs rs (s5.trans (s6.trans s7)) S ((s5.trans s6).free nx)
end
end K2

namespace K2
open PySem L2 E0
open LamX (ExtN Tabs TabS TabB LamS lamS_by)
section
variable {T : List (Addr × Str)} {cx : Str → Addr} {t : XK → TE} {σ : L2.St} {H : Hp} {Q : VK}
theorem got_plan {k : Str} (tb : Tabs T H) (ht : ∀ H1 E' Q', ExtN H H1 → PlanBad (cx "InvalidPlan") H1 E' k → t E' σ H1 Q') (kk : ∀ H' p, ExtN H H' → Tabs T H' → H' p = some (.tup [.str "InvalidPlan", .str k]) → Q (.ref p) H') :
    LamX.tLam T (TGot cx) t σ H Q := by
  refine ⟨tb, fun H1 e1 t1 H0 E' Q' s0 hP hW hU => ?_⟩
  refine ht H0 E' Q' (e1.trans (ExtN.of s0)) fun H' dd s' _ hx => hP dd (.str k) H' hx fun H'' p s'' np hp => ?_
  have s := s0.trans (s'.trans s'')
  exact kk H'' p (e1.trans (ExtN.of s)) (t1.ext s) hp
theorem got_flow {k : Str} {y : V} (tb : Tabs T H) (ht : ∀ H1 E' Q', ExtN H H1 → FlowBad (cx "InvalidFlow") H1 E' k y → t E' σ H1 Q') (kk : ∀ H' p, ExtN H H' → Tabs T H' → H' p = some (.tup [.str "InvalidFlow", .str k, y]) → Q (.ref p) H') :
    LamX.tLam T (TGot cx) t σ H Q := by
  refine ⟨tb, fun H1 e1 t1 H0 E' Q' s0 hP hW hU => ?_⟩
  refine ht H0 E' Q' (e1.trans (ExtN.of s0)) fun H' dd s' _ hx => hW dd y (.str k) H' hx fun H'' p s'' np hp => ?_
  have s := s0.trans (s'.trans s'')
  exact kk H'' p (e1.trans (ExtN.of s)) (t1.ext s) hp
theorem got_unk {y : V} (tb : Tabs T H) (ht : ∀ H1 E' Q', ExtN H H1 → UnkE (cx "UnknownName") E' H1 y → t E' σ H1 Q') (kk : ∀ H' p, ExtN H H' → Tabs T H' → H' p = some (.tup [.str "UnknownName", y]) → Q (.ref p) H') :
    LamX.tLam T (TGot cx) t σ H Q := by
  refine ⟨tb, fun H1 e1 t1 H0 E' Q' s0 hP hW hU => ?_⟩
  refine ht H0 E' Q' (e1.trans (ExtN.of s0)) fun H' dd s' _ hx => hU dd y H' hx fun H'' p s'' np hp => ?_
  have s := s0.trans (s'.trans s'')
  exact kk H'' p (e1.trans (ExtN.of s)) (t1.ext s) hp
end
/-- a list of what was told -/
def TL (H : Hp) (L : Addr) (vss : List (List V)) : Prop := ∃ ps : List Addr, H L = some (.lst (ps.map V.ref)) ∧ Paired (fun p vs => H p = some (.tup vs)) ps vss
theorem TL.ext {H H' : Hp} {L : Addr} {vss : List (List V)} (h : TL H L vss) (e : ExtN H H') : TL H' L vss := let ⟨ps, a, b⟩ := h; ⟨ps, e _ _ a nofun, Paired.mapP b fun _ _ z => e _ _ z nofun⟩
theorem TL.lst {H : Hp} {L : Addr} {vss : List (List V)} (h : TL H L vss) : ∃ xs, H L = some (.lst xs) := let ⟨ps, a, _⟩ := h; ⟨_, a⟩
theorem told_app {T : List (Addr × Str)} {H0 H' : Hp} {L p : Addr} {vs : List V} {vss : List (List V)} {R : VK} (h0 : H0 L = none) (e : ExtN H0 H') (t : Tabs T H') (tl : TL H' L vss) (hp : H' p = some (.tup vs)) (lv : vss.length ≤ 1000)
    (k : ∀ H'', ExtN H0 H'' → Tabs T H'' → TL H'' L (vss ++ [vs]) → R .non H'') : rAppend (.ref L) [.ref p] H' R := by
  obtain ⟨ps, a, b⟩ := tl
  have ll : ps.length = vss.length := b.length
  have big : (1000 : Nat) < sizeLine := by decide
  refine ⟨L, _, .ref p, rfl, rfl, a, by rw [List.length_map, ll]; omega, ?_⟩
  refine k _ (ext_upd (ExtN.refl H0) h0 e) (tabs_lst t a) ⟨ps ++ [p], by rw [upd_same, List.map_append]; rfl, ?_⟩
  have nL : ∀ {q : Addr} {us : List V}, H' q = some (.tup us) → (upd H' L (.lst (List.map V.ref ps ++ [V.ref p]))) q = some (.tup us) := fun h => by rw [upd_ne (ne_of h a nofun)]; exact h
  exact Paired.snoc (Paired.mapP b fun _ _ z => nL z) (nL hp)
theorem TL.one {H : Hp} {L p : Addr} {vs : List V} (hp : H p = some (.tup vs)) (n : H L = none) : TL (upd H L (.lst [.ref p])) L [vs] := ⟨[p], upd_same, .cons (by rw [upd_ne (ne_of_none hp n)]; exact hp) .nil⟩
/-! ### _law_plans_right: what is refused -/
def NPR : List Str := ["_law_odd", "_law_slot", "_law_told", "_law_due", "_law_mode", "_law_some", "_law_word", "_law_one"]
theorem scPR : FnScope NPR ["_law_odd", "_law_slot"] (defScope sPlansRight) := ⟨rfl, rfl, rfl, by decide +kernel, rfl, by decide +kernel, by decide +kernel⟩
def stPR (i : Nat) : Stmt := (defBody sPlansRight).getD i (.Pass ⟨0, 0, 0, 0⟩)
abbrev qPR : Str := "_law_plans_right.<locals>.<lambda>"
theorem due_order {o s u : V} (h : wordV ORD o = false) : planDue o s u = some ("order" : Str) := by unfold planDue; rw [if_pos h]
theorem loop_word : wordV ORD (.str "loop") = true := by decide +kernel
theorem due_sets {s u : V} (h : s ≠ .non ∧ nameV s = false) : planDue (.str "loop") s u = some ("sets" : Str) := by unfold planDue; rw [if_neg (by rw [loop_word]; decide), if_pos h]
theorem due_uses {u : V} (h : u ≠ .non ∧ nameV u = false) : planDue (.str "loop") .non u = some ("uses" : Str) := by unfold planDue; rw [if_neg (by rw [loop_word]; decide), if_neg (fun z => z.1 rfl), if_pos h]
theorem due_deed : planDue (.str "steps") (.str "who") (.str "who") = some ("deed" : Str) := by decide +kernel
section
variable {P : Program} {w : World} {K : PySem.W.Frag} {mg : Str → Option Value} {base : Heap} {cx : Str → Addr} {CP CE fP fG fC f c Pt : Addr} {fdP fdG fdC : FuncData} {T : List (Addr × Str)} {A : Around} {outer : List Env} {s : Shared} {H0 : Hp} {E : XK}
theorem plan_no {CI x dx : Addr} {H : Hp} {o s u : V} {R : VK} {E : XK} {k : Str} (nx : H x = none) (ndx : H dx = none) (ho : Val K H o) (hs : Val K H s) (hu : Val K H u) (e : planDue o s u = some k) (b : PlanBad CI H E k) :
    spPlanInit K CP CI [.ref x, o, s, u] (upd (upd H dx (.own x)) x (.ins CP dx [])) R E := plan_made nx ndx ho hs hu (by unfold PlanRes; rw [e]; exact b)
theorem pr0 (TP : TxtPl P w K mg base CP (cx "InvalidPlan") fP fdP) (TG : TxtG P w K mg base cx CE fG fC fdG fdC) (TB : TabB base mg c Pt) (hmT : (Pt, qPR) ∈ T) (hu : ∀ p ∈ T, p.1 = Pt → p.2 = qPR) (hr : Room 12 (A.deeper (PyProof.Rows.envOfC "_law_plans_right" (defScope sPlansRight) s.heap.objs.size f (.ref c)))) :
    ∃ t : TS, PS (cxOf CX0 P w K mg base NPR "_law_plans_right" (defScope sPlansRight) f (.ref c) A outer s H0 E).nox (stPR 0) t ∧ ∀ (Z : Ends) (H : Hp) (o sl : V), Tabs T H → ValB K H o → wordV ORD o = false →
      (∀ Hb H' L, ExtN H Hb → Hb L = none → ExtN Hb H' → Tabs T H' → TL H' L [[.str "InvalidPlan", .str "order"]] → Z.nx [some o, some sl, some (.ref L), none, none, none, none, none] H') → t Z [some o, some sl, none, none, none, none, none, none] H := by
  have hr3 : Room 3 _ := hr.mono (by decide)
  obtain ⟨ds, rP, bP⟩ := pb_pos TP.F
  refine ⟨_, ps_set (i := 2) scPR.nd rfl (.inl rfl) (pe_lst (pa_cons (pe_got (t := fun E => tMake CP (spPlanInit K CP (cx "InvalidPlan")) [.non, .non] E (tCons (tVar 0) tNil)) (k := 10) TG rfl TB rfl hmT hu hr3 hr (lamS_by (sc := defScope sPlansRight) (by decide +kernel)) rfl (fun _ _ _ _ _ => rfl)
    (fun _ _ _ _ E _ _ hr' => pe_make (E := E) TP.M TP.G (hr'.mono (by decide)) rfl TP.g bP rP (passes_call (takes_of rfl rfl rfl rfl) (fun _ _ _ _ q => q)) (pa_cons (L2.pv 0) pa_nil))) pa_nil)), ?_⟩
  intro Z H o sl tb ho hw k
  refine got_plan (k := "order") tb (fun H1 E' Q' e1 b => ?_) fun H' p e' t' hp => ?_
  · exact ⟨o, rfl, fun x dx nx ndx _ => plan_no nx ndx (ho.ext e1).val val_non val_non (due_order hw) b⟩
  · refine ⟨by show 1 ≤ sizeLine; decide, fun L nL => ?_⟩
    have sL : Same H' (upd H' L (.lst [.ref p])) := same_upd (Same.refl H') nL
    exact k H' _ L e' nL (ExtN.of sL) (t'.ext sL) (TL.one hp nL)
theorem pr1 (TP : TxtPl P w K mg base CP (cx "InvalidPlan") fP fdP) (TG : TxtG P w K mg base cx CE fG fC fdG fdC) (TB : TabB base mg c Pt) (hmT : (Pt, qPR) ∈ T) (hu : ∀ p ∈ T, p.1 = Pt → p.2 = qPR) (hr : Room 12 (A.deeper (PyProof.Rows.envOfC "_law_plans_right" (defScope sPlansRight) s.heap.objs.size f (.ref c)))) :
    ∃ t : TS, PS (cxOf CX0 P w K mg base NPR "_law_plans_right" (defScope sPlansRight) f (.ref c) A outer s H0 E).nox (stPR 1) t ∧ ∀ (Z : Ends) (Hb H : Hp) (L : Addr) (o sl : V), Hb L = none → ExtN Hb H → Tabs T H → TL H L [[.str "InvalidPlan", .str "order"]] → ValB K H o → wordV ORD o = false → ValB K H sl → (sl ≠ .non ∧ nameV sl = false) →
      (∀ H', ExtN Hb H' → Tabs T H' → TL H' L [[.str "InvalidPlan", .str "order"], [.str "InvalidPlan", .str "order"]] → Z.nx [some o, some sl, some (.ref L), none, none, none, none, none] H') → t Z [some o, some sl, some (.ref L), none, none, none, none, none] H := by
  have hr3 : Room 3 _ := hr.mono (by decide)
  obtain ⟨its, mv, bP⟩ := pb_su TP.F
  refine ⟨_, ps_expr (pe_bm PySem.F.plainAttrs_list PySem.F.slot_list_append PySem.F.type_list_append mt_append (L2.pv 2) (pa_cons (pe_got (t := fun E => tMakeK CP 1 (["sets", "uses"] : List Str).length (spPlanInit K CP (cx "InvalidPlan")) (fun vs zs => vs ++ zs) E (tCons (tVar 0) tNil) (tCons (tC (.int 5)) (tCons (tC (.int 5)) tNil))) (k := 10) TG rfl TB rfl hmT hu hr3 hr (lamS_by (sc := defScope sPlansRight) (by decide +kernel)) rfl (fun _ _ _ _ _ => rfl)
    (fun _ _ _ _ E _ _ hr' => pe_makeK (n := 1) (E := E) TP.M TP.G (hr'.mono (by decide)) rfl TP.g bP (passes_call (takes_of rfl rfl rfl rfl) (fun _ _ _ _ q => q)) (pa_cons (L2.pv 0) pa_nil) (pk_cons pe_int (pk_cons pe_int pk_nil)))) pa_nil)), ?_⟩
  intro Z Hb H L o sl h0 e tb tl ho hw hs hn k
  obtain ⟨xsL, hL⟩ := tl.lst
  refine ⟨_, rfl, .inl ⟨rfl, _, SqL.of hL⟩, got_plan (k := "order") tb (fun H1 E' Q' e1 b => ?_) fun H' p e' t' hp => ?_⟩
  · exact ⟨o, rfl, rfl, rfl, fun x dx nx ndx _ => plan_no nx ndx (ho.ext e1).val val_int val_int (due_order hw) b⟩
  · dsimp only [tNil]
    refine told_app h0 (e.trans e') t' (tl.ext e') hp (by decide) fun H'' e'' t'' tl'' => ?_
    exact k H'' e'' t'' tl''
theorem pr2 (TP : TxtPl P w K mg base CP (cx "InvalidPlan") fP fdP) (TG : TxtG P w K mg base cx CE fG fC fdG fdC) (TB : TabB base mg c Pt) (hmT : (Pt, qPR) ∈ T) (hu : ∀ p ∈ T, p.1 = Pt → p.2 = qPR) (hr : Room 12 (A.deeper (PyProof.Rows.envOfC "_law_plans_right" (defScope sPlansRight) s.heap.objs.size f (.ref c)))) :
    ∃ t : TS, PS (cxOf CX0 P w K mg base NPR "_law_plans_right" (defScope sPlansRight) f (.ref c) A outer s H0 E).nox (stPR 2) t ∧ ∀ (Z : Ends) (Hb H : Hp) (L : Addr) (o sl : V), Hb L = none → ExtN Hb H → Tabs T H → TL H L [[.str "InvalidPlan", .str "order"], [.str "InvalidPlan", .str "order"]] → ValB K H o → wordV ORD o = false → ValB K H sl → (sl ≠ .non ∧ nameV sl = false) →
      (∀ H', ExtN Hb H' → Tabs T H' → TL H' L [[.str "InvalidPlan", .str "order"], [.str "InvalidPlan", .str "order"], [.str "InvalidPlan", .str "sets"]] → Z.nx [some o, some sl, some (.ref L), none, none, none, none, none] H') → t Z [some o, some sl, some (.ref L), none, none, none, none, none] H := by
  have hr3 : Room 3 _ := hr.mono (by decide)
  obtain ⟨its, mv, bP⟩ := pb_su TP.F
  refine ⟨_, ps_expr (pe_bm PySem.F.plainAttrs_list PySem.F.slot_list_append PySem.F.type_list_append mt_append (L2.pv 2) (pa_cons (pe_got (t := fun E => tMakeK CP 1 (["sets", "uses"] : List Str).length (spPlanInit K CP (cx "InvalidPlan")) (fun vs zs => vs ++ zs) E (tCons (tC (.str "loop")) tNil) (tCons (tVar 1) (tCons (tC (.str "who")) tNil))) (k := 10) TG rfl TB rfl hmT hu hr3 hr (lamS_by (sc := defScope sPlansRight) (by decide +kernel)) rfl (fun _ _ _ _ _ => rfl)
    (fun _ _ _ _ E _ _ hr' => pe_makeK (n := 1) (E := E) TP.M TP.G (hr'.mono (by decide)) rfl TP.g bP (passes_call (takes_of rfl rfl rfl rfl) (fun _ _ _ _ q => q)) (pa_cons pe_str pa_nil) (pk_cons (L2.pv 1) (pk_cons pe_str pk_nil)))) pa_nil)), ?_⟩
  intro Z Hb H L o sl h0 e tb tl ho hw hs hn k
  obtain ⟨xsL, hL⟩ := tl.lst
  refine ⟨_, rfl, .inl ⟨rfl, _, SqL.of hL⟩, got_plan (k := "sets") tb (fun H1 E' Q' e1 b => ?_) fun H' p e' t' hp => ?_⟩
  · exact ⟨sl, rfl, rfl, rfl, fun x dx nx ndx _ => plan_no nx ndx (val_str (z := "loop") (by decide +kernel) (by decide +kernel)) (hs.ext e1).val (val_str (z := "who") (by decide +kernel) (by decide +kernel)) (due_sets hn) b⟩
  · dsimp only [tNil]
    refine told_app h0 (e.trans e') t' (tl.ext e') hp (by decide) fun H'' e'' t'' tl'' => ?_
    exact k H'' e'' t'' tl''
theorem pr3 (TP : TxtPl P w K mg base CP (cx "InvalidPlan") fP fdP) (TG : TxtG P w K mg base cx CE fG fC fdG fdC) (TB : TabB base mg c Pt) (hmT : (Pt, qPR) ∈ T) (hu : ∀ p ∈ T, p.1 = Pt → p.2 = qPR) (hr : Room 12 (A.deeper (PyProof.Rows.envOfC "_law_plans_right" (defScope sPlansRight) s.heap.objs.size f (.ref c)))) :
    ∃ t : TS, PS (cxOf CX0 P w K mg base NPR "_law_plans_right" (defScope sPlansRight) f (.ref c) A outer s H0 E).nox (stPR 3) t ∧ ∀ (Z : Ends) (Hb H : Hp) (L : Addr) (o sl : V), Hb L = none → ExtN Hb H → Tabs T H → TL H L [[.str "InvalidPlan", .str "order"], [.str "InvalidPlan", .str "order"], [.str "InvalidPlan", .str "sets"]] → ValB K H o → wordV ORD o = false → ValB K H sl → (sl ≠ .non ∧ nameV sl = false) →
      (∀ H', ExtN Hb H' → Tabs T H' → TL H' L [[.str "InvalidPlan", .str "order"], [.str "InvalidPlan", .str "order"], [.str "InvalidPlan", .str "sets"], [.str "InvalidPlan", .str "uses"]] → Z.nx [some o, some sl, some (.ref L), none, none, none, none, none] H') → t Z [some o, some sl, some (.ref L), none, none, none, none, none] H := by
  have hr3 : Room 3 _ := hr.mono (by decide)
  obtain ⟨its, mv, bP⟩ := pb_u TP.F
  refine ⟨_, ps_expr (pe_bm PySem.F.plainAttrs_list PySem.F.slot_list_append PySem.F.type_list_append mt_append (L2.pv 2) (pa_cons (pe_got (t := fun E => tMakeK CP 1 (["uses"] : List Str).length (spPlanInit K CP (cx "InvalidPlan")) (fun vs zs => vs ++ [V.non] ++ zs) E (tCons (tC (.str "loop")) tNil) (tCons (tVar 1) tNil)) (k := 10) TG rfl TB rfl hmT hu hr3 hr (lamS_by (sc := defScope sPlansRight) (by decide +kernel)) rfl (fun _ _ _ _ _ => rfl)
    (fun _ _ _ _ E _ _ hr' => pe_makeK (n := 1) (E := E) TP.M TP.G (hr'.mono (by decide)) rfl TP.g bP (passes_call (takes_of rfl rfl rfl rfl) (fun _ _ _ _ q => q)) (pa_cons pe_str pa_nil) (pk_cons (L2.pv 1) pk_nil))) pa_nil)), ?_⟩
  intro Z Hb H L o sl h0 e tb tl ho hw hs hn k
  obtain ⟨xsL, hL⟩ := tl.lst
  refine ⟨_, rfl, .inl ⟨rfl, _, SqL.of hL⟩, got_plan (k := "uses") tb (fun H1 E' Q' e1 b => ?_) fun H' p e' t' hp => ?_⟩
  · exact ⟨sl, rfl, rfl, rfl, fun x dx nx ndx _ => plan_no nx ndx (val_str (z := "loop") (by decide +kernel) (by decide +kernel)) val_non (hs.ext e1).val (due_uses hn) b⟩
  · dsimp only [tNil]
    refine told_app h0 (e.trans e') t' (tl.ext e') hp (by decide) fun H'' e'' t'' tl'' => ?_
    exact k H'' e'' t'' tl''
theorem pr4 (TP : TxtPl P w K mg base CP (cx "InvalidPlan") fP fdP) (TG : TxtG P w K mg base cx CE fG fC fdG fdC) (TB : TabB base mg c Pt) (hmT : (Pt, qPR) ∈ T) (hu : ∀ p ∈ T, p.1 = Pt → p.2 = qPR) (hr : Room 12 (A.deeper (PyProof.Rows.envOfC "_law_plans_right" (defScope sPlansRight) s.heap.objs.size f (.ref c)))) :
    ∃ t : TS, PS (cxOf CX0 P w K mg base NPR "_law_plans_right" (defScope sPlansRight) f (.ref c) A outer s H0 E).nox (stPR 4) t ∧ ∀ (Z : Ends) (Hb H : Hp) (L : Addr) (o sl : V), Hb L = none → ExtN Hb H → Tabs T H → TL H L [[.str "InvalidPlan", .str "order"], [.str "InvalidPlan", .str "order"], [.str "InvalidPlan", .str "sets"], [.str "InvalidPlan", .str "uses"]] → ValB K H o → wordV ORD o = false → ValB K H sl → (sl ≠ .non ∧ nameV sl = false) →
      (∀ H', ExtN Hb H' → Tabs T H' → TL H' L [[.str "InvalidPlan", .str "order"], [.str "InvalidPlan", .str "order"], [.str "InvalidPlan", .str "sets"], [.str "InvalidPlan", .str "uses"], [.str "InvalidPlan", .str "deed"]] → Z.nx [some o, some sl, some (.ref L), none, none, none, none, none] H') → t Z [some o, some sl, some (.ref L), none, none, none, none, none] H := by
  have hr3 : Room 3 _ := hr.mono (by decide)
  obtain ⟨its, mv, bP⟩ := pb_osu TP.F
  refine ⟨_, ps_expr (pe_bm PySem.F.plainAttrs_list PySem.F.slot_list_append PySem.F.type_list_append mt_append (L2.pv 2) (pa_cons (pe_got (t := fun E => tMakeK CP 0 (["order", "sets", "uses"] : List Str).length (spPlanInit K CP (cx "InvalidPlan")) (fun vs zs => vs ++ zs) E tNil (tCons (tC (.str "steps")) (tCons (tC (.str "who")) (tCons (tC (.str "who")) tNil)))) (k := 10) TG rfl TB rfl hmT hu hr3 hr (lamS_by (sc := defScope sPlansRight) (by decide +kernel)) rfl (fun _ _ _ _ _ => rfl)
    (fun _ _ _ _ E _ _ hr' => pe_makeK0 (E := E) TP.M TP.G (hr'.mono (by decide)) rfl TP.g bP (passes_call (takes_of rfl rfl rfl rfl) (fun _ _ _ _ q => q)) (pk_cons pe_str (pk_cons pe_str (pk_cons pe_str pk_nil))))) pa_nil)), ?_⟩
  intro Z Hb H L o sl h0 e tb tl ho hw hs hn k
  obtain ⟨xsL, hL⟩ := tl.lst
  refine ⟨_, rfl, .inl ⟨rfl, _, SqL.of hL⟩, got_plan (k := "deed") tb (fun H1 E' Q' e1 b => ?_) fun H' p e' t' hp => ?_⟩
  · exact ⟨rfl, rfl, fun x dx nx ndx _ => plan_no nx ndx val_steps (val_str (z := "who") (by decide +kernel) (by decide +kernel)) (val_str (z := "who") (by decide +kernel) (by decide +kernel)) due_deed b⟩
  · dsimp only [tNil]
    refine told_app h0 (e.trans e') t' (tl.ext e') hp (by decide) fun H'' e'' t'' tl'' => ?_
    exact k H'' e'' t'' tl''
end
end K2

namespace K2
open PySem L2 E0
open LamX (ExtN Tabs TabS TabB LamS lamS_by)
/-! ### lists of rows of plain values, as data -/
def dflat : V → PyData
  | .bl b => .bool b
  | .int i => .int i
  | .str z => .str z
  | _ => .none
theorem dp_flat {K : PySem.W.Frag} {H : Hp} : ∀ {vs : List V}, vs.all flatV = true → DpAll K H vs (vs.map dflat)
  | [], _ => .nil
  | v :: vs, h => by
    rw [List.all_cons, Bool.and_eq_true] at h
    refine .cons ?_ (dp_flat h.2)
    cases v with
    | non => exact .non
    | bl b => exact .bl b
    | int i => exact .int i
    | str z => exact .str z
    | _ => exact absurd (show false = true from h.1) Bool.false_ne_true
def dTL (vss : List (List V)) : PyData := .list (vss.map fun vs => .tuple (vs.map dflat))
theorem TL.dp {K : PySem.W.Frag} {H : Hp} {L : Addr} {vss : List (List V)} (h : TL H L vss) (fl : (vss.all fun vs => vs.all flatV) = true) : Dp K H (.ref L) (dTL vss) := by
  obtain ⟨ps, a, b⟩ := h
  refine .lst (SqL.of a) ?_
  have key : ∀ {ps : List Addr} {vss : List (List V)}, Paired (fun p vs => H p = some (.tup vs)) ps vss → (vss.all fun vs => vs.all flatV) = true → DpAll K H (ps.map V.ref) (vss.map fun vs => PyData.tuple (vs.map dflat)) := by
    intro ps vss p
    induction p with
    | nil => intro _; exact .nil
    | @cons p vs ps vss e t ih =>
      intro f
      rw [List.all_cons, Bool.and_eq_true] at f
      exact .cons (.tup (SqT.of e) (dp_flat f.1)) (ih f.2)
  exact key b fl
theorem TL.grow {H : Hp} {D t : Addr} {vss : List (List V)} {vs : List V} (h : TL H D vss) (ht : H t = none) : ∃ acc, (upd H t (.tup vs)) D = some (.lst acc) ∧ acc.length = vss.length ∧ TL (upd (upd H t (.tup vs)) D (.lst (acc ++ [.ref t]))) D (vss ++ [vs]) := by
  obtain ⟨ps, a, b⟩ := h
  have a' : (upd H t (.tup vs)) D = some (.lst (ps.map V.ref)) := by rw [upd_ne (ne_of_none a ht)]; exact a
  have nD : ∀ {q : Addr} {us : List V} {o : HO}, (upd H t (.tup vs)) q = some (.tup us) → (upd (upd H t (.tup vs)) D o) q = some (.tup us) := fun h => by rw [upd_ne (ne_of h a' nofun)]; exact h
  refine ⟨_, a', by rw [List.length_map, b.length], ps ++ [t], by rw [upd_same, List.map_append]; rfl, ?_⟩
  exact Paired.snoc (Paired.mapP b fun _ _ z => nD (by rw [upd_ne (ne_of_none z ht)]; exact z)) (nD upd_same)
theorem plan_yes {K : PySem.W.Frag} {CP CI x dx : Addr} {H : Hp} {o s u : V} {R : VK} {E : XK} (nx : H x = none) (ndx : H dx = none) (ho : Val K H o) (hs : Val K H s) (hu : Val K H u) (e : planDue o s u = none) (b : ∀ H', Same H H' → PlanAt CP H' x o s u → R .non H') :
    spPlanInit K CP CI [.ref x, o, s, u] (upd (upd H dx (.own x)) x (.ins CP dx [])) R E := plan_made nx ndx ho hs hu (by unfold PlanRes; rw [e]; exact b)
def PWS : List Str := ["order", "order", "sets", "uses", "deed"]
def pww (w : Str) : List V := [.str "InvalidPlan", .str w]
def modeV (m : Str) : List (List V) := [[.str m, .non, .non], [.str m, .str "a_1", .non], [.str m, .non, .str "B"]]
theorem pws_data : SeqAt.shaped (dTL (PWS.map pww)) = true ∧ PyData.eqv (dTL (PWS.map pww)) (dTL (PWS.map pww)) = true := by decide +kernel
theorem mode_all : (ORD.all fun m => decide (planDue (.str m) .non .non = none) && decide (planDue (.str m) (.str "a_1") .non = none) && decide (planDue (.str m) .non (.str "B") = none) && decide (m.length ≤ 1000) && PyData.strOk m && SeqAt.shaped (dTL (modeV m)) && PyData.eqv (dTL (modeV m)) (dTL (modeV m))) = true := by decide +kernel
structure ModeOk (m : Str) : Prop where
  d1 : planDue (.str m) .non .non = none
  d2 : planDue (.str m) (.str "a_1") .non = none
  d3 : planDue (.str m) .non (.str "B") = none
  l : m.length ≤ 1000
  o : PyData.strOk m = true
  sh : SeqAt.shaped (dTL (modeV m)) = true
  eq : PyData.eqv (dTL (modeV m)) (dTL (modeV m)) = true
theorem mode_ok {m : Str} (h : m ∈ ORD) : ModeOk m := by
  have q := List.all_eq_true.mp mode_all m h
  simp only [Bool.and_eq_true, decide_eq_true_eq] at q
  obtain ⟨⟨⟨⟨⟨⟨a, b⟩, c⟩, d⟩, e⟩, f⟩, g⟩ := q
  exact ⟨a, b, c, d, e, f, g⟩
section
variable {P : Program} {w : World} {K : PySem.W.Frag} {mg : Str → Option Value} {base : Heap} {cx : Str → Addr} {CP CI fP f c : Addr} {fdP : FuncData} {A : Around} {outer : List Env} {s : Shared} {H0 : Hp} {E : XK}
theorem pr5 : ∃ t : TS, PS (cxOf CX0 P w K mg base NPR "_law_plans_right" (defScope sPlansRight) f (.ref c) A outer s H0 E).nox (stPR 5) t ∧ ∀ (Z : Ends) (H : Hp) (a0 a1 a2 : Option V), (∀ H' D, Same H H' → H' D = some (.lst (PWS.map V.str)) → Z.nx [a0, a1, a2, some (.ref D), none, none, none, none] H') → t Z [a0, a1, a2, none, none, none, none, none] H := by
  refine ⟨_, ps_set (i := 3) scPR.nd rfl (.inl rfl) (pe_lst (pa_cons pe_str (pa_cons pe_str (pa_cons pe_str (pa_cons pe_str (pa_cons pe_str pa_nil)))))), ?_⟩
  intro Z H a0 a1 a2 k
  exact ⟨by show 5 ≤ sizeLine; decide, fun D nD => k _ D (same_upd (Same.refl H) nD) upd_same⟩
theorem pr6 (hr : Room 12 (A.deeper (PyProof.Rows.envOfC "_law_plans_right" (defScope sPlansRight) s.heap.objs.size f (.ref c)))) :
    ∃ t : TS, PS (cxOf CX0 P w K mg base NPR "_law_plans_right" (defScope sPlansRight) f (.ref c) A outer s H0 E).nox (stPR 6) t ∧ ∀ (Z : Ends) (H : Hp) (L D : Addr) (a0 a1 : Option V), TL H L (PWS.map pww) → H D = some (.lst (PWS.map V.str)) → (∀ H', Same H H' → Z.nx [a0, a1, some (.ref L), some (.ref D), none, none, none, none] H') → t Z [a0, a1, some (.ref L), some (.ref D), none, none, none, none] H := by
  refine ⟨_, ps_if (pt_cmpR (op_neD hr.units) (L2.pv 2) (pe_lc (own := [("_law_word", 6)]) (g := gName 6) (tt := tYes) (te := tTup (tCons (tC (.str "InvalidPlan")) (tCons (tVar 6) tNil))) rfl scPR.nd (pi_list (L2.pv 3))
      (blkOk_by (N := NPR) (sc := defScope sPlansRight) (by decide +kernel)) (fun _ _ _ _ _ => pg_name (i := 6) scPR.nd rfl (.inl rfl)) (fun _ _ _ _ _ => pts_nil) (fun _ _ _ _ _ => pe_tup (pa_cons pe_str (pa_cons (L2.pv 6) pa_nil)))) (nomark _)) (pss_one (ps_ret pe_bl)) pss_nil, ?_⟩
  intro Z H L D a0 a1 hL hD k
  refine ⟨_, rfl, _, rfl, D, rfl, ⟨_, SqL.of hD⟩, fun B hB => lc_list (K := K) (a := D) (xs := PWS.map V.str) (fun i H' => Same H H' ∧ TL H' B ((PWS.take i).map pww))
    ⟨same_upd (Same.refl H) hB, [], upd_same, .nil⟩ (fun i H' _ ⟨s', _⟩ => SqL.of (s' _ _ hD)) ?_ ?_⟩
  · rintro i x H1 hx ⟨s1, tl⟩
    obtain ⟨z, ez, rfl⟩ : ∃ z, PWS[i]? = some z ∧ x = V.str z := by
      rw [List.getElem?_map] at hx
      cases q : PWS[i]? with
      | none => rw [q] at hx; cases hx
      | some r => rw [q] at hx; exact ⟨r, rfl, (Option.some.inj hx).symm⟩
    refine ⟨rfl, ?_⟩
    dsimp only [tYes]
    rw [if_pos rfl]
    refine ⟨_, rfl, by show 2 ≤ sizeLine; decide, fun t nt => ?_⟩
    obtain ⟨acc, e1, e2, e3⟩ := tl.grow (vs := pww z) nt
    have il := (List.getElem?_eq_some_iff.mp ez).1
    refine ⟨acc, e1, ?_, ?_, ?_⟩
    · rw [e2, List.length_map, List.length_take]
      exact Nat.lt_of_le_of_lt (show min i PWS.length ≤ 5 from Nat.min_le_right ..) (by decide)
    · exact same_upd (same_upd s1 (s1.free nt)) hB
    · rw [List.take_add_one, ez, List.map_append]
      exact e3
  · rintro H1 ⟨s1, tl⟩
    rw [List.length_map, List.take_length] at tl
    obtain ⟨d1, d2⟩ := pws_data
    refine ⟨_, _, (hL.ext (ExtN.of s1)).dp (by decide +kernel), tl.dp (by decide +kernel), d1, d1, _, rfl, ?_⟩
    rw [d2]
    exact iteF (k H1 s1)
end
end K2

namespace K2
open PySem L2 E0
open LamX (ExtN Tabs TabS TabB LamS lamS_by)
section
variable {P : Program} {w : World} {K : PySem.W.Frag} {mg : Str → Option Value} {base : Heap} {CP CI fP f c : Addr} {fdP : FuncData} {A : Around} {outer : List Env} {s : Shared} {H0 : Hp} {E : XK}
theorem val_a1 {H : Hp} : Val K H (.str "a_1") := val_str (z := "a_1") (by decide +kernel) (by decide +kernel)
theorem val_B {H : Hp} : Val K H (.str "B") := val_str (z := "B") (by decide +kernel) (by decide +kernel)
/-- the rows that are read off three plans -/
theorem modes_read (TP : TxtPl P w K mg base CP CI fP fdP) {H : Hp} {m : Str} {a b d : Addr} (h1 : PlanAt CP H a (.str m) .non .non) (h2 : PlanAt CP H b (.str m) (.str "a_1") .non) (h3 : PlanAt CP H d (.str m) .non (.str "B")) {i : Nat} {x : V} (hx : ([V.ref a, V.ref b, V.ref d] : List V)[i]? = some x) :
    ∃ y o s u, x = .ref y ∧ PlanAt CP H y o s u ∧ (modeV m)[i]? = some [o, s, u] := by
  match i, hx with
  | 0, hx => cases hx; exact ⟨a, _, _, _, rfl, h1, rfl⟩
  | 1, hx => cases hx; exact ⟨b, _, _, _, rfl, h2, rfl⟩
  | 2, hx => cases hx; exact ⟨d, _, _, _, rfl, h3, rfl⟩
  | n + 3, hx => simp at hx
theorem pr7 (TP : TxtPl P w K mg base CP CI fP fdP) (hr : Room 12 (A.deeper (PyProof.Rows.envOfC "_law_plans_right" (defScope sPlansRight) s.heap.objs.size f (.ref c)))) :
    ∃ t : TS, PS (cxOf CX0 P w K mg base NPR "_law_plans_right" (defScope sPlansRight) f (.ref c) A outer s H0 E).nox (stPR 7) t ∧ ∀ (Z : Ends) (H : Hp) (a0 a1 a2 a3 : Option V), (∀ H' v3 v4 v5, Same H H' → Z.nx [a0, a1, a2, v3, v4, v5, none, none] H') → t Z [a0, a1, a2, a3, none, none, none, none] H := by
  have hr4 : Room 4 _ := hr.mono (by decide)
  obtain ⟨ds, rP, bP⟩ := pb_pos TP.F
  obtain ⟨i1, m1, b1⟩ := pb_os TP.F
  obtain ⟨i2, m2, b2⟩ := pb_u TP.F
  refine ⟨_, ps_for PassesOwn.never rfl (pi_tup (pe_tup (pa_cons pe_str (pa_cons pe_str (pa_cons pe_str (pa_cons pe_str (pa_cons pe_str (pa_cons pe_str pa_nil)))))))) (pg_name (i := 4) scPR.nd rfl (.inl rfl))
    (pss_cons (ps_set (i := 5) scPR.nd rfl (.inl rfl) (pe_lst (pa_cons (pe_make (E := E0) TP.M TP.G hr4 rfl TP.g bP rP passL (pa_cons (L2.pv 4) pa_nil)) (pa_cons (pe_makeK0 (E := E0) TP.M TP.G hr4 rfl TP.g b1 passL (pk_cons (L2.pv 4) (pk_cons pe_str pk_nil)))
        (pa_cons (pe_makeK (n := 1) (E := E0) TP.M TP.G hr4 rfl TP.g b2 passL (pa_cons (L2.pv 4) pa_nil) (pk_cons pe_str pk_nil)) pa_nil)))))
    (pss_cons (ps_set (i := 3) scPR.nd rfl (.inl rfl) (pe_lst (pa_cons (pe_tup (pa_cons (L2.pv 4) (pa_cons pe_non (pa_cons pe_non pa_nil)))) (pa_cons (pe_tup (pa_cons (L2.pv 4) (pa_cons pe_str (pa_cons pe_non pa_nil)))) (pa_cons (pe_tup (pa_cons (L2.pv 4) (pa_cons pe_non (pa_cons pe_str pa_nil)))) pa_nil)))))
    (pss_one (ps_if (pt_cmpR (op_neD hr.units) (pe_lc (own := [("_law_one", 7)]) (g := gName 7) (tt := tYes) (te := tTup (tCons (tFld K (tVar 7) "order") (tCons (tFld K (tVar 7) "sets") (tCons (tFld K (tVar 7) "uses") tNil)))) rfl scPR.nd (pi_list (L2.pv 5))
        (blkOk_by (N := NPR) (sc := defScope sPlansRight) (by decide +kernel)) (fun _ _ _ _ _ => pg_name (i := 7) scPR.nd rfl (.inl rfl)) (fun _ _ _ _ _ => pts_nil) (fun _ _ _ _ _ => pe_tup (pa_cons (pe_fld (L2.pv 7) rfl) (pa_cons (pe_fld (L2.pv 7) rfl) (pa_cons (pe_fld (L2.pv 7) rfl) pa_nil))))) (L2.pv 3) (nomark _)) (pss_one (ps_ret pe_bl)) pss_nil)))), ?_⟩
  intro Z H a0 a1 a2 a3 k
  refine ⟨by show 6 ≤ sizeLine; decide, fun tp ntp => ?_⟩
  have s0 : Same H (upd H tp (.tup (ORD.map V.str))) := same_upd (Same.refl H) ntp
  have v0 : (upd H tp (.tup (ORD.map V.str))) tp = some (.tup (ORD.map V.str)) := upd_same
  refine ⟨tp, rfl, ⟨_, SqT.of v0⟩, for_tup (K := K) (a := tp) (xs := ORD.map V.str) (fun i σ H' => ∃ v3 v4 v5 : Option V, σ = [a0, a1, a2, v3, v4, v5, none, none] ∧ Same H H' ∧ H' tp = some (.tup (ORD.map V.str)))
    ⟨_, _, _, rfl, s0, v0⟩ (fun i σ H' _ ⟨_, _, _, _, _, q⟩ => SqT.of q) ?_ ?_⟩
  · rintro i x σ H1 hx ⟨v3, v4, v5, rfl, s1, vt⟩
    obtain ⟨m, em, rfl⟩ : ∃ m, ORD[i]? = some m ∧ x = V.str m := by
      rw [List.getElem?_map] at hx
      cases q : ORD[i]? with
      | none => rw [q] at hx; cases hx
      | some r => rw [q] at hx; exact ⟨r, rfl, (Option.some.inj hx).symm⟩
    have M := mode_ok (List.mem_of_getElem? em)
    have vm : ∀ {H : Hp}, Val K H (.str m) := val_str M.l M.o
    refine ⟨_, rfl, fun x1 dx1 nx1 ndx1 _ => plan_yes nx1 ndx1 vm val_non val_non M.d1 fun H2 s2 P1 => ⟨rfl, ?_⟩⟩
    refine ⟨_, rfl, rfl, rfl, fun x2 dx2 nx2 ndx2 _ => plan_yes nx2 ndx2 vm val_a1 val_non M.d2 fun H3 s3 P2 => ⟨rfl, ?_⟩⟩
    refine ⟨_, rfl, rfl, rfl, fun x3 dx3 nx3 ndx3 _ => plan_yes nx3 ndx3 vm val_non val_B M.d3 fun H4 s4 P3 => ⟨rfl, ?_⟩⟩
    have P1 := (P1.same s3).same s4
    have P2 := P2.same s4
    refine ⟨by show 3 ≤ sizeLine; decide, fun L nL => ?_⟩
    have s5 : Same H4 (upd H4 L (.lst [.ref x1, .ref x2, .ref x3])) := same_upd (Same.refl H4) nL
    have w5 : (upd H4 L (.lst [.ref x1, .ref x2, .ref x3])) L = some (.lst [.ref x1, .ref x2, .ref x3]) := upd_same
    have P1 := P1.same s5
    have P2 := P2.same s5
    have P3 := P3.same s5
    have s05 := s1.trans (s2.trans (s3.trans (s4.trans s5)))
    have vt5 := s5 _ _ (s4 _ _ (s3 _ _ (s2 _ _ vt)))
    generalize upd H4 L (.lst [.ref x1, .ref x2, .ref x3]) = H5 at s05 w5 P1 P2 P3 vt5 ⊢
    refine ⟨_, rfl, by show 3 ≤ sizeLine; decide, fun t1 n1 => ?_⟩
    have s6 : Same H5 (upd H5 t1 (.tup [.str m, .non, .non])) := same_upd (Same.refl H5) n1
    have w6 : (upd H5 t1 (.tup [.str m, .non, .non])) t1 = some (.tup [.str m, .non, .non]) := upd_same
    generalize upd H5 t1 (.tup [.str m, .non, .non]) = H6 at s6 w6 ⊢
    refine ⟨_, rfl, by show 3 ≤ sizeLine; decide, fun t2 n2 => ?_⟩
    have s7 : Same H6 (upd H6 t2 (.tup [.str m, .str "a_1", .non])) := same_upd (Same.refl H6) n2
    have w7 : (upd H6 t2 (.tup [.str m, .str "a_1", .non])) t2 = some (.tup [.str m, .str "a_1", .non]) := upd_same
    generalize upd H6 t2 (.tup [.str m, .str "a_1", .non]) = H7 at s7 w7 ⊢
    refine ⟨_, rfl, by show 3 ≤ sizeLine; decide, fun t3 n3 => ?_⟩
    have s8 : Same H7 (upd H7 t3 (.tup [.str m, .non, .str "B"])) := same_upd (Same.refl H7) n3
    have w8 : (upd H7 t3 (.tup [.str m, .non, .str "B"])) t3 = some (.tup [.str m, .non, .str "B"]) := upd_same
    generalize upd H7 t3 (.tup [.str m, .non, .str "B"]) = H8 at s8 w8 ⊢
    refine ⟨by show 3 ≤ sizeLine; decide, fun D nD => ?_⟩
    have s9 : Same H8 (upd H8 D (.lst [.ref t1, .ref t2, .ref t3])) := same_upd (Same.refl H8) nD
    have w9 : TL (upd H8 D (.lst [.ref t1, .ref t2, .ref t3])) D (modeV m) := ⟨[t1, t2, t3], upd_same, .cons (s9 _ _ (s8 _ _ (s7 _ _ w6))) (.cons (s9 _ _ (s8 _ _ w7)) (.cons (s9 _ _ w8) .nil))⟩
    have s59 := s6.trans (s7.trans (s8.trans s9))
    generalize upd H8 D (.lst [.ref t1, .ref t2, .ref t3]) = H9 at s59 w9 ⊢
    have P1 := P1.same s59
    have P2 := P2.same s59
    have P3 := P3.same s59
    have w5 := s59 _ _ w5
    have vt9 := s59 _ _ vt5
    refine ⟨_, rfl, L, rfl, ⟨_, SqL.of w5⟩, fun B hB => lc_list (K := K) (a := L) (xs := [V.ref x1, V.ref x2, V.ref x3]) (fun i H' => Same H9 H' ∧ TL H' B ((modeV m).take i))
      ⟨same_upd (Same.refl H9) hB, [], upd_same, .nil⟩ (fun i H' _ ⟨s', _⟩ => SqL.of (s' _ _ w5)) ?_ ?_⟩
    · rintro j x HA hx ⟨sA, tl⟩
      obtain ⟨y, o, sv, u, rfl, PA, ey⟩ := modes_read TP (P1.same sA) (P2.same sA) (P3.same sA) hx
      obtain ⟨dy, hy⟩ := PA
      refine ⟨rfl, ?_⟩
      dsimp only [tYes]
      rw [if_pos rfl]
      refine ⟨_, rfl, y, CP, dy, _, _, rfl, hy, TP.C.cl, TP.n1, plan_look.1, ?_⟩
      refine ⟨_, rfl, y, CP, dy, _, _, rfl, hy, TP.C.cl, TP.n2, plan_look.2.1, ?_⟩
      refine ⟨_, rfl, y, CP, dy, _, _, rfl, hy, TP.C.cl, TP.n3, plan_look.2.2, ?_⟩
      refine ⟨by show 3 ≤ sizeLine; decide, fun t nt => ?_⟩
      obtain ⟨acc, e1, e2, e3⟩ := tl.grow (vs := [o, sv, u]) nt
      refine ⟨acc, e1, ?_, ?_, ?_⟩
      · rw [e2, List.length_take]
        exact Nat.lt_of_le_of_lt (show min j (modeV m).length ≤ 3 from Nat.min_le_right ..) (by decide)
      · exact same_upd (same_upd sA (sA.free nt)) hB
      · rw [List.take_add_one, ey]
        exact e3
    · rintro HA ⟨sA, tl⟩
      have tl : TL HA B (modeV m) := tl
      refine ⟨_, rfl, _, _, tl.dp (by rfl), (w9.ext (ExtN.of sA)).dp (by rfl), M.sh, M.sh, _, rfl, ?_⟩
      rw [M.eq]
      refine iteF ?_
      exact ⟨_, _, _, rfl, s05.trans (s59.trans sA), sA _ _ vt9⟩
  · rintro σ H1 ⟨v3, v4, v5, rfl, s1, _⟩
    exact k H1 v3 v4 v5 s1
theorem pr8 (TP : TxtPl P w K mg base CP CI fP fdP) (hr : Room 12 (A.deeper (PyProof.Rows.envOfC "_law_plans_right" (defScope sPlansRight) s.heap.objs.size f (.ref c)))) :
    ∃ t : TS, PS (cxOf CX0 P w K mg base NPR "_law_plans_right" (defScope sPlansRight) f (.ref c) A outer s H0 E).nox (stPR 8) t ∧ ∀ (Z : Ends) (H : Hp) (σ : L2.St), (∀ H', Same H H' → Z.rt (.bl true) H') → t Z σ H := by
  have hr4 : Room 4 _ := hr.mono (by decide)
  obtain ⟨ds, rP, bP⟩ := pb_none TP.F
  obtain ⟨i1, m1, b1⟩ := pb_su1 TP.F
  refine ⟨_, ps_ret (pe_and (pe_cmpR op_eq (pe_fld (pe_make0 (E := E0) TP.M TP.G hr4 rfl TP.g bP rP passL) rfl) pe_str (nomark _))
    (pe_and (pe_cmpR op_isN (pe_fld (pe_make0 (E := E0) TP.M TP.G hr4 rfl TP.g bP rP passL) rfl) pe_non (nomark _))
    (pe_one (pe_cmpR op_isN (pe_fld (pe_makeK0 (E := E0) TP.M TP.G hr4 rfl TP.g b1 passL (pk_cons pe_non (pk_cons pe_non pk_nil))) rfl) pe_non (nomark _))))), ?_⟩
  intro Z H σ k
  refine fun x1 dx1 nx1 ndx1 _ => plan_made0 nx1 ndx1 fun H1 s1 ⟨d1, h1⟩ => ⟨rfl, ?_⟩
  refine ⟨x1, CP, d1, _, _, rfl, h1, TP.C.cl, TP.n1, plan_look.1, rfl, _, rfl, ?_⟩
  rw [show decide (steps = V.str "steps") = true by decide +kernel]
  refine iteT ?_
  refine fun x2 dx2 nx2 ndx2 _ => plan_made0 nx2 ndx2 fun H2 s2 ⟨d2, h2⟩ => ⟨rfl, ?_⟩
  refine ⟨x2, CP, d2, _, _, rfl, h2, TP.C.cl, TP.n2, plan_look.2.1, rfl, _, rfl, ?_⟩
  rw [show decide (V.non = V.non) = true by decide]
  refine iteT ?_
  refine ⟨rfl, rfl, fun x3 dx3 nx3 ndx3 _ => plan_yes nx3 ndx3 val_steps val_non val_non due_steps fun H3 s3 ⟨d3, h3⟩ => ⟨rfl, ?_⟩⟩
  refine ⟨x3, CP, d3, _, _, rfl, h3, TP.C.cl, TP.n3, plan_look.2.2, rfl, ?_⟩
  exact k H3 (s1.trans (s2.trans s3))
def spPR (K : PySem.W.Frag) (T : List (Addr × Str)) : Sp := fun vs H Q _ => ∃ o sl : V, vs = [o, sl] ∧ Tabs T H ∧ ValB K H o ∧ wordV ORD o = false ∧ ValB K H sl ∧ (sl ≠ .non ∧ nameV sl = false) ∧ ∀ H', ExtN H H' → Tabs T H' → Q (.bl true) H'
end
section
variable {P : Program} {w : World} {K : PySem.W.Frag} {mg : Str → Option Value} {base : Heap}
theorem ok_plansRight {cx : Str → Addr} {CP CE fP fG fC f c Pt : Addr} {fd fdP fdG fdC : FuncData} {T : List (Addr × Str)} (F : FunC K "_law_plans_right" "_law_plans_right" sPlansRight f fd c) (TP : TxtPl P w K mg base CP (cx "InvalidPlan") fP fdP) (TG : TxtG P w K mg base cx CE fG fC fdG fdC)
    (TB : TabB base mg c Pt) (hmT : (Pt, qPR) ∈ T) (hu : ∀ p ∈ T, p.1 = Pt → p.2 = qPR) : FnOk P w K mg base CX0 13 f fd ["_law_odd", "_law_slot"] (spPR K T) := by
  refine F.ok scPR (fun vs H Q E h => ?_) (fun A outer s H vs Q E hr h => ?_)
  · obtain ⟨o, sl, rfl, _⟩ := h
    rfl
  · obtain ⟨o, sl, rfl, tb, ho, hw, hs, hn, k⟩ := h
    obtain ⟨t0, p0, r0⟩ := pr0 (f := f) (A := A) (outer := outer) (s := s) (H0 := H) (E := E) TP TG TB hmT hu hr
    obtain ⟨t1, p1, r1⟩ := pr1 (f := f) (A := A) (outer := outer) (s := s) (H0 := H) (E := E) TP TG TB hmT hu hr
    obtain ⟨t2, p2, r2⟩ := pr2 (f := f) (A := A) (outer := outer) (s := s) (H0 := H) (E := E) TP TG TB hmT hu hr
    obtain ⟨t3, p3, r3⟩ := pr3 (f := f) (A := A) (outer := outer) (s := s) (H0 := H) (E := E) TP TG TB hmT hu hr
    obtain ⟨t4, p4, r4⟩ := pr4 (f := f) (A := A) (outer := outer) (s := s) (H0 := H) (E := E) TP TG TB hmT hu hr
    obtain ⟨t5, p5, r5⟩ := pr5 (P := P) (w := w) (K := K) (mg := mg) (base := base) (f := f) (c := c) (A := A) (outer := outer) (s := s) (H0 := H) (E := E)
    obtain ⟨t6, p6, r6⟩ := pr6 (P := P) (w := w) (K := K) (mg := mg) (base := base) (f := f) (c := c) (A := A) (outer := outer) (s := s) (H0 := H) (E := E) hr
    obtain ⟨t7, p7, r7⟩ := pr7 (f := f) (c := c) (A := A) (outer := outer) (s := s) (H0 := H) (E := E) TP hr
    obtain ⟨t8, p8, r8⟩ := pr8 (f := f) (c := c) (A := A) (outer := outer) (s := s) (H0 := H) (E := E) TP hr
    refine ⟨_, pss_cons p0 (pss_cons p1 (pss_cons p2 (pss_cons p3 (pss_cons p4 (pss_cons p5 (pss_cons p6 (pss_cons p7 (pss_one p8)))))))), ?_⟩
    refine r0 _ H o sl tb ho hw fun Hb H1 L eb nb e1 tb1 tl1 => ?_
    refine r1 _ Hb H1 L o sl nb e1 tb1 tl1 (ho.ext (eb.trans e1)) hw (hs.ext (eb.trans e1)) hn fun H2 e2 tb2 tl2 => ?_
    refine r2 _ Hb H2 L o sl nb e2 tb2 tl2 (ho.ext (eb.trans e2)) hw (hs.ext (eb.trans e2)) hn fun H3 e3 tb3 tl3 => ?_
    refine r3 _ Hb H3 L o sl nb e3 tb3 tl3 (ho.ext (eb.trans e3)) hw (hs.ext (eb.trans e3)) hn fun H4 e4 tb4 tl4 => ?_
    refine r4 _ Hb H4 L o sl nb e4 tb4 tl4 (ho.ext (eb.trans e4)) hw (hs.ext (eb.trans e4)) hn fun H5 e5 tb5 tl5 => ?_
    refine r5 _ H5 _ _ _ fun H6 D s6 hD => ?_
    refine r6 _ H6 L D _ _ (tl5.ext (ExtN.of s6)) hD fun H7 s7 => ?_
    refine r7 _ H7 _ _ _ _ fun H8 v3 v4 v5 s8 => ?_
    refine r8 _ H8 _ fun H9 s9 => ?_
    have s59 := s6.trans (s7.trans (s8.trans s9))
    exact k H9 ((eb.trans e5).trans (ExtN.of s59)) (tb5.ext s59)
end
end K2

namespace K2
open PySem L2 E0
open LamX (ExtN Tabs TabS TabB LamS lamS_by)
/-! ### the base's names -/
section
variable {K : PySem.W.Frag} {CF CSc CP CFl CW : Addr} {H : Hp} {x : Addr} {xs : List V} {rs : List Addr}
theorem its_sorts : sortsOf ITS = [("s" : Str)] := by decide +kernel
theorem names_row (S : SchAt K CF CSc H x xs ITS rs) {i : Nat} {r : Str × List (Str × Str)} (er : ROWS[i]? = some r) : NamesF CF ITS xs rs H (.str r.1) r.2 := by
  obtain ⟨dx, fs, a, b, d, p, ts, h1, h2, h3, h4, h5, h6, h7, h8, h9, h10, h11, h12⟩ := S.ex
  obtain ⟨_, nd⟩ := sch_vals S
  have il := (List.getElem?_eq_some_iff.mp er).1
  have eit : ITS[i]? = some (Itm.form r.1 "s" r.2) := by
    unfold ITS
    rw [List.getElem?_map, er]
    rfl
  have xl : xs.length = ROWS.length := by rw [h10.length]; unfold ITS; rw [List.length_map]
  have ex : xs[i]? = some xs[i] := List.getElem?_eq_getElem (by omega)
  obtain ⟨it, eit2, hit⟩ := LiI.paired_get h10 ex
  rw [eit] at eit2
  cases eit2
  obtain ⟨y, ey, FA⟩ := hit
  have en : (namesOf ITS)[i]? = some r.1 := by
    unfold namesOf
    rw [List.getElem?_append_left (by unfold ITS; rw [List.length_map, List.length_map]; exact il), List.getElem?_map, eit]
    rfl
  have ev : (xs ++ rs.map V.ref)[i]? = some (.ref y) := by rw [List.getElem?_append_left (by omega), ex, ey]
  have rok := row_parts (List.all_eq_true.mp rows_ok r (List.mem_of_getElem? er))
  exact ⟨r.1, y, _, _, rfl, decide_eq_true (List.mem_of_getElem? en), tab_at nd en ev, FA, rok.2.2⟩
theorem names_raw (S : SchAt K CF CSc H x xs ITS rs) : NamesF CF ITS xs rs H (.str "raw_s") [("text", "text")] := by
  obtain ⟨dx, fs, a, b, d, p, ts, h1, h2, h3, h4, h5, h6, h7, h8, h9, h10, h11, h12⟩ := S.ex
  obtain ⟨_, nd⟩ := sch_vals S
  have xl : xs.length = 12 := by rw [h10.length]; rfl
  rw [its_sorts] at h11
  cases h11 with
  | @cons r z rs' zs' hr t =>
    cases t
    have en : (namesOf ITS)[12]? = some ("raw_s" : Str) := by decide +kernel
    have ev : (xs ++ ([r] : List Addr).map V.ref)[12]? = some (.ref r) := by rw [List.getElem?_append_right (by omega), xl]; rfl
    exact ⟨"raw_s", r, _, _, rfl, decide_eq_true (List.mem_of_getElem? en), tab_at nd en ev, hr, by decide⟩
theorem flow_bad {sch d : Addr} {dx : Addr} {ents : Array DictEntry} {ep j : Nat} {ps : List (V × V)} {its : List Itm} {y p : V} {k : Str} {R : VK} {E : XK} {f : Addr} (nf : H f = none) (ndx : H dx = none) (S : SchAt K CF CSc H sch xs its rs) (hd : H d = some (KdO d ents ep)) (vv : VV ps (entsOf ents)) (ej : ps[j]? = some (y, p))
    (hok : ∀ (i : Nat) (y p : V), i < j → ps[i]? = some (y, p) → EntOk K CF CP its xs rs H y p) (hb : EntBad K CF CP its xs rs H y p k) (kb : FlowBad CW H E k y) :
    spFlowInit K CF CSc CP CFl CW [.ref f, .ref sch, .ref d] (upd (upd H dx (.own f)) f (.ins CFl dx [])) R E := by
  have e1 : Same H (upd (upd H dx (.own f)) f (.ins CFl dx [])) := same_upd (same_upd (Same.refl H) ndx) nf
  exact ⟨f, dx, sch, d, xs, its, rs, rfl, upd_same, S.same e1, .inl ⟨ents, ep, ps, j, y, p, k, e1 _ _ hd, vv, ej, fun i y p lt e => (hok i y p lt e).same e1, hb.same e1, fun H' dd s' nd h => kb H' dd (e1.trans s') (e1.free nd) h⟩⟩
theorem flow_good {sch d : Addr} {dx : Addr} {its : List Itm} {kvs : List (Key × V)} {R : VK} {E : XK} {f : Addr} (nf : H f = none) (ndx : H dx = none) (S : SchAt K CF CSc H sch xs its rs) (hd : H d = some (.dK kvs)) (ne : tabKV (namesOf its) (xs ++ rs.map V.ref) ≠ kvs) (hok : ∀ kv ∈ kvs, EntOk K CF CP its xs rs H (kV kv.1) kv.2) (il : its.length ≤ 100)
    (k : ∀ H' vals, Same H H' → FlowAt CFl CP kvs H' f sch (namesOf its) vals → R .non H') :
    spFlowInit K CF CSc CP CFl CW [.ref f, .ref sch, .ref d] (upd (upd H dx (.own f)) f (.ins CFl dx [])) R E := by
  have e1 : Same H (upd (upd H dx (.own f)) f (.ins CFl dx [])) := same_upd (same_upd (Same.refl H) ndx) nf
  refine ⟨f, dx, sch, d, xs, its, rs, rfl, upd_same, S.same e1, .inr ⟨kvs, e1 _ _ hd, ne, fun kv hkv => (hok kv hkv).same e1, fun kv hkv => ?_, il, fun H' vals s' F => k H' vals (fun b o e => s' b o (ne_of_none e nf) (e1 _ _ e)) F⟩⟩
  obtain ⟨_, ps, sv, u, _, ⟨pa, o, e, ⟨dp, hp⟩, _⟩, _⟩ := hok kv hkv
  exact ⟨pa, e, ne_of_none hp nf⟩
end
theorem vals_rev {vs : List V} {us : List Value} (r : Vals vs us) : Vals vs.reverse us.reverse := by
  induction r with
  | nil => exact .nil
  | @cons v u vs us a t ih =>
    rw [List.reverse_cons, List.reverse_cons]
    exact ih.append (.cons a .nil)
/-- the binding of Flow(plans=.., schema=..) -/
theorem fl_kb {K : PySem.W.Frag} {f : Addr} {fd : FuncData} (F : Fun K "__init__" "Flow.__init__" sFlowInit f fd) : KBn K fd ["self", "schema", "plans"] 1 ["plans", "schema"] (fun us ws => us ++ ws.reverse) (fun vs zs => vs ++ zs.reverse) := by
  obtain ⟨oc, od, kV, doc, pm, an, cdv, ct, osl, rfl, lk, hcd⟩ := F.ex
  refine ⟨fun s us ws X l1 l2 => BindsTo.of_eq ?_, fun r1 r2 => r1.append (vals_rev r2)⟩
  match us, ws, l1, l2 with
  | [_], [_, _], _, _ => rfl
/-- the key of a dict that names no form -/
structure WordOk (K : PySem.W.Frag) (H : Hp) (v : V) : Prop where
  b : ValB K H v
  n : hasV ITS v = false
  k : KeyVOk H v
theorem KeyVOk.ext {H H' : Hp} {v : V} (k : KeyVOk H v) (s : ExtN H H') : KeyVOk H' v := by
  cases k with
  | str z => exact .str z
  | int i => exact .int i
  | bl b => exact .bl b
  | tup e => exact .tup (s _ _ e nofun)
theorem WordOk.ext {K : PySem.W.Frag} {H H' : Hp} {v : V} (h : WordOk K H v) (e : ExtN H H') : WordOk K H' v := ⟨h.b.ext e, h.n, h.k.ext e⟩
theorem ap_word {v : V} {z : Str} (h : hasV ITS v = false) (hz : hasV ITS (.str z) = true) : ApV (.str z) v ∧ ApV v (.str z) := by
  by_cases q : ∃ y, v = .str y
  · obtain ⟨y, rfl⟩ := q
    have ne : z ≠ y := fun e => by rw [e, h] at hz; cases hz
    exact ⟨.inl ⟨z, y, rfl, rfl, ne⟩, .inl ⟨y, z, rfl, rfl, Ne.symm ne⟩⟩
  · have n : ∀ y, v ≠ .str y := fun y e => q ⟨y, e⟩
    exact ⟨.inr (.inl ⟨⟨z, rfl⟩, n⟩), .inr (.inr ⟨⟨z, rfl⟩, n⟩)⟩
theorem ap_strs {y z : Str} (h : y ≠ z) : ApV (.str y) (.str z) := .inl ⟨y, z, rfl, rfl, h⟩
/-- a value that is no plan -/
def NoPlan (K : PySem.W.Frag) (CP : Addr) (H : Hp) (v : V) : Prop := (∀ a, v = .ref a → ∃ o, H a = some o ∧ ∀ ps, o ≠ .tbl ps) ∧ ∃ t, TyX K H v t ∧ PySem.W.kitOne K t (.ref CP) = some false
theorem NoPlan.ext {K : PySem.W.Frag} {CP : Addr} {H H' : Hp} {v : V} (h : NoPlan K CP H v) (e : ExtN H H') : NoPlan K CP H' v :=
  ⟨fun a q => let ⟨o, w, n⟩ := h.1 a q; ⟨o, e _ _ w n, n⟩, let ⟨t, ht, hk⟩ := h.2; ⟨t, TyX.keep ht fun a o q w => by
    obtain ⟨o', w', n⟩ := h.1 a q
    rw [w] at w'
    cases w'
    exact e _ _ w n, hk⟩⟩
end K2

namespace K2
open PySem L2 E0
open LamX (ExtN Tabs TabS TabB LamS lamS_by)
/-! ### _law_entries_right: what is refused -/
def NER : List Str := ["_law_base_here", "_law_word", "_law_odd", "_law_told", "_law_due"]
theorem scER : FnScope NER ["_law_base_here", "_law_word", "_law_odd"] (defScope sEntriesRight) := ⟨rfl, rfl, rfl, by decide +kernel, rfl, by decide +kernel, by decide +kernel⟩
def stER (i : Nat) : Stmt := (defBody sEntriesRight).getD i (.Pass ⟨0, 0, 0, 0⟩)
abbrev qER : Str := "_law_entries_right.<locals>.<lambda>"
theorem _root_.K2.ValB.resolve_str {K : PySem.W.Frag} {H : Hp} {v : V} (h : ValB K H v) (a : Addr) (e : v = .ref a) : ∃ o, H a = some o ∧ ∀ ps, o ≠ .tbl ps := by
  rcases h with ⟨z, rfl, _⟩ | h
  · cases e
  · exact h.2.1 a e
structure TxtER (P : Program) (w : World) (K : PySem.W.Frag) (mg : Str → Option Value) (base : Heap) (cx : Str → Addr) (CU CF CSc CP CFl CE fP fG fC fEq fHas fGet fFl : Addr) (fdP fdG fdC fdFl : FuncData) : Prop where
  TP : TxtPl P w K mg base CP (cx "InvalidPlan") fP fdP
  TG : TxtG P w K mg base cx CE fG fC fdG fdC
  SK : SchK P w K mg base CU CF CSc fEq fHas fGet
  MF : Mk K CFl fFl
  FF : Fun K "__init__" "Flow.__init__" sFlowInit fFl fdFl
  GF : FnOk P w K mg base (L2.CX P w) 6 fFl fdFl ["self", "schema", "plans"] (spFlowInit K CF CSc CP CFl (cx "InvalidFlow"))
  bF : Binds K fdFl ["self", "schema", "plans"] []
  gF : mg "Flow" = some (.ref CFl)
section
variable {P : Program} {w : World} {K : PySem.W.Frag} {mg : Str → Option Value} {base : Heap} {cx : Str → Addr} {CU CF CSc CP CFl CE fP fG fC fEq fHas fGet fFl f c Pt : Addr} {fdP fdG fdC fdFl : FuncData} {T : List (Addr × Str)} {A : Around} {outer : List Env} {s : Shared} {H0 : Hp} {E : XK}
theorem er0 (X : TxtER P w K mg base cx CU CF CSc CP CFl CE fP fG fC fEq fHas fGet fFl fdP fdG fdC fdFl) (TB : TabB base mg c Pt) (hmT : (Pt, qER) ∈ T) (hu : ∀ p ∈ T, p.1 = Pt → p.2 = qER) (hr : Room 14 (A.deeper (PyProof.Rows.envOfC "_law_entries_right" (defScope sEntriesRight) s.heap.objs.size f (.ref c)))) :
    ∃ t : TS, PS (cxOf CX0 P w K mg base NER "_law_entries_right" (defScope sEntriesRight) f (.ref c) A outer s H0 E).nox (stER 0) t ∧ ∀ (Z : Ends) (H : Hp) (sch : Addr) (xs : List V) (rs : List Addr) (word odd : V), Tabs T H → SchAt K CF CSc H sch xs ITS rs → WordOk K H word → NoPlan K CP H odd →
      (∀ Hb H' L, ExtN H Hb → Hb L = none → ExtN Hb H' → Tabs T H' → TL H' L [[.str "InvalidFlow", .str "form", word]] → Z.nx [some (.ref sch), some word, some odd, some (.ref L), none] H') → t Z [some (.ref sch), some word, some odd, none, none] H := by
  have TP := X.TP
  obtain ⟨_, rN, bN⟩ := pb_none TP.F
  obtain ⟨_, _, bS⟩ := pb_s1 TP.F
  obtain ⟨_, _, bU⟩ := pb_u1 TP.F
  refine ⟨_, ps_set (i := 3) scER.nd rfl (.inl rfl) (pe_lst (pa_cons (pe_got (t := fun E => tMake CFl (spFlowInit K CF CSc CP CFl (cx "InvalidFlow")) [] E (tCons (tVar 0) (tCons (tDispX [((tC (.str "Set")), (tMakeK CP 0 (["sets"] : List Str).length (spPlanInit K CP (cx "InvalidPlan")) (fun vs zs => vs ++ [V.str "steps"] ++ zs ++ [V.non]) E0 tNil (tCons (tC (.str "who")) tNil))), ((tVar 1), (tMake CP (spPlanInit K CP (cx "InvalidPlan")) [.str "steps", .non, .non] E0 tNil)), ((tC (.str "Use")), (tC (.int 5)))]) tNil))) (k := 12) X.TG rfl TB rfl hmT hu (hr.mono (by decide)) hr (lamS_by (sc := defScope sEntriesRight) (by decide +kernel)) rfl (fun _ _ _ _ _ => rfl)
      (fun _ _ _ _ E _ _ hr' => pe_make (E := E) X.MF X.GF (hr'.mono (by decide)) rfl X.gF X.bF .nil (passes_call (takes_of rfl rfl rfl rfl) (fun _ _ _ _ q => q)) (pa_cons (L2.pv 0) (pa_cons (pe_dispX hr'.units0 (pps_cons pe_str (pe_makeK0 (E := E0) TP.M TP.G (hr'.mono (by decide)) rfl TP.g bS passL (pk_cons pe_str pk_nil)) (pps_cons (L2.pv 1) (pe_make0 (E := E0) TP.M TP.G (hr'.mono (by decide)) rfl TP.g bN rN passL) (pps_cons pe_str pe_int pps_nil))) rfl rfl (by intro q; cases q) (by decide)) pa_nil)))) pa_nil)), ?_⟩
  intro Z H sch xs rs word odd tb S hw ho k
  refine got_flow (k := "form") (y := word) tb (fun H1 E' Q' e1 b => ?_) fun H' p e' t' hp => ?_
  · have S1 := S.ext e1
    have hw1 := hw.ext e1
    have ho1 := ho.ext e1
    refine ⟨.ref sch, rfl, fun pd npd => ?_⟩
    have s_0 : Same H1 (upd H1 pd (.dK [])) := same_upd (Same.refl H1) npd
    have v_0 : (upd H1 pd (.dK [])) pd = some (.dK []) := upd_same
    generalize upd H1 pd (.dK []) = G0 at s_0 v_0 ⊢
    refine ⟨rfl, rfl, fun x0 dx0 nx0 nd0 _ => plan_yes nx0 nd0 val_steps (val_str (z := "who") (by decide +kernel) (by decide +kernel)) val_non (by decide +kernel) fun G1 s_1 P0 => ⟨rfl, ?_⟩⟩
    have s_0 := s_0.trans s_1
    have v_0 := s_1 _ _ v_0
    refine ⟨word, rfl, fun x1 dx1 nx1 nd1 _ => plan_made0 nx1 nd1 fun G2 s_2 P1 => ⟨rfl, ?_⟩⟩
    have P0 := P0.same s_2
    have s_0 := s_0.trans s_2
    have v_0 := s_2 _ _ v_0
    have hwp : ∀ {a : Addr}, word = .ref a → a ≠ pd := fun {a} q => (by
      obtain ⟨_, ww, _⟩ := hw1.b.resolve_str a q
      exact ne_of_none ww npd)
    refine ⟨v_0, (by show 3 ≤ 15; decide), (List.forall_mem_cons.mpr ⟨⟨.str _, nofun⟩, (List.forall_mem_cons.mpr ⟨⟨hw1.k.same s_0, fun q => hwp q rfl⟩, (List.forall_mem_cons.mpr ⟨⟨.str _, nofun⟩, (List.forall_mem_nil _)⟩)⟩)⟩), (.cons (List.forall_mem_cons.mpr ⟨(ap_word (z := "Set") hw1.n (by decide +kernel)).1, (List.forall_mem_cons.mpr ⟨ap_strs (by decide +kernel), (List.forall_mem_nil _)⟩)⟩) (.cons (List.forall_mem_cons.mpr ⟨(ap_word (z := "Use") hw1.n (by decide +kernel)).2, (List.forall_mem_nil _)⟩) (.cons (List.forall_mem_nil _) .nil))), fun es ep vv => ?_⟩
    have sK : Same H1 (upd G2 pd (KdO pd es ep)) := same_upd s_0 npd
    have hK : (upd G2 pd (KdO pd es ep)) pd = some (KdO pd es ep) := upd_same
    have P0 : PlanAt CP (upd G2 pd (KdO pd es ep)) x0 _ _ _ := P0.but (kvs0 := []) (ButD.of v_0 fun b o q z => by rw [upd_ne q]; exact z)
    have P1 : PlanAt CP (upd G2 pd (KdO pd es ep)) x1 _ _ _ := P1.but (kvs0 := []) (ButD.of v_0 fun b o q z => by rw [upd_ne q]; exact z)
    generalize upd G2 pd (KdO pd es ep) = HK at sK hK P0 P1 ⊢
    have SK := S1.same sK
    exact fun nf_ dx nf ndx _ => flow_bad (ps := [((.str "Set"), V.ref x0), (word, V.ref x1), ((.str "Use"), (.int 5))]) (j := 1) nf ndx SK hK vv rfl (fun i y p lt q => by
      obtain rfl : i = 0 := by omega
      cases q
      exact ⟨valB_str (z := "Set") (by decide +kernel) (by decide +kernel), _, (.str "who"), .non, names_row SK (i := 6) rfl, ⟨x0, _, rfl, P0, rfl, rfl⟩, by decide +kernel⟩) ⟨(hw1.b.same sK), .inl ⟨hw1.n, rfl⟩⟩ fun H'' dd s'' nd hx => b H'' dd (sK.trans s'') (sK.free nd) hx
  · refine ⟨by show 1 ≤ sizeLine; decide, fun L nL => ?_⟩
    have sL : Same H' (upd H' L (.lst [.ref p])) := same_upd (Same.refl H') nL
    exact k H' _ L e' nL (ExtN.of sL) (t'.ext sL) (TL.one hp nL)
theorem er1 (X : TxtER P w K mg base cx CU CF CSc CP CFl CE fP fG fC fEq fHas fGet fFl fdP fdG fdC fdFl) (TB : TabB base mg c Pt) (hmT : (Pt, qER) ∈ T) (hu : ∀ p ∈ T, p.1 = Pt → p.2 = qER) (hr : Room 14 (A.deeper (PyProof.Rows.envOfC "_law_entries_right" (defScope sEntriesRight) s.heap.objs.size f (.ref c)))) :
    ∃ t : TS, PS (cxOf CX0 P w K mg base NER "_law_entries_right" (defScope sEntriesRight) f (.ref c) A outer s H0 E).nox (stER 1) t ∧ ∀ (Z : Ends) (Hb H : Hp) (L sch : Addr) (xs : List V) (rs : List Addr) (word odd : V), Hb L = none → ExtN Hb H → Tabs T H → TL H L [[.str "InvalidFlow", .str "form", word]] → SchAt K CF CSc H sch xs ITS rs → WordOk K H word → NoPlan K CP H odd →
      (∀ H', ExtN Hb H' → Tabs T H' → TL H' L [[.str "InvalidFlow", .str "form", word], [.str "InvalidFlow", .str "plan", (.str "Use")]] → Z.nx [some (.ref sch), some word, some odd, some (.ref L), none] H') → t Z [some (.ref sch), some word, some odd, some (.ref L), none] H := by
  have TP := X.TP
  obtain ⟨_, rN, bN⟩ := pb_none TP.F
  obtain ⟨_, _, bS⟩ := pb_s1 TP.F
  obtain ⟨_, _, bU⟩ := pb_u1 TP.F
  refine ⟨_, ps_expr (pe_bm PySem.F.plainAttrs_list PySem.F.slot_list_append PySem.F.type_list_append mt_append (L2.pv 3) (pa_cons (pe_got (t := fun E => tMake CFl (spFlowInit K CF CSc CP CFl (cx "InvalidFlow")) [] E (tCons (tVar 0) (tCons (tDispX [((tC (.str "Use")), (tVar 2)), ((tVar 1), (tMake CP (spPlanInit K CP (cx "InvalidPlan")) [.str "steps", .non, .non] E0 tNil))]) tNil))) (k := 12) X.TG rfl TB rfl hmT hu (hr.mono (by decide)) hr (lamS_by (sc := defScope sEntriesRight) (by decide +kernel)) rfl (fun _ _ _ _ _ => rfl)
      (fun _ _ _ _ E _ _ hr' => pe_make (E := E) X.MF X.GF (hr'.mono (by decide)) rfl X.gF X.bF .nil (passes_call (takes_of rfl rfl rfl rfl) (fun _ _ _ _ q => q)) (pa_cons (L2.pv 0) (pa_cons (pe_dispX hr'.units0 (pps_cons pe_str (L2.pv 2) (pps_cons (L2.pv 1) (pe_make0 (E := E0) TP.M TP.G (hr'.mono (by decide)) rfl TP.g bN rN passL) pps_nil)) rfl rfl (by intro q; cases q) (by decide)) pa_nil)))) pa_nil)), ?_⟩
  intro Z Hb H L sch xs rs word odd h0 e tb tl S hw ho k
  obtain ⟨xsL, hL⟩ := tl.lst
  refine ⟨_, rfl, .inl ⟨rfl, _, SqL.of hL⟩, got_flow (k := "plan") (y := (.str "Use")) tb (fun H1 E' Q' e1 b => ?_) fun H' p e' t' hp => ?_⟩
  · have S1 := S.ext e1
    have hw1 := hw.ext e1
    have ho1 := ho.ext e1
    refine ⟨.ref sch, rfl, fun pd npd => ?_⟩
    have s_0 : Same H1 (upd H1 pd (.dK [])) := same_upd (Same.refl H1) npd
    have v_0 : (upd H1 pd (.dK [])) pd = some (.dK []) := upd_same
    generalize upd H1 pd (.dK []) = G0 at s_0 v_0 ⊢
    refine ⟨odd, rfl, ?_⟩
    refine ⟨word, rfl, fun x1 dx1 nx1 nd1 _ => plan_made0 nx1 nd1 fun G1 s_1 P1 => ⟨rfl, ?_⟩⟩
    have s_0 := s_0.trans s_1
    have v_0 := s_1 _ _ v_0
    have hwp : ∀ {a : Addr}, word = .ref a → a ≠ pd := fun {a} q => (by
      obtain ⟨_, ww, _⟩ := hw1.b.resolve_str a q
      exact ne_of_none ww npd)
    refine ⟨v_0, (by show 2 ≤ 15; decide), (List.forall_mem_cons.mpr ⟨⟨.str _, nofun⟩, (List.forall_mem_cons.mpr ⟨⟨hw1.k.same s_0, fun q => hwp q rfl⟩, (List.forall_mem_nil _)⟩)⟩), (.cons (List.forall_mem_cons.mpr ⟨(ap_word (z := "Use") hw1.n (by decide +kernel)).1, (List.forall_mem_nil _)⟩) (.cons (List.forall_mem_nil _) .nil)), fun es ep vv => ?_⟩
    have sK : Same H1 (upd G1 pd (KdO pd es ep)) := same_upd s_0 npd
    have hK : (upd G1 pd (KdO pd es ep)) pd = some (KdO pd es ep) := upd_same
    have P1 : PlanAt CP (upd G1 pd (KdO pd es ep)) x1 _ _ _ := P1.but (kvs0 := []) (ButD.of v_0 fun b o q z => by rw [upd_ne q]; exact z)
    generalize upd G1 pd (KdO pd es ep) = HK at sK hK P1 ⊢
    have SK := S1.same sK
    exact fun nf_ dx nf ndx _ => flow_bad (ps := [((.str "Use"), odd), (word, V.ref x1)]) (j := 0) nf ndx SK hK vv rfl (fun i y p lt _ => absurd lt (Nat.not_lt_zero _)) ⟨valB_str (z := "Use") (by decide +kernel) (by decide +kernel), .inr ⟨_, names_row SK (i := 7) rfl, .inl ⟨rfl, fun a q => (let ⟨o, w, _⟩ := (ho1.ext (ExtN.of sK)).1 a q; ⟨o, w⟩), (ho1.ext (ExtN.of sK)).2⟩⟩⟩ fun H'' dd s'' nd hx => b H'' dd (sK.trans s'') (sK.free nd) hx
  · dsimp only [tNil]
    refine told_app h0 (e.trans e') t' (tl.ext e') hp (by show 1 ≤ 1000; decide) fun H'' e'' t'' tl'' => ?_
    exact k H'' e'' t'' tl''
theorem er2 (X : TxtER P w K mg base cx CU CF CSc CP CFl CE fP fG fC fEq fHas fGet fFl fdP fdG fdC fdFl) (TB : TabB base mg c Pt) (hmT : (Pt, qER) ∈ T) (hu : ∀ p ∈ T, p.1 = Pt → p.2 = qER) (hr : Room 14 (A.deeper (PyProof.Rows.envOfC "_law_entries_right" (defScope sEntriesRight) s.heap.objs.size f (.ref c)))) :
    ∃ t : TS, PS (cxOf CX0 P w K mg base NER "_law_entries_right" (defScope sEntriesRight) f (.ref c) A outer s H0 E).nox (stER 2) t ∧ ∀ (Z : Ends) (Hb H : Hp) (L sch : Addr) (xs : List V) (rs : List Addr) (word odd : V), Hb L = none → ExtN Hb H → Tabs T H → TL H L [[.str "InvalidFlow", .str "form", word], [.str "InvalidFlow", .str "plan", (.str "Use")]] → SchAt K CF CSc H sch xs ITS rs → WordOk K H word → NoPlan K CP H odd →
      (∀ H', ExtN Hb H' → Tabs T H' → TL H' L [[.str "InvalidFlow", .str "form", word], [.str "InvalidFlow", .str "plan", (.str "Use")], [.str "InvalidFlow", .str "slot", (.str "Set")]] → Z.nx [some (.ref sch), some word, some odd, some (.ref L), none] H') → t Z [some (.ref sch), some word, some odd, some (.ref L), none] H := by
  have TP := X.TP
  obtain ⟨_, rN, bN⟩ := pb_none TP.F
  obtain ⟨_, _, bS⟩ := pb_s1 TP.F
  obtain ⟨_, _, bU⟩ := pb_u1 TP.F
  refine ⟨_, ps_expr (pe_bm PySem.F.plainAttrs_list PySem.F.slot_list_append PySem.F.type_list_append mt_append (L2.pv 3) (pa_cons (pe_got (t := fun E => tMake CFl (spFlowInit K CF CSc CP CFl (cx "InvalidFlow")) [] E (tCons (tVar 0) (tCons (tDispX [((tC (.str "Set")), (tMakeK CP 0 (["sets"] : List Str).length (spPlanInit K CP (cx "InvalidPlan")) (fun vs zs => vs ++ [V.str "steps"] ++ zs ++ [V.non]) E0 tNil (tCons (tC (.str "what")) tNil))), ((tC (.str "Use")), (tC .non))]) tNil))) (k := 12) X.TG rfl TB rfl hmT hu (hr.mono (by decide)) hr (lamS_by (sc := defScope sEntriesRight) (by decide +kernel)) rfl (fun _ _ _ _ _ => rfl)
      (fun _ _ _ _ E _ _ hr' => pe_make (E := E) X.MF X.GF (hr'.mono (by decide)) rfl X.gF X.bF .nil (passes_call (takes_of rfl rfl rfl rfl) (fun _ _ _ _ q => q)) (pa_cons (L2.pv 0) (pa_cons (pe_dispX hr'.units0 (pps_cons pe_str (pe_makeK0 (E := E0) TP.M TP.G (hr'.mono (by decide)) rfl TP.g bS passL (pk_cons pe_str pk_nil)) (pps_cons pe_str pe_non pps_nil)) rfl rfl (by intro q; cases q) (by decide)) pa_nil)))) pa_nil)), ?_⟩
  intro Z Hb H L sch xs rs word odd h0 e tb tl S hw ho k
  obtain ⟨xsL, hL⟩ := tl.lst
  refine ⟨_, rfl, .inl ⟨rfl, _, SqL.of hL⟩, got_flow (k := "slot") (y := (.str "Set")) tb (fun H1 E' Q' e1 b => ?_) fun H' p e' t' hp => ?_⟩
  · have S1 := S.ext e1
    have hw1 := hw.ext e1
    have ho1 := ho.ext e1
    refine ⟨.ref sch, rfl, fun pd npd => ?_⟩
    have s_0 : Same H1 (upd H1 pd (.dK [])) := same_upd (Same.refl H1) npd
    have v_0 : (upd H1 pd (.dK [])) pd = some (.dK []) := upd_same
    generalize upd H1 pd (.dK []) = G0 at s_0 v_0 ⊢
    refine ⟨rfl, rfl, fun x0 dx0 nx0 nd0 _ => plan_yes nx0 nd0 val_steps (val_str (z := "what") (by decide +kernel) (by decide +kernel)) val_non (by decide +kernel) fun G1 s_1 P0 => ⟨rfl, ?_⟩⟩
    have s_0 := s_0.trans s_1
    have v_0 := s_1 _ _ v_0
    have hwp := True.intro
    refine ⟨v_0, (by show 2 ≤ 15; decide), (List.forall_mem_cons.mpr ⟨⟨.str _, nofun⟩, (List.forall_mem_cons.mpr ⟨⟨.str _, nofun⟩, (List.forall_mem_nil _)⟩)⟩), (.cons (List.forall_mem_cons.mpr ⟨ap_strs (by decide +kernel), (List.forall_mem_nil _)⟩) (.cons (List.forall_mem_nil _) .nil)), fun es ep vv => ?_⟩
    have sK : Same H1 (upd G1 pd (KdO pd es ep)) := same_upd s_0 npd
    have hK : (upd G1 pd (KdO pd es ep)) pd = some (KdO pd es ep) := upd_same
    have P0 : PlanAt CP (upd G1 pd (KdO pd es ep)) x0 _ _ _ := P0.but (kvs0 := []) (ButD.of v_0 fun b o q z => by rw [upd_ne q]; exact z)
    generalize upd G1 pd (KdO pd es ep) = HK at sK hK P0 ⊢
    have SK := S1.same sK
    exact fun nf_ dx nf ndx _ => flow_bad (ps := [((.str "Set"), V.ref x0), ((.str "Use"), .non)]) (j := 0) nf ndx SK hK vv rfl (fun i y p lt _ => absurd lt (Nat.not_lt_zero _)) ⟨valB_str (z := "Set") (by decide +kernel) (by decide +kernel), .inr ⟨_, names_row SK (i := 6) rfl, .inr ⟨rfl, (.str "what"), .non, ⟨x0, _, rfl, P0, rfl, rfl⟩, by decide +kernel⟩⟩⟩ fun H'' dd s'' nd hx => b H'' dd (sK.trans s'') (sK.free nd) hx
  · dsimp only [tNil]
    refine told_app h0 (e.trans e') t' (tl.ext e') hp (by show 2 ≤ 1000; decide) fun H'' e'' t'' tl'' => ?_
    exact k H'' e'' t'' tl''
theorem er3 (X : TxtER P w K mg base cx CU CF CSc CP CFl CE fP fG fC fEq fHas fGet fFl fdP fdG fdC fdFl) (TB : TabB base mg c Pt) (hmT : (Pt, qER) ∈ T) (hu : ∀ p ∈ T, p.1 = Pt → p.2 = qER) (hr : Room 14 (A.deeper (PyProof.Rows.envOfC "_law_entries_right" (defScope sEntriesRight) s.heap.objs.size f (.ref c)))) :
    ∃ t : TS, PS (cxOf CX0 P w K mg base NER "_law_entries_right" (defScope sEntriesRight) f (.ref c) A outer s H0 E).nox (stER 3) t ∧ ∀ (Z : Ends) (Hb H : Hp) (L sch : Addr) (xs : List V) (rs : List Addr) (word odd : V), Hb L = none → ExtN Hb H → Tabs T H → TL H L [[.str "InvalidFlow", .str "form", word], [.str "InvalidFlow", .str "plan", (.str "Use")], [.str "InvalidFlow", .str "slot", (.str "Set")]] → SchAt K CF CSc H sch xs ITS rs → WordOk K H word → NoPlan K CP H odd →
      (∀ H', ExtN Hb H' → Tabs T H' → TL H' L [[.str "InvalidFlow", .str "form", word], [.str "InvalidFlow", .str "plan", (.str "Use")], [.str "InvalidFlow", .str "slot", (.str "Set")], [.str "InvalidFlow", .str "slot", (.str "Full")]] → Z.nx [some (.ref sch), some word, some odd, some (.ref L), none] H') → t Z [some (.ref sch), some word, some odd, some (.ref L), none] H := by
  have TP := X.TP
  obtain ⟨_, rN, bN⟩ := pb_none TP.F
  obtain ⟨_, _, bS⟩ := pb_s1 TP.F
  obtain ⟨_, _, bU⟩ := pb_u1 TP.F
  refine ⟨_, ps_expr (pe_bm PySem.F.plainAttrs_list PySem.F.slot_list_append PySem.F.type_list_append mt_append (L2.pv 3) (pa_cons (pe_got (t := fun E => tMake CFl (spFlowInit K CF CSc CP CFl (cx "InvalidFlow")) [] E (tCons (tVar 0) (tCons (tDispX [((tC (.str "Full")), (tMakeK CP 0 (["uses"] : List Str).length (spPlanInit K CP (cx "InvalidPlan")) (fun vs zs => vs ++ [V.str "steps"] ++ [V.non] ++ zs) E0 tNil (tCons (tC (.str "items")) tNil)))]) tNil))) (k := 12) X.TG rfl TB rfl hmT hu (hr.mono (by decide)) hr (lamS_by (sc := defScope sEntriesRight) (by decide +kernel)) rfl (fun _ _ _ _ _ => rfl)
      (fun _ _ _ _ E _ _ hr' => pe_make (E := E) X.MF X.GF (hr'.mono (by decide)) rfl X.gF X.bF .nil (passes_call (takes_of rfl rfl rfl rfl) (fun _ _ _ _ q => q)) (pa_cons (L2.pv 0) (pa_cons (pe_dispX hr'.units0 (pps_cons pe_str (pe_makeK0 (E := E0) TP.M TP.G (hr'.mono (by decide)) rfl TP.g bU passL (pk_cons pe_str pk_nil)) pps_nil) rfl rfl (by intro q; cases q) (by decide)) pa_nil)))) pa_nil)), ?_⟩
  intro Z Hb H L sch xs rs word odd h0 e tb tl S hw ho k
  obtain ⟨xsL, hL⟩ := tl.lst
  refine ⟨_, rfl, .inl ⟨rfl, _, SqL.of hL⟩, got_flow (k := "slot") (y := (.str "Full")) tb (fun H1 E' Q' e1 b => ?_) fun H' p e' t' hp => ?_⟩
  · have S1 := S.ext e1
    have hw1 := hw.ext e1
    have ho1 := ho.ext e1
    refine ⟨.ref sch, rfl, fun pd npd => ?_⟩
    have s_0 : Same H1 (upd H1 pd (.dK [])) := same_upd (Same.refl H1) npd
    have v_0 : (upd H1 pd (.dK [])) pd = some (.dK []) := upd_same
    generalize upd H1 pd (.dK []) = G0 at s_0 v_0 ⊢
    refine ⟨rfl, rfl, fun x0 dx0 nx0 nd0 _ => plan_yes nx0 nd0 val_steps val_non (val_str (z := "items") (by decide +kernel) (by decide +kernel)) (by decide +kernel) fun G1 s_1 P0 => ⟨rfl, ?_⟩⟩
    have s_0 := s_0.trans s_1
    have v_0 := s_1 _ _ v_0
    have hwp := True.intro
    refine ⟨v_0, (by show 1 ≤ 15; decide), (List.forall_mem_cons.mpr ⟨⟨.str _, nofun⟩, (List.forall_mem_nil _)⟩), (.cons (List.forall_mem_nil _) .nil), fun es ep vv => ?_⟩
    have sK : Same H1 (upd G1 pd (KdO pd es ep)) := same_upd s_0 npd
    have hK : (upd G1 pd (KdO pd es ep)) pd = some (KdO pd es ep) := upd_same
    have P0 : PlanAt CP (upd G1 pd (KdO pd es ep)) x0 _ _ _ := P0.but (kvs0 := []) (ButD.of v_0 fun b o q z => by rw [upd_ne q]; exact z)
    generalize upd G1 pd (KdO pd es ep) = HK at sK hK P0 ⊢
    have SK := S1.same sK
    exact fun nf_ dx nf ndx _ => flow_bad (ps := [((.str "Full"), V.ref x0)]) (j := 0) nf ndx SK hK vv rfl (fun i y p lt _ => absurd lt (Nat.not_lt_zero _)) ⟨valB_str (z := "Full") (by decide +kernel) (by decide +kernel), .inr ⟨_, names_row SK (i := 4) rfl, .inr ⟨rfl, .non, (.str "items"), ⟨x0, _, rfl, P0, rfl, rfl⟩, by decide +kernel⟩⟩⟩ fun H'' dd s'' nd hx => b H'' dd (sK.trans s'') (sK.free nd) hx
  · dsimp only [tNil]
    refine told_app h0 (e.trans e') t' (tl.ext e') hp (by show 3 ≤ 1000; decide) fun H'' e'' t'' tl'' => ?_
    exact k H'' e'' t'' tl''
theorem er4 (X : TxtER P w K mg base cx CU CF CSc CP CFl CE fP fG fC fEq fHas fGet fFl fdP fdG fdC fdFl) (TB : TabB base mg c Pt) (hmT : (Pt, qER) ∈ T) (hu : ∀ p ∈ T, p.1 = Pt → p.2 = qER) (hr : Room 14 (A.deeper (PyProof.Rows.envOfC "_law_entries_right" (defScope sEntriesRight) s.heap.objs.size f (.ref c)))) :
    ∃ t : TS, PS (cxOf CX0 P w K mg base NER "_law_entries_right" (defScope sEntriesRight) f (.ref c) A outer s H0 E).nox (stER 4) t ∧ ∀ (Z : Ends) (Hb H : Hp) (L sch : Addr) (xs : List V) (rs : List Addr) (word odd : V), Hb L = none → ExtN Hb H → Tabs T H → TL H L [[.str "InvalidFlow", .str "form", word], [.str "InvalidFlow", .str "plan", (.str "Use")], [.str "InvalidFlow", .str "slot", (.str "Set")], [.str "InvalidFlow", .str "slot", (.str "Full")]] → SchAt K CF CSc H sch xs ITS rs → WordOk K H word → NoPlan K CP H odd →
      (∀ H', ExtN Hb H' → Tabs T H' → TL H' L [[.str "InvalidFlow", .str "form", word], [.str "InvalidFlow", .str "plan", (.str "Use")], [.str "InvalidFlow", .str "slot", (.str "Set")], [.str "InvalidFlow", .str "slot", (.str "Full")], [.str "InvalidFlow", .str "slot", (.str "Wrap")]] → Z.nx [some (.ref sch), some word, some odd, some (.ref L), none] H') → t Z [some (.ref sch), some word, some odd, some (.ref L), none] H := by
  have TP := X.TP
  obtain ⟨_, rN, bN⟩ := pb_none TP.F
  obtain ⟨_, _, bS⟩ := pb_s1 TP.F
  obtain ⟨_, _, bU⟩ := pb_u1 TP.F
  refine ⟨_, ps_expr (pe_bm PySem.F.plainAttrs_list PySem.F.slot_list_append PySem.F.type_list_append mt_append (L2.pv 3) (pa_cons (pe_got (t := fun E => tMake CFl (spFlowInit K CF CSc CP CFl (cx "InvalidFlow")) [] E (tCons (tVar 0) (tCons (tDispX [((tC (.str "raw_s")), (tMakeK CP 0 (["sets"] : List Str).length (spPlanInit K CP (cx "InvalidPlan")) (fun vs zs => vs ++ [V.str "steps"] ++ zs ++ [V.non]) E0 tNil (tCons (tC (.str "text")) tNil))), ((tC (.str "Wrap")), (tMakeK CP 0 (["uses"] : List Str).length (spPlanInit K CP (cx "InvalidPlan")) (fun vs zs => vs ++ [V.str "steps"] ++ [V.non] ++ zs) E0 tNil (tCons (tC (.str "body")) tNil)))]) tNil))) (k := 12) X.TG rfl TB rfl hmT hu (hr.mono (by decide)) hr (lamS_by (sc := defScope sEntriesRight) (by decide +kernel)) rfl (fun _ _ _ _ _ => rfl)
      (fun _ _ _ _ E _ _ hr' => pe_make (E := E) X.MF X.GF (hr'.mono (by decide)) rfl X.gF X.bF .nil (passes_call (takes_of rfl rfl rfl rfl) (fun _ _ _ _ q => q)) (pa_cons (L2.pv 0) (pa_cons (pe_dispX hr'.units0 (pps_cons pe_str (pe_makeK0 (E := E0) TP.M TP.G (hr'.mono (by decide)) rfl TP.g bS passL (pk_cons pe_str pk_nil)) (pps_cons pe_str (pe_makeK0 (E := E0) TP.M TP.G (hr'.mono (by decide)) rfl TP.g bU passL (pk_cons pe_str pk_nil)) pps_nil)) rfl rfl (by intro q; cases q) (by decide)) pa_nil)))) pa_nil)), ?_⟩
  intro Z Hb H L sch xs rs word odd h0 e tb tl S hw ho k
  obtain ⟨xsL, hL⟩ := tl.lst
  refine ⟨_, rfl, .inl ⟨rfl, _, SqL.of hL⟩, got_flow (k := "slot") (y := (.str "Wrap")) tb (fun H1 E' Q' e1 b => ?_) fun H' p e' t' hp => ?_⟩
  · have S1 := S.ext e1
    have hw1 := hw.ext e1
    have ho1 := ho.ext e1
    refine ⟨.ref sch, rfl, fun pd npd => ?_⟩
    have s_0 : Same H1 (upd H1 pd (.dK [])) := same_upd (Same.refl H1) npd
    have v_0 : (upd H1 pd (.dK [])) pd = some (.dK []) := upd_same
    generalize upd H1 pd (.dK []) = G0 at s_0 v_0 ⊢
    refine ⟨rfl, rfl, fun x0 dx0 nx0 nd0 _ => plan_yes nx0 nd0 val_steps (val_str (z := "text") (by decide +kernel) (by decide +kernel)) val_non (by decide +kernel) fun G1 s_1 P0 => ⟨rfl, ?_⟩⟩
    have s_0 := s_0.trans s_1
    have v_0 := s_1 _ _ v_0
    refine ⟨rfl, rfl, fun x1 dx1 nx1 nd1 _ => plan_yes nx1 nd1 val_steps val_non (val_str (z := "body") (by decide +kernel) (by decide +kernel)) (by decide +kernel) fun G2 s_2 P1 => ⟨rfl, ?_⟩⟩
    have P0 := P0.same s_2
    have s_0 := s_0.trans s_2
    have v_0 := s_2 _ _ v_0
    have hwp := True.intro
    refine ⟨v_0, (by show 2 ≤ 15; decide), (List.forall_mem_cons.mpr ⟨⟨.str _, nofun⟩, (List.forall_mem_cons.mpr ⟨⟨.str _, nofun⟩, (List.forall_mem_nil _)⟩)⟩), (.cons (List.forall_mem_cons.mpr ⟨ap_strs (by decide +kernel), (List.forall_mem_nil _)⟩) (.cons (List.forall_mem_nil _) .nil)), fun es ep vv => ?_⟩
    have sK : Same H1 (upd G2 pd (KdO pd es ep)) := same_upd s_0 npd
    have hK : (upd G2 pd (KdO pd es ep)) pd = some (KdO pd es ep) := upd_same
    have P0 : PlanAt CP (upd G2 pd (KdO pd es ep)) x0 _ _ _ := P0.but (kvs0 := []) (ButD.of v_0 fun b o q z => by rw [upd_ne q]; exact z)
    have P1 : PlanAt CP (upd G2 pd (KdO pd es ep)) x1 _ _ _ := P1.but (kvs0 := []) (ButD.of v_0 fun b o q z => by rw [upd_ne q]; exact z)
    generalize upd G2 pd (KdO pd es ep) = HK at sK hK P0 P1 ⊢
    have SK := S1.same sK
    exact fun nf_ dx nf ndx _ => flow_bad (ps := [((.str "raw_s"), V.ref x0), ((.str "Wrap"), V.ref x1)]) (j := 1) nf ndx SK hK vv rfl (fun i y p lt q => by
      obtain rfl : i = 0 := by omega
      cases q
      exact ⟨valB_str (z := "raw_s") (by decide +kernel) (by decide +kernel), _, (.str "text"), .non, names_raw SK, ⟨x0, _, rfl, P0, rfl, rfl⟩, by decide +kernel⟩) ⟨valB_str (z := "Wrap") (by decide +kernel) (by decide +kernel), .inr ⟨_, names_row SK (i := 5) rfl, .inr ⟨rfl, .non, (.str "body"), ⟨x1, _, rfl, P1, rfl, rfl⟩, by decide +kernel⟩⟩⟩ fun H'' dd s'' nd hx => b H'' dd (sK.trans s'') (sK.free nd) hx
  · dsimp only [tNil]
    refine told_app h0 (e.trans e') t' (tl.ext e') hp (by show 4 ≤ 1000; decide) fun H'' e'' t'' tl'' => ?_
    exact k H'' e'' t'' tl''
theorem er5 (X : TxtER P w K mg base cx CU CF CSc CP CFl CE fP fG fC fEq fHas fGet fFl fdP fdG fdC fdFl) (TB : TabB base mg c Pt) (hmT : (Pt, qER) ∈ T) (hu : ∀ p ∈ T, p.1 = Pt → p.2 = qER) (hr : Room 14 (A.deeper (PyProof.Rows.envOfC "_law_entries_right" (defScope sEntriesRight) s.heap.objs.size f (.ref c)))) :
    ∃ t : TS, PS (cxOf CX0 P w K mg base NER "_law_entries_right" (defScope sEntriesRight) f (.ref c) A outer s H0 E).nox (stER 5) t ∧ ∀ (Z : Ends) (Hb H : Hp) (L sch : Addr) (xs : List V) (rs : List Addr) (word odd : V), Hb L = none → ExtN Hb H → Tabs T H → TL H L [[.str "InvalidFlow", .str "form", word], [.str "InvalidFlow", .str "plan", (.str "Use")], [.str "InvalidFlow", .str "slot", (.str "Set")], [.str "InvalidFlow", .str "slot", (.str "Full")], [.str "InvalidFlow", .str "slot", (.str "Wrap")]] → SchAt K CF CSc H sch xs ITS rs → WordOk K H word → NoPlan K CP H odd →
      (∀ H', ExtN Hb H' → Tabs T H' → TL H' L [[.str "InvalidFlow", .str "form", word], [.str "InvalidFlow", .str "plan", (.str "Use")], [.str "InvalidFlow", .str "slot", (.str "Set")], [.str "InvalidFlow", .str "slot", (.str "Full")], [.str "InvalidFlow", .str "slot", (.str "Wrap")], [.str "InvalidFlow", .str "slot", (.str "raw_s")]] → Z.nx [some (.ref sch), some word, some odd, some (.ref L), none] H') → t Z [some (.ref sch), some word, some odd, some (.ref L), none] H := by
  have TP := X.TP
  obtain ⟨_, rN, bN⟩ := pb_none TP.F
  obtain ⟨_, _, bS⟩ := pb_s1 TP.F
  obtain ⟨_, _, bU⟩ := pb_u1 TP.F
  refine ⟨_, ps_expr (pe_bm PySem.F.plainAttrs_list PySem.F.slot_list_append PySem.F.type_list_append mt_append (L2.pv 3) (pa_cons (pe_got (t := fun E => tMakeK CFl 0 (["plans", "schema"] : List Str).length (spFlowInit K CF CSc CP CFl (cx "InvalidFlow")) (fun vs zs => vs ++ zs.reverse) E tNil (tCons (tDispX [((tC (.str "raw_s")), (tMakeK CP 0 (["uses"] : List Str).length (spPlanInit K CP (cx "InvalidPlan")) (fun vs zs => vs ++ [V.str "steps"] ++ [V.non] ++ zs) E0 tNil (tCons (tC (.str "who")) tNil)))]) (tCons (tVar 0) tNil))) (k := 12) X.TG rfl TB rfl hmT hu (hr.mono (by decide)) hr (lamS_by (sc := defScope sEntriesRight) (by decide +kernel)) rfl (fun _ _ _ _ _ => rfl)
      (fun _ _ _ _ E _ _ hr' => pe_makeK0 (E := E) X.MF X.GF (hr'.mono (by decide)) rfl X.gF (fl_kb X.FF) (passes_call (takes_of rfl rfl rfl rfl) (fun _ _ _ _ q => q)) (pk_cons (pe_dispX hr'.units0 (pps_cons pe_str (pe_makeK0 (E := E0) TP.M TP.G (hr'.mono (by decide)) rfl TP.g bU passL (pk_cons pe_str pk_nil)) pps_nil) rfl rfl (by intro q; cases q) (by decide)) (pk_cons (L2.pv 0) pk_nil)))) pa_nil)), ?_⟩
  intro Z Hb H L sch xs rs word odd h0 e tb tl S hw ho k
  obtain ⟨xsL, hL⟩ := tl.lst
  refine ⟨_, rfl, .inl ⟨rfl, _, SqL.of hL⟩, got_flow (k := "slot") (y := (.str "raw_s")) tb (fun H1 E' Q' e1 b => ?_) fun H' p e' t' hp => ?_⟩
  · have S1 := S.ext e1
    have hw1 := hw.ext e1
    have ho1 := ho.ext e1
    refine fun pd npd => ?_
    have s_0 : Same H1 (upd H1 pd (.dK [])) := same_upd (Same.refl H1) npd
    have v_0 : (upd H1 pd (.dK [])) pd = some (.dK []) := upd_same
    generalize upd H1 pd (.dK []) = G0 at s_0 v_0 ⊢
    refine ⟨rfl, rfl, fun x0 dx0 nx0 nd0 _ => plan_yes nx0 nd0 val_steps val_non (val_str (z := "who") (by decide +kernel) (by decide +kernel)) (by decide +kernel) fun G1 s_1 P0 => ⟨rfl, ?_⟩⟩
    have s_0 := s_0.trans s_1
    have v_0 := s_1 _ _ v_0
    have hwp := True.intro
    refine ⟨v_0, (by show 1 ≤ 15; decide), (List.forall_mem_cons.mpr ⟨⟨.str _, nofun⟩, (List.forall_mem_nil _)⟩), (.cons (List.forall_mem_nil _) .nil), fun es ep vv => ?_⟩
    have sK : Same H1 (upd G1 pd (KdO pd es ep)) := same_upd s_0 npd
    have hK : (upd G1 pd (KdO pd es ep)) pd = some (KdO pd es ep) := upd_same
    have P0 : PlanAt CP (upd G1 pd (KdO pd es ep)) x0 _ _ _ := P0.but (kvs0 := []) (ButD.of v_0 fun b o q z => by rw [upd_ne q]; exact z)
    generalize upd G1 pd (KdO pd es ep) = HK at sK hK P0 ⊢
    have SK := S1.same sK
    exact ⟨.ref sch, rfl, rfl, rfl, fun nf_ dx nf ndx _ => flow_bad (ps := [((.str "raw_s"), V.ref x0)]) (j := 0) nf ndx SK hK vv rfl (fun i y p lt _ => absurd lt (Nat.not_lt_zero _)) ⟨valB_str (z := "raw_s") (by decide +kernel) (by decide +kernel), .inr ⟨_, names_raw SK, .inr ⟨rfl, .non, (.str "who"), ⟨x0, _, rfl, P0, rfl, rfl⟩, by decide +kernel⟩⟩⟩ fun H'' dd s'' nd hx => b H'' dd (sK.trans s'') (sK.free nd) hx⟩
  · dsimp only [tNil]
    refine told_app h0 (e.trans e') t' (tl.ext e') hp (by show 5 ≤ 1000; decide) fun H'' e'' t'' tl'' => ?_
    exact k H'' e'' t'' tl''
end
end K2

namespace K2
open PySem PySem.Spec PyProof.Rows L2 E0 EG
open LamX (ExtN Tabs TabS TabB LamS lamS_by)
theorem sql_ext {K : PySem.W.Frag} {H H' : Hp} {a : Addr} {xs : List V} (e : ExtN H H') (h : SqL K H a xs) : SqL K H' a xs := by
  rcases h with h | h
  · refine .inl ?_
    rcases h with h | ⟨o, h⟩
    · exact .inl (e _ _ h nofun)
    · exact .inr ⟨o, e _ _ h nofun⟩
  · exact .inr h
mutual
theorem Dp.ext {K : PySem.W.Frag} {H H' : Hp} (e : ExtN H H') : ∀ {v : V} {d : PyData}, Dp K H v d → Dp K H' v d
  | _, _, .non => .non
  | _, _, .bl b => .bl b
  | _, _, .int i => .int i
  | _, _, .str z => .str z
  | _, _, .lst h a => .lst (sql_ext e h) (DpAll.ext e a)
  | _, _, .tup h a => .tup (sqt_ext e h) (DpAll.ext e a)
theorem DpAll.ext {K : PySem.W.Frag} {H H' : Hp} (e : ExtN H H') : ∀ {vs : List V} {ds : List PyData}, DpAll K H vs ds → DpAll K H' vs ds
  | _, _, .nil => .nil
  | _, _, .cons a t => .cons (Dp.ext e a) (DpAll.ext e t)
end
theorem TL.dpW {K : PySem.W.Frag} {H : Hp} {L : Addr} {vss : List (List V)} {dss : List (List PyData)} (h : TL H L vss) (p : Paired (fun vs ds => DpAll K H vs ds) vss dss) : Dp K H (.ref L) (.list (dss.map .tuple)) := by
  obtain ⟨ps, a, b⟩ := h
  refine .lst (SqL.of a) ?_
  have key : ∀ {ps : List Addr} {vss : List (List V)} {dss : List (List PyData)}, Paired (fun p vs => H p = some (.tup vs)) ps vss → Paired (fun vs ds => DpAll K H vs ds) vss dss → DpAll K H (ps.map V.ref) (dss.map PyData.tuple) := by
    intro ps vss dss q
    induction q generalizing dss with
    | nil => intro r; cases r; exact .nil
    | cons e t ih =>
      intro r
      cases r with
      | cons a2 t2 => exact .cons (.tup (SqT.of e) a2) (ih t2)
  exact key b p
def erV (word : V) : List (List V) := [[V.str "InvalidFlow", .str "form", word], [V.str "InvalidFlow", .str "plan", (.str "Use")], [V.str "InvalidFlow", .str "slot", (.str "Set")], [V.str "InvalidFlow", .str "slot", (.str "Full")], [V.str "InvalidFlow", .str "slot", (.str "Wrap")], [V.str "InvalidFlow", .str "slot", (.str "raw_s")]]
def erD (dW : PyData) : List (List PyData) := [[.str "InvalidFlow", .str "form", dW], [.str "InvalidFlow", .str "plan", (.str "Use")], [.str "InvalidFlow", .str "slot", (.str "Set")], [.str "InvalidFlow", .str "slot", (.str "Full")], [.str "InvalidFlow", .str "slot", (.str "Wrap")], [.str "InvalidFlow", .str "slot", (.str "raw_s")]]
def erDat (dW : PyData) : PyData := .list ((erD dW).map .tuple)
def goodER (dW : PyData) : Bool := (erDat dW).showable && !(erDat dW).hasDict && decide ((erDat dW).depth ≤ 64) && decide ((erDat dW).shown.length ≤ sizeLine)
theorem er_rep {K : PySem.W.Frag} {H : Hp} {L : Addr} {word : V} {dW : PyData} (h : TL H L (erV word)) (hd : Dp K H word dW) (g : goodER dW = true) : RepV K H (.ref L) (erDat dW).shown := by
  unfold goodER at g
  rw [Bool.and_eq_true, Bool.and_eq_true, Bool.and_eq_true] at g
  obtain ⟨⟨⟨g1, g2⟩, g3⟩, g4⟩ := g
  refine .dat (h.dpW (dss := erD dW) ?_) g1 (by simpa using g2) (of_decide_eq_true g3) (of_decide_eq_true g4)
  have st : ∀ a b : Str, ∀ v d, Dp K H v d → DpAll K H [.str a, .str b, v] [.str a, .str b, d] := fun a b v d h => .cons (.str _) (.cons (.str _) (.cons h .nil))
  exact .cons (st _ _ _ _ hd) (.cons (st _ _ _ _ (.str _)) (.cons (st _ _ _ _ (.str _)) (.cons (st _ _ _ _ (.str _)) (.cons (st _ _ _ _ (.str _)) (.cons (st _ _ _ _ (.str _)) .nil)))))
section
variable {P : Program} {w : World} {K : PySem.W.Frag} {mg : Str → Option Value} {base : Heap} {f c : Addr} {A : Around} {outer : List Env} {s : Shared} {H0 : Hp} {E : XK}
theorem er6 : ∃ t : TS, PS (cxOf CX0 P w K mg base NER "_law_entries_right" (defScope sEntriesRight) f (.ref c) A outer s H0 E).nox (stER 6) t ∧ ∀ (Z : Ends) (G : Hp) (sch L : Addr) (word odd : V), (∀ G' B, Same G G' → TL G' B [[V.str "InvalidFlow", .str "form", word], [V.str "InvalidFlow", .str "plan", (.str "Use")], [V.str "InvalidFlow", .str "slot", (.str "Set")]] → Z.nx [some (.ref sch), some word, some odd, some (.ref L), some (.ref B)] G') → t Z [some (.ref sch), some word, some odd, some (.ref L), none] G := by
  refine ⟨_, ps_set (i := 4) scER.nd rfl (.inl rfl) (pe_lst (pa_cons (pe_tup (pa_cons pe_str (pa_cons pe_str (pa_cons (L2.pv 1) pa_nil)))) (pa_cons (pe_tup (pa_cons pe_str (pa_cons pe_str (pa_cons pe_str pa_nil)))) (pa_cons (pe_tup (pa_cons pe_str (pa_cons pe_str (pa_cons pe_str pa_nil)))) pa_nil)))), ?_⟩
  intro Z G sch L word odd k
  refine ⟨_, rfl, by show 3 ≤ sizeLine; decide, fun t0 n0 => ?_⟩
  have s0 : Same G (upd G t0 (.tup [V.str "InvalidFlow", .str "form", word])) := same_upd (Same.refl G) n0
  have w0 : (upd G t0 (.tup [V.str "InvalidFlow", .str "form", word])) t0 = some (.tup [V.str "InvalidFlow", .str "form", word]) := upd_same
  generalize upd G t0 (.tup [V.str "InvalidFlow", .str "form", word]) = G0 at s0 w0 ⊢
  refine ⟨by show 3 ≤ sizeLine; decide, fun t1 n1 => ?_⟩
  have s1' : Same G0 (upd G0 t1 (.tup [V.str "InvalidFlow", .str "plan", (.str "Use")])) := same_upd (Same.refl G0) n1
  have w1 : (upd G0 t1 (.tup [V.str "InvalidFlow", .str "plan", (.str "Use")])) t1 = some (.tup [V.str "InvalidFlow", .str "plan", (.str "Use")]) := upd_same
  generalize upd G0 t1 (.tup [V.str "InvalidFlow", .str "plan", (.str "Use")]) = G1 at s1' w1 ⊢
  have s1 := s0.trans s1'
  have w0 := s1' _ _ w0
  refine ⟨by show 3 ≤ sizeLine; decide, fun t2 n2 => ?_⟩
  have s2' : Same G1 (upd G1 t2 (.tup [V.str "InvalidFlow", .str "slot", (.str "Set")])) := same_upd (Same.refl G1) n2
  have w2 : (upd G1 t2 (.tup [V.str "InvalidFlow", .str "slot", (.str "Set")])) t2 = some (.tup [V.str "InvalidFlow", .str "slot", (.str "Set")]) := upd_same
  generalize upd G1 t2 (.tup [V.str "InvalidFlow", .str "slot", (.str "Set")]) = G2 at s2' w2 ⊢
  have s2 := s1.trans s2'
  have w0 := s2' _ _ w0
  have w1 := s2' _ _ w1
  refine ⟨by show 3 ≤ sizeLine; decide, fun B nB => ?_⟩
  have sB : Same G2 (upd G2 B (.lst [.ref t0, .ref t1, .ref t2])) := same_upd (Same.refl G2) nB
  have tB : TL (upd G2 B (.lst [.ref t0, .ref t1, .ref t2])) B [[V.str "InvalidFlow", .str "form", word], [V.str "InvalidFlow", .str "plan", (.str "Use")], [V.str "InvalidFlow", .str "slot", (.str "Set")]] := ⟨[t0, t1, t2], upd_same, .cons (sB _ _ w0) (.cons (sB _ _ w1) (.cons (sB _ _ w2) .nil))⟩
  exact k _ B (s2.trans sB) tB
theorem er7 : ∃ t : TS, PS (cxOf CX0 P w K mg base NER "_law_entries_right" (defScope sEntriesRight) f (.ref c) A outer s H0 E).nox (stER 7) t ∧ ∀ (Z : Ends) (G : Hp) (sch L D : Addr) (word odd : V), TL G D [[V.str "InvalidFlow", .str "form", word], [V.str "InvalidFlow", .str "plan", (.str "Use")], [V.str "InvalidFlow", .str "slot", (.str "Set")]] → (∀ G' B, Same G G' → TL G' B (erV word) → Z.nx [some (.ref sch), some word, some odd, some (.ref L), some (.ref B)] G') → t Z [some (.ref sch), some word, some odd, some (.ref L), some (.ref D)] G := by
  refine ⟨_, ps_set (i := 4) scER.nd rfl (.inl rfl) (pe_op op_cat (L2.pv 4) (pe_lst (pa_cons (pe_tup (pa_cons pe_str (pa_cons pe_str (pa_cons pe_str pa_nil)))) (pa_cons (pe_tup (pa_cons pe_str (pa_cons pe_str (pa_cons pe_str pa_nil)))) (pa_cons (pe_tup (pa_cons pe_str (pa_cons pe_str (pa_cons pe_str pa_nil)))) pa_nil))))), ?_⟩
  intro Z G sch L D word odd hD k
  refine ⟨_, rfl, ?_⟩
  refine ⟨by show 3 ≤ sizeLine; decide, fun t0 n0 => ?_⟩
  have s0 : Same G (upd G t0 (.tup [V.str "InvalidFlow", .str "slot", (.str "Full")])) := same_upd (Same.refl G) n0
  have w0 : (upd G t0 (.tup [V.str "InvalidFlow", .str "slot", (.str "Full")])) t0 = some (.tup [V.str "InvalidFlow", .str "slot", (.str "Full")]) := upd_same
  generalize upd G t0 (.tup [V.str "InvalidFlow", .str "slot", (.str "Full")]) = G0 at s0 w0 ⊢
  refine ⟨by show 3 ≤ sizeLine; decide, fun t1 n1 => ?_⟩
  have s1' : Same G0 (upd G0 t1 (.tup [V.str "InvalidFlow", .str "slot", (.str "Wrap")])) := same_upd (Same.refl G0) n1
  have w1 : (upd G0 t1 (.tup [V.str "InvalidFlow", .str "slot", (.str "Wrap")])) t1 = some (.tup [V.str "InvalidFlow", .str "slot", (.str "Wrap")]) := upd_same
  generalize upd G0 t1 (.tup [V.str "InvalidFlow", .str "slot", (.str "Wrap")]) = G1 at s1' w1 ⊢
  have s1 := s0.trans s1'
  have w0 := s1' _ _ w0
  refine ⟨by show 3 ≤ sizeLine; decide, fun t2 n2 => ?_⟩
  have s2' : Same G1 (upd G1 t2 (.tup [V.str "InvalidFlow", .str "slot", (.str "raw_s")])) := same_upd (Same.refl G1) n2
  have w2 : (upd G1 t2 (.tup [V.str "InvalidFlow", .str "slot", (.str "raw_s")])) t2 = some (.tup [V.str "InvalidFlow", .str "slot", (.str "raw_s")]) := upd_same
  generalize upd G1 t2 (.tup [V.str "InvalidFlow", .str "slot", (.str "raw_s")]) = G2 at s2' w2 ⊢
  have s2 := s1.trans s2'
  have w0 := s2' _ _ w0
  have w1 := s2' _ _ w1
  refine ⟨by show 3 ≤ sizeLine; decide, fun B nB => ?_⟩
  have sB : Same G2 (upd G2 B (.lst [.ref t0, .ref t1, .ref t2])) := same_upd (Same.refl G2) nB
  have tB : TL (upd G2 B (.lst [.ref t0, .ref t1, .ref t2])) B [[V.str "InvalidFlow", .str "slot", (.str "Full")], [V.str "InvalidFlow", .str "slot", (.str "Wrap")], [V.str "InvalidFlow", .str "slot", (.str "raw_s")]] := ⟨[t0, t1, t2], upd_same, .cons (sB _ _ w0) (.cons (sB _ _ w1) (.cons (sB _ _ w2) .nil))⟩
  have sG := s2.trans sB
  have hD := hD.ext (ExtN.of sG)
  generalize upd G2 B (.lst [.ref t0, .ref t1, .ref t2]) = G3 at sG tB hD ⊢
  obtain ⟨ps, a1, b1⟩ := hD
  obtain ⟨qs, a2, b2⟩ := tB
  have l1 : ps.length = 3 := b1.length
  have l2 : qs.length = 3 := b2.length
  refine ⟨D, B, _, _, rfl, rfl, a1, a2, by rw [List.length_map, List.length_map, l1, l2]; decide, fun p np => ?_⟩
  have s3 : Same G3 (upd G3 p (.lst (ps.map V.ref ++ qs.map V.ref))) := same_upd (Same.refl G3) np
  exact k _ p (sG.trans s3) ⟨ps ++ qs, by rw [upd_same, List.map_append], Paired.mapP (paired_app b1 b2) fun _ _ z => s3 _ _ z⟩
theorem er8 (gR : mg "repr" = none) (hG : A.guards = some []) (hr : Room 14 (A.deeper (PyProof.Rows.envOfC "_law_entries_right" (defScope sEntriesRight) s.heap.objs.size f (.ref c)))) :
    ∃ t : TS, PS (cxOf CX0 P w K mg base NER "_law_entries_right" (defScope sEntriesRight) f (.ref c) A outer s H0 E).nox (stER 8) t ∧ ∀ (Z : Ends) (G : Hp) (sch L D : Addr) (word odd : V) (dW : PyData), TL G L (erV word) → TL G D (erV word) → Dp K G word dW → goodER dW = true → Z.rt (.bl true) G → t Z [some (.ref sch), some word, some odd, some (.ref L), some (.ref D)] G := by
  have hu80 : (A.deeper (PyProof.Rows.envOfC "_law_entries_right" (defScope sEntriesRight) s.heap.objs.size f (.ref c))).units + 80 < cLine := by
    have := hr.un
    omega
  refine ⟨_, ps_ret (pe_cmpR op_eq (pe_callB (call_rep hG hu80) (by rfl) gR PyProof.Rows.boot_repr (pa_cons (L2.pv 3) pa_nil)) (pe_callB (call_rep hG hu80) (by rfl) gR PyProof.Rows.boot_repr (pa_cons (L2.pv 4) pa_nil)) (nomark _)), ?_⟩
  intro Z G sch L D word odd dW hL hD hd g k
  refine ⟨_, rfl, _, _, rfl, er_rep hL hd g, ?_⟩
  refine ⟨_, rfl, _, _, rfl, er_rep hD hd g, rfl, ?_⟩
  rw [show decide (V.str (erDat dW).shown = V.str (erDat dW).shown) = true by simp]
  exact k
end
def spER (K : PySem.W.Frag) (CF CSc CP : Addr) (T : List (Addr × Str)) : Sp := fun vs H Q _ => ∃ (sch : Addr) (xs : List V) (rs : List Addr) (word odd : V) (dW : PyData), vs = [.ref sch, word, odd] ∧ Tabs T H ∧ SchAt K CF CSc H sch xs ITS rs ∧ WordOk K H word ∧ NoPlan K CP H odd ∧ Dp K H word dW ∧ goodER dW = true ∧ ∀ H', ExtN H H' → Tabs T H' → Q (.bl true) H'
section
variable {P : Program} {w : World} {K : PySem.W.Frag} {mg : Str → Option Value} {base : Heap}
theorem ok_entriesRight {cx : Str → Addr} {CU CF CSc CP CFl CE fP fG fC fEq fHas fGet fFl f c Pt : Addr} {fd fdP fdG fdC fdFl : FuncData} {T : List (Addr × Str)} (F : FunC K "_law_entries_right" "_law_entries_right" sEntriesRight f fd c) (X : TxtER P w K mg base cx CU CF CSc CP CFl CE fP fG fC fEq fHas fGet fFl fdP fdG fdC fdFl)
    (gR : mg "repr" = none) (TB : TabB base mg c Pt) (hmT : (Pt, qER) ∈ T) (hu : ∀ p ∈ T, p.1 = Pt → p.2 = qER) : FnG P w K mg base CX0 15 f fd ["_law_base_here", "_law_word", "_law_odd"] (spER K CF CSc CP T) := by
  refine okGC F scER (fun vs H Q E h => ?_) (fun A outer s H vs Q E hr hG h => ?_)
  · obtain ⟨sch, xs, rs, word, odd, dW, rfl, _⟩ := h
    rfl
  · obtain ⟨sch, xs, rs, word, odd, dW, rfl, tb, S, hw, ho, hd, g, k⟩ := h
    obtain ⟨t0, p0, r0⟩ := er0 (f := f) (A := A) (outer := outer) (s := s) (H0 := H) (E := E) X TB hmT hu hr
    obtain ⟨t1, p1, r1⟩ := er1 (f := f) (A := A) (outer := outer) (s := s) (H0 := H) (E := E) X TB hmT hu hr
    obtain ⟨t2, p2, r2⟩ := er2 (f := f) (A := A) (outer := outer) (s := s) (H0 := H) (E := E) X TB hmT hu hr
    obtain ⟨t3, p3, r3⟩ := er3 (f := f) (A := A) (outer := outer) (s := s) (H0 := H) (E := E) X TB hmT hu hr
    obtain ⟨t4, p4, r4⟩ := er4 (f := f) (A := A) (outer := outer) (s := s) (H0 := H) (E := E) X TB hmT hu hr
    obtain ⟨t5, p5, r5⟩ := er5 (f := f) (A := A) (outer := outer) (s := s) (H0 := H) (E := E) X TB hmT hu hr
    obtain ⟨t6, p6, r6⟩ := er6 (P := P) (w := w) (K := K) (mg := mg) (base := base) (f := f) (c := c) (A := A) (outer := outer) (s := s) (H0 := H) (E := E)
    obtain ⟨t7, p7, r7⟩ := er7 (P := P) (w := w) (K := K) (mg := mg) (base := base) (f := f) (c := c) (A := A) (outer := outer) (s := s) (H0 := H) (E := E)
    obtain ⟨t8, p8, r8⟩ := er8 (P := P) (w := w) (K := K) (mg := mg) (base := base) (f := f) (c := c) (A := A) (outer := outer) (s := s) (H0 := H) (E := E) gR hG hr
    refine ⟨_, pss_cons p0 (pss_cons p1 (pss_cons p2 (pss_cons p3 (pss_cons p4 (pss_cons p5 (pss_cons p6 (pss_cons p7 (pss_one p8)))))))), ?_⟩
    refine r0 _ H sch xs rs word odd tb S hw ho fun Hb H1 L eb nb e1 tb1 tl1 => ?_
    refine r1 _ Hb H1 L sch xs rs word odd nb e1 tb1 tl1 (S.ext (eb.trans e1)) (hw.ext (eb.trans e1)) (ho.ext (eb.trans e1)) fun H2 e2 tb2 tl2 => ?_
    refine r2 _ Hb H2 L sch xs rs word odd nb e2 tb2 tl2 (S.ext (eb.trans e2)) (hw.ext (eb.trans e2)) (ho.ext (eb.trans e2)) fun H3 e3 tb3 tl3 => ?_
    refine r3 _ Hb H3 L sch xs rs word odd nb e3 tb3 tl3 (S.ext (eb.trans e3)) (hw.ext (eb.trans e3)) (ho.ext (eb.trans e3)) fun H4 e4 tb4 tl4 => ?_
    refine r4 _ Hb H4 L sch xs rs word odd nb e4 tb4 tl4 (S.ext (eb.trans e4)) (hw.ext (eb.trans e4)) (ho.ext (eb.trans e4)) fun H5 e5 tb5 tl5 => ?_
    refine r5 _ Hb H5 L sch xs rs word odd nb e5 tb5 tl5 (S.ext (eb.trans e5)) (hw.ext (eb.trans e5)) (ho.ext (eb.trans e5)) fun H6 e6 tb6 tl6 => ?_
    refine r6 _ H6 sch L word odd fun H7 D s7 hD => ?_
    refine r7 _ H7 sch L D word odd hD fun H8 D2 s8 hD2 => ?_
    have s68 := s7.trans s8
    have e8 := (eb.trans e6).trans (ExtN.of s68)
    exact r8 _ H8 sch L D2 word odd dW (tl6.ext (ExtN.of s68)) hD2 (Dp.ext e8 hd) g (k H8 e8 (tb6.ext s68))
end
end K2

namespace K2
open PySem PySem.Spec PyProof.Rows L2 E0 EG
open LamX (ExtN Tabs TabS TabB LamS lamS_by)
section
variable {X : Cx} {CX : CXT} {k : Nat} {f C : Addr} {fd : FuncData} {ps ks : List Str} {sp : Sp} {E : XK} {pos : Pos} {kws : List Keyword} {ta : TE} {tk : TA} {g : List Value → List Value → List Value} {gV : List V → List V → List V} {o : Expr} {m : Str} {apos : Pos}
/-- o.m(k = v, ..) of an own method -/
def tMethK (C : Addr) (m : Str) (sp : Sp) (gV : List V → List V → List V) (E : XK) (ta : TE) (tk : TA) : TE := fun σ H Q => ta σ H fun x H1 => ∃ a dx fs, x = .ref a ∧ H1 a = some (.ins C dx fs) ∧ fs.lookup m = none ∧
  tk σ H1 fun zs H2 => sp (gV [x] zs) H2 Q E
theorem pe_methKw {pl : Sem Bool} (he : PE X o ta) (c : Cls X.K C) (hm : Meth X.K C m f) (F : FnOk X.prog X.w X.K X.mg X.base CX k f fd ps sp) (hr : Room k X.A) (hb : KBinds X.K fd ps ks g gV) (hx : Passes CX X E) (hkw : PK X kws tk)
    (hall : (backToKw pos (keywordEach kws X.env)).all (·.1.isSome) = true := by rfl) (hks : (backToKw pos (keywordEach kws X.env)).filterMap (·.1) = ks := by rfl)
    (hpl : ((backTo pos (starEach [] X.env)).any (·.1) || (backToKw pos (keywordEach kws X.env)).any (·.1.isNone)) = false := by rfl)
    (ht : eval (.Call (.Attribute o m apos) [] kws pos) X.env = (do
      let ov ← eval o X.env
      standAt apos.atName
      let (f, first) ← holding [ov] (getMethod ov m pl)
      callWith pos f first (backTo pos (starEach [] X.env)) (backToKw pos (keywordEach kws X.env))) := by rfl) :
    PE X (.Call (.Attribute o m apos) [] kws pos) (tMethK C m sp gV E ta tk) := by
  refine ⟨fun pins s σ H Q I h => ?_⟩
  refine PySem.W.methodCall_KW (pl := pl) (thn (he.run pins s σ H _ I h) fun u s1 ⟨x, H1, I1, rx, a, dx, fs, ex, ea, l, q⟩ => ?_) ht
  subst ex
  obtain rfl : u = Value.ref a := rx
  refine getmeth_ok I1 ea c hm l ?_
  refine PySem.W.callWith_KW0 (first := [.ref a]) (h₀ := X.base) I.ok.mod.kin hm.kp hall (thn (hkw.run pos pins s1 σ H1 _ I1 q) fun ws s2 ⟨zs, H2, I2, rz, q2⟩ => ⟨I2.kIn, ?_⟩) hpl
  rw [hks]
  exact run_fnk (us := [.ref a]) (vs := [.ref a]) F hr hb hx I2 (.cons rfl .nil) rz q2
end
def gOne {α : Type} : List α → List α → List α
  | [a], [n] => [a, n]
  | _, _ => []
theorem gOne_rel {vs : List V} {us : List Value} {zs : List V} {ws : List Value} (r : Vals vs us) (t : Vals zs ws) : Vals (gOne vs zs) (gOne us ws) := by
  cases r with
  | nil => exact .nil
  | cons a r =>
    cases r with
    | cons _ _ => exact .nil
    | nil =>
      cases t with
      | nil => exact .nil
      | cons b t =>
        cases t with
        | nil => exact .cons a (.cons b .nil)
        | cons _ _ => exact .nil
theorem plan_kb {K : PySem.W.Frag} {f : Addr} {fd : FuncData} (F : Fun K "plan" "Flow.plan" sFlowPlan f fd) : KBinds K fd ["self", "name"] ["name"] gOne gOne := by
  obtain ⟨oc, od, kV, doc, pm, an, cdv, ct, osl, rfl, lk, hcd⟩ := F.ex
  refine ⟨fun s us ws _ hl => ?_, gOne_rel⟩
  match us, ws, hl with
  | [a], [x], _ => exact .of_eq rfl
  | [], _, h => exact nomatch (show (0 : Nat) = 2 from h)
  | _ :: _ :: _, _, h => exact nomatch (show (0 : Nat) = 2 from h)
  | [_], [], h => exact nomatch (show (0 : Nat) = 2 from h)
  | [_], _ :: _ :: _, h => exact nomatch (show (0 : Nat) = 2 from h)
theorem FlowAt.ext {CFl CP : Addr} {kvs : List (Key × V)} {H H' : Hp} {f sch : Addr} {nms : List Str} {vals : List V} (h : FlowAt CFl CP kvs H f sch nms vals) (e : ExtN H H') : FlowAt CFl CP kvs H' f sch nms vals := by
  obtain ⟨⟨dx, d, fs, a, b, c, p, q⟩, l, pf⟩ := h
  refine ⟨⟨dx, d, fs, e _ _ a nofun, b, c, p, e _ _ q nofun⟩, l, fun i z v e1 e2 => ?_⟩
  rcases pf i z v e1 e2 with r | ⟨r, x, ex, dp, hp⟩
  · exact .inl r
  · exact .inr ⟨r, x, ex, dp, e _ _ hp nofun⟩
theorem RepV.ext {K : PySem.W.Frag} {H H' : Hp} {v : V} {t : Str} (h : RepV K H v t) (e : ExtN H H') : RepV K H' v t := by
  cases h with
  | non => exact .non
  | bl b => exact .bl b
  | int i h => exact .int i h
  | str z h => exact .str z h
  | dct q => exact .dct (e _ _ q nofun)
  | dat q h1 h2 h3 h4 => exact .dat (Dp.ext e q) h1 h2 h3 h4
theorem OddAt.ext {K : PySem.W.Frag} {H H' : Hp} {v : V} (h : OddAt K H v) (b : ValB K H v) (e : ExtN H H') : OddAt K H' v := by
  rcases h with ⟨a, xs, ea, h⟩ | ⟨⟨rt, hr⟩, t, ht, k1, k2⟩
  · exact .inl ⟨a, xs, ea, h.imp (fun q => e _ _ q nofun) (fun q => e _ _ q nofun)⟩
  · refine .inr ⟨⟨rt, hr.ext e⟩, t, TyX.keep ht fun a o ea q => ?_, k1, k2⟩
    obtain ⟨o', q', n⟩ := b.resolve_str a ea
    rw [q] at q'
    cases q'
    exact e _ _ q n
/-! ### _law_flow_right -/
def NFR : List Str := ["_law_base_here", "_law_odd", "_law_word", "_law_told", "_law_flow"]
theorem scFR : FnScope NFR ["_law_base_here", "_law_odd"] (defScope sFlowRight) := ⟨rfl, rfl, rfl, by decide +kernel, rfl, by decide +kernel, by decide +kernel⟩
def stFR (i : Nat) : Stmt := (defBody sFlowRight).getD i (.Pass ⟨0, 0, 0, 0⟩)
abbrev qFR : Str := "_law_flow_right.<locals>.<lambda>"
structure TxtFR (P : Program) (w : World) (K : PySem.W.Frag) (mg : Str → Option Value) (base : Heap) (cx : Str → Addr) (CF CSc CP CFl CE fP fG fC fEq fHas fGet fFl fPl fI : Addr) (fdP fdG fdC fdFl fdPl fdI : FuncData) : Prop extends TxtER P w K mg base cx (cx "UnknownName") CF CSc CP CFl CE fP fG fC fEq fHas fGet fFl fdP fdG fdC fdFl where
  FL : FlowCls K CFl
  SF : FormCls K CSc
  MP : Meth K CFl "plan" fPl
  FP : Fun K "plan" "Flow.plan" sFlowPlan fPl fdPl
  GP : FnOk P w K mg base (L2.CX P w) 3 fPl fdPl ["self", "name"] (spFlowPlan K (cx "UnknownName") CF CSc CFl CP)
  bP : Binds K fdPl ["self", "name"] []
  GI : FnG P w K mg base CX0 1 fI fdI ["_law_told", "_law_word", "_law_odd"] (spIsIt K)
  gI : mg "_law_is_it" = some (.ref fI)
  kI : PySem.W.keepIn K (.ref fI) = true
  bI : Binds K fdI ["_law_told", "_law_word", "_law_odd"] []
theorem rows_eq : PyData.eqv (rowsD ITS) (rowsD ITS) = true := by decide +kernel
theorem nf_self {K : PySem.W.Frag} {C : Addr} : PySem.W.notFirst K C (.ref C) = true := by simp [PySem.W.notFirst]
def kvF (a b : Addr) : List (Key × V) := [(.inr "Use", .ref a), (.inr "Full", .ref b)]
theorem merge_F (a b : Addr) : mergeK [] (kvF a b) = kvF a b := merge_app (acc := []) (by
  show ([Sum.inr "Use", Sum.inr "Full"] : List Key).Nodup
  decide +kernel)
theorem its_names : (namesOf ITS).length = 13 := by decide +kernel
theorem tab_neF {xs : List V} {rs : List Addr} {a b : Addr} (h : (xs ++ rs.map V.ref).length = (namesOf ITS).length) : tabKV (namesOf ITS) (xs ++ rs.map V.ref) ≠ kvF a b := fun q => by
  have l := congrArg List.length q
  unfold tabKV at l
  rw [List.length_map, List.length_zip, h, its_names] at l
  have l : min 13 13 = 2 := l
  omega
section
variable {P : Program} {w : World} {K : PySem.W.Frag} {mg : Str → Option Value} {base : Heap} {cx : Str → Addr} {CF CSc CP CFl CE fP fG fC fEq fHas fGet fFl fPl fI f c Pt : Addr} {fdP fdG fdC fdFl fdPl fdI : FuncData} {T : List (Addr × Str)} {A : Around} {outer : List Env} {s : Shared} {H0 : Hp} {E : XK}
theorem fr0 (X : TxtFR P w K mg base cx CF CSc CP CFl CE fP fG fC fEq fHas fGet fFl fPl fI fdP fdG fdC fdFl fdPl fdI) (hr : Room 14 (A.deeper (PyProof.Rows.envOfC "_law_flow_right" (defScope sFlowRight) s.heap.objs.size f (.ref c)))) :
    ∃ t : TS, PS (cxOf CX0 P w K mg base NFR "_law_flow_right" (defScope sFlowRight) f (.ref c) A outer s H0 E).nox (stFR 0) t ∧ ∀ (Z : Ends) (H : Hp) (sch : Addr) (xs : List V) (rs : List Addr) (odd : V), SchAt K CF CSc H sch xs ITS rs →
      (∀ H' fl a b vals, Same H H' → FlowAt CFl CP (kvF a b) H' fl sch (namesOf ITS) vals → PlanAt CP H' b (.str "loop") .non (.str "who") → Z.nx [some (.ref sch), some odd, none, none, some (.ref fl)] H') → t Z [some (.ref sch), some odd, none, none, none] H := by
  have TP := X.TP
  have hr4 : Room 4 _ := hr.mono (by decide)
  obtain ⟨_, _, bU⟩ := pb_u1 TP.F
  obtain ⟨_, _, bU2⟩ := pb_u TP.F
  refine ⟨_, ps_set (i := 4) scFR.nd rfl (.inr rfl) (pe_make (E := E0) X.MF X.GF (hr.mono (by decide)) rfl X.gF X.bF .nil passL (pa_cons (L2.pv 0) (pa_cons (pe_disp (pps_cons pe_str (pe_makeK0 (E := E0) TP.M TP.G hr4 rfl TP.g bU passL (pk_cons pe_str pk_nil))
    (pps_cons pe_str (pe_makeK (n := 1) (E := E0) TP.M TP.G hr4 rfl TP.g bU2 passL (pa_cons pe_str pa_nil) (pk_cons pe_str pk_nil)) pps_nil)) rfl rfl (by intro q; cases q) (by decide)) pa_nil))), ?_⟩
  intro Z H sch xs rs odd S k
  have vw : ∀ {H : Hp}, Val K H (.str "who") := val_str (z := "who") (by decide +kernel) (by decide +kernel)
  have vl : ∀ {H : Hp}, Val K H (.str "loop") := val_str (z := "loop") (by decide +kernel) (by decide +kernel)
  refine ⟨_, rfl, fun p np => ?_⟩
  have s0 : Same H (upd H p (.dK [])) := same_upd (Same.refl H) np
  have v0 : (upd H p (.dK [])) p = some (.dK []) := upd_same
  generalize upd H p (.dK []) = G0 at s0 v0 ⊢
  refine ⟨rfl, rfl, fun a dxa na nda _ => plan_yes na nda val_steps val_non vw (by decide +kernel) fun G1 s1 P1 => ⟨rfl, ?_⟩⟩
  refine ⟨rfl, rfl, fun b dxb nb ndb _ => plan_yes nb ndb vl val_non vw (by decide +kernel) fun G2 s2 P2 => ⟨rfl, ?_⟩⟩
  have P1 := P1.same s2
  have v0 := s2 _ _ (s1 _ _ v0)
  have s0 := s0.trans (s1.trans s2)
  refine ⟨v0, kvF a b, rfl, (by show 2 ≤ 15; decide), ?_⟩
  rw [merge_F]
  have sK : Same H (upd G2 p (.dK (kvF a b))) := same_upd s0 np
  have hK : (upd G2 p (.dK (kvF a b))) p = some (.dK (kvF a b)) := upd_same
  have P1 : PlanAt CP (upd G2 p (.dK (kvF a b))) a _ _ _ := P1.but (kvs0 := []) (ButD.of v0 fun b o q z => by rw [upd_ne q]; exact z)
  have P2 : PlanAt CP (upd G2 p (.dK (kvF a b))) b _ _ _ := P2.but (kvs0 := []) (ButD.of v0 fun b o q z => by rw [upd_ne q]; exact z)
  generalize upd G2 p (.dK (kvF a b)) = HK at sK hK P1 P2 ⊢
  have SK := S.same sK
  have ne := tab_neF (a := a) (b := b) (sch_vals SK).1
  refine fun fl dx nf ndx _ => flow_good (CP := CP) (CFl := CFl) nf ndx SK hK ne (fun kv hkv => ?_) (by decide) fun H' vals s' FA => ⟨rfl, k H' fl a b vals (sK.trans s') FA (P2.same s')⟩
  rcases List.mem_cons.mp hkv with rfl | hkv
  · exact ⟨valB_str (z := "Use") (by decide +kernel) (by decide +kernel), _, .non, .str "who", names_row SK (i := 7) rfl, ⟨a, _, rfl, P1, rfl, rfl⟩, by decide +kernel⟩
  · obtain rfl := List.mem_singleton.mp hkv
    exact ⟨valB_str (z := "Full") (by decide +kernel) (by decide +kernel), _, .non, .str "who", names_row SK (i := 4) rfl, ⟨b, _, rfl, P2, rfl, rfl⟩, by decide +kernel⟩
end
end K2

namespace K2
open PySem PySem.Spec PyProof.Rows L2 E0 EG
open LamX (ExtN Tabs TabS TabB LamS lamS_by)
theorem valF_full {a b : Addr} : valV (kvF a b) (.inr "Full") = some (.ref b) := by
  unfold kvF
  rw [valV_neg (show ¬ ((Sum.inr "Use" : Key) = .inr "Full") by decide +kernel), valV_pos rfl]
theorem valF_none {a b : Addr} {z : Str} (h1 : ¬ ((Sum.inr "Use" : Key) = .inr z)) (h2 : ¬ ((Sum.inr "Full" : Key) = .inr z)) : valV (kvF a b) (.inr z) = none := by
  unfold kvF
  rw [valV_neg h1, valV_neg h2]
  rfl
def FWS : List Str := ["Set", "Seq", "Stop", "raw_s"]
theorem fws_all : (FWS.all fun z => hasV ITS (.str z) && decide (¬ ((Sum.inr "Use" : Key) = .inr z)) && decide (¬ ((Sum.inr "Full" : Key) = .inr z)) && decide (z.length ≤ 1000) && PyData.strOk z) = true := by decide +kernel
def dStp : PyData := .tuple [.str "steps", .none, .none]
theorem stp_ok : SeqAt.shaped dStp = true ∧ PyData.eqv dStp dStp = true := by decide +kernel
section
variable {P : Program} {w : World} {K : PySem.W.Frag} {mg : Str → Option Value} {base : Heap} {cx : Str → Addr} {CF CSc CP CFl CE fP fG fC fEq fHas fGet fFl fPl fI f c Pt : Addr} {fdP fdG fdC fdFl fdPl fdI : FuncData} {T : List (Addr × Str)} {A : Around} {outer : List Env} {s : Shared} {H0 : Hp} {E : XK}
theorem fr1 (X : TxtFR P w K mg base cx CF CSc CP CFl CE fP fG fC fEq fHas fGet fFl fPl fI fdP fdG fdC fdFl fdPl fdI) (hr : Room 14 (A.deeper (PyProof.Rows.envOfC "_law_flow_right" (defScope sFlowRight) s.heap.objs.size f (.ref c)))) :
    ∃ t : TS, PS (cxOf CX0 P w K mg base NFR "_law_flow_right" (defScope sFlowRight) f (.ref c) A outer s H0 E).nox (stFR 1) t ∧ ∀ (Z : Ends) (H : Hp) (sch fl a b : Addr) (xs : List V) (rs : List Addr) (vals : List V) (odd : V), SchAt K CF CSc H sch xs ITS rs → FlowAt CFl CP (kvF a b) H fl sch (namesOf ITS) vals → PlanAt CP H b (.str "loop") .non (.str "who") →
      Z.nx [some (.ref sch), some odd, none, none, some (.ref fl)] H → t Z [some (.ref sch), some odd, none, none, some (.ref fl)] H := by
  have TP := X.TP
  have hr3 : Room 3 _ := hr.mono (by decide)
  refine ⟨_, ps_if (PW.pt (pw_or (pt_cmpR (op_neO (E := E0) X.SK.OE X.SK.NE X.SK.GE hr3 pass0) (pe_fld (L2.pv 4) rfl) (L2.pv 0) (nomark _))
    (pw_or (pt_cmpR op_ne (pe_fld (pe_meth (E := E0) (L2.pv 4) X.FL.cl X.MP X.GP hr3 X.bP .nil passL (pa_cons pe_str pa_nil)) rfl) pe_str (nomark _))
    (pw_or1 (pt_cmpR op_ne (pe_fld (pe_methKw (E := E0) (L2.pv 4) X.FL.cl X.MP X.GP hr3 (plan_kb X.FP) passL (pk_cons pe_str pk_nil)) rfl) pe_str (nomark _)))))) (pss_one (ps_ret pe_bl)) pss_nil, ?_⟩
  intro Z H sch fl a b xs rs vals odd S FA ⟨db, hb⟩ k
  obtain ⟨dxs, fss, a0, b0, d0, p0, ts0, h1, _⟩ := S.ex
  obtain ⟨dx, d, fs, g1, g2, g3, gp, g4⟩ := FA.ex
  have full : ∀ (i : Nat) (v : V), (namesOf ITS)[i]? = some ("Full" : Str) → vals[i]? = some v → v = .ref b := fun i v e1 e2 => by
    rcases FA.pf.2 i _ v e1 e2 with q | ⟨q, _⟩
    · rw [valF_full] at q
      exact (Option.some.inj q).symm
    · rw [valF_full] at q
      cases q
  have vb : ValB K H (.str "Full") := valB_str (z := "Full") (by decide +kernel) (by decide +kernel)
  have hF : hasV ITS (.str "Full") = true := by decide +kernel
  refine ⟨_, rfl, fl, CFl, dx, fs, _, rfl, g1, X.FL.cl, X.FL.n1, g2, _, rfl, sch, dxs, fss, _, rfl, h1, X.SF.ty h1, nf_self, sch, xs, ITS, rs, _, rfl, S, .inl ⟨sch, xs, ITS, rs, rfl, S, _, rfl, _, rfl, ?_⟩⟩
  rw [rows_eq]
  refine iteF ?_
  refine ⟨_, rfl, fl, dx, fs, rfl, g1, gp, fl, sch, xs, ITS, rs, kvF a b, vals, _, rfl, S, FA, vb, .inr ⟨"Full", rfl, hF, fun i v e1 e2 => ?_⟩⟩
  obtain rfl := full i v e1 e2
  refine ⟨b, CP, db, _, _, rfl, hb, TP.C.cl, TP.n1, plan_look.1, rfl, _, rfl, ?_⟩
  rw [show (!decide (V.str "loop" = V.str "loop")) = false by decide +kernel]
  refine iteF ?_
  refine ⟨_, rfl, fl, dx, fs, rfl, g1, gp, fl, sch, xs, ITS, rs, kvF a b, vals, _, rfl, S, FA, vb, .inr ⟨"Full", rfl, hF, fun i v e1 e2 => ?_⟩⟩
  obtain rfl := full i v e1 e2
  refine ⟨b, CP, db, _, _, rfl, hb, TP.C.cl, TP.n3, plan_look.2.2, rfl, _, rfl, ?_⟩
  rw [show (!decide (V.str "who" = V.str "who")) = false by decide +kernel]
  exact iteF k
theorem fr2 (X : TxtFR P w K mg base cx CF CSc CP CFl CE fP fG fC fEq fHas fGet fFl fPl fI fdP fdG fdC fdFl fdPl fdI) (hr : Room 14 (A.deeper (PyProof.Rows.envOfC "_law_flow_right" (defScope sFlowRight) s.heap.objs.size f (.ref c)))) :
    ∃ t : TS, PS (cxOf CX0 P w K mg base NFR "_law_flow_right" (defScope sFlowRight) f (.ref c) A outer s H0 E).nox (stFR 2) t ∧ ∀ (Z : Ends) (H : Hp) (sch fl a b : Addr) (xs : List V) (rs : List Addr) (vals : List V) (odd : V), SchAt K CF CSc H sch xs ITS rs → FlowAt CFl CP (kvF a b) H fl sch (namesOf ITS) vals →
      (∀ H' v2 v3, Same H H' → Z.nx [some (.ref sch), some odd, v2, v3, some (.ref fl)] H') → t Z [some (.ref sch), some odd, none, none, some (.ref fl)] H := by
  have TP := X.TP
  have hr3 : Room 3 _ := hr.mono (by decide)
  refine ⟨_, ps_for PassesOwn.never rfl (pi_tup (pe_tup (pa_cons pe_str (pa_cons pe_str (pa_cons pe_str (pa_cons pe_str pa_nil)))))) (pg_name (i := 2) scFR.nd rfl (.inl rfl))
    (pss_cons (ps_set (i := 3) scFR.nd rfl (.inl rfl) (pe_meth (E := E0) (L2.pv 4) X.FL.cl X.MP X.GP hr3 X.bP .nil passL (pa_cons (L2.pv 2) pa_nil)))
    (pss_one (ps_if (pt_cmpR (op_neD hr.units) (pe_tup (pa_cons (pe_fld (L2.pv 3) rfl) (pa_cons (pe_fld (L2.pv 3) rfl) (pa_cons (pe_fld (L2.pv 3) rfl) pa_nil)))) (pe_tup (pa_cons pe_str (pa_cons pe_non (pa_cons pe_non pa_nil)))) (nomark _)) (pss_one (ps_ret pe_bl)) pss_nil))), ?_⟩
  intro Z H sch fl a b xs rs vals odd S FA k
  refine ⟨by show 4 ≤ sizeLine; decide, fun tp ntp => ?_⟩
  have s0 : Same H (upd H tp (.tup (FWS.map V.str))) := same_upd (Same.refl H) ntp
  have v0 : (upd H tp (.tup (FWS.map V.str))) tp = some (.tup (FWS.map V.str)) := upd_same
  refine ⟨tp, rfl, ⟨_, SqT.of v0⟩, for_tup (K := K) (a := tp) (xs := FWS.map V.str) (fun i σ H' => ∃ v2 v3 : Option V, σ = [some (.ref sch), some odd, v2, v3, some (.ref fl)] ∧ Same H H' ∧ H' tp = some (.tup (FWS.map V.str)))
    ⟨_, _, rfl, s0, v0⟩ (fun i σ H' _ ⟨_, _, _, _, q⟩ => SqT.of q) ?_ ?_⟩
  · rintro i x σ H1 hx ⟨v2, v3, rfl, s1, vt⟩
    obtain ⟨m, em, rfl⟩ : ∃ m, FWS[i]? = some m ∧ x = V.str m := by
      rw [List.getElem?_map] at hx
      cases q : FWS[i]? with
      | none => rw [q] at hx; cases hx
      | some r => rw [q] at hx; exact ⟨r, rfl, (Option.some.inj hx).symm⟩
    have q := List.all_eq_true.mp fws_all m (List.mem_of_getElem? em)
    simp only [Bool.and_eq_true, decide_eq_true_eq] at q
    obtain ⟨⟨⟨⟨q1, q2⟩, q3⟩, q4⟩, q5⟩ := q
    have S1 := S.same s1
    have FA1 := FA.ext (ExtN.of s1)
    obtain ⟨dx, d, fs, g1, g2, g3, gp, g4⟩ := FA1.ex
    refine ⟨_, rfl, fl, dx, fs, rfl, g1, gp, _, rfl, fl, sch, xs, ITS, rs, kvF a b, vals, _, rfl, S1, FA1, valB_str q4 q5, .inr ⟨m, rfl, q1, fun i v e1 e2 => ?_⟩⟩
    rcases FA1.pf.2 i _ v e1 e2 with z | ⟨_, y, rfl, dy, hy⟩
    · rw [valF_none q2 q3] at z
      cases z
    refine ⟨_, rfl, y, CP, dy, _, _, rfl, hy, TP.C.cl, TP.n1, plan_look.1, ?_⟩
    refine ⟨_, rfl, y, CP, dy, _, _, rfl, hy, TP.C.cl, TP.n2, plan_look.2.1, ?_⟩
    refine ⟨_, rfl, y, CP, dy, _, _, rfl, hy, TP.C.cl, TP.n3, plan_look.2.2, ?_⟩
    refine ⟨by show 3 ≤ sizeLine; decide, fun t1 n1 => ?_⟩
    have s2 : Same H1 (upd H1 t1 (.tup [steps, .non, .non])) := same_upd (Same.refl H1) n1
    have w1 : (upd H1 t1 (.tup [steps, .non, .non])) t1 = some (.tup [steps, .non, .non]) := upd_same
    generalize upd H1 t1 (.tup [steps, .non, .non]) = H2 at s2 w1 ⊢
    refine ⟨by show 3 ≤ sizeLine; decide, fun t2 n2 => ?_⟩
    have s3 : Same H2 (upd H2 t2 (.tup [.str "steps", .non, .non])) := same_upd (Same.refl H2) n2
    have w2 : (upd H2 t2 (.tup [.str "steps", .non, .non])) t2 = some (.tup [.str "steps", .non, .non]) := upd_same
    have w1 := s3 _ _ w1
    have dd : DpAll K (upd H2 t2 (.tup [.str "steps", .non, .non])) [.str "steps", .non, .non] [.str "steps", .none, .none] := .cons (.str _) (.cons .non (.cons .non .nil))
    refine ⟨dStp, dStp, .tup (SqT.of w1) dd, .tup (SqT.of w2) dd, stp_ok.1, stp_ok.1, _, rfl, ?_⟩
    rw [stp_ok.2]
    refine iteF ?_
    exact ⟨_, _, rfl, s1.trans (s2.trans s3), s3 _ _ (s2 _ _ vt)⟩
  · rintro σ H1 ⟨v2, v3, rfl, s1, _⟩
    exact k H1 v2 v3 s1
theorem fr3 (X : TxtFR P w K mg base cx CF CSc CP CFl CE fP fG fC fEq fHas fGet fFl fPl fI fdP fdG fdC fdFl fdPl fdI) (TB : TabB base mg c Pt) (hmT : (Pt, qFR) ∈ T) (hu : ∀ p ∈ T, p.1 = Pt → p.2 = qFR) (hG : A.guards = some []) (hr : Room 14 (A.deeper (PyProof.Rows.envOfC "_law_flow_right" (defScope sFlowRight) s.heap.objs.size f (.ref c)))) :
    ∃ t : TS, PS (cxOf CX0 P w K mg base NFR "_law_flow_right" (defScope sFlowRight) f (.ref c) A outer s H0 E).nox (stFR 3) t ∧ ∀ (Z : Ends) (H : Hp) (sch fl a b : Addr) (xs : List V) (rs : List Addr) (vals : List V) (odd : V) (v2 v3 : Option V), Tabs T H → SchAt K CF CSc H sch xs ITS rs → FlowAt CFl CP (kvF a b) H fl sch (namesOf ITS) vals → ValB K H odd → hasV ITS odd = false → OddAt K H odd →
      (∀ H', ExtN H H' → Tabs T H' → Z.rt (.bl true) H') → t Z [some (.ref sch), some odd, v2, v3, some (.ref fl)] H := by
  refine ⟨_, ps_ret (pe_callG X.GI (hr.mono (by decide)) hG rfl X.gI X.kI X.bI .nil pass0 (pa_cons (pe_got (t := fun E => tMeth CFl "plan" (spFlowPlan K (cx "UnknownName") CF CSc CFl CP) [] E (tVar 4) (tCons (tVar 1) tNil)) (k := 12) X.TG rfl TB rfl hmT hu (hr.mono (by decide)) hr (lamS_by (sc := defScope sFlowRight) (by decide +kernel)) rfl (fun _ _ _ _ _ => rfl)
      (fun _ _ _ _ E _ _ hr' => pe_meth (E := E) (L2.pv 4) X.FL.cl X.MP X.GP (hr'.mono (by decide)) X.bP .nil (passes_call (takes_of rfl rfl rfl rfl) (fun _ _ _ _ q => q)) (pa_cons (L2.pv 1) pa_nil))) (pa_cons pe_str (pa_cons (L2.pv 1) pa_nil)))), ?_⟩
  intro Z H sch fl a b xs rs vals odd v2 v3 tb S FA vb hn ho k
  refine got_unk (y := odd) tb (fun H1 E' Q' e1 bb => ?_) fun H' p e' t' hp => ?_
  · have FA1 := FA.ext e1
    obtain ⟨dx, d, fs, g1, g2, g3, gp, g4⟩ := FA1.ex
    exact ⟨_, rfl, fl, dx, fs, rfl, g1, gp, odd, rfl, fl, sch, xs, ITS, rs, kvF a b, vals, odd, rfl, S.ext e1, FA1, vb.ext e1, .inl ⟨hn, bb⟩⟩
  · exact ⟨odd, rfl, p, "UnknownName", odd, rfl, hp, ho.ext vb e', fun H'' s'' => k H'' (e'.trans (ExtN.of s'')) (t'.ext s'')⟩
end
def spFR (K : PySem.W.Frag) (CF CSc : Addr) (T : List (Addr × Str)) : Sp := fun vs H Q _ => ∃ (sch : Addr) (xs : List V) (rs : List Addr) (odd : V), vs = [.ref sch, odd] ∧ Tabs T H ∧ SchAt K CF CSc H sch xs ITS rs ∧ ValB K H odd ∧ hasV ITS odd = false ∧ OddAt K H odd ∧ ∀ H', ExtN H H' → Tabs T H' → Q (.bl true) H'
section
variable {P : Program} {w : World} {K : PySem.W.Frag} {mg : Str → Option Value} {base : Heap}
theorem ok_flowRight {cx : Str → Addr} {CF CSc CP CFl CE fP fG fC fEq fHas fGet fFl fPl fI f c Pt : Addr} {fd fdP fdG fdC fdFl fdPl fdI : FuncData} {T : List (Addr × Str)} (F : FunC K "_law_flow_right" "_law_flow_right" sFlowRight f fd c) (X : TxtFR P w K mg base cx CF CSc CP CFl CE fP fG fC fEq fHas fGet fFl fPl fI fdP fdG fdC fdFl fdPl fdI)
    (TB : TabB base mg c Pt) (hmT : (Pt, qFR) ∈ T) (hu : ∀ p ∈ T, p.1 = Pt → p.2 = qFR) : FnG P w K mg base CX0 15 f fd ["_law_base_here", "_law_odd"] (spFR K CF CSc T) := by
  refine okGC F scFR (fun vs H Q E h => ?_) (fun A outer s H vs Q E hr hG h => ?_)
  · obtain ⟨sch, xs, rs, odd, rfl, _⟩ := h
    rfl
  · obtain ⟨sch, xs, rs, odd, rfl, tb, S, vb, hn, ho, k⟩ := h
    obtain ⟨t0, p0, r0⟩ := fr0 (f := f) (c := c) (A := A) (outer := outer) (s := s) (H0 := H) (E := E) X hr
    obtain ⟨t1, p1, r1⟩ := fr1 (f := f) (c := c) (A := A) (outer := outer) (s := s) (H0 := H) (E := E) X hr
    obtain ⟨t2, p2, r2⟩ := fr2 (f := f) (c := c) (A := A) (outer := outer) (s := s) (H0 := H) (E := E) X hr
    obtain ⟨t3, p3, r3⟩ := fr3 (f := f) (c := c) (A := A) (outer := outer) (s := s) (H0 := H) (E := E) X TB hmT hu hG hr
    refine ⟨_, pss_cons p0 (pss_cons p1 (pss_cons p2 (pss_one p3))), ?_⟩
    refine r0 _ H sch xs rs odd S fun H1 fl a b vals s1 FA PA => ?_
    refine r1 _ H1 sch fl a b xs rs vals odd (S.same s1) FA PA ?_
    refine r2 _ H1 sch fl a b xs rs vals odd (S.same s1) FA fun H2 v2 v3 s2 => ?_
    have s12 := s1.trans s2
    refine r3 _ H2 sch fl a b xs rs vals odd v2 v3 (tb.ext s12) (S.same s12) (FA.ext (ExtN.of s2)) (vb.same s12) hn (ho.ext vb (ExtN.of s12)) fun H3 e3 t3 => ?_
    exact k H3 ((ExtN.of s12).trans e3) t3
end
end K2

namespace K2
open PySem PySem.Spec PyProof.Rows L2 E0 EG
open LamX (ExtN Tabs TabS TabB LamS lamS_by)
def DrawK (m lg : Addr) (H H' : Hp) : Prop := ∀ b o, b ≠ m → b ≠ lg → H b = some o → H' b = some o
/-- a value through the drawing -/
theorem ValB.keep {K : PySem.W.Frag} {H H' : Hp} {v : V} (h : ValB K H v) (k : ∀ a o, v = .ref a → H a = some o → H' a = some o) : ValB K H' v := by
  rcases h with h | ⟨h1, h2, t, h3, h4⟩
  · exact .inl h
  · exact .inr ⟨h1, fun a e => let ⟨o, q, n⟩ := h2 a e; ⟨o, k a o e q, n⟩, t, TyX.keep h3 k, h4⟩
theorem NoPlan.keep {K : PySem.W.Frag} {CP : Addr} {H H' : Hp} {v : V} (h : NoPlan K CP H v) (k : ∀ a o, v = .ref a → H a = some o → H' a = some o) : NoPlan K CP H' v :=
  ⟨fun a e => let ⟨o, q, n⟩ := h.1 a e; ⟨o, k a o e q, n⟩, let ⟨t, ht, hk⟩ := h.2; ⟨t, TyX.keep ht k, hk⟩⟩
def Off (m lg : Addr) (v : V) : Prop := ∀ a, v = .ref a → a ≠ m ∧ a ≠ lg
theorem Off.keep {m lg : Addr} {H H' : Hp} {v : V} (o : Off m lg v) (e : DrawK m lg H H') : ∀ a u, v = .ref a → H a = some u → H' a = some u := fun a u q h => e a u (o a q).1 (o a q).2 h
def POdd (K : PySem.W.Frag) (CP m lg : Addr) (H : Hp) (v : V) : Prop := ValB K H v ∧ wordV ORD v = false ∧ NoPlan K CP H v ∧ Off m lg v
def PSlot (K : PySem.W.Frag) (m lg : Addr) (H : Hp) (v : V) : Prop := ValB K H v ∧ v ≠ .non ∧ nameV v = false ∧ Off m lg v
inductive KD (H : Hp) : V → PyData → Prop
  | str (z : Str) : KD H (.str z) (.str z)
  | int (i : Int) : KD H (.int i) (.int i)
  | bl (b : Bool) : KD H (.bl b) (.bool b)
  | tup {a : Addr} {ws : List Str} (e : H a = some (.tup (ws.map V.str))) : KD H (.ref a) (.tuple (ws.map PyData.str))
theorem KD.keep {H H' : Hp} {v : V} {d : PyData} (h : KD H v d) (k : ∀ a o, v = .ref a → H a = some o → H' a = some o) : KD H' v d := by
  cases h with
  | str z => exact .str z
  | int i => exact .int i
  | bl b => exact .bl b
  | tup e => exact .tup (k _ _ rfl e)
theorem KD.key {H : Hp} {v : V} {d : PyData} (h : KD H v d) : KeyVOk H v := by
  cases h with
  | str z => exact .str z
  | int i => exact .int i
  | bl b => exact .bl b
  | tup e => exact .tup e
theorem KD.dp {K : PySem.W.Frag} {H : Hp} {v : V} {d : PyData} (h : KD H v d) : Dp K H v d := by
  cases h with
  | str z => exact .str z
  | int i => exact .int i
  | bl b => exact .bl b
  | @tup a ws e =>
    refine .tup (SqT.of e) ?_
    have key : ∀ ws : List Str, DpAll K H (ws.map V.str) (ws.map PyData.str) := fun ws => by
      induction ws with
      | nil => exact .nil
      | cons w ws ih => exact .cons (.str w) ih
    exact key ws
def PWord (K : PySem.W.Frag) (m lg : Addr) (H : Hp) (v : V) : Prop := ValB K H v ∧ hasV ITS v = false ∧ (∃ d, KD H v d ∧ goodER d = true) ∧ Off m lg v
def PFar (K : PySem.W.Frag) (H : Hp) (v : V) : Prop := ValB K H v ∧ hasV ITS v = false ∧ OddAt K H v
theorem POdd.draw {K : PySem.W.Frag} {CP m lg : Addr} {H H' : Hp} {v : V} (h : POdd K CP m lg H v) (e : DrawK m lg H H') : POdd K CP m lg H' v := let ⟨a, b, c, o⟩ := h; ⟨a.keep (o.keep e), b, c.keep (o.keep e), o⟩
theorem PSlot.draw {K : PySem.W.Frag} {m lg : Addr} {H H' : Hp} {v : V} (h : PSlot K m lg H v) (e : DrawK m lg H H') : PSlot K m lg H' v := let ⟨a, b, c, o⟩ := h; ⟨a.keep (o.keep e), b, c, o⟩
theorem PWord.draw {K : PySem.W.Frag} {m lg : Addr} {H H' : Hp} {v : V} (h : PWord K m lg H v) (e : DrawK m lg H H') : PWord K m lg H' v := let ⟨a, b, ⟨d, c, g⟩, o⟩ := h; ⟨a.keep (o.keep e), b, ⟨d, c.keep (o.keep e), g⟩, o⟩
/-! ### a schema through the drawing -/
def KpS (kvs0 : List (Key × V)) (H H' : Hp) : Prop := ∀ b o, H b = some o → o ≠ .dK kvs0 → (∀ xs, o ≠ .lst xs) → H' b = some o
theorem KpS.of {m lc lg : Addr} {n : Int} {H H' : Hp} (M : MA m lc lg n H) (e : DrawK m lg H H') : KpS (mD lc lg n) H H' := fun b o q h1 h2 => by
  obtain ⟨gs, hg, _⟩ := M.hg
  refine e b o (fun z => ?_) (fun z => ?_) q
  · rw [z, M.hm] at q
    exact h1 (Option.some.inj q).symm
  · rw [z, hg] at q
    exact h2 _ (Option.some.inj q).symm
section
variable {kvs0 : List (Key × V)} {H H' : Hp} {K : PySem.W.Frag} {CF CSc : Addr}
theorem SlotTup.kps {p : Addr} {kvs : List (Key × V)} (h : SlotTup H p kvs) (e : KpS kvs0 H H') : SlotTup H' p kvs := by
  obtain ⟨ts, e1, e2⟩ := h
  exact ⟨ts, e _ _ e1 nofun nofun, Paired.mapP e2 fun t q z => e _ _ z nofun nofun⟩
theorem FormAt.kps {y : Addr} {n s : V} {kvs : List (Key × V)} (h : FormAt CF H y n s kvs) (e : KpS kvs0 H H') : FormAt CF H' y n s kvs := by
  obtain ⟨dx, p, fs, a, b, c, d, st⟩ := h.ex
  exact ⟨dx, p, fs, e _ _ a nofun nofun, b, c, d, st.kps e⟩
theorem items_kps : ∀ {xs : List V} {its : List Itm}, Paired (ItmAt K CF H) xs its → (∀ i ∈ its, isForm i = true) → KpS kvs0 H H' → Paired (ItmAt K CF H') xs its
  | _, _, .nil, _, _ => .nil
  | _, .odd :: _, .cons _ _, h, _ => nomatch h _ (List.mem_cons_self ..)
  | _, .form _ _ _ :: _, .cons a t, h, e => by
    obtain ⟨x, q, f⟩ := a
    exact .cons ⟨x, q, f.kps e⟩ (items_kps t (fun i hi => h i (List.mem_cons_of_mem _ hi)) e)
theorem SchAt.kps {x : Addr} {xs : List V} {its : List Itm} {rs : List Addr} (S : SchAt K CF CSc H x xs its rs) (e : KpS kvs0 H H') (n : tabKV (namesOf its) (xs ++ rs.map V.ref) ≠ kvs0) : SchAt K CF CSc H' x xs its rs := by
  obtain ⟨dx, fs, a, b, d, p, ts, h1, h2, h3, h4, h5, h6, h7, h8, h9, h10, h11, h12⟩ := S.ex
  have f1 := (check_none (due_forms S.due).1).1
  refine ⟨⟨dx, fs, a, b, d, p, ts, e _ _ h1 nofun nofun, h2, h3, h4, h5, e _ _ h6 nofun nofun, e _ _ h7 nofun nofun, e _ _ h8 (fun q => n (HO.dK.inj q)) nofun, e _ _ h9 nofun nofun, items_kps h10 f1 e, Paired.mapP h11 fun r z q => FormAt.kps q e, Paired.mapP h12 fun t i q => ?_⟩, S.due, S.ok⟩
  cases i with
  | odd => exact q
  | form n s ps =>
    obtain ⟨q2, e1, e2⟩ := q
    exact ⟨q2, e _ _ e1 nofun nofun, e2.kps e⟩
theorem SchAt.draw {m lc lg x : Addr} {n : Int} {xs : List V} {rs : List Addr} (S : SchAt K CF CSc H x xs ITS rs) (M : MA m lc lg n H) (e : DrawK m lg H H') : SchAt K CF CSc H' x xs ITS rs := by
  refine S.kps (KpS.of M e) fun q => ?_
  have l := congrArg List.length q
  unfold tabKV at l
  rw [List.length_map, List.length_zip, (sch_vals S).1, its_names] at l
  have l : min 13 13 = 3 := l
  omega
end
/-! ### the draws of the law -/
def NLW : List Str := ["_law_script", "_law_m", "_law_base_here", "_law_again", "_law_odd", "_law_slot", "_law_word", "_law_far"]
theorem scLaw : FnScope NLW ["_law_script"] (defScope sLaw) := ⟨rfl, rfl, rfl, by decide +kernel, rfl, by decide +kernel, by decide +kernel⟩
def bdLW : List Stmt := match defBody sLaw with
  | _ :: .For _ _ body _ _ :: _ => body
  | _ => []
def stLW (i : Nat) : Stmt := bdLW.getD i (.Pass ⟨0, 0, 0, 0⟩)
/-- a def, where it stands and how it is called -/
structure DefA (K : PySem.W.Frag) (mg : Str → Option Value) (x : Str) (ps : List Str) (f : Addr) (fd : FuncData) : Prop where
  g : mg x = some (.ref f)
  k : PySem.W.keepIn K (.ref f) = true
  b : Binds K fd ps []
structure NoP (K : PySem.W.Frag) (CP : Addr) : Prop where
  NoneType : PySem.W.kitOne K (.type "NoneType") (.ref CP) = some false
  int : PySem.W.kitOne K (.type "int") (.ref CP) = some false
  bool : PySem.W.kitOne K (.type "bool") (.ref CP) = some false
  str : PySem.W.kitOne K (.type "str") (.ref CP) = some false
  list : PySem.W.kitOne K (.type "list") (.ref CP) = some false
  tuple : PySem.W.kitOne K (.type "tuple") (.ref CP) = some false
  dict : PySem.W.kitOne K (.type "dict") (.ref CP) = some false
structure TxtLW (P : Program) (w : World) (K : PySem.W.Frag) (mg : Str → Option Value) (base : Heap) (CP fD fB : Addr) (fdD fdB : FuncData) : Prop where
  GDr : FnOk P w K mg base CX0 2 fD fdD ["_law_m", "_law_top"] spDraw
  ADr : DefA K mg "_law_draw" ["_law_m", "_law_top"] fD fdD
  GD : FnOk P w K mg base CX0 1 fB fdB [] spDoubled
  AD : DefA K mg "_law_doubled" [] fB fdB
  NP : NoP K CP
section
variable {P : Program} {w : World} {K : PySem.W.Frag} {mg : Str → Option Value} {base : Heap} {CP fD fB f c : Addr} {fdD fdB : FuncData} {A : Around} {outer : List Env} {s : Shared} {H0 : Hp} {E : XK}
theorem lw_odd (X : TxtLW P w K mg base CP fD fB fdD fdB) (hr : Room 20 (A.deeper (PyProof.Rows.envOfC "law" (defScope sLaw) s.heap.objs.size f (.ref c)))) :
    ∃ t : TS, PS (cxOf CX0 P w K mg base NLW "law" (defScope sLaw) f (.ref c) A outer s H0 E).nox (stLW 0) t ∧ ∀ (Z : Ends) (H : Hp) (sc m lc lg sch : Addr) (n : Int) (ag v4 v5 v6 v7 : Option V), MA m lc lg n H → n ≤ 1000000 →
      (∀ H' v, DrawK m lg H H' → MA m lc lg (n + 1) H' → POdd K CP m lg H' v → Z.nx [some (.ref sc), some (.ref m), some (.ref sch), ag, some v, v5, v6, v7] H') → t Z [some (.ref sc), some (.ref m), some (.ref sch), ag, v4, v5, v6, v7] H := by
  have hr1 : Room 1 _ := hr.mono (by decide)
  have hr2 : Room 2 _ := hr.mono (by decide)
  refine ⟨_, ps_set (i := 4) scLaw.nd rfl (.inl rfl) (pe_ix ix_list (pe_lst (pa_cons pe_non (pa_cons pe_int (pa_cons pe_bl (pa_cons pe_str (pa_cons pe_str (pa_cons pe_str (pa_cons (pe_lst (pa_cons pe_str pa_nil)) (pa_cons (pe_tup (pa_cons pe_str pa_nil)) (pa_cons pe_dnewK (pa_cons (pe_call0 X.GD hr1 rfl X.AD.g X.AD.k X.AD.b .nil pass0) pa_nil))))))))))) (pe_call X.GDr hr2 (by rfl) X.ADr.g X.ADr.k X.ADr.b .nil pass0 (pa_cons (L2.pv 1) (pa_cons pe_int pa_nil))) (fun _ _ => rfl)), ?_⟩
  intro Z H sc m lc lg sch n ag v4 v5 v6 v7 M hn k
  obtain ⟨gs, hg, gl⟩ := M.hg
  have nm : ∀ {a : Addr}, H a = none → a ≠ m ∧ a ≠ lg := fun {a} h => ⟨(ne_of_none M.hm h).symm, (ne_of_none hg h).symm⟩
  have s0 : Same H H := Same.refl H
  refine ⟨by show 1 ≤ sizeLine; decide, fun a6 n6 => ?_⟩
  have t6 : Same H (upd H a6 (.lst [.str "steps"])) := same_upd (Same.refl H) n6
  have w6 : (upd H a6 (.lst [.str "steps"])) a6 = some (.lst [.str "steps"]) := upd_same
  generalize upd H a6 (.lst [.str "steps"]) = G6 at t6 w6 ⊢
  have o6 := nm (s0.free n6)
  have s0 := s0.trans t6
  refine ⟨by show 1 ≤ sizeLine; decide, fun a7 n7 => ?_⟩
  have t7 : Same G6 (upd G6 a7 (.tup [.str "loop"])) := same_upd (Same.refl G6) n7
  have w7 : (upd G6 a7 (.tup [.str "loop"])) a7 = some (.tup [.str "loop"]) := upd_same
  generalize upd G6 a7 (.tup [.str "loop"]) = G7 at t7 w7 ⊢
  have o7 := nm (s0.free n7)
  have s0 := s0.trans t7
  have w6 := t7 _ _ w6
  refine fun a8 n8 => ?_
  have t8 : Same G7 (upd G7 a8 (.dK [])) := same_upd (Same.refl G7) n8
  have w8 : (upd G7 a8 (.dK [])) a8 = some (.dK []) := upd_same
  generalize upd G7 a8 (.dK []) = G8 at t8 w8 ⊢
  have o8 := nm (s0.free n8)
  have s0 := s0.trans t8
  have w6 := t8 _ _ w6
  have w7 := t8 _ _ w7
  refine ⟨rfl, fun G9 a9 q9 ys9 t9 n9 w9 _ => ?_⟩
  have o9 := nm (s0.free n9)
  have s0 := s0.trans t9
  have w6 := t9 _ _ w6
  have w7 := t9 _ _ w7
  have w8 := t9 _ _ w8
  refine ⟨by show 10 ≤ sizeLine; decide, fun L nL => ?_⟩
  have tL : Same G9 (upd G9 L (.lst [V.non, V.int 5, V.bl true, V.str "", V.str "Steps", V.str "step", V.ref a6, V.ref a7, V.ref a8, V.ref a9])) := same_upd (Same.refl G9) nL
  have wL : (upd G9 L (.lst [V.non, V.int 5, V.bl true, V.str "", V.str "Steps", V.str "step", V.ref a6, V.ref a7, V.ref a8, V.ref a9])) L = some (.lst [V.non, V.int 5, V.bl true, V.str "", V.str "Steps", V.str "step", V.ref a6, V.ref a7, V.ref a8, V.ref a9]) := upd_same
  generalize upd G9 L (.lst [V.non, V.int 5, V.bl true, V.str "", V.str "Steps", V.str "step", V.ref a6, V.ref a7, V.ref a8, V.ref a9]) = GL at tL wL ⊢
  have oL := nm (s0.free nL)
  have s0 := s0.trans tL
  have w6 := tL _ _ w6
  have w7 := tL _ _ w7
  have w8 := tL _ _ w8
  have w9 := tL _ _ w9
  refine ⟨_, rfl, m, lc, lg, n, 10, rfl, M.same s0, hn, by decide, by decide, fun HD d d0 d1 MD kd => ?_⟩
  have wL := kd _ _ oL.1 oL.2 wL
  have w6 := kd _ _ o6.1 o6.2 w6
  have w7 := kd _ _ o7.1 o7.2 w7
  have w8 := kd _ _ o8.1 o8.2 w8
  have w9 := kd _ _ o9.1 o9.2 w9
  have all : ∀ v ∈ ([V.non, V.int 5, V.bl true, V.str "", V.str "Steps", V.str "step", V.ref a6, V.ref a7, V.ref a8, V.ref a9] : List V), POdd K CP m lg HD v := (List.forall_mem_cons.mpr ⟨⟨valB_non, by decide +kernel, ⟨(fun a e => nomatch e), _, .base .non, X.NP.NoneType⟩, (fun a e => nomatch e)⟩, (List.forall_mem_cons.mpr ⟨⟨valB_int, by decide +kernel, ⟨(fun a e => nomatch e), _, .base (.int 5), X.NP.int⟩, (fun a e => nomatch e)⟩, (List.forall_mem_cons.mpr ⟨⟨valB_bl, by decide +kernel, ⟨(fun a e => nomatch e), _, .base (.bl true), X.NP.bool⟩, (fun a e => nomatch e)⟩, (List.forall_mem_cons.mpr ⟨⟨(valB_str (z := "") (by decide +kernel) (by decide +kernel)), by decide +kernel, ⟨(fun a e => nomatch e), _, .base (.str _), X.NP.str⟩, (fun a e => nomatch e)⟩, (List.forall_mem_cons.mpr ⟨⟨(valB_str (z := "Steps") (by decide +kernel) (by decide +kernel)), by decide +kernel, ⟨(fun a e => nomatch e), _, .base (.str _), X.NP.str⟩, (fun a e => nomatch e)⟩, (List.forall_mem_cons.mpr ⟨⟨(valB_str (z := "step") (by decide +kernel) (by decide +kernel)), by decide +kernel, ⟨(fun a e => nomatch e), _, .base (.str _), X.NP.str⟩, (fun a e => nomatch e)⟩, (List.forall_mem_cons.mpr ⟨⟨(valB_lst w6), rfl, ⟨(fun a e => (by cases e; exact ⟨_, w6, nofun⟩)), _, .base (.lst w6), X.NP.list⟩, (fun a e => (by cases e; exact o6))⟩, (List.forall_mem_cons.mpr ⟨⟨(valB_tup w7), rfl, ⟨(fun a e => (by cases e; exact ⟨_, w7, nofun⟩)), _, .base (.tup w7), X.NP.tuple⟩, (fun a e => (by cases e; exact o7))⟩, (List.forall_mem_cons.mpr ⟨⟨(valB_dK w8), rfl, ⟨(fun a e => (by cases e; exact ⟨_, w8, nofun⟩)), _, .base (.dK w8), X.NP.dict⟩, (fun a e => (by cases e; exact o8))⟩, (List.forall_mem_cons.mpr ⟨⟨(valB_tup w9), rfl, ⟨(fun a e => (by cases e; exact ⟨_, w9, nofun⟩)), _, .base (.tup w9), X.NP.tuple⟩, (fun a e => (by cases e; exact o9))⟩, (List.forall_mem_nil _)⟩)⟩)⟩)⟩)⟩)⟩)⟩)⟩)⟩)⟩)
  obtain ⟨kk, rfl⟩ : ∃ kk : Nat, d = (kk : Int) := ⟨d.toNat, (Int.toNat_of_nonneg d0).symm⟩
  obtain ⟨v, ev⟩ : ∃ v, ([V.non, V.int 5, V.bl true, V.str "", V.str "Steps", V.str "step", V.ref a6, V.ref a7, V.ref a8, V.ref a9] : List V)[kk]? = some v := ⟨_, List.getElem?_eq_getElem (show kk < 10 by omega)⟩
  refine ⟨L, _, _, v, rfl, rfl, SqL.of wL, atI_nat ev, ?_⟩
  exact k HD v (fun b o h1 h2 e => kd b o h1 h2 (s0 _ _ e)) MD (all v (List.mem_of_getElem? ev))
theorem lw_slot (X : TxtLW P w K mg base CP fD fB fdD fdB) (hr : Room 20 (A.deeper (PyProof.Rows.envOfC "law" (defScope sLaw) s.heap.objs.size f (.ref c)))) :
    ∃ t : TS, PS (cxOf CX0 P w K mg base NLW "law" (defScope sLaw) f (.ref c) A outer s H0 E).nox (stLW 1) t ∧ ∀ (Z : Ends) (H : Hp) (sc m lc lg sch : Addr) (n : Int) (ag v4 v5 v6 v7 : Option V), MA m lc lg n H → n ≤ 1000000 →
      (∀ H' v, DrawK m lg H H' → MA m lc lg (n + 1) H' → PSlot K m lg H' v → Z.nx [some (.ref sc), some (.ref m), some (.ref sch), ag, v4, some v, v6, v7] H') → t Z [some (.ref sc), some (.ref m), some (.ref sch), ag, v4, v5, v6, v7] H := by
  have hr1 : Room 1 _ := hr.mono (by decide)
  have hr2 : Room 2 _ := hr.mono (by decide)
  refine ⟨_, ps_set (i := 5) scLaw.nd rfl (.inl rfl) (pe_ix ix_list (pe_lst (pa_cons pe_int (pa_cons pe_bl (pa_cons pe_str (pa_cons pe_str (pa_cons pe_str (pa_cons (pe_op op_mul_str pe_str pe_int) (pa_cons (pe_lst (pa_cons pe_str pa_nil)) (pa_cons (pe_tup (pa_cons pe_str pa_nil)) (pa_cons pe_dnewK (pa_cons (pe_call0 X.GD hr1 rfl X.AD.g X.AD.k X.AD.b .nil pass0) pa_nil))))))))))) (pe_call X.GDr hr2 (by rfl) X.ADr.g X.ADr.k X.ADr.b .nil pass0 (pa_cons (L2.pv 1) (pa_cons pe_int pa_nil))) (fun _ _ => rfl)), ?_⟩
  intro Z H sc m lc lg sch n ag v4 v5 v6 v7 M hn k
  obtain ⟨gs, hg, gl⟩ := M.hg
  have nm : ∀ {a : Addr}, H a = none → a ≠ m ∧ a ≠ lg := fun {a} h => ⟨(ne_of_none M.hm h).symm, (ne_of_none hg h).symm⟩
  have s0 : Same H H := Same.refl H
  refine ⟨"x", 21, rfl, rfl, by decide, by decide, by decide +kernel, by decide +kernel, by decide +kernel, ?_⟩
  refine ⟨by show 1 ≤ sizeLine; decide, fun a6 n6 => ?_⟩
  have t6 : Same H (upd H a6 (.lst [.str "who"])) := same_upd (Same.refl H) n6
  have w6 : (upd H a6 (.lst [.str "who"])) a6 = some (.lst [.str "who"]) := upd_same
  generalize upd H a6 (.lst [.str "who"]) = G6 at t6 w6 ⊢
  have o6 := nm (s0.free n6)
  have s0 := s0.trans t6
  refine ⟨by show 1 ≤ sizeLine; decide, fun a7 n7 => ?_⟩
  have t7 : Same G6 (upd G6 a7 (.tup [.str "who"])) := same_upd (Same.refl G6) n7
  have w7 : (upd G6 a7 (.tup [.str "who"])) a7 = some (.tup [.str "who"]) := upd_same
  generalize upd G6 a7 (.tup [.str "who"]) = G7 at t7 w7 ⊢
  have o7 := nm (s0.free n7)
  have s0 := s0.trans t7
  have w6 := t7 _ _ w6
  refine fun a8 n8 => ?_
  have t8 : Same G7 (upd G7 a8 (.dK [])) := same_upd (Same.refl G7) n8
  have w8 : (upd G7 a8 (.dK [])) a8 = some (.dK []) := upd_same
  generalize upd G7 a8 (.dK []) = G8 at t8 w8 ⊢
  have o8 := nm (s0.free n8)
  have s0 := s0.trans t8
  have w6 := t8 _ _ w6
  have w7 := t8 _ _ w7
  refine ⟨rfl, fun G9 a9 q9 ys9 t9 n9 w9 _ => ?_⟩
  have o9 := nm (s0.free n9)
  have s0 := s0.trans t9
  have w6 := t9 _ _ w6
  have w7 := t9 _ _ w7
  have w8 := t9 _ _ w8
  refine ⟨by show 10 ≤ sizeLine; decide, fun L nL => ?_⟩
  have tL : Same G9 (upd G9 L (.lst [V.int 5, V.bl true, V.str "", V.str "1a", V.str "a b", V.str (timesS "x" 21), V.ref a6, V.ref a7, V.ref a8, V.ref a9])) := same_upd (Same.refl G9) nL
  have wL : (upd G9 L (.lst [V.int 5, V.bl true, V.str "", V.str "1a", V.str "a b", V.str (timesS "x" 21), V.ref a6, V.ref a7, V.ref a8, V.ref a9])) L = some (.lst [V.int 5, V.bl true, V.str "", V.str "1a", V.str "a b", V.str (timesS "x" 21), V.ref a6, V.ref a7, V.ref a8, V.ref a9]) := upd_same
  generalize upd G9 L (.lst [V.int 5, V.bl true, V.str "", V.str "1a", V.str "a b", V.str (timesS "x" 21), V.ref a6, V.ref a7, V.ref a8, V.ref a9]) = GL at tL wL ⊢
  have oL := nm (s0.free nL)
  have s0 := s0.trans tL
  have w6 := tL _ _ w6
  have w7 := tL _ _ w7
  have w8 := tL _ _ w8
  have w9 := tL _ _ w9
  refine ⟨_, rfl, m, lc, lg, n, 10, rfl, M.same s0, hn, by decide, by decide, fun HD d d0 d1 MD kd => ?_⟩
  have wL := kd _ _ oL.1 oL.2 wL
  have w6 := kd _ _ o6.1 o6.2 w6
  have w7 := kd _ _ o7.1 o7.2 w7
  have w8 := kd _ _ o8.1 o8.2 w8
  have w9 := kd _ _ o9.1 o9.2 w9
  have all : ∀ v ∈ ([V.int 5, V.bl true, V.str "", V.str "1a", V.str "a b", V.str (timesS "x" 21), V.ref a6, V.ref a7, V.ref a8, V.ref a9] : List V), PSlot K m lg HD v := (List.forall_mem_cons.mpr ⟨⟨valB_int, nofun, by decide +kernel, (fun a e => nomatch e)⟩, (List.forall_mem_cons.mpr ⟨⟨valB_bl, nofun, by decide +kernel, (fun a e => nomatch e)⟩, (List.forall_mem_cons.mpr ⟨⟨(valB_str (z := "") (by decide +kernel) (by decide +kernel)), nofun, by decide +kernel, (fun a e => nomatch e)⟩, (List.forall_mem_cons.mpr ⟨⟨(valB_str (z := "1a") (by decide +kernel) (by decide +kernel)), nofun, by decide +kernel, (fun a e => nomatch e)⟩, (List.forall_mem_cons.mpr ⟨⟨(valB_str (z := "a b") (by decide +kernel) (by decide +kernel)), nofun, by decide +kernel, (fun a e => nomatch e)⟩, (List.forall_mem_cons.mpr ⟨⟨(valB_str (z := timesS "x" 21) (by decide +kernel) (by decide +kernel)), nofun, by decide +kernel, (fun a e => nomatch e)⟩, (List.forall_mem_cons.mpr ⟨⟨(valB_lst w6), nofun, rfl, (fun a e => (by cases e; exact o6))⟩, (List.forall_mem_cons.mpr ⟨⟨(valB_tup w7), nofun, rfl, (fun a e => (by cases e; exact o7))⟩, (List.forall_mem_cons.mpr ⟨⟨(valB_dK w8), nofun, rfl, (fun a e => (by cases e; exact o8))⟩, (List.forall_mem_cons.mpr ⟨⟨(valB_tup w9), nofun, rfl, (fun a e => (by cases e; exact o9))⟩, (List.forall_mem_nil _)⟩)⟩)⟩)⟩)⟩)⟩)⟩)⟩)⟩)⟩)
  obtain ⟨kk, rfl⟩ : ∃ kk : Nat, d = (kk : Int) := ⟨d.toNat, (Int.toNat_of_nonneg d0).symm⟩
  obtain ⟨v, ev⟩ : ∃ v, ([V.int 5, V.bl true, V.str "", V.str "1a", V.str "a b", V.str (timesS "x" 21), V.ref a6, V.ref a7, V.ref a8, V.ref a9] : List V)[kk]? = some v := ⟨_, List.getElem?_eq_getElem (show kk < 10 by omega)⟩
  refine ⟨L, _, _, v, rfl, rfl, SqL.of wL, atI_nat ev, ?_⟩
  exact k HD v (fun b o h1 h2 e => kd b o h1 h2 (s0 _ _ e)) MD (all v (List.mem_of_getElem? ev))
theorem lw_word (X : TxtLW P w K mg base CP fD fB fdD fdB) (hr : Room 20 (A.deeper (PyProof.Rows.envOfC "law" (defScope sLaw) s.heap.objs.size f (.ref c)))) :
    ∃ t : TS, PS (cxOf CX0 P w K mg base NLW "law" (defScope sLaw) f (.ref c) A outer s H0 E).nox (stLW 2) t ∧ ∀ (Z : Ends) (H : Hp) (sc m lc lg sch : Addr) (n : Int) (ag v4 v5 v6 v7 : Option V), MA m lc lg n H → n ≤ 1000000 →
      (∀ H' v, DrawK m lg H H' → MA m lc lg (n + 1) H' → PWord K m lg H' v → Z.nx [some (.ref sc), some (.ref m), some (.ref sch), ag, v4, v5, some v, v7] H') → t Z [some (.ref sc), some (.ref m), some (.ref sch), ag, v4, v5, v6, v7] H := by
  have hr1 : Room 1 _ := hr.mono (by decide)
  have hr2 : Room 2 _ := hr.mono (by decide)
  refine ⟨_, ps_set (i := 6) scLaw.nd rfl (.inl rfl) (pe_ix ix_list (pe_lst (pa_cons pe_str (pa_cons pe_str (pa_cons pe_str (pa_cons pe_str (pa_cons pe_str (pa_cons pe_str (pa_cons pe_int (pa_cons pe_bl (pa_cons (pe_tup pa_nil) (pa_cons (pe_tup (pa_cons pe_str pa_nil)) pa_nil))))))))))) (pe_call X.GDr hr2 (by rfl) X.ADr.g X.ADr.k X.ADr.b .nil pass0 (pa_cons (L2.pv 1) (pa_cons pe_int pa_nil))) (fun _ _ => rfl)), ?_⟩
  intro Z H sc m lc lg sch n ag v4 v5 v6 v7 M hn k
  obtain ⟨gs, hg, gl⟩ := M.hg
  have nm : ∀ {a : Addr}, H a = none → a ≠ m ∧ a ≠ lg := fun {a} h => ⟨(ne_of_none M.hm h).symm, (ne_of_none hg h).symm⟩
  have s0 : Same H H := Same.refl H
  refine ⟨by show 0 ≤ sizeLine; decide, fun a8 n8 => ?_⟩
  have t8 : Same H (upd H a8 (.tup [])) := same_upd (Same.refl H) n8
  have w8 : (upd H a8 (.tup [])) a8 = some (.tup []) := upd_same
  generalize upd H a8 (.tup []) = G8 at t8 w8 ⊢
  have o8 := nm (s0.free n8)
  have s0 := s0.trans t8
  refine ⟨by show 1 ≤ sizeLine; decide, fun a9 n9 => ?_⟩
  have t9 : Same G8 (upd G8 a9 (.tup [.str "Set"])) := same_upd (Same.refl G8) n9
  have w9 : (upd G8 a9 (.tup [.str "Set"])) a9 = some (.tup [.str "Set"]) := upd_same
  generalize upd G8 a9 (.tup [.str "Set"]) = G9 at t9 w9 ⊢
  have o9 := nm (s0.free n9)
  have s0 := s0.trans t9
  have w8 := t9 _ _ w8
  refine ⟨by show 10 ≤ sizeLine; decide, fun L nL => ?_⟩
  have tL : Same G9 (upd G9 L (.lst [V.str "If", V.str "", V.str "set", V.str "raw_", V.str "raw_e", V.str "raw_Set", V.int 5, V.bl true, V.ref a8, V.ref a9])) := same_upd (Same.refl G9) nL
  have wL : (upd G9 L (.lst [V.str "If", V.str "", V.str "set", V.str "raw_", V.str "raw_e", V.str "raw_Set", V.int 5, V.bl true, V.ref a8, V.ref a9])) L = some (.lst [V.str "If", V.str "", V.str "set", V.str "raw_", V.str "raw_e", V.str "raw_Set", V.int 5, V.bl true, V.ref a8, V.ref a9]) := upd_same
  generalize upd G9 L (.lst [V.str "If", V.str "", V.str "set", V.str "raw_", V.str "raw_e", V.str "raw_Set", V.int 5, V.bl true, V.ref a8, V.ref a9]) = GL at tL wL ⊢
  have oL := nm (s0.free nL)
  have s0 := s0.trans tL
  have w8 := tL _ _ w8
  have w9 := tL _ _ w9
  refine ⟨_, rfl, m, lc, lg, n, 10, rfl, M.same s0, hn, by decide, by decide, fun HD d d0 d1 MD kd => ?_⟩
  have wL := kd _ _ oL.1 oL.2 wL
  have w8 := kd _ _ o8.1 o8.2 w8
  have w9 := kd _ _ o9.1 o9.2 w9
  have all : ∀ v ∈ ([V.str "If", V.str "", V.str "set", V.str "raw_", V.str "raw_e", V.str "raw_Set", V.int 5, V.bl true, V.ref a8, V.ref a9] : List V), PWord K m lg HD v := (List.forall_mem_cons.mpr ⟨⟨(valB_str (z := "If") (by decide +kernel) (by decide +kernel)), by decide +kernel, ⟨_, .str _, by decide +kernel⟩, (fun a e => nomatch e)⟩, (List.forall_mem_cons.mpr ⟨⟨(valB_str (z := "") (by decide +kernel) (by decide +kernel)), by decide +kernel, ⟨_, .str _, by decide +kernel⟩, (fun a e => nomatch e)⟩, (List.forall_mem_cons.mpr ⟨⟨(valB_str (z := "set") (by decide +kernel) (by decide +kernel)), by decide +kernel, ⟨_, .str _, by decide +kernel⟩, (fun a e => nomatch e)⟩, (List.forall_mem_cons.mpr ⟨⟨(valB_str (z := "raw_") (by decide +kernel) (by decide +kernel)), by decide +kernel, ⟨_, .str _, by decide +kernel⟩, (fun a e => nomatch e)⟩, (List.forall_mem_cons.mpr ⟨⟨(valB_str (z := "raw_e") (by decide +kernel) (by decide +kernel)), by decide +kernel, ⟨_, .str _, by decide +kernel⟩, (fun a e => nomatch e)⟩, (List.forall_mem_cons.mpr ⟨⟨(valB_str (z := "raw_Set") (by decide +kernel) (by decide +kernel)), by decide +kernel, ⟨_, .str _, by decide +kernel⟩, (fun a e => nomatch e)⟩, (List.forall_mem_cons.mpr ⟨⟨valB_int, by decide +kernel, ⟨_, .int _, by decide +kernel⟩, (fun a e => nomatch e)⟩, (List.forall_mem_cons.mpr ⟨⟨valB_bl, by decide +kernel, ⟨_, .bl _, by decide +kernel⟩, (fun a e => nomatch e)⟩, (List.forall_mem_cons.mpr ⟨⟨(valB_tup w8), rfl, ⟨_, .tup (ws := []) w8, by decide +kernel⟩, (fun a e => (by cases e; exact o8))⟩, (List.forall_mem_cons.mpr ⟨⟨(valB_tup w9), rfl, ⟨_, .tup (ws := ["Set"]) w9, by decide +kernel⟩, (fun a e => (by cases e; exact o9))⟩, (List.forall_mem_nil _)⟩)⟩)⟩)⟩)⟩)⟩)⟩)⟩)⟩)⟩)
  obtain ⟨kk, rfl⟩ : ∃ kk : Nat, d = (kk : Int) := ⟨d.toNat, (Int.toNat_of_nonneg d0).symm⟩
  obtain ⟨v, ev⟩ : ∃ v, ([V.str "If", V.str "", V.str "set", V.str "raw_", V.str "raw_e", V.str "raw_Set", V.int 5, V.bl true, V.ref a8, V.ref a9] : List V)[kk]? = some v := ⟨_, List.getElem?_eq_getElem (show kk < 10 by omega)⟩
  refine ⟨L, _, _, v, rfl, rfl, SqL.of wL, atI_nat ev, ?_⟩
  exact k HD v (fun b o h1 h2 e => kd b o h1 h2 (s0 _ _ e)) MD (all v (List.mem_of_getElem? ev))
theorem lw_far (X : TxtLW P w K mg base CP fD fB fdD fdB) (hr : Room 20 (A.deeper (PyProof.Rows.envOfC "law" (defScope sLaw) s.heap.objs.size f (.ref c)))) :
    ∃ t : TS, PS (cxOf CX0 P w K mg base NLW "law" (defScope sLaw) f (.ref c) A outer s H0 E).nox (stLW 3) t ∧ ∀ (Z : Ends) (H : Hp) (sc m lc lg sch : Addr) (n : Int) (ag v4 v5 v6 v7 : Option V), MA m lc lg n H → n ≤ 1000000 →
      (∀ H' v, DrawK m lg H H' → MA m lc lg (n + 1) H' → PFar K H' v → Z.nx [some (.ref sc), some (.ref m), some (.ref sch), ag, v4, v5, v6, some v] H') → t Z [some (.ref sc), some (.ref m), some (.ref sch), ag, v4, v5, v6, v7] H := by
  have hr1 : Room 1 _ := hr.mono (by decide)
  have hr2 : Room 2 _ := hr.mono (by decide)
  refine ⟨_, ps_set (i := 7) scLaw.nd rfl (.inl rfl) (pe_ix ix_list (pe_lst (pa_cons pe_non (pa_cons pe_str (pa_cons pe_str (pa_cons pe_int (pa_cons pe_bl (pa_cons pe_str (pa_cons (pe_lst (pa_cons pe_str pa_nil)) (pa_cons (pe_tup (pa_cons pe_str pa_nil)) (pa_cons pe_dnewK (pa_cons (pe_call0 X.GD hr1 rfl X.AD.g X.AD.k X.AD.b .nil pass0) pa_nil))))))))))) (pe_call X.GDr hr2 (by rfl) X.ADr.g X.ADr.k X.ADr.b .nil pass0 (pa_cons (L2.pv 1) (pa_cons pe_int pa_nil))) (fun _ _ => rfl)), ?_⟩
  intro Z H sc m lc lg sch n ag v4 v5 v6 v7 M hn k
  obtain ⟨gs, hg, gl⟩ := M.hg
  have nm : ∀ {a : Addr}, H a = none → a ≠ m ∧ a ≠ lg := fun {a} h => ⟨(ne_of_none M.hm h).symm, (ne_of_none hg h).symm⟩
  have s0 : Same H H := Same.refl H
  refine ⟨by show 1 ≤ sizeLine; decide, fun a6 n6 => ?_⟩
  have t6 : Same H (upd H a6 (.lst [.str "Set"])) := same_upd (Same.refl H) n6
  have w6 : (upd H a6 (.lst [.str "Set"])) a6 = some (.lst [.str "Set"]) := upd_same
  generalize upd H a6 (.lst [.str "Set"]) = G6 at t6 w6 ⊢
  have o6 := nm (s0.free n6)
  have s0 := s0.trans t6
  refine ⟨by show 1 ≤ sizeLine; decide, fun a7 n7 => ?_⟩
  have t7 : Same G6 (upd G6 a7 (.tup [.str "Set"])) := same_upd (Same.refl G6) n7
  have w7 : (upd G6 a7 (.tup [.str "Set"])) a7 = some (.tup [.str "Set"]) := upd_same
  generalize upd G6 a7 (.tup [.str "Set"]) = G7 at t7 w7 ⊢
  have o7 := nm (s0.free n7)
  have s0 := s0.trans t7
  have w6 := t7 _ _ w6
  refine fun a8 n8 => ?_
  have t8 : Same G7 (upd G7 a8 (.dK [])) := same_upd (Same.refl G7) n8
  have w8 : (upd G7 a8 (.dK [])) a8 = some (.dK []) := upd_same
  generalize upd G7 a8 (.dK []) = G8 at t8 w8 ⊢
  have o8 := nm (s0.free n8)
  have s0 := s0.trans t8
  have w6 := t8 _ _ w6
  have w7 := t8 _ _ w7
  refine ⟨rfl, fun G9 a9 q9 ys9 t9 n9 w9 _ => ?_⟩
  have o9 := nm (s0.free n9)
  have s0 := s0.trans t9
  have w6 := t9 _ _ w6
  have w7 := t9 _ _ w7
  have w8 := t9 _ _ w8
  refine ⟨by show 10 ≤ sizeLine; decide, fun L nL => ?_⟩
  have tL : Same G9 (upd G9 L (.lst [V.non, V.str "If", V.str "raw_e", V.int 5, V.bl true, V.str "", V.ref a6, V.ref a7, V.ref a8, V.ref a9])) := same_upd (Same.refl G9) nL
  have wL : (upd G9 L (.lst [V.non, V.str "If", V.str "raw_e", V.int 5, V.bl true, V.str "", V.ref a6, V.ref a7, V.ref a8, V.ref a9])) L = some (.lst [V.non, V.str "If", V.str "raw_e", V.int 5, V.bl true, V.str "", V.ref a6, V.ref a7, V.ref a8, V.ref a9]) := upd_same
  generalize upd G9 L (.lst [V.non, V.str "If", V.str "raw_e", V.int 5, V.bl true, V.str "", V.ref a6, V.ref a7, V.ref a8, V.ref a9]) = GL at tL wL ⊢
  have oL := nm (s0.free nL)
  have s0 := s0.trans tL
  have w6 := tL _ _ w6
  have w7 := tL _ _ w7
  have w8 := tL _ _ w8
  have w9 := tL _ _ w9
  refine ⟨_, rfl, m, lc, lg, n, 10, rfl, M.same s0, hn, by decide, by decide, fun HD d d0 d1 MD kd => ?_⟩
  have wL := kd _ _ oL.1 oL.2 wL
  have w6 := kd _ _ o6.1 o6.2 w6
  have w7 := kd _ _ o7.1 o7.2 w7
  have w8 := kd _ _ o8.1 o8.2 w8
  have w9 := kd _ _ o9.1 o9.2 w9
  have all : ∀ v ∈ ([V.non, V.str "If", V.str "raw_e", V.int 5, V.bl true, V.str "", V.ref a6, V.ref a7, V.ref a8, V.ref a9] : List V), PFar K HD v := (List.forall_mem_cons.mpr ⟨⟨valB_non, by decide +kernel, .inr ⟨⟨_, .non⟩, _, .base .non, kit_ty (by decide +kernel), kit_ty (by decide +kernel)⟩⟩, (List.forall_mem_cons.mpr ⟨⟨(valB_str (z := "If") (by decide +kernel) (by decide +kernel)), by decide +kernel, .inr ⟨⟨_, .str _ (by decide +kernel)⟩, _, .base (.str _), kit_ty (by decide +kernel), kit_ty (by decide +kernel)⟩⟩, (List.forall_mem_cons.mpr ⟨⟨(valB_str (z := "raw_e") (by decide +kernel) (by decide +kernel)), by decide +kernel, .inr ⟨⟨_, .str _ (by decide +kernel)⟩, _, .base (.str _), kit_ty (by decide +kernel), kit_ty (by decide +kernel)⟩⟩, (List.forall_mem_cons.mpr ⟨⟨valB_int, by decide +kernel, .inr ⟨⟨_, .int 5 (by decide +kernel)⟩, _, .base (.int 5), kit_ty (by decide +kernel), kit_ty (by decide +kernel)⟩⟩, (List.forall_mem_cons.mpr ⟨⟨valB_bl, by decide +kernel, .inr ⟨⟨_, .bl true⟩, _, .base (.bl true), kit_ty (by decide +kernel), kit_ty (by decide +kernel)⟩⟩, (List.forall_mem_cons.mpr ⟨⟨(valB_str (z := "") (by decide +kernel) (by decide +kernel)), by decide +kernel, .inr ⟨⟨_, .str _ (by decide +kernel)⟩, _, .base (.str _), kit_ty (by decide +kernel), kit_ty (by decide +kernel)⟩⟩, (List.forall_mem_cons.mpr ⟨⟨(valB_lst w6), rfl, .inl ⟨_, _, rfl, .inr w6⟩⟩, (List.forall_mem_cons.mpr ⟨⟨(valB_tup w7), rfl, .inl ⟨_, _, rfl, .inl w7⟩⟩, (List.forall_mem_cons.mpr ⟨⟨(valB_dK w8), rfl, .inr ⟨⟨_, .dct w8⟩, _, .base (.dK w8), kit_ty (by decide +kernel), kit_ty (by decide +kernel)⟩⟩, (List.forall_mem_cons.mpr ⟨⟨(valB_tup w9), rfl, .inl ⟨_, _, rfl, .inl w9⟩⟩, (List.forall_mem_nil _)⟩)⟩)⟩)⟩)⟩)⟩)⟩)⟩)⟩)⟩)
  obtain ⟨kk, rfl⟩ : ∃ kk : Nat, d = (kk : Int) := ⟨d.toNat, (Int.toNat_of_nonneg d0).symm⟩
  obtain ⟨v, ev⟩ : ∃ v, ([V.non, V.str "If", V.str "raw_e", V.int 5, V.bl true, V.str "", V.ref a6, V.ref a7, V.ref a8, V.ref a9] : List V)[kk]? = some v := ⟨_, List.getElem?_eq_getElem (show kk < 10 by omega)⟩
  refine ⟨L, _, _, v, rfl, rfl, SqL.of wL, atI_nat ev, ?_⟩
  exact k HD v (fun b o h1 h2 e => kd b o h1 h2 (s0 _ _ e)) MD (all v (List.mem_of_getElem? ev))
end
end K2

namespace K2
open PySem PySem.Spec PyProof.Rows L2 E0 EG
open LamX (ExtN Tabs TabS TabB LamS lamS_by)
structure TxtLaw (P : Program) (w : World) (K : PySem.W.Frag) (mg : Str → Option Value) (base : Heap) (CF CSc CP fD fB fBg fBa fPR fER fFR : Addr) (fdD fdB fdBg fdBa fdPR fdER fdFR : FuncData) (T : List (Addr × Str)) : Prop extends TxtLW P w K mg base CP fD fB fdD fdB where
  GBg : FnOk P w K mg base CX0 2 fBg fdBg ["_law_script"] (spBegun K)
  ABg : DefA K mg "_law_begun" ["_law_script"] fBg fdBg
  GBa : FnOk P w K mg base CX0 11 fBa fdBa [] (spBase K CF CSc)
  ABa : DefA K mg "_law_base" [] fBa fdBa
  GPR : FnOk P w K mg base CX0 13 fPR fdPR ["_law_odd", "_law_slot"] (spPR K T)
  APR : DefA K mg "_law_plans_right" ["_law_odd", "_law_slot"] fPR fdPR
  GER : FnG P w K mg base CX0 15 fER fdER ["_law_base_here", "_law_word", "_law_odd"] (spER K CF CSc CP T)
  AER : DefA K mg "_law_entries_right" ["_law_base_here", "_law_word", "_law_odd"] fER fdER
  GFR : FnG P w K mg base CX0 15 fFR fdFR ["_law_base_here", "_law_odd"] (spFR K CF CSc T)
  AFR : DefA K mg "_law_flow_right" ["_law_base_here", "_law_odd"] fFR fdFR
  gR : mg "range" = none
  gM : mg "min" = none
  gL : mg "len" = none
def spLaw (K : PySem.W.Frag) (T : List (Addr × Str)) : Sp := fun vs H Q _ => ∃ (a : Addr) (ns : List Int), vs = [.ref a] ∧ SqL K H a (ns.map V.int) ∧ ns.length ≤ 63 ∧ Tabs T H ∧ ∀ H', Q (.bl true) H'
section
variable {P : Program} {w : World} {K : PySem.W.Frag} {mg : Str → Option Value} {base : Heap}
theorem ok_law {f c CF CSc CP fD fB fBg fBa fPR fER fFR : Addr} {fd fdD fdB fdBg fdBa fdPR fdER fdFR : FuncData} {T : List (Addr × Str)} (F : FunC K "law" "law" sLaw f fd c) (X : TxtLaw P w K mg base CF CSc CP fD fB fBg fBa fPR fER fFR fdD fdB fdBg fdBa fdPR fdER fdFR T) :
    FnG P w K mg base CX0 21 f fd ["_law_script"] (spLaw K T) := by
  refine okGC F scLaw (fun vs H Q E h => ?_) (fun A outer s H vs Q E hr hG h => ?_)
  · obtain ⟨a, ns, rfl, _⟩ := h
    rfl
  · obtain ⟨a, ns, rfl, hS, hl, tabs, k⟩ := h
    have hr2 : Room 2 _ := hr.mono (by decide)
    have hr11 : Room 11 _ := hr.mono (by decide)
    have hr13 : Room 13 _ := hr.mono (by decide)
    have hr15 : Room 15 _ := hr.mono (by decide)
    obtain ⟨t0, p0, r0⟩ := lw_odd (f := f) (c := c) (A := A) (outer := outer) (s := s) (H0 := H) (E := E) X.toTxtLW hr
    obtain ⟨t1, p1, r1⟩ := lw_slot (f := f) (c := c) (A := A) (outer := outer) (s := s) (H0 := H) (E := E) X.toTxtLW hr
    obtain ⟨t2, p2, r2⟩ := lw_word (f := f) (c := c) (A := A) (outer := outer) (s := s) (H0 := H) (E := E) X.toTxtLW hr
    obtain ⟨t3, p3, r3⟩ := lw_far (f := f) (c := c) (A := A) (outer := outer) (s := s) (H0 := H) (E := E) X.toTxtLW hr
    refine ⟨_, pss_cons (ps_par (i := 1) (j := 2) (by rfl) scLaw.nd rfl rfl (by decide) rfl rfl (pa_cons (pe_call X.GBg hr2 (by rfl) X.ABg.g X.ABg.k X.ABg.b .nil pass0 (pa_cons (L2.pv 0) pa_nil)) (pa_cons (pe_call0 X.GBa hr11 rfl X.ABa.g X.ABa.k X.ABa.b .nil pass0) pa_nil)) (by rfl))
      (pss_cons (ps_for PassesOwn.never rfl (pi_range1 rfl X.gR (pa_cons (pe_op op_add pe_int (pe_callB (call_min2 rfl) (by rfl) X.gM boot_min (pa_cons pe_int (pa_cons (pe_callB call_len_seq (by rfl) X.gL PySem.boot_len (pa_cons (L2.pv 0) pa_nil)) pa_nil)))) pa_nil)) (pg_name (i := 3) scLaw.nd rfl (.inl rfl))
        (pss_cons p0 (pss_cons p1 (pss_cons p2 (pss_cons p3 (pss_one (ps_if (PW.pt (pw_or (pt_not (pt_val (pe_call X.GPR hr13 (by rfl) X.APR.g X.APR.k X.APR.b .nil pass0 (pa_cons (L2.pv 4) (pa_cons (L2.pv 5) pa_nil)))))
          (pw_or (pt_not (pt_val (pe_callG X.GER hr15 hG rfl X.AER.g X.AER.k X.AER.b .nil pass0 (pa_cons (L2.pv 2) (pa_cons (L2.pv 6) (pa_cons (L2.pv 4) pa_nil))))))
          (pw_or1 (pt_not (pt_val (pe_callG X.GFR hr15 hG rfl X.AFR.g X.AFR.k X.AFR.b .nil pass0 (pa_cons (L2.pv 2) (pa_cons (L2.pv 7) pa_nil))))))))) (pss_one (ps_ret pe_bl)) pss_nil)))))))
      (pss_one (ps_ret pe_bl))), ?_⟩
    refine ⟨_, rfl, a, ns, rfl, hS, hl, fun H1 m lc lg s1 nm nlg M1 => ?_⟩
    refine ⟨rfl, fun H2 x xs rs s2 S nx => ?_⟩
    have M2 := M1.same s2
    have T2 := (tabs.ext s1).ext s2
    have S2' := sql_same (s1.trans s2) hS
    refine ⟨_, _, rfl, ?_⟩
    refine ⟨_, rfl, a, _, rfl, .inl S2', ?_⟩
    refine ⟨_, _, rfl, ?_⟩
    obtain ⟨N, hN, hl8⟩ : ∃ N : Nat, (2 + (if ((ns.map V.int).length : Int) < 6 then ((ns.map V.int).length : Int) else 6) : Int) = (N : Int) ∧ N ≤ 8 := by
      by_cases q : ((ns.map V.int).length : Int) < 6
      · rw [if_pos q]
        exact ⟨2 + (ns.map V.int).length, by omega, by omega⟩
      · rw [if_neg q]
        exact ⟨8, rfl, Nat.le_refl _⟩
    refine ⟨_, _, rfl, rfl, ?_⟩
    refine ⟨(N : Int), by rw [← hN], by omega, by omega, for_range (n := N) (fun i σ H' => ∃ (v3 v4 v5 v6 v7 : Option V), σ = [some (.ref a), some (.ref m), some (.ref x), v3, v4, v5, v6, v7] ∧ MA m lc lg (4 * (i : Int)) H' ∧ Tabs T H' ∧ SchAt K CF CSc H' x xs ITS rs) ⟨_, _, _, _, _, rfl, (show MA m lc lg (4 * ((0 : Nat) : Int)) H2 from M2), T2, S⟩ ?_ ?_⟩
    · rintro i σ H2 hi ⟨v3, v4, v5, v6, v7, rfl, M2, T2, S⟩
      refine r0 _ H2 a m lc lg x (4 * (i : Int)) _ v4 v5 v6 v7 M2 (by omega) fun H3 odd K3 M3 P3 => ?_
      have T3 := tabs_draw T2 M2 K3
      have S3 := S.draw M2 K3
      refine r1 _ H3 a m lc lg x _ _ _ v5 v6 v7 M3 (by omega) fun H4 slot K4 M4 Q4 => ?_
      have T4 := tabs_draw T3 M3 K4
      have S4 := S3.draw M3 K4
      have P4 := P3.draw K4
      refine r2 _ H4 a m lc lg x _ _ _ _ v6 v7 M4 (by omega) fun H5 word K5 M5 W5 => ?_
      have T5 := tabs_draw T4 M4 K5
      have S5 := S4.draw M4 K5
      have P5 := P4.draw K5
      have Q5 := Q4.draw K5
      refine r3 _ H5 a m lc lg x _ _ _ _ _ v7 M5 (by omega) fun H6 far K6 M6 F6 => ?_
      have T6 := tabs_draw T5 M5 K6
      have S6 := S5.draw M5 K6
      have P6 := P5.draw K6
      have Q6 := Q5.draw K6
      have W6 := W5.draw K6
      refine ⟨_, rfl, _, rfl, odd, slot, rfl, T6, P6.1, P6.2.1, Q6.1, ⟨Q6.2.1, Q6.2.2.1⟩, fun H7 e7 T7 => ⟨_, rfl, ?_⟩⟩
      obtain ⟨dW, kd, gd⟩ := W6.2.2.1
      have kd7 : KD H7 word dW := by
        cases kd with
        | str z => exact .str z
        | int i => exact .int i
        | bl b => exact .bl b
        | tup e => exact .tup (e7 _ _ e fun _ => nofun)
      refine iteF ⟨_, rfl, _, rfl, _, rfl, x, xs, rs, word, odd, dW, rfl, T7, S6.ext e7, ⟨W6.1.ext e7, W6.2.1, kd7.key⟩, P6.2.2.1.ext e7, kd7.dp, gd, fun H8 e8 T8 => ⟨_, rfl, ?_⟩⟩
      have e68 := e7.trans e8
      refine iteF ⟨_, rfl, _, rfl, x, xs, rs, far, rfl, T8, S6.ext e68, F6.1.ext e68, F6.2.1, F6.2.2.ext F6.1 e68, fun H9 e9 T9 => ⟨_, rfl, ?_⟩⟩
      have e69 := e68.trans e9
      exact iteF ⟨_, _, _, _, _, rfl, (by rw [show (4 * ((i + 1 : Nat) : Int)) = 4 * (i : Int) + 1 + 1 + 1 + 1 by omega]; exact M6.ext e69), T9, S6.ext e69⟩
    · rintro σ H2 ⟨v3, v4, v5, v6, v7, rfl, M2, T2, S⟩
      exact k _
end
end K2

namespace K2
open PySem L2 E0 EG
open LamX (ExtN Tabs TabS TabB)
theorem kw_text {kV doc pm cdv ct : Value} {an : Option Addr} : KwB (PySem.W.fnOf "__init__" "Form.__init__" (defArgs sFormInit) (defBody sFormInit) (defScope sFormInit) .none kV doc pm an cdv ct) ["text"] := fun us ws h1 h2 => match us, h1, ws, h2 with | [_, _, _], _, [_], _ => rfl
theorem raw_of {P : Program} {w : World} {K : PySem.W.Frag} {mg : Str → Option Value} {base : Heap} {CX : CXT} {k : Nat} {f : Addr} {fd : FuncData} {ps : List Str} {sp : Sp} (G : FnOk P w K mg base CX k f fd ps sp) (b : Binds K fd ps []) : FnR P w K mg base CX k f sp := (G.raw b .nil).imp fun vs H Q E h => by rw [List.append_nil]; exact h
theorem uni3 {a b c : Addr} {qa qb qc : Str} (h1 : a ≠ b) (h2 : a ≠ c) (h3 : b ≠ c) : (∀ p ∈ [(a, qa), (b, qb), (c, qc)], p.1 = a → p.2 = qa) ∧ (∀ p ∈ [(a, qa), (b, qb), (c, qc)], p.1 = b → p.2 = qb) ∧ (∀ p ∈ [(a, qa), (b, qb), (c, qc)], p.1 = c → p.2 = qc) := by
  refine ⟨fun p hp e => ?_, fun p hp e => ?_, fun p hp e => ?_⟩ <;> (simp only [List.mem_cons, List.not_mem_nil, or_false] at hp; rcases hp with z | z | z <;> rw [z] at e ⊢)
  · exact absurd e.symm h1
  · exact absurd e.symm h2
  · exact absurd e h1
  · exact absurd e.symm h3
  · exact absurd e h2
  · exact absurd e h3
def cxL (l : List (Str × Addr)) (n : Str) : Addr := (l.lookup n).getD 0
theorem all_mk {l : PySem.W.OpenLaw} {w : World} {K : PySem.W.Frag} {h : Heap} {mg : Str → Option Value} {fa : Addr} {P : Program}
    {fN : Addr} {ocN kVN dcN pmN ctN cdN : Value} {odN anN : Option Addr} {slN : Array (Option Value)}
    {fW : Addr} {ocW kVW dcW pmW ctW cdW : Value} {odW anW : Option Addr} {slW : Array (Option Value)}
    {fSo : Addr} {ocSo kVSo dcSo pmSo ctSo cdSo : Value} {odSo anSo : Option Addr} {slSo : Array (Option Value)}
    {fT : Addr} {ocT kVT dcT pmT ctT cdT : Value} {odT anT : Option Addr} {slT : Array (Option Value)}
    {fX : Addr} {ocX kVX dcX pmX ctX cdX : Value} {odX anX : Option Addr} {slX : Array (Option Value)}
    {fC : Addr} {ocC kVC dcC pmC ctC cdC : Value} {odC anC : Option Addr} {slC : Array (Option Value)}
    {fKf : Addr} {ocKf kVKf dcKf pmKf ctKf cdKf : Value} {odKf anKf : Option Addr} {slKf : Array (Option Value)}
    {fKs : Addr} {ocKs kVKs dcKs pmKs ctKs cdKs : Value} {odKs anKs : Option Addr} {slKs : Array (Option Value)}
    {fKn : Addr} {ocKn kVKn dcKn pmKn ctKn cdKn : Value} {odKn anKn : Option Addr} {slKn : Array (Option Value)}
    {fCP : Addr} {ocCP kVCP dcCP pmCP ctCP cdCP : Value} {odCP anCP : Option Addr} {slCP : Array (Option Value)}
    {fM : Addr} {ocM kVM dcM pmM ctM cdM : Value} {odM anM : Option Addr} {slM : Array (Option Value)}
    {fFo : Addr} {ocFo kVFo dcFo pmFo ctFo cdFo : Value} {odFo anFo : Option Addr} {slFo : Array (Option Value)}
    {fDr : Addr} {ocDr kVDr dcDr pmDr ctDr cdDr : Value} {odDr anDr : Option Addr} {slDr : Array (Option Value)}
    {fBg : Addr} {ocBg kVBg dcBg pmBg ctBg cdBg : Value} {odBg anBg : Option Addr} {slBg : Array (Option Value)}
    {fD2 : Addr} {ocD2 kVD2 dcD2 pmD2 ctD2 cdD2 : Value} {odD2 anD2 : Option Addr} {slD2 : Array (Option Value)}
    {fLV : Addr} {ocLV kVLV dcLV pmLV ctLV cdLV : Value} {odLV anLV : Option Addr} {slLV : Array (Option Value)}
    {fLC : Addr} {ocLC kVLC dcLC pmLC ctLC cdLC : Value} {odLC anLC : Option Addr} {slLC : Array (Option Value)}
    {fGo : Addr} {ocGo kVGo dcGo pmGo ctGo cdGo : Value} {odGo anGo : Option Addr} {slGo : Array (Option Value)}
    {fIt : Addr} {ocIt kVIt dcIt pmIt ctIt cdIt : Value} {odIt anIt : Option Addr} {slIt : Array (Option Value)}
    {fBa : Addr} {ocBa kVBa dcBa pmBa ctBa cdBa : Value} {odBa anBa : Option Addr} {slBa : Array (Option Value)}
    {fPR : Addr} {ocPR kVPR dcPR pmPR ctPR : Value} {odPR anPR : Option Addr} {slPR : Array (Option Value)}
    {fER : Addr} {ocER kVER dcER pmER ctER : Value} {odER anER : Option Addr} {slER : Array (Option Value)}
    {fFR : Addr} {ocFR kVFR dcFR pmFR ctFR : Value} {odFR anFR : Option Addr} {slFR : Array (Option Value)}
    {fL : Addr} {ocL kVL dcL pmL ctL : Value} {odL anL : Option Addr} {slL : Array (Option Value)}
    {CF CSc CI CS CU CE CPl CFl CIP CIF pO pS aOrd TPl DPl cPR cER cFR cL pPR pER pFR : Addr} {oOrd oTPl : Obj} {itsOrd : Array Value} {nOrd nTPl : Nat} {mc : Value} {orest srest : List Value} {t5 tMx tLt tSg tTx tRw tRaw tMs tMf tSt : Tok}
    {fI : Addr} {ocI kVI dcI pmI ctI cdI : Value} {odI anI : Option Addr} {slI : Array (Option Value)}
    {fO : Addr} {ocO kVO dcO pmO ctO cdO : Value} {odO anO : Option Addr} {slO : Array (Option Value)}
    {fSI : Addr} {ocSI kVSI dcSI pmSI ctSI cdSI : Value} {odSI anSI : Option Addr} {slSI : Array (Option Value)}
    {fSO : Addr} {ocSO kVSO dcSO pmSO ctSO cdSO : Value} {odSO anSO : Option Addr} {slSO : Array (Option Value)}
    {fSe : Addr} {ocSe kVSe dcSe pmSe ctSe cdSe : Value} {odSe anSe : Option Addr} {slSe : Array (Option Value)}
    {fSh : Addr} {ocSh kVSh dcSh pmSh ctSh cdSh : Value} {odSh anSh : Option Addr} {slSh : Array (Option Value)}
    {fSg : Addr} {ocSg kVSg dcSg pmSg ctSg cdSg : Value} {odSg anSg : Option Addr} {slSg : Array (Option Value)}
    {fPI : Addr} {ocPI dcPI pmPI ctPI cdPI : Value} {odPI anPI : Option Addr} {slPI : Array (Option Value)}
    {fFI : Addr} {ocFI kVFI dcFI pmFI ctFI cdFI : Value} {odFI anFI : Option Addr} {slFI : Array (Option Value)}
    {fFP : Addr} {ocFP kVFP dcFP pmFP ctFP cdFP : Value} {odFP anFP : Option Addr} {slFP : Array (Option Value)}
    {fE cdaE ccE NNE : Addr} {ocE kVE dcE pmE ctE cclE clE : Value} {odE anE cddE cldE : Option Addr} {slE ccsE cslE : Array (Option Value)} {cvsE : Array Value} {fileE : Str} {tfE : Tok} {nmE qE : Str} {bsE bmE : List Value} {snE : List Str} {subE : List Value} {abE : Bool} {colE : Option Bool} {ddE : Option Addr} {m0E m1E m2E m3E m5E : Option Value}
    {TD : Addr} {oD : Obj} {nD : Nat}
    {fG cdaG ccG NNG : Addr} {ocG kVG dcG pmG ctG cclG clG : Value} {odG anG cddG cldG : Option Addr} {slG ccsG cslG : Array (Option Value)} {cvsG : Array Value} {fileG : Str} {tfG : Tok} {nmG qG : Str} {bsG bmG : List Value} {snG : List Str} {subG : List Value} {abG : Bool} {colG : Option Bool} {ddG : Option Addr} {m0G m1G m2G m3G m5G : Option Value}
    {fU cdaU ccU NNU : Addr} {ocU kVU dcU pmU ctU cclU clU : Value} {odU anU cddU cldU : Option Addr} {slU ccsU cslU : Array (Option Value)} {cvsU : Array Value} {fileU : Str} {tfU : Tok} {nmU qU : Str} {bsU bmU : List Value} {snU : List Str} {subU : List Value} {abU : Bool} {colU : Option Bool} {ddU : Option Addr} {m0U m1U m2U m3U m5U : Option Value}
    {fIP cdaIP ccIP NNIP : Addr} {ocIP kVIP dcIP pmIP ctIP cclIP clIP : Value} {odIP anIP cddIP cldIP : Option Addr} {slIP ccsIP cslIP : Array (Option Value)} {cvsIP : Array Value} {fileIP : Str} {tfIP : Tok} {nmIP qIP : Str} {bsIP bmIP : List Value} {snIP : List Str} {subIP : List Value} {abIP : Bool} {colIP : Option Bool} {ddIP : Option Addr} {m0IP m1IP m2IP m3IP m5IP : Option Value}
    {fIF cdaIF ccIF NNIF : Addr} {ocIF kVIF dcIF pmIF ctIF cclIF clIF : Value} {odIF anIF cddIF cldIF : Option Addr} {slIF ccsIF cslIF : Array (Option Value)} {cvsIF : Array Value} {fileIF : Str} {tfIF : Tok} {nmIF qIF : Str} {bsIF bmIF : List Value} {snIF : List Str} {subIF : List Value} {abIF : Bool} {colIF : Option Bool} {ddIF : Option Addr} {m0IF m1IF m2IF m3IF m5IF : Option Value}
    {X1 : Addr}
    {X2 : Addr}
    {X3 : Addr}
    {X4 : Addr}
    {X8 : Addr}
    {X9 : Addr}
    {X10 : Addr}
    {X11 : Addr}
    {X12 : Addr}
    {X13 : Addr}
    {X14 : Addr}
    {X15 : Addr}
    (eP : l.prog = P) (X : K.In h) (G : h.Ns mainGlobals mg) (h1T : h.get? pPR = some (PySem.W.tabObj #[])) (h2T : h.get? pER = some (PySem.W.tabObj #[])) (h3T : h.get? pFR = some (PySem.W.tabObj #[])) (hfa : mg "law" = some (.ref fa))
    (aN : PySem.W.nsIn K mainGlobals "is_name" = some (some (.ref fN)))
    (lN : K.lookup fN = some ⟨ocN, odN, .func (PySem.W.fnOf "is_name" "is_name" (defArgs sName) (defBody sName) (defScope sName) .none kVN dcN pmN anN cdN ctN), slN⟩)
    (cNd : PySem.W.codeIn K cdN "is_name" = true)
    (kN : PySem.W.keepIn K (.ref fN) = true)
    (aW : PySem.W.nsIn K mainGlobals "is_word" = some (some (.ref fW)))
    (lW : K.lookup fW = some ⟨ocW, odW, .func (PySem.W.fnOf "is_word" "is_word" (defArgs sWordQ) (defBody sWordQ) (defScope sWordQ) .none kVW dcW pmW anW cdW ctW), slW⟩)
    (cWd : PySem.W.codeIn K cdW "is_word" = true)
    (kW : PySem.W.keepIn K (.ref fW) = true)
    (aSo : PySem.W.nsIn K mainGlobals "is_sort" = some (some (.ref fSo)))
    (lSo : K.lookup fSo = some ⟨ocSo, odSo, .func (PySem.W.fnOf "is_sort" "is_sort" (defArgs sSort) (defBody sSort) (defScope sSort) .none kVSo dcSo pmSo anSo cdSo ctSo), slSo⟩)
    (cSod : PySem.W.codeIn K cdSo "is_sort" = true)
    (kSo : PySem.W.keepIn K (.ref fSo) = true)
    (aT : PySem.W.nsIn K mainGlobals "is_taken" = some (some (.ref fT)))
    (lT : K.lookup fT = some ⟨ocT, odT, .func (PySem.W.fnOf "is_taken" "is_taken" (defArgs sTaken) (defBody sTaken) (defScope sTaken) .none kVT dcT pmT anT cdT ctT), slT⟩)
    (cTd : PySem.W.codeIn K cdT "is_taken" = true)
    (kT : PySem.W.keepIn K (.ref fT) = true)
    (aX : PySem.W.nsIn K mainGlobals "sort_taken" = some (some (.ref fX)))
    (lX : K.lookup fX = some ⟨ocX, odX, .func (PySem.W.fnOf "sort_taken" "sort_taken" (defArgs sSortTaken) (defBody sSortTaken) (defScope sSortTaken) .none kVX dcX pmX anX cdX ctX), slX⟩)
    (cXd : PySem.W.codeIn K cdX "sort_taken" = true)
    (kX : PySem.W.keepIn K (.ref fX) = true)
    (aC : PySem.W.nsIn K mainGlobals "_checked_slots" = some (some (.ref fC)))
    (lC : K.lookup fC = some ⟨ocC, odC, .func (PySem.W.fnOf "_checked_slots" "_checked_slots" (defArgs sChecked) (defBody sChecked) (defScope sChecked) .none kVC dcC pmC anC cdC ctC), slC⟩)
    (cCd : PySem.W.codeIn K cdC "_checked_slots" = true)
    (kC : PySem.W.keepIn K (.ref fC) = true)
    (aKf : PySem.W.nsIn K mainGlobals "_check_forms" = some (some (.ref fKf)))
    (lKf : K.lookup fKf = some ⟨ocKf, odKf, .func (PySem.W.fnOf "_check_forms" "_check_forms" (defArgs sCheckForms) (defBody sCheckForms) (defScope sCheckForms) .none kVKf dcKf pmKf anKf cdKf ctKf), slKf⟩)
    (cKfd : PySem.W.codeIn K cdKf "_check_forms" = true)
    (kKf : PySem.W.keepIn K (.ref fKf) = true)
    (aKs : PySem.W.nsIn K mainGlobals "_check_sorts" = some (some (.ref fKs)))
    (lKs : K.lookup fKs = some ⟨ocKs, odKs, .func (PySem.W.fnOf "_check_sorts" "_check_sorts" (defArgs sCheckSorts) (defBody sCheckSorts) (defScope sCheckSorts) .none kVKs dcKs pmKs anKs cdKs ctKs), slKs⟩)
    (cKsd : PySem.W.codeIn K cdKs "_check_sorts" = true)
    (kKs : PySem.W.keepIn K (.ref fKs) = true)
    (aKn : PySem.W.nsIn K mainGlobals "_sorts_in" = some (some (.ref fKn)))
    (lKn : K.lookup fKn = some ⟨ocKn, odKn, .func (PySem.W.fnOf "_sorts_in" "_sorts_in" (defArgs sSortsIn) (defBody sSortsIn) (defScope sSortsIn) .none kVKn dcKn pmKn anKn cdKn ctKn), slKn⟩)
    (cKnd : PySem.W.codeIn K cdKn "_sorts_in" = true)
    (kKn : PySem.W.keepIn K (.ref fKn) = true)
    (aCP : PySem.W.nsIn K mainGlobals "_check_plan" = some (some (.ref fCP)))
    (lCP : K.lookup fCP = some ⟨ocCP, odCP, .func (PySem.W.fnOf "_check_plan" "_check_plan" (defArgs sCheckPlan) (defBody sCheckPlan) (defScope sCheckPlan) .none kVCP dcCP pmCP anCP cdCP ctCP), slCP⟩)
    (cCPd : PySem.W.codeIn K cdCP "_check_plan" = true)
    (kCP : PySem.W.keepIn K (.ref fCP) = true)
    (aM : PySem.W.nsIn K mainGlobals "_law_mixed" = some (some (.ref fM)))
    (lM : K.lookup fM = some ⟨ocM, odM, .func (PySem.W.fnOf "_law_mixed" "_law_mixed" (defArgs sMixed) (defBody sMixed) (defScope sMixed) .none kVM dcM pmM anM cdM ctM), slM⟩)
    (cMd : PySem.W.codeIn K cdM "_law_mixed" = true)
    (kM : PySem.W.keepIn K (.ref fM) = true)
    (aFo : PySem.W.nsIn K mainGlobals "_law_folded" = some (some (.ref fFo)))
    (lFo : K.lookup fFo = some ⟨ocFo, odFo, .func (PySem.W.fnOf "_law_folded" "_law_folded" (defArgs sFolded) (defBody sFolded) (defScope sFolded) .none kVFo dcFo pmFo anFo cdFo ctFo), slFo⟩)
    (cFod : PySem.W.codeIn K cdFo "_law_folded" = true)
    (kFo : PySem.W.keepIn K (.ref fFo) = true)
    (aDr : PySem.W.nsIn K mainGlobals "_law_draw" = some (some (.ref fDr)))
    (lDr : K.lookup fDr = some ⟨ocDr, odDr, .func (PySem.W.fnOf "_law_draw" "_law_draw" (defArgs sDraw) (defBody sDraw) (defScope sDraw) .none kVDr dcDr pmDr anDr cdDr ctDr), slDr⟩)
    (cDrd : PySem.W.codeIn K cdDr "_law_draw" = true)
    (kDr : PySem.W.keepIn K (.ref fDr) = true)
    (aBg : PySem.W.nsIn K mainGlobals "_law_begun" = some (some (.ref fBg)))
    (lBg : K.lookup fBg = some ⟨ocBg, odBg, .func (PySem.W.fnOf "_law_begun" "_law_begun" (defArgs sBegun) (defBody sBegun) (defScope sBegun) .none kVBg dcBg pmBg anBg cdBg ctBg), slBg⟩)
    (cBgd : PySem.W.codeIn K cdBg "_law_begun" = true)
    (kBg : PySem.W.keepIn K (.ref fBg) = true)
    (aD2 : PySem.W.nsIn K mainGlobals "_law_doubled" = some (some (.ref fD2)))
    (lD2 : K.lookup fD2 = some ⟨ocD2, odD2, .func (PySem.W.fnOf "_law_doubled" "_law_doubled" (defArgs sDoubled) (defBody sDoubled) (defScope sDoubled) .none kVD2 dcD2 pmD2 anD2 cdD2 ctD2), slD2⟩)
    (cD2d : PySem.W.codeIn K cdD2 "_law_doubled" = true)
    (kD2 : PySem.W.keepIn K (.ref fD2) = true)
    (aLV : PySem.W.nsIn K mainGlobals "_law_value_class" = some (some (.ref fLV)))
    (lLV : K.lookup fLV = some ⟨ocLV, odLV, .func (PySem.W.fnOf "_law_value_class" "_law_value_class" (defArgs sValueClass) (defBody sValueClass) (defScope sValueClass) .none kVLV dcLV pmLV anLV cdLV ctLV), slLV⟩)
    (cLVd : PySem.W.codeIn K cdLV "_law_value_class" = true)
    (kLV : PySem.W.keepIn K (.ref fLV) = true)
    (aLC : PySem.W.nsIn K mainGlobals "_law_class" = some (some (.ref fLC)))
    (lLC : K.lookup fLC = some ⟨ocLC, odLC, .func (PySem.W.fnOf "_law_class" "_law_class" (defArgs sClass) (defBody sClass) (defScope sClass) .none kVLC dcLC pmLC anLC cdLC ctLC), slLC⟩)
    (cLCd : PySem.W.codeIn K cdLC "_law_class" = true)
    (kLC : PySem.W.keepIn K (.ref fLC) = true)
    (aGo : PySem.W.nsIn K mainGlobals "_law_got" = some (some (.ref fGo)))
    (lGo : K.lookup fGo = some ⟨ocGo, odGo, .func (PySem.W.fnOf "_law_got" "_law_got" (defArgs sGot) (defBody sGot) (defScope sGot) .none kVGo dcGo pmGo anGo cdGo ctGo), slGo⟩)
    (cGod : PySem.W.codeIn K cdGo "_law_got" = true)
    (kGo : PySem.W.keepIn K (.ref fGo) = true)
    (aIt : PySem.W.nsIn K mainGlobals "_law_is_it" = some (some (.ref fIt)))
    (lIt : K.lookup fIt = some ⟨ocIt, odIt, .func (PySem.W.fnOf "_law_is_it" "_law_is_it" (defArgs sIsIt) (defBody sIsIt) (defScope sIsIt) .none kVIt dcIt pmIt anIt cdIt ctIt), slIt⟩)
    (cItd : PySem.W.codeIn K cdIt "_law_is_it" = true)
    (kIt : PySem.W.keepIn K (.ref fIt) = true)
    (aBa : PySem.W.nsIn K mainGlobals "_law_base" = some (some (.ref fBa)))
    (lBa : K.lookup fBa = some ⟨ocBa, odBa, .func (PySem.W.fnOf "_law_base" "_law_base" (defArgs sBase) (defBody sBase) (defScope sBase) .none kVBa dcBa pmBa anBa cdBa ctBa), slBa⟩)
    (cBad : PySem.W.codeIn K cdBa "_law_base" = true)
    (kBa : PySem.W.keepIn K (.ref fBa) = true)
    (aPR : PySem.W.nsIn K mainGlobals "_law_plans_right" = some (some (.ref fPR)))
    (lPR : K.lookup fPR = some ⟨ocPR, odPR, .func (PySem.W.fnOf "_law_plans_right" "_law_plans_right" (defArgs sPlansRight) (defBody sPlansRight) (defScope sPlansRight) .none kVPR dcPR pmPR anPR (.ref cPR) ctPR), slPR⟩)
    (cPRd : PySem.W.codeIn K (.ref cPR) "_law_plans_right" = true)
    (kPR : PySem.W.keepIn K (.ref fPR) = true)
    (aER : PySem.W.nsIn K mainGlobals "_law_entries_right" = some (some (.ref fER)))
    (lER : K.lookup fER = some ⟨ocER, odER, .func (PySem.W.fnOf "_law_entries_right" "_law_entries_right" (defArgs sEntriesRight) (defBody sEntriesRight) (defScope sEntriesRight) .none kVER dcER pmER anER (.ref cER) ctER), slER⟩)
    (cERd : PySem.W.codeIn K (.ref cER) "_law_entries_right" = true)
    (kER : PySem.W.keepIn K (.ref fER) = true)
    (aFR : PySem.W.nsIn K mainGlobals "_law_flow_right" = some (some (.ref fFR)))
    (lFR : K.lookup fFR = some ⟨ocFR, odFR, .func (PySem.W.fnOf "_law_flow_right" "_law_flow_right" (defArgs sFlowRight) (defBody sFlowRight) (defScope sFlowRight) .none kVFR dcFR pmFR anFR (.ref cFR) ctFR), slFR⟩)
    (cFRd : PySem.W.codeIn K (.ref cFR) "_law_flow_right" = true)
    (kFR : PySem.W.keepIn K (.ref fFR) = true)
    (aL : PySem.W.nsIn K mainGlobals "law" = some (some (.ref fL)))
    (lL : K.lookup fL = some ⟨ocL, odL, .func (PySem.W.fnOf "law" "law" (defArgs sLaw) (defBody sLaw) (defScope sLaw) .none kVL dcL pmL anL (.ref cL) ctL), slL⟩)
    (cLd : PySem.W.codeIn K (.ref cL) "law" = true)
    (kL : PySem.W.keepIn K (.ref fL) = true)
    (aCF : PySem.W.nsIn K mainGlobals "Form" = some (some (.ref CF)))
    (fpg : PySem.W.plainGet K CF Str.empty = true)
    (fhd : PySem.W.hasDictIn K CF = true)
    (fpo : PySem.W.plainOver K CF = true)
    (fsa : PySem.W.findIn K (.ref CF) "__setattr__" = some (some (.builtin "object.__setattr__")))
    (fha : PySem.W.findIn K (.ref CF) "__class__" = some (some (.builtin "object.__class__")))
    (fmo : PySem.W.mroIn K CF (.type "object") = some true)
    (fmk : PySem.W.makesIn K CF = true)
    (fkp : PySem.W.keepIn K (.ref CF) = true)
    (frd : PySem.W.readsIn K CF mc = true)
    (fga : PySem.W.specialIn K (.ref CF) "__getattribute__" = some (some (.builtin "type.__getattribute__")))
    (iF : PySem.W.findIn K (.ref CF) "__init__" = some (some (.ref fI)))
    (ffn : PySem.W.isFn K (.ref fI) = true)
    (lI : K.lookup fI = some ⟨ocI, odI, .func (PySem.W.fnOf "__init__" "Form.__init__" (defArgs sFormInit) (defBody sFormInit) (defScope sFormInit) .none kVI dcI pmI anI cdI ctI), slI⟩)
    (cId : PySem.W.codeIn K cdI "Form.__init__" = true)
    (kI : PySem.W.keepIn K (.ref fI) = true)
    (oat : PySem.W.findCls K (.ref CF) mc "of" = some (.get (.builtin "classmethod.__get__") (.ref pO) .none (.ref CF)))
    (orc : PySem.W.recIn K pO "classmethod" = some (.ref fO :: orest))
    (ofi : PySem.W.fnIn K fO = true)
    (lO : K.lookup fO = some ⟨ocO, odO, .func (PySem.W.fnOf "of" "Form.of" (defArgs sFormOf) (defBody sFormOf) (defScope sFormOf) .none kVO dcO pmO anO cdO ctO), slO⟩)
    (cOd : PySem.W.codeIn K cdO "Form.of" = true)
    (kO : PySem.W.keepIn K (.ref fO) = true)
    (nN : PySem.W.findIn K (.ref CF) "name" = some none)
    (nK : PySem.W.findIn K (.ref CF) "kin" = some none)
    (nS : PySem.W.findIn K (.ref CF) "slots" = some none)
    (fmxs : PySem.W.findCls K (.ref CF) mc "MAX_SLOTS" = some (.val (.int 5 t5)))
    (aCSc : PySem.W.nsIn K mainGlobals "Schema" = some (some (.ref CSc)))
    (spg : PySem.W.plainGet K CSc Str.empty = true)
    (shd : PySem.W.hasDictIn K CSc = true)
    (spo : PySem.W.plainOver K CSc = true)
    (ssa : PySem.W.findIn K (.ref CSc) "__setattr__" = some (some (.builtin "object.__setattr__")))
    (sha : PySem.W.findIn K (.ref CSc) "__class__" = some (some (.builtin "object.__class__")))
    (smo : PySem.W.mroIn K CSc (.type "object") = some true)
    (smk : PySem.W.makesIn K CSc = true)
    (skp : PySem.W.keepIn K (.ref CSc) = true)
    (srd : PySem.W.readsIn K CSc mc = true)
    (sga : PySem.W.specialIn K (.ref CSc) "__getattribute__" = some (some (.builtin "type.__getattribute__")))
    (iS : PySem.W.findIn K (.ref CSc) "__init__" = some (some (.ref fSI)))
    (sfn : PySem.W.isFn K (.ref fSI) = true)
    (lSI : K.lookup fSI = some ⟨ocSI, odSI, .func (PySem.W.fnOf "__init__" "Schema.__init__" (defArgs sSchInit) (defBody sSchInit) (defScope sSchInit) .none kVSI dcSI pmSI anSI cdSI ctSI), slSI⟩)
    (cSId : PySem.W.codeIn K cdSI "Schema.__init__" = true)
    (kSI : PySem.W.keepIn K (.ref fSI) = true)
    (soat : PySem.W.findCls K (.ref CSc) mc "of" = some (.get (.builtin "classmethod.__get__") (.ref pS) .none (.ref CSc)))
    (sorc : PySem.W.recIn K pS "classmethod" = some (.ref fSO :: srest))
    (sofi : PySem.W.fnIn K fSO = true)
    (lSO : K.lookup fSO = some ⟨ocSO, odSO, .func (PySem.W.fnOf "of" "Schema.of" (defArgs sSchOf) (defBody sSchOf) (defScope sSchOf) .none kVSO dcSO pmSO anSO cdSO ctSO), slSO⟩)
    (cSOd : PySem.W.codeIn K cdSO "Schema.of" = true)
    (kSO : PySem.W.keepIn K (.ref fSO) = true)
    (iSe : PySem.W.findIn K (.ref CSc) "__eq__" = some (some (.ref fSe)))
    (nSe : PySem.W.isFn K (.ref fSe) = true)
    (wSe : PySem.W.fnIn K fSe = true)
    (lSe : K.lookup fSe = some ⟨ocSe, odSe, .func (PySem.W.fnOf "__eq__" "Schema.__eq__" (defArgs sSchEq) (defBody sSchEq) (defScope sSchEq) .none kVSe dcSe pmSe anSe cdSe ctSe), slSe⟩)
    (cSed : PySem.W.codeIn K cdSe "Schema.__eq__" = true)
    (kSe : PySem.W.keepIn K (.ref fSe) = true)
    (iSh : PySem.W.findIn K (.ref CSc) "__contains__" = some (some (.ref fSh)))
    (nSh : PySem.W.isFn K (.ref fSh) = true)
    (wSh : PySem.W.fnIn K fSh = true)
    (lSh : K.lookup fSh = some ⟨ocSh, odSh, .func (PySem.W.fnOf "__contains__" "Schema.__contains__" (defArgs sSchHas) (defBody sSchHas) (defScope sSchHas) .none kVSh dcSh pmSh anSh cdSh ctSh), slSh⟩)
    (cShd : PySem.W.codeIn K cdSh "Schema.__contains__" = true)
    (kSh : PySem.W.keepIn K (.ref fSh) = true)
    (iSg : PySem.W.findIn K (.ref CSc) "__getitem__" = some (some (.ref fSg)))
    (nSg : PySem.W.isFn K (.ref fSg) = true)
    (wSg : PySem.W.fnIn K fSg = true)
    (lSg : K.lookup fSg = some ⟨ocSg, odSg, .func (PySem.W.fnOf "__getitem__" "Schema.__getitem__" (defArgs sSchGet) (defBody sSchGet) (defScope sSchGet) .none kVSg dcSg pmSg anSg cdSg ctSg), slSg⟩)
    (cSgd : PySem.W.codeIn K cdSg "Schema.__getitem__" = true)
    (kSg : PySem.W.keepIn K (.ref fSg) = true)
    (sne : PySem.W.findIn K (.ref CSc) "__ne__" = some (some (.builtin "object.__ne__")))
    (sn1 : PySem.W.findIn K (.ref CSc) "forms" = some none)
    (sn2 : PySem.W.findIn K (.ref CSc) "sorts" = some none)
    (sn3 : PySem.W.findIn K (.ref CSc) "_table" = some none)
    (sn4 : PySem.W.findIn K (.ref CSc) "_rows" = some none)
    (mxv : PySem.W.findCls K (.ref CSc) mc "MAX_FORMS" = some (.val (.int 20 tMf)))
    (aCPl : PySem.W.nsIn K mainGlobals "Plan" = some (some (.ref CPl)))
    (ppg : PySem.W.plainGet K CPl Str.empty = true)
    (phd : PySem.W.hasDictIn K CPl = true)
    (ppo : PySem.W.plainOver K CPl = true)
    (psa : PySem.W.findIn K (.ref CPl) "__setattr__" = some (some (.builtin "object.__setattr__")))
    (pha : PySem.W.findIn K (.ref CPl) "__class__" = some (some (.builtin "object.__class__")))
    (pmo : PySem.W.mroIn K CPl (.type "object") = some true)
    (pmk : PySem.W.makesIn K CPl = true)
    (pkp : PySem.W.keepIn K (.ref CPl) = true)
    (prd : PySem.W.readsIn K CPl mc = true)
    (pga : PySem.W.specialIn K (.ref CPl) "__getattribute__" = some (some (.builtin "type.__getattribute__")))
    (iPI : PySem.W.findIn K (.ref CPl) "__init__" = some (some (.ref fPI)))
    (pisf : PySem.W.isFn K (.ref fPI) = true)
    (lPI : K.lookup fPI = some ⟨ocPI, odPI, .func (PySem.W.fnOf "__init__" "Plan.__init__" (defArgs sPlanInit) (defBody sPlanInit) (defScope sPlanInit) (.ref TPl) (.ref DPl) dcPI pmPI anPI cdPI ctPI), slPI⟩)
    (cPId : PySem.W.codeIn K cdPI "Plan.__init__" = true)
    (kPI : PySem.W.keepIn K (.ref fPI) = true)
    (lTPl : K.lookup TPl = some oTPl)
    (dTPl : oTPl.data = .seq #[.str "steps" tSt] nTPl)
    (kwS : PySem.W.nsIn K DPl "sets" = some (some .none))
    (kwU : PySem.W.nsIn K DPl "uses" = some (some .none))
    (pn1 : PySem.W.findIn K (.ref CPl) "order" = some none)
    (pn2 : PySem.W.findIn K (.ref CPl) "sets" = some none)
    (pn3 : PySem.W.findIn K (.ref CPl) "uses" = some none)
    (yOr : PySem.W.nsIn K mainGlobals "ORDERS" = some (some (.ref aOrd)))
    (lOr : K.lookup aOrd = some oOrd)
    (cOr : oOrd.cls = .type "tuple")
    (dOr : oOrd.data = .seq itsOrd nOrd)
    (sOr : itsOrd.size ≤ sizeLine)
    (vOr : Vals (ORD.map V.str) itsOrd.toList)
    (aCFl : PySem.W.nsIn K mainGlobals "Flow" = some (some (.ref CFl)))
    (wpg : PySem.W.plainGet K CFl Str.empty = true)
    (whd : PySem.W.hasDictIn K CFl = true)
    (wpo : PySem.W.plainOver K CFl = true)
    (wsa : PySem.W.findIn K (.ref CFl) "__setattr__" = some (some (.builtin "object.__setattr__")))
    (wha : PySem.W.findIn K (.ref CFl) "__class__" = some (some (.builtin "object.__class__")))
    (wmo : PySem.W.mroIn K CFl (.type "object") = some true)
    (wmk : PySem.W.makesIn K CFl = true)
    (wkp : PySem.W.keepIn K (.ref CFl) = true)
    (wrd : PySem.W.readsIn K CFl mc = true)
    (wga : PySem.W.specialIn K (.ref CFl) "__getattribute__" = some (some (.builtin "type.__getattribute__")))
    (iFI : PySem.W.findIn K (.ref CFl) "__init__" = some (some (.ref fFI)))
    (wfn : PySem.W.isFn K (.ref fFI) = true)
    (lFI : K.lookup fFI = some ⟨ocFI, odFI, .func (PySem.W.fnOf "__init__" "Flow.__init__" (defArgs sFlowInit) (defBody sFlowInit) (defScope sFlowInit) .none kVFI dcFI pmFI anFI cdFI ctFI), slFI⟩)
    (cFId : PySem.W.codeIn K cdFI "Flow.__init__" = true)
    (kFI : PySem.W.keepIn K (.ref fFI) = true)
    (iFP : PySem.W.findIn K (.ref CFl) "plan" = some (some (.ref fFP)))
    (nFP : PySem.W.isFn K (.ref fFP) = true)
    (lFP : K.lookup fFP = some ⟨ocFP, odFP, .func (PySem.W.fnOf "plan" "Flow.plan" (defArgs sFlowPlan) (defBody sFlowPlan) (defScope sFlowPlan) .none kVFP dcFP pmFP anFP cdFP ctFP), slFP⟩)
    (cFPd : PySem.W.codeIn K cdFP "Flow.plan" = true)
    (kFP : PySem.W.keepIn K (.ref fFP) = true)
    (wn1 : PySem.W.findIn K (.ref CFl) "schema" = some none)
    (wn2 : PySem.W.findIn K (.ref CFl) "_plans" = some none)
    (aCE : PySem.W.nsIn K mainGlobals "RuleengineError" = some (some (.ref CE)))
    (aCE_ : PySem.W.nsIn K mainGlobals "InvalidForm" = some (some (.ref CI)))
    (xLE : K.lookup CI = some (excClassObj nmE qE CI NNE bsE bmE true snE subE abE colE ddE m0E m1E m2E m3E m5E "ValueError.__new__"))
    (rvE : HandSPX.refsVE bmE = true)
    (esaE : PySem.W.findIn K (.ref CI) "__setattr__" = some (some (.builtin "object.__setattr__")))
    (eexE : PySem.W.subIn K (.ref CI) (.type "BaseException") = some true)
    (etyE : PySem.W.typeIn K (.ref CI) = some (.type "type"))
    (ekpE : PySem.W.keepIn K (.ref CI) = true)
    (efiE : PySem.W.findIn K (.ref CI) "__init__" = some (some (.ref fE)))
    (etiE : PySem.W.typeIn K (.ref fE) = some (.type "function"))
    (lEE : K.lookup fE = some ⟨ocE, odE, .func (PySem.W.ksFn "__init__" "InvalidForm.__init__" (defArgs sErrInit) (defBody sErrInit) (defScope sErrInit) .none kVE dcE pmE anE (.ref cdaE) ctE ccE), slE⟩)
    (ecdE : PySem.W.codeIn K (.ref cdaE) "InvalidForm.__init__" = true)
    (xcE : K.lookup cdaE = some ⟨cclE, cddE, .fields cvsE, ccsE⟩)
    (v2E : cvsE[2]? = some (.str fileE tfE))
    (pfE : ((P.main.file : Str) == fileE) = true)
    (xccE : K.lookup ccE = some ⟨clE, cldE, .cell (some (.ref CI)), cslE⟩)
    (emrE : PySem.W.mroIn K CI (.ref CI) = some true)
    (ealE : PySem.W.alongIn K "__init__" bmE = some (some (.builtin "ValueError.__init__")))
    (eveE : PySem.W.subIn K (.ref CI) (.type "ValueError") = some true)
    (eeiE : PySem.W.excInitIn K CI [.type "ValueError", .type "Exception", .type "BaseException", .type "object"] "ValueError.__new__" = true)
    (enf0E : PySem.W.findIn K (.ref CI) "part" = some none)
    (aCG : PySem.W.nsIn K mainGlobals "InvalidSchema" = some (some (.ref CS)))
    (xLG : K.lookup CS = some (excClassObj nmG qG CS NNG bsG bmG true snG subG abG colG ddG m0G m1G m2G m3G m5G "ValueError.__new__"))
    (rvG : HandSPX.refsVE bmG = true)
    (esaG : PySem.W.findIn K (.ref CS) "__setattr__" = some (some (.builtin "object.__setattr__")))
    (eexG : PySem.W.subIn K (.ref CS) (.type "BaseException") = some true)
    (etyG : PySem.W.typeIn K (.ref CS) = some (.type "type"))
    (ekpG : PySem.W.keepIn K (.ref CS) = true)
    (efiG : PySem.W.findIn K (.ref CS) "__init__" = some (some (.ref fG)))
    (etiG : PySem.W.typeIn K (.ref fG) = some (.type "function"))
    (lEG : K.lookup fG = some ⟨ocG, odG, .func (PySem.W.ksFn "__init__" "InvalidSchema.__init__" (defArgs sSchErr) (defBody sSchErr) (defScope sSchErr) (.ref TD) kVG dcG pmG anG (.ref cdaG) ctG ccG), slG⟩)
    (ecdG : PySem.W.codeIn K (.ref cdaG) "InvalidSchema.__init__" = true)
    (xcG : K.lookup cdaG = some ⟨cclG, cddG, .fields cvsG, ccsG⟩)
    (v2G : cvsG[2]? = some (.str fileG tfG))
    (pfG : ((P.main.file : Str) == fileG) = true)
    (xccG : K.lookup ccG = some ⟨clG, cldG, .cell (some (.ref CS)), cslG⟩)
    (emrG : PySem.W.mroIn K CS (.ref CS) = some true)
    (ealG : PySem.W.alongIn K "__init__" bmG = some (some (.builtin "ValueError.__init__")))
    (eveG : PySem.W.subIn K (.ref CS) (.type "ValueError") = some true)
    (eeiG : PySem.W.excInitIn K CS [.type "ValueError", .type "Exception", .type "BaseException", .type "object"] "ValueError.__new__" = true)
    (enf0G : PySem.W.findIn K (.ref CS) "fault" = some none)
    (enf1G : PySem.W.findIn K (.ref CS) "item" = some none)
    (egaG : PySem.W.findIn K (.ref CS) "__getattribute__" = some (some (.builtin "BaseException.__getattribute__")))
    (eggG : PySem.W.findIn K (.ref CS) "__getattr__" = some none)
    (ehdG : PySem.W.hasDictIn K CS = true)
    (ecaG : PySem.W.findIn K (.ref CS) "__class__" = some (some (.builtin "object.__class__")))
    (emoG : PySem.W.mroIn K CS (.type "object") = some true)
    (exmG : PySem.W.exmOne K (.ref CS) (.ref CE) = some true)
    (lTD : K.lookup TD = some oD)
    (dTD : oD.data = .seq #[Value.none] nD)
    (aCU : PySem.W.nsIn K mainGlobals "UnknownName" = some (some (.ref CU)))
    (xLU : K.lookup CU = some (excClassObj nmU qU CU NNU bsU bmU true snU subU abU colU ddU m0U m1U m2U m3U m5U "ValueError.__new__"))
    (rvU : HandSPX.refsVE bmU = true)
    (esaU : PySem.W.findIn K (.ref CU) "__setattr__" = some (some (.builtin "object.__setattr__")))
    (eexU : PySem.W.subIn K (.ref CU) (.type "BaseException") = some true)
    (etyU : PySem.W.typeIn K (.ref CU) = some (.type "type"))
    (ekpU : PySem.W.keepIn K (.ref CU) = true)
    (efiU : PySem.W.findIn K (.ref CU) "__init__" = some (some (.ref fU)))
    (etiU : PySem.W.typeIn K (.ref fU) = some (.type "function"))
    (lEU : K.lookup fU = some ⟨ocU, odU, .func (PySem.W.ksFn "__init__" "UnknownName.__init__" (defArgs sUnkErr) (defBody sUnkErr) (defScope sUnkErr) .none kVU dcU pmU anU (.ref cdaU) ctU ccU), slU⟩)
    (ecdU : PySem.W.codeIn K (.ref cdaU) "UnknownName.__init__" = true)
    (xcU : K.lookup cdaU = some ⟨cclU, cddU, .fields cvsU, ccsU⟩)
    (v2U : cvsU[2]? = some (.str fileU tfU))
    (pfU : ((P.main.file : Str) == fileU) = true)
    (xccU : K.lookup ccU = some ⟨clU, cldU, .cell (some (.ref CU)), cslU⟩)
    (emrU : PySem.W.mroIn K CU (.ref CU) = some true)
    (ealU : PySem.W.alongIn K "__init__" bmU = some (some (.builtin "ValueError.__init__")))
    (eveU : PySem.W.subIn K (.ref CU) (.type "ValueError") = some true)
    (eeiU : PySem.W.excInitIn K CU [.type "ValueError", .type "Exception", .type "BaseException", .type "object"] "ValueError.__new__" = true)
    (enf0U : PySem.W.findIn K (.ref CU) "word" = some none)
    (egaU : PySem.W.findIn K (.ref CU) "__getattribute__" = some (some (.builtin "BaseException.__getattribute__")))
    (eggU : PySem.W.findIn K (.ref CU) "__getattr__" = some none)
    (ehdU : PySem.W.hasDictIn K CU = true)
    (ecaU : PySem.W.findIn K (.ref CU) "__class__" = some (some (.builtin "object.__class__")))
    (emoU : PySem.W.mroIn K CU (.type "object") = some true)
    (exmU : PySem.W.exmOne K (.ref CU) (.ref CE) = some true)
    (aCIP : PySem.W.nsIn K mainGlobals "InvalidPlan" = some (some (.ref CIP)))
    (xLIP : K.lookup CIP = some (excClassObj nmIP qIP CIP NNIP bsIP bmIP true snIP subIP abIP colIP ddIP m0IP m1IP m2IP m3IP m5IP "ValueError.__new__"))
    (rvIP : HandSPX.refsVE bmIP = true)
    (esaIP : PySem.W.findIn K (.ref CIP) "__setattr__" = some (some (.builtin "object.__setattr__")))
    (eexIP : PySem.W.subIn K (.ref CIP) (.type "BaseException") = some true)
    (etyIP : PySem.W.typeIn K (.ref CIP) = some (.type "type"))
    (ekpIP : PySem.W.keepIn K (.ref CIP) = true)
    (efiIP : PySem.W.findIn K (.ref CIP) "__init__" = some (some (.ref fIP)))
    (etiIP : PySem.W.typeIn K (.ref fIP) = some (.type "function"))
    (lEIP : K.lookup fIP = some ⟨ocIP, odIP, .func (PySem.W.ksFn "__init__" "InvalidPlan.__init__" (defArgs sPlanErr) (defBody sPlanErr) (defScope sPlanErr) .none kVIP dcIP pmIP anIP (.ref cdaIP) ctIP ccIP), slIP⟩)
    (ecdIP : PySem.W.codeIn K (.ref cdaIP) "InvalidPlan.__init__" = true)
    (xcIP : K.lookup cdaIP = some ⟨cclIP, cddIP, .fields cvsIP, ccsIP⟩)
    (v2IP : cvsIP[2]? = some (.str fileIP tfIP))
    (pfIP : ((P.main.file : Str) == fileIP) = true)
    (xccIP : K.lookup ccIP = some ⟨clIP, cldIP, .cell (some (.ref CIP)), cslIP⟩)
    (emrIP : PySem.W.mroIn K CIP (.ref CIP) = some true)
    (ealIP : PySem.W.alongIn K "__init__" bmIP = some (some (.builtin "ValueError.__init__")))
    (eveIP : PySem.W.subIn K (.ref CIP) (.type "ValueError") = some true)
    (eeiIP : PySem.W.excInitIn K CIP [.type "ValueError", .type "Exception", .type "BaseException", .type "object"] "ValueError.__new__" = true)
    (enf0IP : PySem.W.findIn K (.ref CIP) "part" = some none)
    (egaIP : PySem.W.findIn K (.ref CIP) "__getattribute__" = some (some (.builtin "BaseException.__getattribute__")))
    (eggIP : PySem.W.findIn K (.ref CIP) "__getattr__" = some none)
    (ehdIP : PySem.W.hasDictIn K CIP = true)
    (ecaIP : PySem.W.findIn K (.ref CIP) "__class__" = some (some (.builtin "object.__class__")))
    (emoIP : PySem.W.mroIn K CIP (.type "object") = some true)
    (exmIP : PySem.W.exmOne K (.ref CIP) (.ref CE) = some true)
    (aCIF : PySem.W.nsIn K mainGlobals "InvalidFlow" = some (some (.ref CIF)))
    (xLIF : K.lookup CIF = some (excClassObj nmIF qIF CIF NNIF bsIF bmIF true snIF subIF abIF colIF ddIF m0IF m1IF m2IF m3IF m5IF "ValueError.__new__"))
    (rvIF : HandSPX.refsVE bmIF = true)
    (esaIF : PySem.W.findIn K (.ref CIF) "__setattr__" = some (some (.builtin "object.__setattr__")))
    (eexIF : PySem.W.subIn K (.ref CIF) (.type "BaseException") = some true)
    (etyIF : PySem.W.typeIn K (.ref CIF) = some (.type "type"))
    (ekpIF : PySem.W.keepIn K (.ref CIF) = true)
    (efiIF : PySem.W.findIn K (.ref CIF) "__init__" = some (some (.ref fIF)))
    (etiIF : PySem.W.typeIn K (.ref fIF) = some (.type "function"))
    (lEIF : K.lookup fIF = some ⟨ocIF, odIF, .func (PySem.W.ksFn "__init__" "InvalidFlow.__init__" (defArgs sFlowErr) (defBody sFlowErr) (defScope sFlowErr) .none kVIF dcIF pmIF anIF (.ref cdaIF) ctIF ccIF), slIF⟩)
    (ecdIF : PySem.W.codeIn K (.ref cdaIF) "InvalidFlow.__init__" = true)
    (xcIF : K.lookup cdaIF = some ⟨cclIF, cddIF, .fields cvsIF, ccsIF⟩)
    (v2IF : cvsIF[2]? = some (.str fileIF tfIF))
    (pfIF : ((P.main.file : Str) == fileIF) = true)
    (xccIF : K.lookup ccIF = some ⟨clIF, cldIF, .cell (some (.ref CIF)), cslIF⟩)
    (emrIF : PySem.W.mroIn K CIF (.ref CIF) = some true)
    (ealIF : PySem.W.alongIn K "__init__" bmIF = some (some (.builtin "ValueError.__init__")))
    (eveIF : PySem.W.subIn K (.ref CIF) (.type "ValueError") = some true)
    (eeiIF : PySem.W.excInitIn K CIF [.type "ValueError", .type "Exception", .type "BaseException", .type "object"] "ValueError.__new__" = true)
    (enf0IF : PySem.W.findIn K (.ref CIF) "fault" = some none)
    (enf1IF : PySem.W.findIn K (.ref CIF) "word" = some none)
    (egaIF : PySem.W.findIn K (.ref CIF) "__getattribute__" = some (some (.builtin "BaseException.__getattribute__")))
    (eggIF : PySem.W.findIn K (.ref CIF) "__getattr__" = some none)
    (ehdIF : PySem.W.hasDictIn K CIF = true)
    (ecaIF : PySem.W.findIn K (.ref CIF) "__class__" = some (some (.builtin "object.__class__")))
    (emoIF : PySem.W.mroIn K CIF (.type "object") = some true)
    (exmIF : PySem.W.exmOne K (.ref CIF) (.ref CE) = some true)
    (aX1 : PySem.W.nsIn K mainGlobals "InvalidPattern" = some (some (.ref X1)))
    (aX2 : PySem.W.nsIn K mainGlobals "InvalidTemplate" = some (some (.ref X2)))
    (aX3 : PySem.W.nsIn K mainGlobals "InvalidRule" = some (some (.ref X3)))
    (aX4 : PySem.W.nsIn K mainGlobals "InvalidGuard" = some (some (.ref X4)))
    (aX8 : PySem.W.nsIn K mainGlobals "InvalidTree" = some (some (.ref X8)))
    (aX9 : PySem.W.nsIn K mainGlobals "InvalidPart" = some (some (.ref X9)))
    (aX10 : PySem.W.nsIn K mainGlobals "InvalidAnswer" = some (some (.ref X10)))
    (aX11 : PySem.W.nsIn K mainGlobals "InvalidPath" = some (some (.ref X11)))
    (aX12 : PySem.W.nsIn K mainGlobals "InvalidPoint" = some (some (.ref X12)))
    (aX13 : PySem.W.nsIn K mainGlobals "InvalidOrder" = some (some (.ref X13)))
    (aX14 : PySem.W.nsIn K mainGlobals "WrongTree" = some (some (.ref X14)))
    (aX15 : PySem.W.nsIn K mainGlobals "NoDeed" = some (some (.ref X15)))
    (kkCIP_0 : PySem.W.kitOne K (.ref CIP) (.ref CS) = some false)
    (kkCIP_1 : PySem.W.kitOne K (.ref CIP) (.ref X1) = some false)
    (kkCIP_2 : PySem.W.kitOne K (.ref CIP) (.ref X2) = some false)
    (kkCIP_3 : PySem.W.kitOne K (.ref CIP) (.ref X3) = some false)
    (kkCIP_4 : PySem.W.kitOne K (.ref CIP) (.ref X4) = some false)
    (kkCIP_5 : PySem.W.kitOne K (.ref CIP) (.ref CIF) = some false)
    (kkCIP_6 : PySem.W.kitOne K (.ref CIP) (.ref CI) = some false)
    (kkCIP_8 : PySem.W.kitOne K (.ref CIP) (.ref X8) = some false)
    (kkCIP_9 : PySem.W.kitOne K (.ref CIP) (.ref X9) = some false)
    (kkCIP_10 : PySem.W.kitOne K (.ref CIP) (.ref X10) = some false)
    (kkCIP_11 : PySem.W.kitOne K (.ref CIP) (.ref X11) = some false)
    (kkCIP_12 : PySem.W.kitOne K (.ref CIP) (.ref X12) = some false)
    (kkCIP_13 : PySem.W.kitOne K (.ref CIP) (.ref X13) = some false)
    (kkCIP_14 : PySem.W.kitOne K (.ref CIP) (.ref X14) = some false)
    (kkCIP_15 : PySem.W.kitOne K (.ref CIP) (.ref X15) = some false)
    (kkCIP_16 : PySem.W.kitOne K (.ref CIP) (.ref CU) = some false)
    (kkCIF_0 : PySem.W.kitOne K (.ref CIF) (.ref CS) = some false)
    (kkCIF_1 : PySem.W.kitOne K (.ref CIF) (.ref X1) = some false)
    (kkCIF_2 : PySem.W.kitOne K (.ref CIF) (.ref X2) = some false)
    (kkCIF_3 : PySem.W.kitOne K (.ref CIF) (.ref X3) = some false)
    (kkCIF_4 : PySem.W.kitOne K (.ref CIF) (.ref X4) = some false)
    (kkCIF_6 : PySem.W.kitOne K (.ref CIF) (.ref CI) = some false)
    (kkCIF_7 : PySem.W.kitOne K (.ref CIF) (.ref CIP) = some false)
    (kkCIF_8 : PySem.W.kitOne K (.ref CIF) (.ref X8) = some false)
    (kkCIF_9 : PySem.W.kitOne K (.ref CIF) (.ref X9) = some false)
    (kkCIF_10 : PySem.W.kitOne K (.ref CIF) (.ref X10) = some false)
    (kkCIF_11 : PySem.W.kitOne K (.ref CIF) (.ref X11) = some false)
    (kkCIF_12 : PySem.W.kitOne K (.ref CIF) (.ref X12) = some false)
    (kkCIF_13 : PySem.W.kitOne K (.ref CIF) (.ref X13) = some false)
    (kkCIF_14 : PySem.W.kitOne K (.ref CIF) (.ref X14) = some false)
    (kkCIF_15 : PySem.W.kitOne K (.ref CIF) (.ref X15) = some false)
    (kkCIF_16 : PySem.W.kitOne K (.ref CIF) (.ref CU) = some false)
    (kkCU_0 : PySem.W.kitOne K (.ref CU) (.ref CS) = some false)
    (kkCU_1 : PySem.W.kitOne K (.ref CU) (.ref X1) = some false)
    (kkCU_2 : PySem.W.kitOne K (.ref CU) (.ref X2) = some false)
    (kkCU_3 : PySem.W.kitOne K (.ref CU) (.ref X3) = some false)
    (kkCU_4 : PySem.W.kitOne K (.ref CU) (.ref X4) = some false)
    (kkCU_5 : PySem.W.kitOne K (.ref CU) (.ref CIF) = some false)
    (kkCU_6 : PySem.W.kitOne K (.ref CU) (.ref CI) = some false)
    (kkCU_7 : PySem.W.kitOne K (.ref CU) (.ref CIP) = some false)
    (kkCU_8 : PySem.W.kitOne K (.ref CU) (.ref X8) = some false)
    (kkCU_9 : PySem.W.kitOne K (.ref CU) (.ref X9) = some false)
    (kkCU_10 : PySem.W.kitOne K (.ref CU) (.ref X10) = some false)
    (kkCU_11 : PySem.W.kitOne K (.ref CU) (.ref X11) = some false)
    (kkCU_12 : PySem.W.kitOne K (.ref CU) (.ref X12) = some false)
    (kkCU_13 : PySem.W.kitOne K (.ref CU) (.ref X13) = some false)
    (kkCU_14 : PySem.W.kitOne K (.ref CU) (.ref X14) = some false)
    (kkCU_15 : PySem.W.kitOne K (.ref CU) (.ref X15) = some false)
    (sup : PySem.W.nsIn K mainGlobals "super" = some none)
    (opq : PySem.W.nsIn K cStatics "thirdparty.any" = some none)
    (etop : (P.main.scope.names.lookup ("super" : Str)).isSome = false)
    (ecg : PySem.W.specialIn K (.builtin "object.__class__") "__get__" = some (some (.builtin "getset_descriptor.__get__")))
    (etk : PySem.W.takesIn K (.builtin "object.__class__") = some true)
    (zI : PySem.W.nsIn K mainGlobals "isinstance" = some none)
    (zS : PySem.W.nsIn K mainGlobals "str" = some none)
    (zL : PySem.W.nsIn K mainGlobals "len" = some none)
    (zA : PySem.W.nsIn K mainGlobals "all" = some none)
    (zT : PySem.W.nsIn K mainGlobals "tuple" = some none)
    (zR : PySem.W.nsIn K mainGlobals "range" = some none)
    (zE : PySem.W.nsIn K mainGlobals "enumerate" = some none)
    (zLi : PySem.W.nsIn K mainGlobals "list" = some none)
    (zRp : PySem.W.nsIn K mainGlobals "repr" = some none)
    (zMn : PySem.W.nsIn K mainGlobals "min" = some none)
    (yMx : PySem.W.nsIn K mainGlobals "MAX_NAME" = some (some (.int 20 tMx)))
    (yLt : PySem.W.nsIn K mainGlobals "LETTERS" = some (some (.str LET tLt)))
    (ySg : PySem.W.nsIn K mainGlobals "NAME_SIGNS" = some (some (.str SIG tSg)))
    (yTx : PySem.W.nsIn K mainGlobals "TEXT" = some (some (.str "text" tTx)))
    (yRw : PySem.W.nsIn K mainGlobals "ROW_SIGN" = some (some (.str "*" tRw)))
    (yRaw : PySem.W.nsIn K mainGlobals "RAW" = some (some (.str "raw_" tRaw)))
    (yMs : PySem.W.nsIn K mainGlobals "MAX_SORT" = some (some (.int 16 tMs)))
    (np_NoneType : PySem.W.kitOne K (.type "NoneType") (.ref CPl) = some false)
    (np_int : PySem.W.kitOne K (.type "int") (.ref CPl) = some false)
    (np_bool : PySem.W.kitOne K (.type "bool") (.ref CPl) = some false)
    (np_str : PySem.W.kitOne K (.type "str") (.ref CPl) = some false)
    (np_list : PySem.W.kitOne K (.type "list") (.ref CPl) = some false)
    (np_tuple : PySem.W.kitOne K (.type "tuple") (.ref CPl) = some false)
    (np_dict : PySem.W.kitOne K (.type "dict") (.ref CPl) = some false)
    (neC : CF ≠ CSc)
    (tPR : PySem.W.codeHdIn K cPR pPR = true)
    (nTPR : K.lookup pPR = none)
    (tER : PySem.W.codeHdIn K cER pER = true)
    (nTER : K.lookup pER = none)
    (tFR : PySem.W.codeHdIn K cFR pFR = true)
    (nTFR : K.lookup pFR = none)
    (np1 : pPR ≠ pER)
    (np2 : pPR ≠ pFR)
    (np3 : pER ≠ pFR) :
    ∃ cs fd sp, TopG l.prog w K mg L2.CX0 21 fa "_law_script" cs fd sp h 63 := by
  have e := hfa.symm.trans (PySem.W.mg_of X G aL)
  cases e
  subst eP
  obtain ⟨cx, e0, e1, e2, e3, e4, e5, e6, e7, e8, e9, e10, e11, e12, e13, e14, e15, e16⟩ : ∃ cx : Str → Addr, cx "InvalidSchema" = CS ∧ cx "InvalidPattern" = X1 ∧ cx "InvalidTemplate" = X2 ∧ cx "InvalidRule" = X3 ∧ cx "InvalidGuard" = X4 ∧ cx "InvalidFlow" = CIF ∧ cx "InvalidForm" = CI ∧ cx "InvalidPlan" = CIP ∧ cx "InvalidTree" = X8 ∧ cx "InvalidPart" = X9 ∧ cx "InvalidAnswer" = X10 ∧ cx "InvalidPath" = X11 ∧ cx "InvalidPoint" = X12 ∧ cx "InvalidOrder" = X13 ∧ cx "WrongTree" = X14 ∧ cx "NoDeed" = X15 ∧ cx "UnknownName" = CU := ⟨cxL [("InvalidSchema", CS), ("InvalidPattern", X1), ("InvalidTemplate", X2), ("InvalidRule", X3), ("InvalidGuard", X4), ("InvalidFlow", CIF), ("InvalidForm", CI), ("InvalidPlan", CIP), ("InvalidTree", X8), ("InvalidPart", X9), ("InvalidAnswer", X10), ("InvalidPath", X11), ("InvalidPoint", X12), ("InvalidOrder", X13), ("WrongTree", X14), ("NoDeed", X15), ("UnknownName", CU)], rfl, rfl, rfl, rfl, rfl, rfl, rfl, rfl, rfl, rfl, rfl, rfl, rfl, rfl, rfl, rfl, rfl⟩
  subst e0
  subst e1
  subst e2
  subst e3
  subst e4
  subst e5
  subst e6
  subst e7
  subst e8
  subst e9
  subst e10
  subst e11
  subst e12
  subst e13
  subst e14
  subst e15
  subst e16
  have FN0 := fun_mk (st := sName) lN cNd kN
  have FN := FN0
  have bN := FN0.binds (ps := ["value"]) fun _ _ _ _ _ _ us hl => match us, hl with | [_], _ => rfl
  have gN := PySem.W.mg_of X G aN
  have FW0 := fun_mk (st := sWordQ) lW cWd kW
  have FW := FW0
  have bW := FW0.binds (ps := ["value", "words"]) fun _ _ _ _ _ _ us hl => match us, hl with | [_, _], _ => rfl
  have gW := PySem.W.mg_of X G aW
  have FSo0 := fun_mk (st := sSort) lSo cSod kSo
  have FSo := FSo0
  have bSo := FSo0.binds (ps := ["value"]) fun _ _ _ _ _ _ us hl => match us, hl with | [_], _ => rfl
  have gSo := PySem.W.mg_of X G aSo
  have FT0 := fun_mk (st := sTaken) lT cTd kT
  have FT := FT0
  have bT := FT0.binds (ps := ["value"]) fun _ _ _ _ _ _ us hl => match us, hl with | [_], _ => rfl
  have gT := PySem.W.mg_of X G aT
  have FX0 := fun_mk (st := sSortTaken) lX cXd kX
  have FX := FX0
  have bX := FX0.binds (ps := ["takes"]) fun _ _ _ _ _ _ us hl => match us, hl with | [_], _ => rfl
  have gX := PySem.W.mg_of X G aX
  have FC0 := fun_mk (st := sChecked) lC cCd kC
  have FC := FC0
  have bC := FC0.binds (ps := ["slots"]) fun _ _ _ _ _ _ us hl => match us, hl with | [_], _ => rfl
  have gC := PySem.W.mg_of X G aC
  have FKf0 := fun_mk (st := sCheckForms) lKf cKfd kKf
  have FKf := FKf0
  have bKf := FKf0.binds (ps := ["forms"]) fun _ _ _ _ _ _ us hl => match us, hl with | [_], _ => rfl
  have gKf := PySem.W.mg_of X G aKf
  have FKs0 := fun_mk (st := sCheckSorts) lKs cKsd kKs
  have FKs := FKs0
  have bKs := FKs0.binds (ps := ["forms", "sorts"]) fun _ _ _ _ _ _ us hl => match us, hl with | [_, _], _ => rfl
  have gKs := PySem.W.mg_of X G aKs
  have FKn0 := fun_mk (st := sSortsIn) lKn cKnd kKn
  have FKn := FKn0
  have bKn := FKn0.binds (ps := ["forms"]) fun _ _ _ _ _ _ us hl => match us, hl with | [_], _ => rfl
  have gKn := PySem.W.mg_of X G aKn
  have FCP0 := fun_mk (st := sCheckPlan) lCP cCPd kCP
  have FCP := FCP0
  have bCP := FCP0.binds (ps := ["schema", "word", "plan"]) fun _ _ _ _ _ _ us hl => match us, hl with | [_, _, _], _ => rfl
  have gCP := PySem.W.mg_of X G aCP
  have FM0 := fun_mk (st := sMixed) lM cMd kM
  have FM := FM0
  have bM := FM0.binds (ps := ["_law_cell", "_law_n"]) fun _ _ _ _ _ _ us hl => match us, hl with | [_, _], _ => rfl
  have gM := PySem.W.mg_of X G aM
  have FFo0 := fun_mk (st := sFolded) lFo cFod kFo
  have FFo := FFo0
  have bFo := FFo0.binds (ps := ["_law_script"]) fun _ _ _ _ _ _ us hl => match us, hl with | [_], _ => rfl
  have gFo := PySem.W.mg_of X G aFo
  have FDr0 := fun_mk (st := sDraw) lDr cDrd kDr
  have FDr := FDr0
  have bDr := FDr0.binds (ps := ["_law_m", "_law_top"]) fun _ _ _ _ _ _ us hl => match us, hl with | [_, _], _ => rfl
  have gDr := PySem.W.mg_of X G aDr
  have FBg0 := fun_mk (st := sBegun) lBg cBgd kBg
  have FBg := FBg0
  have bBg := FBg0.binds (ps := ["_law_script"]) fun _ _ _ _ _ _ us hl => match us, hl with | [_], _ => rfl
  have gBg := PySem.W.mg_of X G aBg
  have FD20 := fun_mk (st := sDoubled) lD2 cD2d kD2
  have FD2 := FD20
  have bD2 := FD20.binds (ps := []) fun _ _ _ _ _ _ us hl => match us, hl with | [], _ => rfl
  have gD2 := PySem.W.mg_of X G aD2
  have FLV0 := fun_mk (st := sValueClass) lLV cLVd kLV
  have FLV := FLV0
  have bLV := FLV0.binds (ps := ["_law_error"]) fun _ _ _ _ _ _ us hl => match us, hl with | [_], _ => rfl
  have gLV := PySem.W.mg_of X G aLV
  have FLC0 := fun_mk (st := sClass) lLC cLCd kLC
  have FLC := FLC0
  have bLC := FLC0.binds (ps := ["_law_error"]) fun _ _ _ _ _ _ us hl => match us, hl with | [_], _ => rfl
  have gLC := PySem.W.mg_of X G aLC
  have FGo0 := fun_mk (st := sGot) lGo cGod kGo
  have FGo := FGo0
  have bGo := FGo0.binds (ps := ["_law_deed"]) fun _ _ _ _ _ _ us hl => match us, hl with | [_], _ => rfl
  have gGo := PySem.W.mg_of X G aGo
  have FIt0 := fun_mk (st := sIsIt) lIt cItd kIt
  have FIt := FIt0
  have bIt := FIt0.binds (ps := ["_law_told", "_law_word", "_law_odd"]) fun _ _ _ _ _ _ us hl => match us, hl with | [_, _, _], _ => rfl
  have gIt := PySem.W.mg_of X G aIt
  have FBa0 := fun_mk (st := sBase) lBa cBad kBa
  have FBa := FBa0
  have bBa := FBa0.binds (ps := []) fun _ _ _ _ _ _ us hl => match us, hl with | [], _ => rfl
  have gBa := PySem.W.mg_of X G aBa
  have FPR0 := fun_mk (st := sPlansRight) lPR cPRd kPR
  have FPR : FunC K "_law_plans_right" "_law_plans_right" sPlansRight fPR _ cPR := ⟨⟨_, _, _, _, _, _, _, _, rfl, lPR, cPRd⟩, kPR⟩
  have bPR := FPR0.binds (ps := ["_law_odd", "_law_slot"]) fun _ _ _ _ _ _ us hl => match us, hl with | [_, _], _ => rfl
  have gPR := PySem.W.mg_of X G aPR
  have FER0 := fun_mk (st := sEntriesRight) lER cERd kER
  have FER : FunC K "_law_entries_right" "_law_entries_right" sEntriesRight fER _ cER := ⟨⟨_, _, _, _, _, _, _, _, rfl, lER, cERd⟩, kER⟩
  have bER := FER0.binds (ps := ["_law_base_here", "_law_word", "_law_odd"]) fun _ _ _ _ _ _ us hl => match us, hl with | [_, _, _], _ => rfl
  have gER := PySem.W.mg_of X G aER
  have FFR0 := fun_mk (st := sFlowRight) lFR cFRd kFR
  have FFR : FunC K "_law_flow_right" "_law_flow_right" sFlowRight fFR _ cFR := ⟨⟨_, _, _, _, _, _, _, _, rfl, lFR, cFRd⟩, kFR⟩
  have bFR := FFR0.binds (ps := ["_law_base_here", "_law_odd"]) fun _ _ _ _ _ _ us hl => match us, hl with | [_, _], _ => rfl
  have gFR := PySem.W.mg_of X G aFR
  have FL0 := fun_mk (st := sLaw) lL cLd kL
  have FL : FunC K "law" "law" sLaw fa _ cL := ⟨⟨_, _, _, _, _, _, _, _, rfl, lL, cLd⟩, kL⟩
  have bL := FL0.binds (ps := ["_law_script"]) fun _ _ _ _ _ _ us hl => match us, hl with | [_], _ => rfl
  have gL := PySem.W.mg_of X G aL
  have FO : Fun K "of" "Form.of" sFormOf fO _ := fun_mk (st := sFormOf) lO cOd kO
  have bO := FO.binds (ps := ["cls", "name", "sort", "slots"]) fun _ _ _ _ _ _ us hl => match us, hl with | [_, _, _, _], _ => rfl
  have FSO : Fun K "of" "Schema.of" sSchOf fSO _ := fun_mk (st := sSchOf) lSO cSOd kSO
  have bSO := FSO.binds (ps := ["cls", "forms"]) fun _ _ _ _ _ _ us hl => match us, hl with | [_, _], _ => rfl
  have FSe : Fun K "__eq__" "Schema.__eq__" sSchEq fSe _ := fun_mk (st := sSchEq) lSe cSed kSe
  have bSe := FSe.binds (ps := ["self", "other"]) fun _ _ _ _ _ _ us hl => match us, hl with | [_, _], _ => rfl
  have FSh : Fun K "__contains__" "Schema.__contains__" sSchHas fSh _ := fun_mk (st := sSchHas) lSh cShd kSh
  have bSh := FSh.binds (ps := ["self", "x"]) fun _ _ _ _ _ _ us hl => match us, hl with | [_, _], _ => rfl
  have FSg : Fun K "__getitem__" "Schema.__getitem__" sSchGet fSg _ := fun_mk (st := sSchGet) lSg cSgd kSg
  have bSg := FSg.binds (ps := ["self", "at"]) fun _ _ _ _ _ _ us hl => match us, hl with | [_, _], _ => rfl
  have FFI : Fun K "__init__" "Flow.__init__" sFlowInit fFI _ := fun_mk (st := sFlowInit) lFI cFId kFI
  have bFI := FFI.binds (ps := ["self", "schema", "plans"]) fun _ _ _ _ _ _ us hl => match us, hl with | [_, _, _], _ => rfl
  have FFP : Fun K "plan" "Flow.plan" sFlowPlan fFP _ := fun_mk (st := sFlowPlan) lFP cFPd kFP
  have bFP := FFP.binds (ps := ["self", "name"]) fun _ _ _ _ _ _ us hl => match us, hl with | [_, _], _ => rfl
  have FI : Fun K "__init__" "Form.__init__" sFormInit fI _ := fun_mk (st := sFormInit) lI cId kI
  have FSI : Fun K "__init__" "Schema.__init__" sSchInit fSI _ := fun_mk (st := sSchInit) lSI cSId kSI
  have none_of : ∀ {x : Str}, PySem.W.nsIn K mainGlobals x = some none → mg x = none := fun {x} z => PySem.W.mg_none_of X G z
  have TN : TxtN mg := ⟨none_of zI, none_of zS, none_of zL, none_of zA, ⟨_, PySem.W.mg_of X G yMx⟩, ⟨_, PySem.W.mg_of X G yLt⟩, ⟨_, PySem.W.mg_of X G ySg⟩, ⟨_, PySem.W.mg_of X G yTx⟩, ⟨_, PySem.W.mg_of X G yRw⟩⟩
  have hclE : PySem.W.clsIn K (cx "InvalidForm") = some { name := nmE, bases := bsE, mro := .ref (cx "InvalidForm") :: bmE, ns := NNE, qualname := qE, hasDict := true, slotNames := snE, subclasses := subE, abstract := abE, collection := colE, hasDel := false } := by
    unfold PySem.W.clsIn
    rw [xLE]
  have ECE : ErrC l.prog K mg (cx "InvalidForm") fE cdaE ccE "part" "InvalidForm.__init__" sErrInit :=
    { ox := ⟨⟨nmE, qE, NNE, bsE, bmE, snE, subE, abE, colE, ddE, m0E, m1E, m2E, m3E, m5E, xLE, rvE⟩, esaE, eexE, etyE, ekpE⟩, fi := efiE, ti := etiE, fn := ⟨_, _, _, _, _, _, _, _, lEE⟩, cd := ecdE, cod := ⟨_, _, _, _, _, _, xcE, v2E, pfE⟩, cel := ⟨_, _, _, xccE⟩, mr := emrE,
      al := fun cd hc => by
        rw [hclE] at hc
        cases hc
        have e0 : (Value.ref (cx "InvalidForm") :: bmE).dropWhile (fun x => x != Value.ref (cx "InvalidForm")) = Value.ref (cx "InvalidForm") :: bmE := by
          rw [List.dropWhile_cons, if_neg (by simp)]
        show PySem.W.alongIn K "__init__" (((Value.ref (cx "InvalidForm") :: bmE).dropWhile (fun x => x != Value.ref (cx "InvalidForm"))).drop 1) = _
        rw [e0]
        exact ealE
      sup := sup, opq := opq, ve := eveE, ei := eeiE, nf := enf0E, top := etop }
  have hclG : PySem.W.clsIn K (cx "InvalidSchema") = some { name := nmG, bases := bsG, mro := .ref (cx "InvalidSchema") :: bmG, ns := NNG, qualname := qG, hasDict := true, slotNames := snG, subclasses := subG, abstract := abG, collection := colG, hasDel := false } := by
    unfold PySem.W.clsIn
    rw [xLG]
  have ECG : ErrC2 l.prog K mg (cx "InvalidSchema") fG cdaG ccG "fault" "item" "InvalidSchema.__init__" sSchErr (.ref TD) :=
    { ox := ⟨⟨nmG, qG, NNG, bsG, bmG, snG, subG, abG, colG, ddG, m0G, m1G, m2G, m3G, m5G, xLG, rvG⟩, esaG, eexG, etyG, ekpG⟩, fi := efiG, ti := etiG, fn := ⟨_, _, _, _, _, _, _, _, lEG⟩, cd := ecdG, cod := ⟨_, _, _, _, _, _, xcG, v2G, pfG⟩, cel := ⟨_, _, _, xccG⟩, mr := emrG,
      al := fun cd hc => by
        rw [hclG] at hc
        cases hc
        have e0 : (Value.ref (cx "InvalidSchema") :: bmG).dropWhile (fun x => x != Value.ref (cx "InvalidSchema")) = Value.ref (cx "InvalidSchema") :: bmG := by
          rw [List.dropWhile_cons, if_neg (by simp)]
        show PySem.W.alongIn K "__init__" (((Value.ref (cx "InvalidSchema") :: bmG).dropWhile (fun x => x != Value.ref (cx "InvalidSchema"))).drop 1) = _
        rw [e0]
        exact ealG
      sup := sup, opq := opq, ve := eveG, ei := eeiG, nf := enf0G, nf2 := enf1G, top := etop }
  have hclU : PySem.W.clsIn K (cx "UnknownName") = some { name := nmU, bases := bsU, mro := .ref (cx "UnknownName") :: bmU, ns := NNU, qualname := qU, hasDict := true, slotNames := snU, subclasses := subU, abstract := abU, collection := colU, hasDel := false } := by
    unfold PySem.W.clsIn
    rw [xLU]
  have ECU : ErrC l.prog K mg (cx "UnknownName") fU cdaU ccU "word" "UnknownName.__init__" sUnkErr :=
    { ox := ⟨⟨nmU, qU, NNU, bsU, bmU, snU, subU, abU, colU, ddU, m0U, m1U, m2U, m3U, m5U, xLU, rvU⟩, esaU, eexU, etyU, ekpU⟩, fi := efiU, ti := etiU, fn := ⟨_, _, _, _, _, _, _, _, lEU⟩, cd := ecdU, cod := ⟨_, _, _, _, _, _, xcU, v2U, pfU⟩, cel := ⟨_, _, _, xccU⟩, mr := emrU,
      al := fun cd hc => by
        rw [hclU] at hc
        cases hc
        have e0 : (Value.ref (cx "UnknownName") :: bmU).dropWhile (fun x => x != Value.ref (cx "UnknownName")) = Value.ref (cx "UnknownName") :: bmU := by
          rw [List.dropWhile_cons, if_neg (by simp)]
        show PySem.W.alongIn K "__init__" (((Value.ref (cx "UnknownName") :: bmU).dropWhile (fun x => x != Value.ref (cx "UnknownName"))).drop 1) = _
        rw [e0]
        exact ealU
      sup := sup, opq := opq, ve := eveU, ei := eeiU, nf := enf0U, top := etop }
  have hclIP : PySem.W.clsIn K (cx "InvalidPlan") = some { name := nmIP, bases := bsIP, mro := .ref (cx "InvalidPlan") :: bmIP, ns := NNIP, qualname := qIP, hasDict := true, slotNames := snIP, subclasses := subIP, abstract := abIP, collection := colIP, hasDel := false } := by
    unfold PySem.W.clsIn
    rw [xLIP]
  have ECIP : ErrC l.prog K mg (cx "InvalidPlan") fIP cdaIP ccIP "part" "InvalidPlan.__init__" sPlanErr :=
    { ox := ⟨⟨nmIP, qIP, NNIP, bsIP, bmIP, snIP, subIP, abIP, colIP, ddIP, m0IP, m1IP, m2IP, m3IP, m5IP, xLIP, rvIP⟩, esaIP, eexIP, etyIP, ekpIP⟩, fi := efiIP, ti := etiIP, fn := ⟨_, _, _, _, _, _, _, _, lEIP⟩, cd := ecdIP, cod := ⟨_, _, _, _, _, _, xcIP, v2IP, pfIP⟩, cel := ⟨_, _, _, xccIP⟩, mr := emrIP,
      al := fun cd hc => by
        rw [hclIP] at hc
        cases hc
        have e0 : (Value.ref (cx "InvalidPlan") :: bmIP).dropWhile (fun x => x != Value.ref (cx "InvalidPlan")) = Value.ref (cx "InvalidPlan") :: bmIP := by
          rw [List.dropWhile_cons, if_neg (by simp)]
        show PySem.W.alongIn K "__init__" (((Value.ref (cx "InvalidPlan") :: bmIP).dropWhile (fun x => x != Value.ref (cx "InvalidPlan"))).drop 1) = _
        rw [e0]
        exact ealIP
      sup := sup, opq := opq, ve := eveIP, ei := eeiIP, nf := enf0IP, top := etop }
  have hclIF : PySem.W.clsIn K (cx "InvalidFlow") = some { name := nmIF, bases := bsIF, mro := .ref (cx "InvalidFlow") :: bmIF, ns := NNIF, qualname := qIF, hasDict := true, slotNames := snIF, subclasses := subIF, abstract := abIF, collection := colIF, hasDel := false } := by
    unfold PySem.W.clsIn
    rw [xLIF]
  have ECIF : ErrC2 l.prog K mg (cx "InvalidFlow") fIF cdaIF ccIF "fault" "word" "InvalidFlow.__init__" sFlowErr .none :=
    { ox := ⟨⟨nmIF, qIF, NNIF, bsIF, bmIF, snIF, subIF, abIF, colIF, ddIF, m0IF, m1IF, m2IF, m3IF, m5IF, xLIF, rvIF⟩, esaIF, eexIF, etyIF, ekpIF⟩, fi := efiIF, ti := etiIF, fn := ⟨_, _, _, _, _, _, _, _, lEIF⟩, cd := ecdIF, cod := ⟨_, _, _, _, _, _, xcIF, v2IF, pfIF⟩, cel := ⟨_, _, _, xccIF⟩, mr := emrIF,
      al := fun cd hc => by
        rw [hclIF] at hc
        cases hc
        have e0 : (Value.ref (cx "InvalidFlow") :: bmIF).dropWhile (fun x => x != Value.ref (cx "InvalidFlow")) = Value.ref (cx "InvalidFlow") :: bmIF := by
          rw [List.dropWhile_cons, if_neg (by simp)]
        show PySem.W.alongIn K "__init__" (((Value.ref (cx "InvalidFlow") :: bmIF).dropWhile (fun x => x != Value.ref (cx "InvalidFlow"))).drop 1) = _
        rw [e0]
        exact ealIF
      sup := sup, opq := opq, ve := eveIF, ei := eeiIF, nf := enf0IF, nf2 := enf1IF, top := etop }
  have ER : ErrF l.prog K mg (cx "InvalidForm") := ⟨⟨_, _, _, ECE⟩, PySem.W.mg_of X G aCE_⟩
  have ES : ErrS l.prog K mg (cx "InvalidSchema") := ⟨⟨_, _, _, _, _, _, ECG, lTD, dTD⟩, PySem.W.mg_of X G aCG⟩
  have EU : ErrU l.prog K mg (cx "UnknownName") := ⟨⟨_, _, _, ECU⟩, PySem.W.mg_of X G aCU⟩
  have EP : ErrP l.prog K mg (cx "InvalidPlan") := ⟨⟨_, _, _, ECIP⟩, PySem.W.mg_of X G aCIP⟩
  have EW : ErrW l.prog K mg (cx "InvalidFlow") := ⟨⟨_, _, _, ECIF⟩, PySem.W.mg_of X G aCIF⟩
  have CRd : ClX.CRead K CF mc := ⟨frd, fga⟩
  have CRs : ClX.CRead K CSc mc := ⟨srd, sga⟩
  have CMo : ClX.CMet K CF mc "of" pO fO := ⟨oat, ⟨_, orc⟩, ofi⟩
  have CMs : ClX.CMet K CSc mc "of" pS fSO := ⟨soat, ⟨_, sorc⟩, sofi⟩
  have gF := PySem.W.mg_of X G aCF
  have gSc := PySem.W.mg_of X G aCSc
  have gPl := PySem.W.mg_of X G aCPl
  have gFl := PySem.W.mg_of X G aCFl
  have FCl : FormCls K CF := ⟨⟨fpg, fhd, fpo, fsa⟩, fha, ecg, etk, fmo⟩
  have FSc : FormCls K CSc := ⟨⟨spg, shd, spo, ssa⟩, sha, ecg, etk, smo⟩
  have FPl_ : FormCls K CPl := ⟨⟨ppg, phd, ppo, psa⟩, pha, ecg, etk, pmo⟩
  have SC : SchCls K CSc := ⟨⟨spg, shd, spo, ssa⟩, sn1, sn2, sn3, sn4⟩
  have FL_ : FlowCls K CFl := ⟨⟨wpg, whd, wpo, wsa⟩, wn1, wn2⟩
  have MF : Mk K CF fI := ⟨fmk, iF, ffn, fkp⟩
  have MS : Mk K CSc fSI := ⟨smk, iS, sfn, skp⟩
  have MP : Mk K CPl fPI := ⟨pmk, iPI, pisf, pkp⟩
  have MW : Mk K CFl fFI := ⟨wmk, iFI, wfn, wkp⟩
  have FPI : FunPl K fPI (PySem.W.fnOf "__init__" "Plan.__init__" (defArgs sPlanInit) (defBody sPlanInit) (defScope sPlanInit) (.ref TPl) (.ref DPl) dcPI pmPI anPI cdPI ctPI) := ⟨⟨_, _, _, _, _, _, _, _, _, _, rfl, lPI, cPId, .inr ⟨nofun, TPl, oTPl, [.str "steps" tSt], nTPl, rfl, lTPl, dTPl, .cons ⟨_, rfl⟩ .nil⟩, .inr ⟨DPl, rfl, List.forall_mem_cons.mpr ⟨⟨_, kwS, rfl⟩, List.forall_mem_cons.mpr ⟨⟨_, kwU, rfl⟩, List.forall_mem_nil _⟩⟩⟩⟩, kPI⟩
  have TF := TxtF.mk (P := l.prog) (K := K) (mg := mg) (CI := (cx "InvalidForm")) (CF := CF) TN ER gN kN bN gT kT bT (none_of zT) gF ⟨mc, t5, CRd, ⟨fmxs, ⟨_, rfl⟩⟩⟩
  have TC := TxtC.mk TF gSo kSo bSo gC kC bC ⟨fpg, fhd, fpo, fsa⟩ nN nK nS MF
  have TS : TxtS l.prog K mg (cx "InvalidSchema") CF CSc := ⟨ES, FCl, nN, nK, nS, gF, gSc, none_of zI, none_of zL, none_of zE, none_of zT, ⟨_, PySem.W.mg_of X G yRaw⟩, ⟨_, PySem.W.mg_of X G yTx⟩, ⟨_, PySem.W.mg_of X G yMs⟩, ⟨mc, _, CRs, ⟨mxv, ⟨_, rfl⟩⟩⟩⟩
  have TPp := TxtP.mk (P := l.prog) (K := K) (mg := mg) (CP := CPl) EP gN kN bN gW kW bW (PySem.W.mg_of X G yOr) (fun H => .inr ⟨oOrd, itsOrd, nOrd, lOr, cOr, dOr, sOr, vOr⟩) ⟨ppg, phd, ppo, psa⟩ pn1 pn2 pn3
  have CG : ClsG mg cx := ⟨(List.forall_mem_cons.mpr ⟨PySem.W.mg_of X G aCG, (List.forall_mem_cons.mpr ⟨PySem.W.mg_of X G aX1, (List.forall_mem_cons.mpr ⟨PySem.W.mg_of X G aX2, (List.forall_mem_cons.mpr ⟨PySem.W.mg_of X G aX3, (List.forall_mem_cons.mpr ⟨PySem.W.mg_of X G aX4, (List.forall_mem_cons.mpr ⟨PySem.W.mg_of X G aCIF, (List.forall_mem_cons.mpr ⟨PySem.W.mg_of X G aCE_, (List.forall_mem_cons.mpr ⟨PySem.W.mg_of X G aCIP, (List.forall_mem_cons.mpr ⟨PySem.W.mg_of X G aX8, (List.forall_mem_cons.mpr ⟨PySem.W.mg_of X G aX9, (List.forall_mem_cons.mpr ⟨PySem.W.mg_of X G aX10, (List.forall_mem_cons.mpr ⟨PySem.W.mg_of X G aX11, (List.forall_mem_cons.mpr ⟨PySem.W.mg_of X G aX12, (List.forall_mem_cons.mpr ⟨PySem.W.mg_of X G aX13, (List.forall_mem_cons.mpr ⟨PySem.W.mg_of X G aX14, (List.forall_mem_cons.mpr ⟨PySem.W.mg_of X G aX15, (List.forall_mem_cons.mpr ⟨PySem.W.mg_of X G aCU, (List.forall_mem_nil _)⟩)⟩)⟩)⟩)⟩)⟩)⟩)⟩)⟩)⟩)⟩)⟩)⟩)⟩)⟩)⟩)⟩), none_of zI⟩
  have CTP : ClsT K cx "InvalidPlan" := ⟨⟨by rw [hclIP]; rfl, egaIP, eggIP, eexIP, ehdIP, ecaIP, ecg, etk, emoIP⟩, (List.forall_mem_cons.mpr ⟨fun _ => kkCIP_0, (List.forall_mem_cons.mpr ⟨fun _ => kkCIP_1, (List.forall_mem_cons.mpr ⟨fun _ => kkCIP_2, (List.forall_mem_cons.mpr ⟨fun _ => kkCIP_3, (List.forall_mem_cons.mpr ⟨fun _ => kkCIP_4, (List.forall_mem_cons.mpr ⟨fun _ => kkCIP_5, (List.forall_mem_cons.mpr ⟨fun _ => kkCIP_6, (List.forall_mem_cons.mpr ⟨(fun z => absurd rfl z), (List.forall_mem_cons.mpr ⟨fun _ => kkCIP_8, (List.forall_mem_cons.mpr ⟨fun _ => kkCIP_9, (List.forall_mem_cons.mpr ⟨fun _ => kkCIP_10, (List.forall_mem_cons.mpr ⟨fun _ => kkCIP_11, (List.forall_mem_cons.mpr ⟨fun _ => kkCIP_12, (List.forall_mem_cons.mpr ⟨fun _ => kkCIP_13, (List.forall_mem_cons.mpr ⟨fun _ => kkCIP_14, (List.forall_mem_cons.mpr ⟨fun _ => kkCIP_15, (List.forall_mem_cons.mpr ⟨fun _ => kkCIP_16, (List.forall_mem_nil _)⟩)⟩)⟩)⟩)⟩)⟩)⟩)⟩)⟩)⟩)⟩)⟩)⟩)⟩)⟩)⟩)⟩)⟩
  have CTW : ClsT K cx "InvalidFlow" := ⟨⟨by rw [hclIF]; rfl, egaIF, eggIF, eexIF, ehdIF, ecaIF, ecg, etk, emoIF⟩, (List.forall_mem_cons.mpr ⟨fun _ => kkCIF_0, (List.forall_mem_cons.mpr ⟨fun _ => kkCIF_1, (List.forall_mem_cons.mpr ⟨fun _ => kkCIF_2, (List.forall_mem_cons.mpr ⟨fun _ => kkCIF_3, (List.forall_mem_cons.mpr ⟨fun _ => kkCIF_4, (List.forall_mem_cons.mpr ⟨(fun z => absurd rfl z), (List.forall_mem_cons.mpr ⟨fun _ => kkCIF_6, (List.forall_mem_cons.mpr ⟨fun _ => kkCIF_7, (List.forall_mem_cons.mpr ⟨fun _ => kkCIF_8, (List.forall_mem_cons.mpr ⟨fun _ => kkCIF_9, (List.forall_mem_cons.mpr ⟨fun _ => kkCIF_10, (List.forall_mem_cons.mpr ⟨fun _ => kkCIF_11, (List.forall_mem_cons.mpr ⟨fun _ => kkCIF_12, (List.forall_mem_cons.mpr ⟨fun _ => kkCIF_13, (List.forall_mem_cons.mpr ⟨fun _ => kkCIF_14, (List.forall_mem_cons.mpr ⟨fun _ => kkCIF_15, (List.forall_mem_cons.mpr ⟨fun _ => kkCIF_16, (List.forall_mem_nil _)⟩)⟩)⟩)⟩)⟩)⟩)⟩)⟩)⟩)⟩)⟩)⟩)⟩)⟩)⟩)⟩)⟩)⟩
  have CTU : ClsT K cx "UnknownName" := ⟨⟨by rw [hclU]; rfl, egaU, eggU, eexU, ehdU, ecaU, ecg, etk, emoU⟩, (List.forall_mem_cons.mpr ⟨fun _ => kkCU_0, (List.forall_mem_cons.mpr ⟨fun _ => kkCU_1, (List.forall_mem_cons.mpr ⟨fun _ => kkCU_2, (List.forall_mem_cons.mpr ⟨fun _ => kkCU_3, (List.forall_mem_cons.mpr ⟨fun _ => kkCU_4, (List.forall_mem_cons.mpr ⟨fun _ => kkCU_5, (List.forall_mem_cons.mpr ⟨fun _ => kkCU_6, (List.forall_mem_cons.mpr ⟨fun _ => kkCU_7, (List.forall_mem_cons.mpr ⟨fun _ => kkCU_8, (List.forall_mem_cons.mpr ⟨fun _ => kkCU_9, (List.forall_mem_cons.mpr ⟨fun _ => kkCU_10, (List.forall_mem_cons.mpr ⟨fun _ => kkCU_11, (List.forall_mem_cons.mpr ⟨fun _ => kkCU_12, (List.forall_mem_cons.mpr ⟨fun _ => kkCU_13, (List.forall_mem_cons.mpr ⟨fun _ => kkCU_14, (List.forall_mem_cons.mpr ⟨fun _ => kkCU_15, (List.forall_mem_cons.mpr ⟨(fun z => absurd rfl z), (List.forall_mem_nil _)⟩)⟩)⟩)⟩)⟩)⟩)⟩)⟩)⟩)⟩)⟩)⟩)⟩)⟩)⟩)⟩)⟩)⟩
  have CA : ClsA K mg cx := ⟨CG, CTP, CTW, CTU, enf0IP, enf0IF, enf1IF, enf0U⟩
  have NP : NoP K CPl := ⟨np_NoneType, np_int, np_bool, np_str, np_list, np_tuple, np_dict⟩
  have hd1 := PySem.W.codeHd_of_K X tPR
  have hd2 := PySem.W.codeHd_of_K X tER
  have hd3 := PySem.W.codeHd_of_K X tFR
  obtain ⟨un1, un2, un3⟩ := uni3 (qa := qPR) (qb := qER) (qc := qFR) np1 np2 np3
  refine ⟨[(cPR, pPR), (cER, pER), (cFR, pFR)], PySem.W.fnOf "law" "law" (defArgs sLaw) (defBody sLaw) (defScope sLaw) .none kVL dcL pmL anL (.ref cL) ctL, spLaw K [(pPR, qPR), (pER, qER), (pFR, qFR)], fun p hp => ?_, fun p hp => ?_, fun p hp => ?_, fun s v => .of_eq rfl, fun H a ns hl _ hT hS => ⟨a, ns, rfl, hS, hl, fun p hp => ?_, fun H' => rfl⟩, fun base X0 G0 hTB => ?_⟩
  · simp only [List.mem_cons, List.not_mem_nil, or_false] at hp
    rcases hp with z | z | z <;> rw [z]
    · exact h1T
    · exact h2T
    · exact h3T
  · simp only [List.mem_cons, List.not_mem_nil, or_false] at hp
    rcases hp with z | z | z <;> rw [z]
    · exact nTPR
    · exact nTER
    · exact nTFR
  · simp only [List.mem_cons, List.not_mem_nil, or_false] at hp
    rcases hp with z | z | z <;> rw [z]
    · exact hd1
    · exact hd2
    · exact hd3
  · simp only [List.mem_cons, List.not_mem_nil, or_false] at hp
    rcases hp with z | z | z <;> rw [z]
    · exact TabS.nil (hT (cPR, pPR) (by simp))
    · exact TabS.nil (hT (cER, pER) (by simp))
    · exact TabS.nil (hT (cFR, pFR) (by simp))
  · have TB1 := hTB (cPR, pPR) (by simp)
    have TB2 := hTB (cER, pER) (by simp)
    have TB3 := hTB (cFR, pFR) (by simp)
    have GN := ok_name (P := l.prog) (w := w) (base := base) FN TN
    have GW := ok_wordQ (P := l.prog) (w := w) (base := base) FW TN
    have GSo := ok_sort (P := l.prog) (w := w) (base := base) FSo TN FN bN gN
    have GT := ok_taken (P := l.prog) (w := w) (base := base) FT TN FN bN gN FSo bSo gSo FX bX gX
    have GX := ok_sortTaken (P := l.prog) (w := w) (base := base) FX TN
    have GC := ok_checked (P := l.prog) (w := w) (base := base) FC TF GN GT
    have GO := ok_of (P := l.prog) (w := w) (base := base) FO FI TC GN GSo GC
    have Gt := init_kw (P := l.prog) (w := w) (base := base) FI TC kw_text (by decide +kernel) (by decide) GN GSo GC
    have GKf := ok_checkF (P := l.prog) (w := w) (base := base) FKf TS
    have GKs := ok_checkS (P := l.prog) (w := w) (base := base) FKs TS
    have GKn := ok_sortsIn (P := l.prog) (w := w) (base := base) FKn TS gX kX bX GX
    have GSI := schInit_fnR (P := l.prog) (w := w) (base := base) FSI TS SC neC MF Gt GKf gKf kKf bKf GKn gKn kKn bKn GKs gKs kKs bKs
    have GSO := ok_schOf (P := l.prog) (w := w) (base := base) FSO TS MS GSI
    have GSe := ok_schEq (P := l.prog) (w := w) (base := base) FSe TS SC FSc
    have GSh := ok_schHas (P := l.prog) (w := w) (base := base) FSh TS (none_of zS) SC
    have GSg := ok_schGet (P := l.prog) (w := w) (base := base) FSg TS EU (none_of zS) SC
    have SK : SchK l.prog w K mg base (cx "UnknownName") CF CSc fSe fSh fSg := ⟨SC, FCl, ⟨iSg, nSg, wSg⟩, ⟨iSh, nSh, wSh⟩, ⟨iSe, nSe, wSe⟩, ⟨smo, sne⟩, raw_of GSg bSg, raw_of GSh bSh, raw_of GSe bSe, nN, nS⟩
    have GPI := ok_plan (P := l.prog) (w := w) (base := base) FPI TPp GN GW
    have TPl_ : TxtPl l.prog w K mg base CPl (cx "InvalidPlan") fPI _ := ⟨MP, FPI, GPI, gPl, FPl_, pn1, pn2, pn3⟩
    have GCP := ok_checkP (P := l.prog) (w := w) (base := base) FCP SK TPl_ EW (none_of zI) ⟨_, PySem.W.mg_of X G yTx⟩
    have GFI := ok_flowInit (P := l.prog) (w := w) (base := base) FFI SK TPl_ FL_ GCP gCP kCP bCP ⟨_, PySem.W.mg_of X G yRaw⟩
    have GFP := ok_flowPlan (P := l.prog) (w := w) (base := base) (CP := CPl) FFP SK FL_ EU
    have GLV := ok_valCls (P := l.prog) (w := w) (base := base) FLV CA
    have GLC := ok_cls (P := l.prog) (w := w) (base := base) FLC CA GLV gLV kLV bLV
    have TG : TxtG l.prog w K mg base cx CE fGo fLC _ _ := ⟨FGo, bGo, gGo, PySem.W.mg_of X G aCE, CA, exmIP, exmIF, exmU, GLC, gLC, kLC, bLC⟩
    have GD2 := ok_doubled (P := l.prog) (w := w) (base := base) FD2 (none_of zR)
    have GDr := ok_draw (P := l.prog) (w := w) (base := base) FDr FM bM gM (none_of zL)
    have GBg := ok_begun (P := l.prog) (w := w) (base := base) FBg FFo bFo gFo (none_of zR) (none_of zE)
    have GIt := ok_isIt (P := l.prog) (w := w) (base := base) FIt ⟨none_of zI, none_of zT, none_of zLi, none_of zL, none_of zRp⟩
    have TBa : TxtBa l.prog w K mg base (cx "InvalidForm") CF (cx "InvalidSchema") CSc pO fO pS fSO _ _ := ⟨gF, gSc, none_of zT, ⟨mc, CRd, CMo⟩, ⟨mc, CRs, CMs⟩, GO, bO, GSO, bSO⟩
    have GBa := ok_base (P := l.prog) (w := w) (base := base) FBa TBa
    have GPR := ok_plansRight (P := l.prog) (w := w) (base := base) (T := [(pPR, qPR), (pER, qER), (pFR, qFR)]) FPR TPl_ TG TB1 (by simp) un1
    have TER : TxtER l.prog w K mg base cx (cx "UnknownName") CF CSc CPl CFl CE fPI fGo fLC fSe fSh fSg fFI _ _ _ _ := ⟨TPl_, TG, SK, MW, FFI, GFI, bFI, gFl⟩
    have GER := ok_entriesRight (P := l.prog) (w := w) (base := base) (T := [(pPR, qPR), (pER, qER), (pFR, qFR)]) FER TER (none_of zRp) TB2 (by simp) un2
    have TFR : TxtFR l.prog w K mg base cx CF CSc CPl CFl CE fPI fGo fLC fSe fSh fSg fFI fFP fIt _ _ _ _ _ _ := { toTxtER := TER, FL := FL_, SF := FSc, MP := ⟨iFP, nFP, kFP⟩, FP := FFP, GP := GFP, bP := bFP, GI := GIt, gI := gIt, kI := kIt, bI := bIt }
    have GFR := ok_flowRight (P := l.prog) (w := w) (base := base) (T := [(pPR, qPR), (pER, qER), (pFR, qFR)]) FFR TFR TB3 (by simp) un3
    have TLW_ : TxtLW l.prog w K mg base CPl fDr fD2 _ _ := ⟨GDr, ⟨gDr, kDr, bDr⟩, GD2, ⟨gD2, kD2, bD2⟩, NP⟩
    have TLa : TxtLaw l.prog w K mg base CF CSc CPl fDr fD2 fBg fBa fPR fER fFR _ _ _ _ _ _ _ [(pPR, qPR), (pER, qER), (pFR, qFR)] := { toTxtLW := TLW_, GBg := GBg, ABg := ⟨gBg, kBg, bBg⟩, GBa := GBa, ABa := ⟨gBa, kBa, bBa⟩, GPR := GPR, APR := ⟨gPR, kPR, bPR⟩, GER := GER, AER := ⟨gER, kER, bER⟩, GFR := GFR, AFR := ⟨gFR, kFR, bFR⟩, gR := none_of zR, gM := none_of zMn, gL := none_of zL }
    exact ok_law (T := [(pPR, qPR), (pER, qER), (pFR, qFR)]) FL TLa
end K2

open PySem PySem.W PyProof.Rows
set_option maxRecDepth 100000 in
set_option maxHeartbeats 0 in
theorem PySem.Challenge.cw_ruleengine_k48_plans_and_flows_refused_holds : PySem.Challenge.rw_ruleengine_k48_plans_and_flows_refused.Holds := by
  w_on; o_law
  refine HandSHeadRun.head_any (r := OpenLaw.row PySem.Challenge.rw_ruleengine_k48_plans_and_flows_refused) (q := KH.qvF) (H := PySem.W.kmHook KH.KF KH.asF KH.as_eq [934, 939, 946]) (ob := KH.obF) (M := 10078) (loose := KH.looseF) (kwd := []) KH.obF_eq (by kernel_rfl) (fun s => by kernel_rfl) KH.runF (by rfl) (by rfl) (by rfl) (by rfl) (by first | assumption | decide +kernel) (by decide +kernel) ⟨rfl, rfl, rfl, rfl, rfl, by decide +kernel⟩ ?hw ?hc
  case hw => w_witness2
  case hc =>
  k_fill
  refine EG.walk_G (l := PySem.Challenge.rw_ruleengine_k48_plans_and_flows_refused) (n := 63) (k := 21) (x := "_law_script") (CX := fun _ => L2.CX0) rfl (by decide) rfl ⟨rfl, by decide, by decide⟩ (fun w h Y => PySem.W.km_in_of Y) ?F (fun _ _ _ _ _ z => z)
  case F =>
    intro w mg fa h Y KX G hmg
    have t1 : h.get? 934 = some (tabObj #[]) := PySem.W.km_tabs_of Y 934 (by decide)
    have t2 : h.get? 939 = some (tabObj #[]) := PySem.W.km_tabs_of Y 939 (by decide)
    have t3 : h.get? 946 = some (tabObj #[]) := PySem.W.km_tabs_of Y 946 (by decide)
    refine' K2.all_mk (P := PySem.Challenge.pw_ruleengine_k48_plans_and_flows_refused) (pPR := 934) (pER := 939) (pFR := 946) (mc := .type "type") rfl KX G t1 t2 t3 hmg ?aN ?lN ?cNd ?kN ?aW ?lW ?cWd ?kW ?aSo ?lSo ?cSod ?kSo ?aT ?lT ?cTd ?kT ?aX ?lX ?cXd ?kX ?aC ?lC ?cCd ?kC ?aKf ?lKf ?cKfd ?kKf ?aKs ?lKs ?cKsd ?kKs ?aKn ?lKn ?cKnd ?kKn ?aCP ?lCP ?cCPd ?kCP ?aM ?lM ?cMd ?kM ?aFo ?lFo ?cFod ?kFo ?aDr ?lDr ?cDrd ?kDr ?aBg ?lBg ?cBgd ?kBg ?aD2 ?lD2 ?cD2d ?kD2 ?aLV ?lLV ?cLVd ?kLV ?aLC ?lLC ?cLCd ?kLC ?aGo ?lGo ?cGod ?kGo ?aIt ?lIt ?cItd ?kIt ?aBa ?lBa ?cBad ?kBa ?aPR ?lPR ?cPRd ?kPR ?aER ?lER ?cERd ?kER ?aFR ?lFR ?cFRd ?kFR ?aL ?lL ?cLd ?kL ?aCF ?fpg ?fhd ?fpo ?fsa ?fha ?fmo ?fmk ?fkp ?frd ?fga ?iF ?ffn ?lI ?cId ?kI ?oat ?orc ?ofi ?lO ?cOd ?kO ?nN ?nK ?nS ?fmxs ?aCSc ?spg ?shd ?spo ?ssa ?sha ?smo ?smk ?skp ?srd ?sga ?iS ?sfn ?lSI ?cSId ?kSI ?soat ?sorc ?sofi ?lSO ?cSOd ?kSO ?iSe ?nSe ?wSe ?lSe ?cSed ?kSe ?iSh ?nSh ?wSh ?lSh ?cShd ?kSh ?iSg ?nSg ?wSg ?lSg ?cSgd ?kSg ?sne ?sn1 ?sn2 ?sn3 ?sn4 ?mxv ?aCPl ?ppg ?phd ?ppo ?psa ?pha ?pmo ?pmk ?pkp ?prd ?pga ?iPI ?pisf ?lPI ?cPId ?kPI ?lTPl ?dTPl ?kwS ?kwU ?pn1 ?pn2 ?pn3 ?yOr ?lOr ?cOr ?dOr ?sOr ?vOr ?aCFl ?wpg ?whd ?wpo ?wsa ?wha ?wmo ?wmk ?wkp ?wrd ?wga ?iFI ?wfn ?lFI ?cFId ?kFI ?iFP ?nFP ?lFP ?cFPd ?kFP ?wn1 ?wn2 ?aCE ?aCE_ ?xLE ?rvE ?esaE ?eexE ?etyE ?ekpE ?efiE ?etiE ?lEE ?ecdE ?xcE ?v2E ?pfE ?xccE ?emrE ?ealE ?eveE ?eeiE ?enf0E ?aCG ?xLG ?rvG ?esaG ?eexG ?etyG ?ekpG ?efiG ?etiG ?lEG ?ecdG ?xcG ?v2G ?pfG ?xccG ?emrG ?ealG ?eveG ?eeiG ?enf0G ?enf1G ?egaG ?eggG ?ehdG ?ecaG ?emoG ?exmG ?lTD ?dTD ?aCU ?xLU ?rvU ?esaU ?eexU ?etyU ?ekpU ?efiU ?etiU ?lEU ?ecdU ?xcU ?v2U ?pfU ?xccU ?emrU ?ealU ?eveU ?eeiU ?enf0U ?egaU ?eggU ?ehdU ?ecaU ?emoU ?exmU ?aCIP ?xLIP ?rvIP ?esaIP ?eexIP ?etyIP ?ekpIP ?efiIP ?etiIP ?lEIP ?ecdIP ?xcIP ?v2IP ?pfIP ?xccIP ?emrIP ?ealIP ?eveIP ?eeiIP ?enf0IP ?egaIP ?eggIP ?ehdIP ?ecaIP ?emoIP ?exmIP ?aCIF ?xLIF ?rvIF ?esaIF ?eexIF ?etyIF ?ekpIF ?efiIF ?etiIF ?lEIF ?ecdIF ?xcIF ?v2IF ?pfIF ?xccIF ?emrIF ?ealIF ?eveIF ?eeiIF ?enf0IF ?enf1IF ?egaIF ?eggIF ?ehdIF ?ecaIF ?emoIF ?exmIF ?aX1 ?aX2 ?aX3 ?aX4 ?aX8 ?aX9 ?aX10 ?aX11 ?aX12 ?aX13 ?aX14 ?aX15 ?kkCIP_0 ?kkCIP_1 ?kkCIP_2 ?kkCIP_3 ?kkCIP_4 ?kkCIP_5 ?kkCIP_6 ?kkCIP_8 ?kkCIP_9 ?kkCIP_10 ?kkCIP_11 ?kkCIP_12 ?kkCIP_13 ?kkCIP_14 ?kkCIP_15 ?kkCIP_16 ?kkCIF_0 ?kkCIF_1 ?kkCIF_2 ?kkCIF_3 ?kkCIF_4 ?kkCIF_6 ?kkCIF_7 ?kkCIF_8 ?kkCIF_9 ?kkCIF_10 ?kkCIF_11 ?kkCIF_12 ?kkCIF_13 ?kkCIF_14 ?kkCIF_15 ?kkCIF_16 ?kkCU_0 ?kkCU_1 ?kkCU_2 ?kkCU_3 ?kkCU_4 ?kkCU_5 ?kkCU_6 ?kkCU_7 ?kkCU_8 ?kkCU_9 ?kkCU_10 ?kkCU_11 ?kkCU_12 ?kkCU_13 ?kkCU_14 ?kkCU_15 ?sup ?opq ?etop ?ecg ?etk ?zI ?zS ?zL ?zA ?zT ?zR ?zE ?zLi ?zRp ?zMn ?yMx ?yLt ?ySg ?yTx ?yRw ?yRaw ?yMs ?np_NoneType ?np_int ?np_bool ?np_str ?np_list ?np_tuple ?np_dict ?neC ?tPR ?nTPR ?tER ?nTER ?tFR ?nTFR ?np1 ?np2 ?np3
    (case aN => k_is)
    (case lN => k_is)
    (case cNd => k_is)
    (case kN => k_is)
    (case aW => k_is)
    (case lW => k_is)
    (case cWd => k_is)
    (case kW => k_is)
    (case aSo => k_is)
    (case lSo => k_is)
    (case cSod => k_is)
    (case kSo => k_is)
    (case aT => k_is)
    (case lT => k_is)
    (case cTd => k_is)
    (case kT => k_is)
    (case aX => k_is)
    (case lX => k_is)
    (case cXd => k_is)
    (case kX => k_is)
    (case aC => k_is)
    (case lC => k_is)
    (case cCd => k_is)
    (case kC => k_is)
    (case aKf => k_is)
    (case lKf => k_is)
    (case cKfd => k_is)
    (case kKf => k_is)
    (case aKs => k_is)
    (case lKs => k_is)
    (case cKsd => k_is)
    (case kKs => k_is)
    (case aKn => k_is)
    (case lKn => k_is)
    (case cKnd => k_is)
    (case kKn => k_is)
    (case aCP => k_is)
    (case lCP => k_is)
    (case cCPd => k_is)
    (case kCP => k_is)
    (case aM => k_is)
    (case lM => k_is)
    (case cMd => k_is)
    (case kM => k_is)
    (case aFo => k_is)
    (case lFo => k_is)
    (case cFod => k_is)
    (case kFo => k_is)
    (case aDr => k_is)
    (case lDr => k_is)
    (case cDrd => k_is)
    (case kDr => k_is)
    (case aBg => k_is)
    (case lBg => k_is)
    (case cBgd => k_is)
    (case kBg => k_is)
    (case aD2 => k_is)
    (case lD2 => k_is)
    (case cD2d => k_is)
    (case kD2 => k_is)
    (case aLV => k_is)
    (case lLV => k_is)
    (case cLVd => k_is)
    (case kLV => k_is)
    (case aLC => k_is)
    (case lLC => k_is)
    (case cLCd => k_is)
    (case kLC => k_is)
    (case aGo => k_is)
    (case lGo => k_is)
    (case cGod => k_is)
    (case kGo => k_is)
    (case aIt => k_is)
    (case lIt => k_is)
    (case cItd => k_is)
    (case kIt => k_is)
    (case aBa => k_is)
    (case lBa => k_is)
    (case cBad => k_is)
    (case kBa => k_is)
    (case aPR => k_is)
    (case lPR => k_is)
    (case cPRd => k_is)
    (case kPR => k_is)
    (case aER => k_is)
    (case lER => k_is)
    (case cERd => k_is)
    (case kER => k_is)
    (case aFR => k_is)
    (case lFR => k_is)
    (case cFRd => k_is)
    (case kFR => k_is)
    (case aL => k_is)
    (case lL => k_is)
    (case cLd => k_is)
    (case kL => k_is)
    (case aCF => k_is)
    (case fpg => k_is)
    (case fhd => k_is)
    (case fpo => k_is)
    (case fsa => k_is)
    (case fha => k_is)
    (case fmo => k_is)
    (case fmk => k_is)
    (case fkp => k_is)
    (case frd => k_is)
    (case fga => k_is)
    (case iF => k_is)
    (case ffn => k_is)
    (case lI => k_is)
    (case cId => k_is)
    (case kI => k_is)
    (case oat => k_is)
    (case orc => k_is)
    (case ofi => k_is)
    (case lO => k_is)
    (case cOd => k_is)
    (case kO => k_is)
    (case nN => k_is)
    (case nK => k_is)
    (case nS => k_is)
    (case fmxs => k_is)
    (case aCSc => k_is)
    (case spg => k_is)
    (case shd => k_is)
    (case spo => k_is)
    (case ssa => k_is)
    (case sha => k_is)
    (case smo => k_is)
    (case smk => k_is)
    (case skp => k_is)
    (case srd => k_is)
    (case sga => k_is)
    (case iS => k_is)
    (case sfn => k_is)
    (case lSI => k_is)
    (case cSId => k_is)
    (case kSI => k_is)
    (case soat => k_is)
    (case sorc => k_is)
    (case sofi => k_is)
    (case lSO => k_is)
    (case cSOd => k_is)
    (case kSO => k_is)
    (case iSe => k_is)
    (case nSe => k_is)
    (case wSe => k_is)
    (case lSe => k_is)
    (case cSed => k_is)
    (case kSe => k_is)
    (case iSh => k_is)
    (case nSh => k_is)
    (case wSh => k_is)
    (case lSh => k_is)
    (case cShd => k_is)
    (case kSh => k_is)
    (case iSg => k_is)
    (case nSg => k_is)
    (case wSg => k_is)
    (case lSg => k_is)
    (case cSgd => k_is)
    (case kSg => k_is)
    (case sne => k_is)
    (case sn1 => k_is)
    (case sn2 => k_is)
    (case sn3 => k_is)
    (case sn4 => k_is)
    (case mxv => k_is)
    (case aCPl => k_is)
    (case ppg => k_is)
    (case phd => k_is)
    (case ppo => k_is)
    (case psa => k_is)
    (case pha => k_is)
    (case pmo => k_is)
    (case pmk => k_is)
    (case pkp => k_is)
    (case prd => k_is)
    (case pga => k_is)
    (case iPI => k_is)
    (case pisf => k_is)
    (case lPI => k_is)
    (case cPId => k_is)
    (case kPI => k_is)
    (case lTPl => k_is)
    (case dTPl => rfl)
    (case kwS => k_is)
    (case kwU => k_is)
    (case pn1 => k_is)
    (case pn2 => k_is)
    (case pn3 => k_is)
    (case yOr => k_is)
    (case lOr => k_is)
    (case cOr => rfl)
    (case dOr => rfl)
    (case sOr => decide +kernel)
    (case vOr => exact .cons ⟨_, rfl⟩ (.cons ⟨_, rfl⟩ (.cons ⟨_, rfl⟩ (.cons ⟨_, rfl⟩ (.cons ⟨_, rfl⟩ (.cons ⟨_, rfl⟩ .nil))))))
    (case aCFl => k_is)
    (case wpg => k_is)
    (case whd => k_is)
    (case wpo => k_is)
    (case wsa => k_is)
    (case wha => k_is)
    (case wmo => k_is)
    (case wmk => k_is)
    (case wkp => k_is)
    (case wrd => k_is)
    (case wga => k_is)
    (case iFI => k_is)
    (case wfn => k_is)
    (case lFI => k_is)
    (case cFId => k_is)
    (case kFI => k_is)
    (case iFP => k_is)
    (case nFP => k_is)
    (case lFP => k_is)
    (case cFPd => k_is)
    (case kFP => k_is)
    (case wn1 => k_is)
    (case wn2 => k_is)
    (case aCE => k_is)
    (case aCE_ => k_is)
    (case xLE => k_is)
    (case rvE => decide +kernel)
    (case esaE => k_is)
    (case eexE => k_is)
    (case etyE => k_is)
    (case ekpE => k_is)
    (case efiE => k_is)
    (case etiE => k_is)
    (case lEE => k_is)
    (case ecdE => k_is)
    (case xcE => k_is)
    (case v2E => rfl)
    (case pfE => decide +kernel)
    (case xccE => k_is)
    (case emrE => k_is)
    (case ealE => first | kernel_rfl | rfl)
    (case eveE => k_is)
    (case eeiE => first | kernel_rfl | rfl)
    (case enf0E => k_is)
    (case aCG => k_is)
    (case xLG => k_is)
    (case rvG => decide +kernel)
    (case esaG => k_is)
    (case eexG => k_is)
    (case etyG => k_is)
    (case ekpG => k_is)
    (case efiG => k_is)
    (case etiG => k_is)
    (case lEG => k_is)
    (case ecdG => k_is)
    (case xcG => k_is)
    (case v2G => rfl)
    (case pfG => decide +kernel)
    (case xccG => k_is)
    (case emrG => k_is)
    (case ealG => first | kernel_rfl | rfl)
    (case eveG => k_is)
    (case eeiG => first | kernel_rfl | rfl)
    (case enf0G => k_is)
    (case enf1G => k_is)
    (case egaG => k_is)
    (case eggG => k_is)
    (case ehdG => k_is)
    (case ecaG => k_is)
    (case emoG => k_is)
    (case exmG => first | kernel_rfl | rfl)
    (case lTD => k_is)
    (case dTD => rfl)
    (case aCU => k_is)
    (case xLU => k_is)
    (case rvU => decide +kernel)
    (case esaU => k_is)
    (case eexU => k_is)
    (case etyU => k_is)
    (case ekpU => k_is)
    (case efiU => k_is)
    (case etiU => k_is)
    (case lEU => k_is)
    (case ecdU => k_is)
    (case xcU => k_is)
    (case v2U => rfl)
    (case pfU => decide +kernel)
    (case xccU => k_is)
    (case emrU => k_is)
    (case ealU => first | kernel_rfl | rfl)
    (case eveU => k_is)
    (case eeiU => first | kernel_rfl | rfl)
    (case enf0U => k_is)
    (case egaU => k_is)
    (case eggU => k_is)
    (case ehdU => k_is)
    (case ecaU => k_is)
    (case emoU => k_is)
    (case exmU => first | kernel_rfl | rfl)
    (case aCIP => k_is)
    (case xLIP => k_is)
    (case rvIP => decide +kernel)
    (case esaIP => k_is)
    (case eexIP => k_is)
    (case etyIP => k_is)
    (case ekpIP => k_is)
    (case efiIP => k_is)
    (case etiIP => k_is)
    (case lEIP => k_is)
    (case ecdIP => k_is)
    (case xcIP => k_is)
    (case v2IP => rfl)
    (case pfIP => decide +kernel)
    (case xccIP => k_is)
    (case emrIP => k_is)
    (case ealIP => first | kernel_rfl | rfl)
    (case eveIP => k_is)
    (case eeiIP => first | kernel_rfl | rfl)
    (case enf0IP => k_is)
    (case egaIP => k_is)
    (case eggIP => k_is)
    (case ehdIP => k_is)
    (case ecaIP => k_is)
    (case emoIP => k_is)
    (case exmIP => first | kernel_rfl | rfl)
    (case aCIF => k_is)
    (case xLIF => k_is)
    (case rvIF => decide +kernel)
    (case esaIF => k_is)
    (case eexIF => k_is)
    (case etyIF => k_is)
    (case ekpIF => k_is)
    (case efiIF => k_is)
    (case etiIF => k_is)
    (case lEIF => k_is)
    (case ecdIF => k_is)
    (case xcIF => k_is)
    (case v2IF => rfl)
    (case pfIF => decide +kernel)
    (case xccIF => k_is)
    (case emrIF => k_is)
    (case ealIF => first | kernel_rfl | rfl)
    (case eveIF => k_is)
    (case eeiIF => first | kernel_rfl | rfl)
    (case enf0IF => k_is)
    (case enf1IF => k_is)
    (case egaIF => k_is)
    (case eggIF => k_is)
    (case ehdIF => k_is)
    (case ecaIF => k_is)
    (case emoIF => k_is)
    (case exmIF => first | kernel_rfl | rfl)
    (case aX1 => k_is)
    (case aX2 => k_is)
    (case aX3 => k_is)
    (case aX4 => k_is)
    (case aX8 => k_is)
    (case aX9 => k_is)
    (case aX10 => k_is)
    (case aX11 => k_is)
    (case aX12 => k_is)
    (case aX13 => k_is)
    (case aX14 => k_is)
    (case aX15 => k_is)
    (case kkCIP_0 => first | kernel_rfl | rfl)
    (case kkCIP_1 => first | kernel_rfl | rfl)
    (case kkCIP_2 => first | kernel_rfl | rfl)
    (case kkCIP_3 => first | kernel_rfl | rfl)
    (case kkCIP_4 => first | kernel_rfl | rfl)
    (case kkCIP_5 => first | kernel_rfl | rfl)
    (case kkCIP_6 => first | kernel_rfl | rfl)
    (case kkCIP_8 => first | kernel_rfl | rfl)
    (case kkCIP_9 => first | kernel_rfl | rfl)
    (case kkCIP_10 => first | kernel_rfl | rfl)
    (case kkCIP_11 => first | kernel_rfl | rfl)
    (case kkCIP_12 => first | kernel_rfl | rfl)
    (case kkCIP_13 => first | kernel_rfl | rfl)
    (case kkCIP_14 => first | kernel_rfl | rfl)
    (case kkCIP_15 => first | kernel_rfl | rfl)
    (case kkCIP_16 => first | kernel_rfl | rfl)
    (case kkCIF_0 => first | kernel_rfl | rfl)
    (case kkCIF_1 => first | kernel_rfl | rfl)
    (case kkCIF_2 => first | kernel_rfl | rfl)
    (case kkCIF_3 => first | kernel_rfl | rfl)
    (case kkCIF_4 => first | kernel_rfl | rfl)
    (case kkCIF_6 => first | kernel_rfl | rfl)
    (case kkCIF_7 => first | kernel_rfl | rfl)
    (case kkCIF_8 => first | kernel_rfl | rfl)
    (case kkCIF_9 => first | kernel_rfl | rfl)
    (case kkCIF_10 => first | kernel_rfl | rfl)
    (case kkCIF_11 => first | kernel_rfl | rfl)
    (case kkCIF_12 => first | kernel_rfl | rfl)
    (case kkCIF_13 => first | kernel_rfl | rfl)
    (case kkCIF_14 => first | kernel_rfl | rfl)
    (case kkCIF_15 => first | kernel_rfl | rfl)
    (case kkCIF_16 => first | kernel_rfl | rfl)
    (case kkCU_0 => first | kernel_rfl | rfl)
    (case kkCU_1 => first | kernel_rfl | rfl)
    (case kkCU_2 => first | kernel_rfl | rfl)
    (case kkCU_3 => first | kernel_rfl | rfl)
    (case kkCU_4 => first | kernel_rfl | rfl)
    (case kkCU_5 => first | kernel_rfl | rfl)
    (case kkCU_6 => first | kernel_rfl | rfl)
    (case kkCU_7 => first | kernel_rfl | rfl)
    (case kkCU_8 => first | kernel_rfl | rfl)
    (case kkCU_9 => first | kernel_rfl | rfl)
    (case kkCU_10 => first | kernel_rfl | rfl)
    (case kkCU_11 => first | kernel_rfl | rfl)
    (case kkCU_12 => first | kernel_rfl | rfl)
    (case kkCU_13 => first | kernel_rfl | rfl)
    (case kkCU_14 => first | kernel_rfl | rfl)
    (case kkCU_15 => first | kernel_rfl | rfl)
    (case sup => k_is)
    (case opq => k_is)
    (case etop => decide +kernel)
    (case ecg => k_is)
    (case etk => k_is)
    (case zI => k_is)
    (case zS => k_is)
    (case zL => k_is)
    (case zA => k_is)
    (case zT => k_is)
    (case zR => k_is)
    (case zE => k_is)
    (case zLi => k_is)
    (case zRp => k_is)
    (case zMn => k_is)
    (case yMx => k_is)
    (case yLt => k_is)
    (case ySg => k_is)
    (case yTx => k_is)
    (case yRw => k_is)
    (case yRaw => k_is)
    (case yMs => k_is)
    (case np_NoneType => first | kernel_rfl | rfl)
    (case np_int => first | kernel_rfl | rfl)
    (case np_bool => first | kernel_rfl | rfl)
    (case np_str => first | kernel_rfl | rfl)
    (case np_list => first | kernel_rfl | rfl)
    (case np_tuple => first | kernel_rfl | rfl)
    (case np_dict => first | kernel_rfl | rfl)
    (case neC => decide +kernel)
    (case tPR => first | kernel_rfl | rfl)
    (case nTPR => rfl)
    (case tER => first | kernel_rfl | rfl)
    (case nTER => rfl)
    (case tFR => first | kernel_rfl | rfl)
    (case nTFR => rfl)
    (case np1 => decide +kernel)
    (case np2 => decide +kernel)
    (case np3 => decide +kernel)
