import PyProof.Rows.All
import Wide.All
import OpenK.AllK
import Wide.FinOn
import HandS.ForMost
import HandS.ForExc
import HandS.Walk
import HandS.Iter
import PyProof.EnumMake
import PyProof.Draws
import HandS.EndTab
import HandS.Wide
import HandS.IsInst
import HandS.Head2
import KE.KNestM
import HandS.Text
import HandS.ExcInit
import HandS.TryOnly
import KE.KExcSuper
import HandS.ExcValue
import HandS.ExcField
import HandS.ExcIs
import KE.KExcIs
import HandS.Lambda
import HandS.ClsMeth
import HandS.ListItems
import PyProof.P3Eq
import HandS.ReplaceLit
import HandS.ReplaceDef
import HandS.FStr
import HandS.Star
import HandS.Sort
import PyProof.InstEq
import PyProof.NeKinds
import OpenK.KOps
import PyProof.ReprRoads
import HandS.RevRange
import HandS.TupMul
import HandS.Zip
import KE.GoesZip
import KE.GoesMore
import KE.GoesEnum
import KE.KDictZip
import KE.KItemsList
import PyProof.ListNew
import HandS.Rev
import HandS.TupAny
import HandS.GenList
import HandS.Style
import HandS.Small
import HandS.Deep
import PySem.Challenge.RW_ruleengine_k04_whole_paths_and_put
set_option Elab.async false
set_option maxRecDepth 100000
set_option maxHeartbeats 4000000
namespace E0
open PySem PySem.Spec PyProof.Rows L2
open AutoSeq1 (wpAny_loadPart')
/-! ### enumerate of a tuple -/
theorem enum_newT (l : Addr) (items : Array Value) (n : Nat) (dct : Option Addr) (sl : Array (Option Value)) :
    Meets (Builtin.«enumerate.__new__» ⟨[.type "enumerate", .ref l], []⟩) (fun _ R s => s.heap.get? l = some { cls := .type "tuple", dict := dct, data := .seq items n, slots := sl } ∧
      R (.ok (.ret (.ref (s.heap.push { cls := .type "tuple_iterator", data := .fields #[.ref l, .int 0 0] }).objs.size)))
        { s with heap := (s.heap.push { cls := .type "tuple_iterator", data := .fields #[.ref l, .int 0 0] }).push { cls := .type "enumerate", data := .fields #[.none, .bool false, .ref s.heap.objs.size, rawInt 0, .none, .none] } }) :=
  .of_wp fun prog w A R s h => by
    obtain ⟨hp, g, d, tk, os⟩ := s
    obtain ⟨hl, h⟩ := h
    have hs := sub_enumerate
    have hT : Heap.IsTuple (Shared.heap ⟨hp, g, d, tk, os⟩) l items := ⟨_, hl, rfl, n, rfl⟩
    wp_walk using wpAny_loadPart' hl
    refine wpAny_stack_any fun st => wpAny_pure ?_
    split
    · rename_i c _ _ _ _ _
      cases (c == Value.type "enumerate")
      · wp_walk using wpAny_loadPart' hl, wpAny_pyIter_tuple hT
        exact ⟨_, rfl, h⟩
      · wp_walk using wpAny_loadPart' hl, wpAny_pyIter_tuple hT
        exact ⟨_, rfl, h⟩
    · wp_walk using wpAny_loadPart' hl, wpAny_pyIter_tuple hT
      exact ⟨_, rfl, h⟩
section
variable {prog : Program} {w : World} {A : Around} {E : Value → Shared → Prop} {s : Shared}
theorem call_enumT {l : Addr} {items : Array Value} {Q : Value → Shared → Prop} (hL : s.heap.IsTuple l items)
    (h : ∀ h', IsEnum h' (s.heap.objs.size + 1) s.heap.objs.size 0 .none → h'.IsTupleIter s.heap.objs.size l 0 → h'.objs.size = s.heap.objs.size + 2 → (∀ b o, s.heap.get? b = some o → h'.get? b = some o) → Q (.ref (s.heap.objs.size + 1)) { s with heap := h' }) :
    wpAny (model prog w) A (call (.type "enumerate") [.ref l]) Q E s := by
  obtain ⟨⟨c, dct, dt, sl⟩, hl, hc, n, hd⟩ := hL
  have hc' : c = .type "tuple" := hc
  have hd' : dt = .seq items n := hd
  subst hc' hd'
  refine callType_new F.called_enumerate (by decide) (F.typeCall_enumerate_1 _) (F.newCall_enumerate_1 _) (fun obj => F.args_object_init_2 obj _) F.entry_enumerate_new (enum_newT l items n dct sl) ⟨hl, ?_⟩
  have hz : (s.heap.push { cls := .type "tuple_iterator", data := .fields #[.ref l, .int 0 0] }).objs.size = s.heap.objs.size + 1 := Heap.size_push ..
  show _ ∧ _
  rw [hz]
  have he : IsEnum ((s.heap.push { cls := .type "tuple_iterator", data := .fields #[.ref l, .int 0 0] }).push
      { cls := .type "enumerate", data := .fields #[.none, .bool false, .ref s.heap.objs.size, rawInt 0, .none, .none] }) (s.heap.objs.size + 1) s.heap.objs.size 0 .none := by
    have e := Heap.get?_push_size (s.heap.push { cls := .type "tuple_iterator", data := .fields #[.ref l, .int 0 0] }) (o := { cls := .type "enumerate", data := .fields #[.none, .bool false, .ref s.heap.objs.size, rawInt 0, .none, .none] }) rfl
    rw [hz] at e
    exact e
  exact ⟨⟨_, he, rfl⟩, h _ he ⟨_, Heap.get?_push_of_some _ (Heap.get?_push_size _ rfl), rfl, rfl⟩ (by rw [Heap.size_push, hz]) fun b o x => Heap.get?_push_of_some _ (Heap.get?_push_of_some _ x)⟩
theorem next_tup {it t : Addr} {i : Nat} {items : Array Value} {x : Value} {Q : Value → Shared → Prop} (hit : s.heap.IsTupleIter it t i) (ht : s.heap.IsTuple t items) (hx : items[i]? = some x)
    (hQ : ∀ h', h'.IsTupleIter it t (i + 1) → Heap.SameBut it s.heap h' → Q x { s with heap := h' }) : wpAny (model prog w) A (Builtin.SmallTypes.nextOf (.ref it)) Q E s := by
  obtain ⟨o, ho, hc, hd⟩ := id hit
  obtain ⟨ol, hol, _, nl, hdl⟩ := ht
  unfold Builtin.SmallTypes.nextOf
  refine wpAny_bind (wpAny_callSpecial?_slot (name := Str.ofString "__next__") hit.typeIs F.slot_tuple_iterator_next (wpAny_call_entry F.slot_tuple_iterator_next hit.typeIs F.entry_tuple_iterator_next ?_ (F.args_tuple_iterator_next_1 _)))
  show wpAny _ _ (field (.ref it) 0 >>= _) _ _ s
  refine wpAny_bind (wpAny_field ho hd (x := .ref t) rfl ?_)
  show wpAny _ _ (if (Value.ref t == Value.none) = true then _ else _) _ _ s
  rw [if_neg (show ¬ ((Value.ref t == Value.none) = true) from Bool.false_ne_true)]
  show wpAny _ _ (field (.ref it) 1 >>= _) _ _ s
  refine wpAny_bind (wpAny_field ho hd (x := .int i 0) rfl ?_)
  show wpAny _ _ (seqItems? (.ref t) >>= _) _ _ s
  refine wpAny_bind (wpAny_seqItems hol hdl ?_)
  simp only [Int.toNat_natCast, hx]
  refine wpAny_bind (wpAny_setField ho hd (by simp) (wpAny_pure ⟨x, rfl, wpAny_pure (hQ _ ?_ (Heap.SameBut.update ..))⟩))
  exact ⟨_, Heap.get?_update_self _ ho (Obj.isFreed_of_fields (Obj.data_mapFields hd _)), (Obj.cls_mapFields ..).trans hc, by rw [Obj.data_mapFields hd]; simp [rawInt]⟩
theorem next_tup_end {it t : Addr} {i : Nat} {items : Array Value} {Q : Value → Shared → Prop} (hh : A.handled = none) (hit : s.heap.IsTupleIter it t i) (ht : s.heap.IsTuple t items) (hx : items[i]? = none)
    (hE : ∀ h' e, Heap.ExtBut it s.heap h' → (∃ o, h'.get? e = some o ∧ o.cls = .type "StopIteration") → E (.ref e) { s with heap := h' }) : wpAny (model prog w) A (Builtin.SmallTypes.nextOf (.ref it)) Q E s := by
  obtain ⟨o, ho, hc, hd⟩ := id hit
  obtain ⟨ol, hol, _, nl, hdl⟩ := ht
  unfold Builtin.SmallTypes.nextOf
  refine wpAny_bind (wpAny_callSpecial?_slot (name := Str.ofString "__next__") hit.typeIs F.slot_tuple_iterator_next (wpAny_call_entry F.slot_tuple_iterator_next hit.typeIs F.entry_tuple_iterator_next ?_ (F.args_tuple_iterator_next_1 _)))
  show wpAny _ _ (field (.ref it) 0 >>= _) _ _ s
  refine wpAny_bind (wpAny_field ho hd (x := .ref t) rfl ?_)
  show wpAny _ _ (if (Value.ref t == Value.none) = true then _ else _) _ _ s
  rw [if_neg (show ¬ ((Value.ref t == Value.none) = true) from Bool.false_ne_true)]
  show wpAny _ _ (field (.ref it) 1 >>= _) _ _ s
  refine wpAny_bind (wpAny_field ho hd (x := .int i 0) rfl ?_)
  show wpAny _ _ (seqItems? (.ref t) >>= _) _ _ s
  refine wpAny_bind (wpAny_seqItems hol hdl ?_)
  simp only [Int.toNat_natCast, hx]
  refine wpAny_bind (wpAny_rule (wpAny_bind (wpAny_setField ho hd (by simp) ?_)))
  show wpAny _ _ (newExc (.type "StopIteration") [] >>= _) _ _ _
  refine wpAny_bind ?_
  simp only [newExc, newTuple]
  refine wpAny_bind (wpAny_newObj_type ?_ (by size_fits))
  refine wpAny_bind (m := firstArgMember _ _) (wpAny_of_eq (a := Value.none) (by first | rfl | (simp only [firstArgMember]; rfl)) ?_)
  refine wpAny_newObj_type ?_ (by size_fits)
  simp only [raiseNew]
  refine wpAny_bind (wpAny_handled ?_)
  first | rw [show A.in1.handled = none from hh] | rw [hh]
  refine wpAny_bind (wpAny_pure (wpAny_throw ?_))
  exact hE _ _ (((Heap.SameBut.update ..).extBut.push _).push _) ⟨_, Heap.get?_push_size _ rfl, rfl⟩
end
theorem drawsT {prog : Program} {w : World} {A : Around} (hh : A.handled = none) (it l : Addr) (hne : l ≠ it) (items : Array Value) : Draws prog w A it [it, l] items.size (fun i v => items[i]? = some v) (fun i h => h.IsTupleIter it l i ∧ h.IsTuple l items) where
  live := fun _ _ st => let ⟨o, ho, _⟩ := st.1; ⟨o, ho⟩
  frame := fun _ _ _ st hk => ⟨let ⟨o, ho, r⟩ := st.1; ⟨o, hk it (by simp) o ho, r⟩, let ⟨o, ho, r⟩ := st.2; ⟨o, hk l (by simp) o ho, r⟩⟩
  item := fun i s Q E hi st hQ => by
    refine next_tup st.1 st.2 (x := items[i]) (by simp [hi]) fun h' hit' hs' => ?_
    exact hQ _ h' s.toks (by simp [hi]) ⟨hit', st.2.extBut hs'.extBut hne⟩ hs'
  done := fun s Q E st hE => next_tup_end hh st.1 st.2 (by simp) hE
end E0

namespace E0
open PySem PySem.Spec PyProof.Rows L2
/-- the tuple at a, each item in a new pair with its place -/
def IteT (K : PySem.W.Frag) (a : Addr) : It :=
  ⟨fun i H => ∃ (xs : List V) (x : V), SqT K H a xs ∧ xs[i]? = some x, fun i H v H' => ∃ T x, v = .ref T ∧ H T = none ∧ H' = upd H T (.tup [.int (i : Nat), x]) ∧ ∀ xs, SqT K H a xs → xs[i]? = some x, fun i H => ∃ xs : List V, SqT K H a xs ∧ xs.length ≤ i⟩
theorem turn_enumT {P : Program} {w : World} {K : PySem.W.Frag} {elts : List Expr} {kk : Nat} {tpos : Pos} (a e it : Addr) (hai : a ≠ it) :
    Turn P w K (.Tuple elts kk tpos) (IteT K a) [e, it] e (fun i h => (∃ old, IsEnum h e it ((i : Nat) : Int) old) ∧ h.IsTupleIter it a i ∧ e ≠ it) where
  mem := by simp
  obj := fun i h st b hb => by
    obtain ⟨⟨old, he⟩, ⟨o, ho, hc, hd⟩, _⟩ := st
    rcases (show b = e ∨ b = it by simpa using hb) with z | z
    · rw [z]; exact ⟨_, he, fun v q => nomatch q⟩
    · rw [z]; exact ⟨o, ho, fun v q => by rw [hd] at q; cases q⟩
  keep := fun i h h' st k => let ⟨⟨old, he⟩, ⟨o, ho, r⟩, hne⟩ := st; ⟨⟨old, k e (by simp) _ he⟩, ⟨o, k it (by simp) o ho, r⟩, hne⟩
  item := by
    intro X hP hw hK hc i pins s σ H E I hf st hg
    subst hP hw hK
    obtain ⟨⟨old, he⟩, hit, hne⟩ := st
    obtain ⟨xs, x, hq, hx⟩ := hg
    obtain ⟨its, rv, p, hz⟩ := I.tuple hq
    obtain ⟨u, hu, ru⟩ := rv.get hx
    have hel : e < s.heap.objs.size := Heap.lt_size he
    have hil : it < s.heap.objs.size := by obtain ⟨_, q, _⟩ := hit; exact Heap.lt_size q
    have pT : s.heap.IsTuple a its.toArray := p
    have hae : a ≠ e := fun z => by
      obtain ⟨o, ho, hcl, _⟩ := pT
      rw [z, he] at ho
      cases ho
      exact absurd hcl (by simp)
    have hlt : i < its.toArray.size := by
      have := (List.getElem?_eq_some_iff.mp hu).1
      simpa using this
    have D := drawsT (prog := X.prog) (w := X.w) (A := X.A.in1) (I.ok.hd hc) it a hai its.toArray
    refine wpAny_pyNext_enum_itemD D he ⟨hit, pT⟩ hlt hne (by simp [hne, hae.symm]) fun x2 h' tk hP ho hst hT hsz hk => ?_
    have ex : x2 = u := by
      have e1 : its.toArray[i]? = some u := by simpa using hu
      have e2 : its.toArray[i]? = some x2 := hP
      rw [e1] at e2
      exact (Option.some.inj e2).symm
    subst ex
    refine ⟨_, rfl, wpAny_letOwnedTupleGo_enum (s := { s with heap := h', toks := tk + 1 }) ho fun h'' he' sb => ?_⟩
    have hT2 : h''.get? s.heap.objs.size = some { cls := .type "tuple", data := .seq #[.int i tk, x2] } := (sb.2 _ (Nat.ne_of_gt hel)).trans hT
    have new : ObjOk X.prog X.w (upd H s.heap.objs.size (.tup [.int (i : Nat), x])) h'' s.heap.objs.size (.tup [.int (i : Nat), x]) := ⟨by show 2 ≤ sizeLine; decide, [.int i tk, x2], .cons ⟨_, rfl⟩ (.cons ru .nil), ⟨_, hT2, rfl, _, rfl⟩⟩
    have I1 : L2.Inv X pins σ (upd H s.heap.objs.size (.tup [.int (i : Nat), x])) { s with heap := h'', toks := tk + 1 } :=
      I.turnedNew (ch := [e, it]) (fun b ob hb q => (sb.2 b (fun z => hb (by simp [z]))).trans (hk b ob (fun z => hb (by simp [z])) (fun z => hb (by simp [z])) q)) hf (Nat.le_refl _) new
    have hit2 : h''.IsTupleIter it a (i + 1) := by
      obtain ⟨o, ho, r⟩ := hst.1
      exact ⟨o, (sb.2 it (Ne.symm hne)).trans ho, r⟩
    refine ⟨.ref s.heap.objs.size, _, I1, rfl, ⟨_, x, rfl, I.hok.fresh (Nat.le_refl _), rfl, fun ys hy => by rw [I.tuple_inj hy hq]; exact hx⟩, ⟨⟨x2, ?_⟩, hit2, hne⟩, fun b hb => ?_⟩
    · have e1 : ((i + 1 : Nat) : Int) = (i : Int) + 1 := by omega
      rw [e1]; exact he'
    · have hb' : b < s.heap.objs.size := by
        rcases (show b = e ∨ b = it by simpa using hb) with z | z
        · rw [z]; exact hel
        · rw [z]; exact hil
      rw [upd_ne (Nat.ne_of_lt hb')]
      exact (hf b hb).1
  done := by
    intro X hP hw hK hc i pins s σ H E I hf st hg
    subst hP hw hK
    obtain ⟨⟨old, he⟩, hit, hne⟩ := st
    obtain ⟨xs, hq, hx⟩ := hg
    obtain ⟨its, rv, p, hz⟩ := I.tuple hq
    obtain ⟨f0, f1, f2, f3, f4, f5⟩ := hf it (by simp)
    have hl := rv.length
    have pT : s.heap.IsTuple a its.toArray := p
    have hT : s.TypeIs (.ref e) "enumerate" := ⟨_, he, rfl⟩
    unfold pyNext
    refine wpAny_bind (wpAny_attempt (wpAny_callSpecial?_slot (name := Str.ofString "__next__") hT F.slot_enumerate_next (wpAny_call_entry F.slot_enumerate_next hT F.entry_enumerate_next ?_ (F.args_enumerate_next_1 _))))
    show wpAny _ _ (field (.ref e) 2 >>= _) _ _ _
    refine wpAny_bind (wpAny_field he rfl (x := .ref it) rfl ?_)
    refine wpAny_bind (next_tup_end (A := X.A.in1) (I.ok.hd hc) hit pT (by simp; omega) fun h' x eb hx' => ?_)
    obtain ⟨o, ho, hcl⟩ := hx'
    refine wpAny_bind (wpAny_isInstance (T := "StopIteration") (b := true) ⟨o, ho, hcl⟩ isSubtype_stop ?_)
    exact wpAny_pure ⟨rfl, I.turned (t' := s.toks) (fun b o hb q => eb b o hb q) f0 f1 f3 f4 f5⟩
  self := fun A i s Q E st h => let ⟨⟨_, he⟩, _⟩ := st; wpAny_pyIter_enum he h
def iEnumT (K : PySem.W.Frag) (ta : TA) : TI := fun σ H R => ta σ H fun vs H1 => ∃ a xs, vs = [.ref a] ∧ SqT K H1 a xs ∧ R (IteT K a) H1
theorem pi_enumT {X : Cx} {e : Expr} {ta : TA} {p pos tpos : Pos} {elts : List Expr} {kk : Nat} (hg : Gl X "enumerate") (hm : X.mg "enumerate" = none) (ha : PA X [e] ta) (hs : starEach [e] X.env = [(false, eval e X.env)] := by rfl) :
    PI X (.Tuple elts kk tpos) (.Call (.Name "enumerate" p) [e] [] pos) (iEnumT X.K ta) := by
  refine ⟨fun pins s σ H R I h => ?_⟩
  refine Call_ (ld_blt I hg hm boot_enumerate (callWith_type1 (thn (ha.run pos pins s σ H _ I h) fun us s1 ⟨vs, H1, I1, r1, q1⟩ => ?_) hs rfl))
  obtain ⟨a, xs, ex, hq, q⟩ := q1
  subst ex
  cases r1 with
  | cons r rr =>
    cases rr
    cases r
    obtain ⟨its, rv, p', hz⟩ := I1.tuple hq
    have pT : s1.heap.IsTuple a its.toArray := p'
    have hal : a < s1.heap.objs.size := by
      obtain ⟨o, ho, _⟩ := pT
      exact Heap.lt_size ho
    refine call_enumT pT fun h' he hit hsz hk => wpAny_pyIter_enum he ?_
    have I2 : L2.Inv X pins σ H1 { s1 with heap := h' } := I1.kept (t' := s1.toks) hk
    refine ⟨s1.heap.objs.size + 1, [s1.heap.objs.size + 1, s1.heap.objs.size], _, _, H1, rfl, I2, turn_enumT a (s1.heap.objs.size + 1) s1.heap.objs.size (Nat.ne_of_lt hal), ⟨⟨.none, he⟩, hit, Nat.succ_ne_self _⟩, fun b hb => ?_, q⟩
    have hle : s1.heap.objs.size ≤ b := by
      rcases (show b = s1.heap.objs.size + 1 ∨ b = s1.heap.objs.size by simpa using hb) with z | z
      · rw [z]; exact Nat.le_add_right _ _
      · rw [z]; exact Nat.le_refl _
    exact I1.fpOk hle (I1.hok.fresh hle)
theorem walk_enumT {K : PySem.W.Frag} {a : Addr} {xs : List V} : Walk (IteT K a) xs.length (fun H => SqT K H a xs) (YPair (fun i => some (.int (i : Nat))) (fun i => xs[i]?)) := by
  refine ⟨fun i _ hi q => ⟨xs, xs[i], q, by simp [hi]⟩, fun _ q => ⟨xs, q, Nat.le_refl _⟩, fun i H v H' _ q y => ?_⟩
  obtain ⟨T, x, h1, h2, h3, h4⟩ := y
  exact ⟨T, .int (i : Nat), x, h1, h2, h3, rfl, h4 xs q⟩
end E0

namespace EG
open PySem PySem.Spec PyProof.Rows L2
/-! ### promises of defs that are called where no repr is under way -/
structure FnG (P : Program) (w : World) (K : PySem.W.Frag) (mg : Str → Option Value) (base : Heap) (CX : CXT) (k : Nat) (f : Addr) (fd : FuncData) (ps : List Str) (sp : Sp) : Prop where
  lenG : ∀ vs H Q E, sp vs H Q E → vs.length = ps.length
  runG : ∀ (A : Around) (outer : List Env) (s : Shared) (H : Hp) (args : Args) (us : List Value) (vs : List V) (Q : VK) (E : XK), Room k A → A.guards = some [] →
    Env0 P w K mg base A outer s H → BindsTo s fd args (ps.zip us) → Vals vs us → sp vs H Q E → codeAny (model P w) A (.call (.ref f) args) (CR CX outer P w H s Q E) s
section
variable {CX : CXT} {P : Program} {w : World} {K : PySem.W.Frag} {mg : Str → Option Value} {base : Heap} {k : Nat} {f : Addr}
theorem fnG_of {name qual : Str} {params : Arguments} {body : List Stmt} {scope : Scope} {dV kV doc pm cdv ct oc : Value} {an od : Option Addr} {osl : Array (Option Value)} {N ps : List Str} {sp : Sp}
    (lk : K.lookup f = some ⟨oc, od, .func (PySem.W.fnOf name qual params body scope dV kV doc pm an cdv ct), osl⟩) (cd : PySem.W.codeIn K cdv qual = true) (S : FnScope N ps scope)
    (ln : ∀ vs H Q E, sp vs H Q E → vs.length = ps.length)
    (bd : ∀ (A : Around) (outer : List Env) (s : Shared) (H : Hp) (vs : List V) (Q : VK) (E : XK), Room k (A.deeper (envOfC qual scope s.heap.objs.size f cdv)) → A.guards = some [] → sp vs H Q E →
      ∃ t, PSs (cxOf CX P w K mg base N qual scope f cdv A outer s H E) body t ∧ t { nx := fun _ H' => Q .non H', rt := Q } (start N vs) H) :
    FnG P w K mg base CX (k + 1) f (PySem.W.fnOf name qual params body scope dV kV doc pm an cdv ct) ps sp where
  lenG := ln
  runG A outer s H args us vs Q E hr hG e0 hb r h := by
    have inK : K.In s.heap := e0.mod.kin.keeps fun b o e => (e0.bs b o e).1
    have kinds : ∀ y ∈ ps.zip us, scope.names.lookup y.1 = some .local ∨ (scope.names.lookup y.1 = some .cell ∧ ((cellsFrom (s.heap.objs.size + 1) scope.names []).lookup y.1).isSome = true) := by
      rintro ⟨n, v⟩ hy
      exact (S.par n (List.of_mem_zip hy).1).imp id fun q => ⟨q, PySem.W.cellsFrom_some _ _ _ (.inl q)⟩
    refine codeAny_call_function hr.depth (inK _ _ lk) rfl S.co S.gen rfl (PySem.W.codeRec_of inK cd) (hb _ _ _ _ (wpAny_newFunctionEnv_cells S.kind kinds fun env he s1 x => ?_))
    cases he
    refine ⟨(e0.mod.nolimit.keeps fun b o e => (e0.bs b o e).1).keeps x.toInCall.keep, codeAny_func ?_⟩
    obtain ⟨t, pt, q⟩ := bd A outer s H vs Q E (hr.deeper _) hG h
    refine wpAny_mono (pt.run [] s1 (start N vs) H _ (inv_start S hr.hd e0 (ln _ _ _ _ h) r x) q) (fun fl s' z => ?_) fun e s' z => z
    match fl, z with
    | .ret u, ⟨v, _, H', J, rv, q⟩ => exact ⟨v, H', J.os, J.bare, J.base, J.hok, rv, q⟩
    | .next, ⟨_, H', J, q⟩ => exact ⟨V.non, H', J.os, J.bare, J.base, J.hok, rfl, q⟩
    | .brk, ⟨_, _, _, q⟩ => exact q.elim
    | .cont, ⟨_, _, _, q⟩ => exact q.elim
end
section
variable {X : Cx} {CX : CXT} {k : Nat} {f : Addr} {fd : FuncData} {ps : List Str} {sp : Sp} {ds : List Value} {dvs : List V} {E : XK} {x : Str} {p pos : Pos} {e : Expr} {es : List Expr} {t : TA}
theorem fnG_run {pins : List (Addr × Obj)} {σ : L2.St} {H : Hp} {s : Shared} {Q : VK} {us : List Value} {vs : List V} (F : FnG X.prog X.w X.K X.mg X.base CX k f fd ps sp) (hr : Room k X.A) (hG : X.A.guards = some [])
    (hb : Binds X.K fd ps ds) (hd : Vals dvs ds) (hx : Passes CX X E) (I : Inv X pins σ H s) (r : Vals vs us) (h : sp (vs ++ dvs) H Q E) : wpAny (model X.prog X.w) X.A (call (.ref f) us) (EP X pins σ Q) X.xe s := by
  have r2 := r.append hd
  have both := F.runG X.A X.stack s H ⟨us, []⟩ (us ++ ds) (vs ++ dvs) Q E hr hG I.env0 (hb s us I.kIn (by rw [← r2.length]; exact F.lenG _ _ _ _ h)) r2 h
  refine wpAny_call (codeAny_mono both fun z s' hq => ?_)
  match z, hq with
  | .error e, hq => exact hx pins σ H s e s' I hq
  | .ok (.ret u), hq => exact I.after hq
theorem pe_callG (F : FnG X.prog X.w X.K X.mg X.base CX k f fd ps sp) (hr : Room k X.A) (hG : X.A.guards = some []) (hg : Gl X x) (hm : X.mg x = some (.ref f)) (hk : PySem.W.keepIn X.K (.ref f) = true)
    (hb : Binds X.K fd ps ds) (hd : Vals dvs ds) (hx : Passes CX X E) (ha : PA X (e :: es) t) (hdb : (x == ("__debug__" : Str)) = false := by decide)
    (he : starEach (e :: es) X.env = (false, eval e X.env) :: starEach es X.env := by rfl) (hpl : (backTo pos (starEach es X.env)).any (·.1) = false := by rfl) :
    PE X (.Call (.Name x p) (e :: es) [] pos) (tCall sp dvs E t) := ⟨fun pins s σ H Q I h =>
  wpAny_Call_Name_kw (ld_glob I hg hm
    (PySem.W.callWith_K (h₀ := X.base) I.ok.mod.kin hk (thn (ha.run pos pins s σ H _ I h) fun us s1 ⟨vs, H1, I1, r, q⟩ => ⟨I1.kIn, fnG_run F hr hG hb hd hx I1 r q⟩) he hpl) hdb)⟩
end
end EG

namespace EG
open PySem PySem.Spec PyProof.Rows L2 LamX
/-! ### the end of a law's row, where its def may ask that no repr is under way -/
/-- what is tracked when the law begins: the empty tables of its code objects, and the script where the module does not hold it -/
def H0 (K : PySem.W.Frag) (T : List Addr) (a : Addr) (ob : Obj) (xs : List V) : Hp := fun b =>
  if b ∈ T then some (.tbl #[]) else if b = a ∧ (K.lookup a).isNone = true then some (.frz ob (.lst xs)) else none
section
variable {K : PySem.W.Frag} {T : List Addr} {a : Addr} {ob : Obj} {xs : List V} {b : Addr}
theorem H0_tab (h : b ∈ T) : H0 K T a ob xs b = some (.tbl #[]) := if_pos h
theorem H0_scr (h : a ∉ T) (k : K.lookup a = none) : H0 K T a ob xs a = some (.frz ob (.lst xs)) := by
  unfold H0
  rw [if_neg h, if_pos ⟨rfl, by rw [k]; rfl⟩]
theorem H0_cases (b : Addr) : H0 K T a ob xs b = none ∨ (b ∈ T ∧ H0 K T a ob xs b = some (.tbl #[])) ∨ (b = a ∧ b ∉ T ∧ K.lookup a = none ∧ H0 K T a ob xs b = some (.frz ob (.lst xs))) := by
  by_cases h : b ∈ T
  · exact .inr (.inl ⟨h, H0_tab h⟩)
  · by_cases z : b = a ∧ (K.lookup a).isNone = true
    · obtain ⟨rfl, e⟩ := z
      have k : K.lookup b = none := Option.isNone_iff_eq_none.mp e
      exact .inr (.inr ⟨rfl, h, k, H0_scr h k⟩)
    · left
      unfold H0
      rw [if_neg h, if_neg z]
end
/-- a law's def: where its code objects' tables stand, how it binds, what it is promised -/
structure TopG (P : Program) (w : World) (K : PySem.W.Frag) (mg : Str → Option Value) (CX : CXT) (k : Nat) (fa : Addr) (x : Str) (cs : List (Addr × Addr)) (fd : FuncData) (sp : Sp) (h : Heap) (n : Nat) : Prop where
  emp : ∀ p ∈ cs, h.get? p.2 = some { cls := .none, data := .fields #[] }
  out : ∀ p ∈ cs, K.lookup p.2 = none
  hd : ∀ p ∈ cs, PySem.W.CodeHd h p.1 p.2
  bnd : ∀ (s : Shared) (u : Value), BindsTo s fd ⟨[u], []⟩ [(x, u)]
  ask : ∀ (H : Hp) (a : Addr) (ns : List Int), ns.length ≤ n → (∀ z ∈ ns, Builtin.Int.intBits z ≤ 1048576) → (∀ p ∈ cs, H p.2 = some (.tbl #[])) → SqL K H a (ns.map V.int) → sp [.ref a] H (fun v _ => v = .bl true) fun _ _ _ => False
  fn : ∀ base : Heap, K.In base → base.Ns mainGlobals mg → (∀ p ∈ cs, TabB base mg p.1 p.2) → FnG P w K mg base CX k fa fd [x] sp
theorem law_runG {P : Program} {w : World} {K : PySem.W.Frag} {mg mb : Str → Option Value} {CX : CXT} {k n : Nat} {fa a : Addr} {cs : List (Addr × Addr)} {fd : FuncData} {x : Str} {sp : Sp} {s : Shared} {vs : List Value} {ns : List Int}
    (T : TopG P w K mg CX k fa x cs fd sp s.heap n) (KX : K.In s.heap) (g : s.heap.Ns mainGlobals mg) (b : s.heap.Ns builtinsNs mb) (bb : ∀ x : Str, x ≠ "__name__" → mb x = bootBuiltins x) (lim : s.heap.NoLimit) (gen : s.gens = #[])
    (bm : ∃ (bm : Addr) (o : Obj), mg "__builtins__" = some (.ref bm) ∧ bm ≠ builtinsNs ∧ s.heap.get? bm = some o ∧ o.cls = .type "module" ∧ o.dict = some builtinsNs ∧ o.data = .plain)
    (ha : s.heap.get? a = some { cls := .type "list", data := .seq vs.toArray }) (hi : IntsAre vs ns) (hl : ns.length ≤ n) (hn : n ≤ sizeLine) (bits : ∀ z ∈ ns, Builtin.Int.intBits z ≤ 1048576) (hr : Room k callerA)
    (nx : ∀ H e s', CX [] H s (fun _ _ _ => False) e s' → False) :
    codeAny (model P w) callerA (.call (.ref fa) ⟨[.ref a], []⟩) (fun r s' => r = .ok (.ret (.bool true)) ∧ OldK s.heap s'.heap ∧ s'.os = s.os ∧ AllBare s'.gens) s := by
  have rel := vals_ints hi
  have len : ns.length ≤ sizeLine := Nat.le_trans hl hn
  have lens := hi.length
  have tab : ∀ c : Addr, c ∈ cs.map (·.2) → s.heap.get? c = some { cls := .none, data := .fields #[] } := by
    intro c hc
    obtain ⟨p, hp, rfl⟩ := List.mem_map.mp hc
    exact T.emp p hp
  have inT : ∀ p ∈ cs, p.2 ∈ cs.map (·.2) := fun p hp => List.mem_map.mpr ⟨p, hp, rfl⟩
  have na : a ∉ cs.map (·.2) := fun z => by
    have q : Data.seq vs.toArray _ = Data.fields #[] := congrArg Obj.data (Option.some.inj (ha.symm.trans (tab a z)))
    cases q
  obtain ⟨Hq, eH⟩ : ∃ Hq, Hq = H0 K (cs.map (·.2)) a { cls := .type "list", data := .seq vs.toArray } (ns.map V.int) := ⟨_, rfl⟩
  have cas : ∀ c, Hq c = none ∨ (c ∈ cs.map (·.2) ∧ Hq c = some (.tbl #[])) ∨ (c = a ∧ c ∉ cs.map (·.2) ∧ K.lookup a = none ∧ Hq c = some (.frz { cls := .type "list", data := .seq vs.toArray } (.lst (ns.map V.int)))) := by
    rw [eH]
    exact H0_cases
  have atT : ∀ p ∈ cs, Hq p.2 = some (.tbl #[]) := fun p hp => by
    rw [eH]
    exact H0_tab (inT p hp)
  -- the script, read
  have hS : SqL K Hq a (ns.map V.int) := by
    cases hk : K.lookup a with
    | none =>
      rw [eH]
      exact .inl (.inr ⟨_, H0_scr na hk⟩)
    | some o =>
      have e := (KX a o hk).symm.trans ha
      cases e
      exact .inr ⟨_, vs.toArray, _, hk, rfl, rfl, rfl, by rw [List.size_toArray, lens]; exact len, by simpa using rel⟩
  have hok : HOk P w Hq s.heap := fun c u z => by
    rcases cas c with q | ⟨hc, q⟩ | ⟨rfl, _, _, q⟩
    · rw [q] at z; cases z
    · rw [q] at z; cases z; exact tab c hc
    · rw [q] at z; cases z
      exact ⟨ha, by rw [List.length_map]; exact len, vs, _, rel, ha⟩
  -- what is not tracked
  have off : ∀ {c : Addr} {o : Obj}, s.heap.get? c = some o → (∀ l m, o.data ≠ .seq l m) → o.data ≠ .fields #[] → Hq c = none := fun {c o} e h1 h2 => by
    rcases cas c with q | ⟨hc, _⟩ | ⟨rfl, _, _, _⟩
    · exact q
    · rw [tab c hc] at e
      cases e
      exact absurd rfl h2
    · rw [ha] at e
      cases e
      exact absurd rfl (h1 _ _)
  have ns' : ∀ {c : Addr} {m : Str → Option Value}, s.heap.Ns c m → (hidT s.heap Hq).Ns c m := by
    rintro c m ⟨o, es, ep, e, d, r⟩
    exact ⟨o, es, ep, hidT_get e (off e (by rw [d]; exact fun _ _ => nofun) (by rw [d]; exact nofun)), d, r⟩
  have kin : K.In (hidT s.heap Hq) := fun c o e => hidT_get (KX c o e) (by
    rcases cas c with q | ⟨hc, _⟩ | ⟨rfl, _, k, _⟩
    · exact q
    · obtain ⟨p, hp, rfl⟩ := List.mem_map.mp hc
      rw [T.out p hp] at e
      cases e
    · rw [k] at e
      cases e)
  have modl : L2.Mod K mg (hidT s.heap Hq) := ⟨kin, ns' g, ⟨mb, ns' b, bb⟩, by
    obtain ⟨mc, l1, l2⟩ := lim
    exact ⟨mc, ns' l1, l2⟩⟩
  have tabs : ∀ p ∈ cs, TabB (hidT s.heap Hq) mg p.1 p.2 := fun p hp => by
    have et := T.emp p hp
    obtain ⟨o, es, ep, ge, gd, _⟩ := g
    constructor
    · obtain ⟨oc, us, file, tf, fl, tg, inF, text, tt, c1, c2, c3, c4, rest⟩ := T.hd p hp
      refine ⟨oc, us, file, tf, fl, tg, inF, text, tt, hidT_get c1 (off c1 (by rw [c3]; exact fun _ _ => nofun) fun z => ?_), c2, c3, c4, rest⟩
      rw [c3] at z
      cases z
      simp at c4
    · obtain ⟨m, om, m1, m2, m3, m4, m5, m6⟩ := bm
      refine ⟨m, om, m1, m2, ?_, ?_, hidT_get m3 (off m3 (by rw [m6]; exact fun _ _ => nofun) (by rw [m6]; exact nofun)), m4, m5, m6⟩
      · rintro rfl
        rw [ge] at m3
        cases m3
        rw [gd] at m6
        cases m6
      · rintro rfl
        rw [et] at m3
        cases m3
        cases m6
    · intro z
      rw [z, et] at ge
      cases ge
      cases gd
  have env : Env0 P w K mg (hidT s.heap Hq) callerA [] s Hq :=
    { frames := rfl, mod := modl, bs := fun c o e => of_hidT e, bsz := Nat.le_of_eq (hidT_size _ _), funs := trivial, frf := fun c hc => (by cases hc), hok := hok, bare := .of_eq gen }
  have run := (T.fn _ kin (ns' g) tabs).runG callerA [] s Hq ⟨[.ref a], []⟩ [.ref a] [.ref a] _ _ hr rfl env (T.bnd s (.ref a)) (.cons rfl .nil) (T.ask Hq a ns hl bits atT hS)
  refine codeAny_mono run fun r s' z => ?_
  match r, z with
  | .error e, z => exact (nx Hq e s' z).elim
  | .ok (.ret u), ⟨v, H', os, bare, un, hok', rv, q⟩ =>
    cases show v = .bl true from q
    cases show u = Value.bool true from rv
    have stay : ∀ c o, c ∉ cs.map (·.2) → s.heap.get? c = some o → s'.heap.get? c = some o := fun c o hc e => by
      rcases cas c with q | ⟨h, _⟩ | ⟨_, _, _, q⟩
      · exact un.keep c o e q (by intro z; cases z) (by intro z; cases z)
      · exact absurd h hc
      · have e1 := (hok c _ q).1
        rw [e] at e1
        cases e1
        exact (hok' c _ (un.frzs c _ _ q)).1
    have more : ∀ p ∈ cs, ∃ m : Array Value, s'.heap.get? p.2 = some { cls := .none, data := .fields m } := fun p hp => by
      obtain ⟨m, z⟩ := un.tbls p.2 #[] (atT p hp)
      exact ⟨_, hok' p.2 _ z⟩
    refine ⟨rfl, ⟨fun c o e => ?_, fun c o e => ?_⟩, os, bare⟩
    · by_cases hc : c ∈ cs.map (·.2)
      · obtain ⟨p, hp, rfl⟩ := List.mem_map.mp hc
        obtain ⟨m, hm⟩ := more p hp
        have e' := (T.emp p hp).symm.trans e
        cases e'
        exact .inr (.inl ⟨((T.hd p hp).tab (T.emp p hp)).isCodeTable, rfl, #[], m, rfl, by rw [Array.empty_append]; exact hm⟩)
      · exact .inl (stay c o hc e)
    · by_cases hc : c ∈ cs.map (·.2)
      · obtain ⟨p, hp, rfl⟩ := List.mem_map.mp hc
        obtain ⟨m, hm⟩ := more p hp
        exact ⟨_, hm⟩
      · exact ⟨o, stay c o hc e⟩
theorem walk_G {l : PySem.W.OpenLaw} {n k : Nat} {q : Program} {loose : List Str} {XP : (Str → Option Value) → Heap → Prop} {YP : World → Heap → Prop} {d : DefRec} {K : Params → PySem.W.Frag} {CX : World → CXT} {x : Str}
    (most : l.most = some n) (small : n ≤ sizeLine) (noD : d.params.defaults = []) (room : Room k callerA) (inY : ∀ (w : World) (h : Heap), YP w h → (K w.params).In h)
    (top : ∀ (w : World) (mg : Str → Option Value) (fa : Addr) (h : Heap), YP w h → (K w.params).In h → h.Ns mainGlobals mg → mg d.name = some (.ref fa) → ∃ cs fd sp, TopG l.prog w (K w.params) mg (CX w) k fa x cs fd sp h n)
    (noX : ∀ (w : World) (H : Hp) (s : Shared) (e : Value) (s' : Shared), CX w [] H s (fun _ _ _ => False) e s' → False) : PySem.W.WalkO q loose XP YP l.row.toRowW d [] (fun f vs => PySem.call f vs) :=
  Att.attach_callB most noD fun w _ s₁ mg _ fa _ _ _ _ _ _ _ G Y _ _ _ hmg hobj hints hlen hbits hg => by
    obtain ⟨cs, fd, sp, T⟩ := top w mg fa _ Y (inY w _ Y) G.T.g hmg
    exact law_runG T (inY w _ Y) G.T.g G.T.b G.T.builtins G.T.nolimit hg G.T.bmain hobj hints hlen small hbits room fun H e s' => noX w H s₁ e s'
end EG

namespace K3
open PySem L2
def top (i : Nat) : Stmt := PySem.Challenge.pw_ruleengine_k04_whole_paths_and_put.main.body.getD i (.Pass ⟨0, 0, 0, 0⟩)

abbrev sMixed : Stmt := top 31
abbrev sFolded : Stmt := top 32
abbrev sDraw : Stmt := top 33
abbrev sBegun : Stmt := top 34
abbrev sNumber : Stmt := top 9
abbrev sName : Stmt := top 10
abbrev sErrInit : Stmt := inClass (top 2) 0
abbrev sPathErr : Stmt := inClass (top 3) 0
abbrev sPartErr : Stmt := inClass (top 4) 0
abbrev sTreeInit : Stmt := inClass (top 13) 2
abbrev sTreeLen : Stmt := inClass (top 13) 3
abbrev sTreeEq : Stmt := inClass (top 13) 4
abbrev sTreeHas : Stmt := inClass (top 13) 5
abbrev sTreeGet : Stmt := inClass (top 13) 6
abbrev sEachPath : Stmt := inClass (top 13) 8
abbrev sPut : Stmt := inClass (top 13) 9
abbrev sVarInit : Stmt := inClass (top 14) 0
abbrev sWordInit : Stmt := inClass (top 15) 0
abbrev sRestInit : Stmt := inClass (top 16) 0
abbrev sLikeInit : Stmt := inClass (top 17) 2
abbrev sTreePart : Stmt := top 18
abbrev sLikePart : Stmt := top 19
abbrev sLikeRow : Stmt := top 20
abbrev sIsNode : Stmt := top 21
abbrev sRowItems : Stmt := top 22
abbrev sNodesAmong : Stmt := top 23
abbrev sMeasures : Stmt := top 24
abbrev sNodeAt : Stmt := top 25
abbrev sExchanged : Stmt := top 26
abbrev sNodeText : Stmt := top 27
abbrev sPartText : Stmt := top 28
abbrev sQuoted : Stmt := top 29
abbrev sTable : Stmt := top 35
abbrev sWord : Stmt := top 36
abbrev sForm : Stmt := top 37
abbrev sTree : Stmt := top 38
abbrev sRow : Stmt := top 39
abbrev sMade : Stmt := top 40
abbrev sClosed : Stmt := top 41
abbrev sBelow : Stmt := top 42
abbrev sAt : Stmt := top 43
abbrev sPaths : Stmt := top 44
abbrev sDoubled : Stmt := top 45
abbrev sFault : Stmt := top 46
abbrev sPlaced : Stmt := top 47
abbrev sReadRight : Stmt := top 48
abbrev sOddsRight : Stmt := top 49
abbrev sPutRight : Stmt := top 50
abbrev sLimitsRight : Stmt := top 51
abbrev sLaw : Stmt := top 52
/-! ### readings, as equations for simp -/
@[simp] theorem x_tOp {r : R2} {ta tb : TE} {σ : L2.St} {H : Hp} {Q : VK} : tOp r ta tb σ H Q = ta σ H fun x H1 => tb σ H1 fun y H2 => r x y H2 Q := rfl
@[simp] theorem x_rI {C : Int → Int → Prop} {g : Int → Int → V} {x y : V} {H : Hp} {Q : VK} : rI C g x y H Q = ∃ i j, x = .int i ∧ y = .int j ∧ C i j ∧ Q (g i j) H := rfl
@[simp] theorem x_rI0 {g : Int → Int → V} {x y : V} {H : Hp} {Q : VK} : rI0 g x y H Q = ∃ i j, x = .int i ∧ y = .int j ∧ Q (g i j) H := rfl
@[simp] theorem x_rU {g : Int → V} {x : V} {H : Hp} {Q : VK} : rU g x H Q = ∃ i, x = .int i ∧ Q (g i) H := rfl
@[simp] theorem x_tVar {i : Nat} {σ : L2.St} {H : Hp} {Q : VK} : tVar i σ H Q = ∃ v, σ[i]? = some (some v) ∧ Q v H := rfl
@[simp] theorem x_tC {v : V} {σ : L2.St} {H : Hp} {Q : VK} : tC v σ H Q = Q v H := rfl
@[simp] theorem x_gName {i : Nat} {v : V} {σ : L2.St} {H : Hp} {Q : L2.St → Hp → Prop} : gName i v σ H Q = Q (σ.set i (some v)) H := rfl
@[simp] theorem x_tAsg {te : TE} {g : TG} {D : Ends} {σ : L2.St} {H : Hp} : tAsg te g D σ H = te σ H fun x H1 => g x σ H1 D.nx := rfl
@[simp] theorem x_tSeq {t u : TS} {D : Ends} {σ : L2.St} {H : Hp} : tSeq t u D σ H = t { D with nx := u D } σ H := rfl
@[simp] theorem x_tRet {te : TE} {D : Ends} {σ : L2.St} {H : Hp} : tRet te D σ H = te σ H D.rt := rfl
@[simp] theorem x_tNext {D : Ends} {σ : L2.St} {H : Hp} : tNext D σ H = D.nx σ H := rfl
@[simp] theorem x_tDrop {te : TE} {D : Ends} {σ : L2.St} {H : Hp} : tDrop te D σ H = te σ H fun _ H1 => D.nx σ H1 := rfl
@[simp] theorem x_tIfS {c : TT} {t u : TS} {D : Ends} {σ : L2.St} {H : Hp} : tIfS c t u D σ H = c σ H fun b H1 => if b = true then t D σ H1 else u D σ H1 := rfl
@[simp] theorem x_tIf {c : TT} {t u : TE} {Q : VK} {σ : L2.St} {H : Hp} : tIf c t u σ H Q = c σ H fun b H1 => if b = true then t σ H1 Q else u σ H1 Q := rfl
@[simp] theorem x_tB {t : TE} {σ : L2.St} {H : Hp} {Q : Bool → Hp → Prop} : tB t σ H Q = t σ H fun x H1 => ∃ c, x = .bl c ∧ Q c H1 := rfl
@[simp] theorem x_tTest {t : TE} {σ : L2.St} {H : Hp} {Q : Bool → Hp → Prop} : tTest t σ H Q = t σ H fun x H1 => ∃ c, x = .bl c ∧ Q c H1 := rfl
@[simp] theorem x_tAnd {t u : TT} {σ : L2.St} {H : Hp} {Q : Bool → Hp → Prop} : tAnd t u σ H Q = t σ H fun c H1 => if c = true then u σ H1 Q else Q false H1 := rfl
@[simp] theorem x_tOr {t u : TT} {σ : L2.St} {H : Hp} {Q : Bool → Hp → Prop} : tOr t u σ H Q = t σ H fun c H1 => if c = true then Q true H1 else u σ H1 Q := rfl
@[simp] theorem x_tNot {t : TT} {σ : L2.St} {H : Hp} {Q : Bool → Hp → Prop} : tNot t σ H Q = t σ H fun c H1 => Q (!c) H1 := rfl
@[simp] theorem x_tAndV {ta tb : TE} {σ : L2.St} {H : Hp} {Q : VK} : tAndV ta tb σ H Q = ta σ H fun x H1 => ∃ c, x = .bl c ∧ if c = true then tb σ H1 Q else Q (.bl false) H1 := rfl
@[simp] theorem x_tOrV {ta tb : TE} {σ : L2.St} {H : Hp} {Q : VK} : tOrV ta tb σ H Q = ta σ H fun x H1 => ∃ c, x = .bl c ∧ if c = true then Q (.bl true) H1 else tb σ H1 Q := rfl
@[simp] theorem x_tNotV {ta : TE} {σ : L2.St} {H : Hp} {Q : VK} : tNotV ta σ H Q = ta σ H fun x H1 => ∃ c, x = .bl c ∧ Q (.bl (!c)) H1 := rfl
@[simp] theorem x_tNil {σ : L2.St} {H : Hp} {Q : List V → Hp → Prop} : tNil σ H Q = Q [] H := rfl
@[simp] theorem x_tCons {ta : TE} {tr : TA} {σ : L2.St} {H : Hp} {Q : List V → Hp → Prop} : tCons ta tr σ H Q = ta σ H fun x H1 => tr σ H1 fun xs H2 => Q (x :: xs) H2 := rfl
@[simp] theorem x_tCB {r : List V → Hp → VK → Prop} {t : TA} {σ : L2.St} {H : Hp} {Q : VK} : tCB r t σ H Q = t σ H fun vs H1 => r vs H1 Q := rfl
@[simp] theorem x_tCall {sp : Sp} {dvs : List V} {E : XK} {t : TA} {σ : L2.St} {H : Hp} {Q : VK} : tCall sp dvs E t σ H Q = t σ H fun vs H1 => sp (vs ++ dvs) H1 Q E := rfl
@[simp] theorem x_tLst {t : TA} {σ : L2.St} {H : Hp} {Q : VK} : tLst t σ H Q = t σ H fun xs H1 => xs.length ≤ sizeLine ∧ ∀ p, H1 p = none → Q (.ref p) (upd H1 p (.lst xs)) := rfl
@[simp] theorem x_tTup {t : TA} {σ : L2.St} {H : Hp} {Q : VK} : tTup t σ H Q = t σ H fun xs H1 => xs.length ≤ sizeLine ∧ ∀ p, H1 p = none → Q (.ref p) (upd H1 p (.tup xs)) := rfl
@[simp] theorem x_tDGet {td ty : TE} {σ : L2.St} {H : Hp} {Q : VK} : tDGet td ty σ H Q = td σ H fun x H1 => ty σ H1 fun y H2 => ∃ a v, x = .ref a ∧ DGet H2 a y (some v) ∧ Q v H2 := rfl
@[simp] theorem x_sDPut {td ty tv : TE} {D : Ends} {σ : L2.St} {H : Hp} : sDPut td ty tv D σ H = tv σ H fun v H1 => td σ H1 fun x H2 => ty σ H2 fun y H3 => ∃ a H4, x = .ref a ∧ DPut H3 a y v H4 ∧ D.nx σ H4 := rfl
@[simp] theorem x_rNeD {K : PySem.W.Frag} {x y : V} {H : Hp} {Q : VK} : rNeD K x y H Q = ∃ d e, Dp K H x d ∧ Dp K H y e ∧ SeqAt.shaped d = true ∧ SeqAt.shaped e = true ∧ Q (.bl (!PyData.eqv d e)) H := rfl
@[simp] theorem x_rEqD {K : PySem.W.Frag} {x y : V} {H : Hp} {Q : VK} : rEqD K x y H Q = ∃ d e, Dp K H x d ∧ Dp K H y e ∧ SeqAt.shaped d = true ∧ SeqAt.shaped e = true ∧ Q (.bl (PyData.eqv d e)) H := rfl
@[simp] theorem x_rIxL {K : PySem.W.Frag} {x y : V} {H : Hp} {Q : VK} : rIxL K x y H Q = ∃ p xs i v, x = .ref p ∧ y = .int i ∧ SqL K H p xs ∧ atI xs i = some v ∧ Q v H := rfl
@[simp] theorem x_rSetL {o i v : V} {H : Hp} {Q : Hp → Prop} : rSetL o i v H Q = ∃ p xs k j, o = .ref p ∧ i = .int k ∧ H p = some (.lst xs) ∧ ixN xs.length k = some j ∧ Q (upd H p (.lst (xs.set j v))) := rfl
@[simp] theorem x_gSub {to ti : TE} {t : TSet} {v : V} {σ : L2.St} {H : Hp} {Q : L2.St → Hp → Prop} : gSub to ti t v σ H Q = to σ H fun o H1 => ti σ H1 fun i H2 => t o i v H2 fun H3 => Q σ H3 := rfl
@[simp] theorem x_rEq {x y : V} {H : Hp} {Q : VK} : rEq x y H Q = (scal x y = true ∧ Q (.bl (decide (x = y))) H) := rfl
@[simp] theorem x_rNe {x y : V} {H : Hp} {Q : VK} : rNe x y H Q = (scal x y = true ∧ Q (.bl (!decide (x = y))) H) := rfl
@[simp] theorem x_rIsi {K : PySem.W.Frag} {xs : List V} {H : Hp} {Q : VK} : rIsi K xs H Q = ∃ (x c : V) (t u : Value) (b : Bool), xs = [x, c] ∧ ClsV c u ∧ TyX K H x t ∧ PySem.W.kitOne K t u = some b ∧ Q (.bl b) H := rfl
@[simp] theorem x_start {N : List Str} {vs : List V} : L2.start N vs = vs.map some ++ List.replicate (N.length - vs.length) none := rfl
def mixed (c n : Int) : Int := ((c * (1 + 2 * n) * 48271 % 2147483647 + 7919 * n * n + 104729 * n) * 69621 % 2147483629) / 7
theorem mixed_nonneg (c n : Int) : 0 ≤ mixed c n := by
  unfold mixed
  exact Int.ediv_nonneg (Int.emod_nonneg _ (by decide)) (by decide)
theorem mixed_lt (c n : Int) : mixed c n < 2147483648 := by
  unfold mixed
  have h := Int.emod_lt_of_pos ((c * (1 + 2 * n) * 48271 % 2147483647 + 7919 * n * n + 104729 * n) * 69621) (show (0 : Int) < 2147483629 by decide)
  omega
def spMixed : Sp := fun vs H Q _ => ∃ c n : Int, vs = [.int c, .int n] ∧ -(2 ^ 62) ≤ c ∧ c ≤ 2 ^ 62 ∧ 0 ≤ n ∧ n ≤ 2 ^ 30 ∧ Q (.int (mixed c n)) H
theorem scMixed : FnScope ["_law_cell", "_law_n", "_law_turned"] ["_law_cell", "_law_n"] (defScope sMixed) := ⟨rfl, rfl, rfl, by decide +kernel, rfl, by decide +kernel, by decide +kernel⟩
section
variable {P : Program} {w : World} {K : PySem.W.Frag} {mg : Str → Option Value} {base : Heap}
theorem ok_mixed {f : Addr} {fd : FuncData} (F : Fun K "_law_mixed" "_law_mixed" sMixed f fd) : FnOk P w K mg base CX0 1 f fd ["_law_cell", "_law_n"] spMixed := by
  refine F.ok scMixed (fun vs H Q E h => ?_) (fun cdv A outer s H vs Q E hr h => ?_)
  · obtain ⟨c, n, rfl, _⟩ := h
    rfl
  · obtain ⟨c, n, rfl, c0, c1, n0, n1, k⟩ := h
    refine ⟨_, pss_cons (ps_set (i := 2) scMixed.nd rfl (Or.inl rfl)
        (pe_op op_add (pe_op op_add (pe_op op_mod (pe_op op_mul (pe_op op_mul (pv 0) (pe_op op_add pe_int (pe_op op_mul pe_int (pv 1)))) pe_int) pe_int)
          (pe_op op_mul (pe_op op_mul pe_int (pv 1)) (pv 1))) (pe_op op_mul pe_int (pv 1))))
      (pss_one (ps_ret (pe_op op_fdiv (pe_op op_mod (pe_op op_mul (pv 2) pe_int) pe_int) pe_int))), ?_⟩
    simp [CMul, CDiv]
    exact ⟨.inl ⟨by omega, by omega⟩, .inr ⟨by omega, by omega⟩, k⟩

theorem fm0 (a : Int) {b : Int} (h : 0 < b) : 0 ≤ Int.fmod a b := by
  rw [Int.fmod_eq_emod_of_nonneg _ (by omega)]
  exact Int.emod_nonneg _ (by omega)
theorem ixN_n {n j : Nat} (hj : j < n) : ixN n (j : Int) = some j := by
  unfold ixN
  rw [if_pos (by omega), if_pos (by omega)]
  simp
theorem dg {H : Hp} {a : Addr} {kvs : List (Key × V)} {k : Key} {v : V} (e : H a = some (.dK kvs)) (h : valV kvs k = some v) : DGet H a (kV k) (some v) := by
  rw [← h]
  exact DGet.k e
theorem dpInts {K : PySem.W.Frag} {H : Hp} : ∀ l : List Int, DpAll K H (l.map V.int) (l.map PyData.int)
  | [] => .nil
  | i :: l => .cons (.int i) (dpInts l)
theorem shInts (l : List Int) : SeqAt.shaped (.list (l.map PyData.int)) = true := by
  have h1 : ∀ l : List Int, PyData.canLayAll0 (l.map PyData.int) = true := fun l => by
    induction l with
    | nil => rfl
    | cons i l ih => simp [PyData.canLayAll0, PyData.canLay0, ih]
  have h2 : ∀ l : List Int, PyData.depthAll (l.map PyData.int) = 0 := fun l => by
    induction l with
    | nil => rfl
    | cons i l ih => simp [PyData.depthAll, PyData.depth, ih]
  simp [SeqAt.shaped, PyData.canLay0, PyData.depth, h1, h2]
theorem eqvNil (l : List Int) : PyData.eqv (.list (l.map PyData.int)) (.list []) = l.isEmpty := by
  cases l <;> rfl
theorem ce_ : ¬ ((Sum.inr "cells" : Key) = (Sum.inr "spot" : Key)) := by decide +kernel
theorem ge_ : ¬ ((Sum.inr "great" : Key) = (Sum.inr "spot" : Key)) := by decide +kernel
theorem cg_ : ¬ ((Sum.inr "cells" : Key) = (Sum.inr "great" : Key)) := by decide +kernel
theorem sg_ : ¬ ((Sum.inr "spot" : Key) = (Sum.inr "great" : Key)) := by decide +kernel
def mD (lc lg : Addr) (n : Int) : List (Key × V) := [(.inr "cells", .ref lc), (.inr "great", .ref lg), (.inr "spot", .int n)]
theorem mD_s {lc lg : Addr} {n : Int} : valV (mD lc lg n) (.inr "spot") = some (.int n) := by
  unfold mD
  rw [valV_neg ce_, valV_neg ge_, valV_pos rfl]
theorem mD_g {lc lg : Addr} {n : Int} : valV (mD lc lg n) (.inr "great") = some (.ref lg) := by
  unfold mD
  rw [valV_neg cg_, valV_pos rfl]
theorem mD_c {lc lg : Addr} {n : Int} : valV (mD lc lg n) (.inr "cells") = some (.ref lc) := by
  unfold mD
  rw [valV_pos rfl]
theorem mD_put {lc lg : Addr} {n k : Int} : putK (mD lc lg n) (.inr "spot") (.int k) = mD lc lg k := by
  simp only [putK, mD, List.any_cons, List.any_nil, List.map_cons, List.map_nil, if_neg ce_, if_neg ge_]
  simp
theorem mD_putg {lc lg l2 : Addr} {n : Int} : putK (mD lc lg n) (.inr "great") (.ref l2) = mD lc l2 n := by
  simp only [putK, mD, List.any_cons, List.any_nil, List.map_cons, List.map_nil, if_neg cg_, if_neg sg_]
  simp
/-! ### the drawing state -/
/-- at m: the dict of the drawing state, its lists at lc and lg, spot n -/
structure MA (m lc lg : Addr) (n : Int) (H : Hp) : Prop where
  hm : H m = some (.dK (mD lc lg n))
  ne : lc ≠ lg
  hc : ∃ cs : List Int, H lc = some (.lst (cs.map V.int)) ∧ cs.length = 64 ∧ ∀ c ∈ cs, 0 ≤ c ∧ c < 2147483648
  hg : ∃ gs : List Int, H lg = some (.lst (gs.map V.int)) ∧ gs.length ≤ 63
  n0 : 0 ≤ n
def spDraw : Sp := fun vs H Q _ => ∃ (m lc lg : Addr) (n t : Int), vs = [.ref m, .int t] ∧ MA m lc lg n H ∧ n ≤ 1000000 ∧ 0 < t ∧ t < 1000000 ∧
  ∀ H' d, 0 ≤ d → d < t → MA m lc lg (n + 1) H' → (∀ b o, b ≠ m → b ≠ lg → H b = some o → H' b = some o) → Q (.int d) H'
theorem scDraw : FnScope ["_law_m", "_law_top", "_law_n", "_law_at_here", "_law_cell"] ["_law_m", "_law_top"] (defScope sDraw) := ⟨rfl, rfl, rfl, by decide +kernel, rfl, by decide +kernel, by decide +kernel⟩
theorem ok_draw {f fM : Addr} {fd fdM : FuncData} (F : Fun K "_law_draw" "_law_draw" sDraw f fd) (FM : Fun K "_law_mixed" "_law_mixed" sMixed fM fdM) (bM : Binds K fdM ["_law_cell", "_law_n"] []) (gM : mg "_law_mixed" = some (.ref fM)) (gL : mg "len" = none) :
    FnOk P w K mg base CX0 2 f fd ["_law_m", "_law_top"] spDraw := by
  have GM : FnOk P w K mg base CX0 1 fM fdM ["_law_cell", "_law_n"] spMixed := ok_mixed FM
  refine F.ok scDraw (fun vs H Q E h => ?_) (fun cdv A outer s H vs Q E hr h => ?_)
  · obtain ⟨m, lc, lg, n, t, rfl, _⟩ := h
    rfl
  · obtain ⟨m, lc, lg, n, t, rfl, M, n1, t0, t1, k⟩ := h
    have hu := hu_of hr
    refine ⟨_, pss_cons (ps_set (i := 2) scDraw.nd rfl (Or.inl rfl) (pe_dget hu (pv 0) pe_str (fun _ _ => rfl)))
      (pss_cons (ps_dput hu (pv 0) pe_str (pe_op op_add (pv 2) pe_int) rfl)
      (pss_cons (ps_if (pt_cmpR (op_neD hr.units) (pe_dget hu (pv 0) pe_str (fun _ _ => rfl)) (pe_lst pa_nil) (nomark _))
        (pss_cons (ps_set (i := 3) scDraw.nd rfl (Or.inl rfl) (pe_op op_modN (pv 2) (pe_callB call_len_seq (by rfl) gL PySem.boot_len (pa_cons (pe_dget hu (pv 0) pe_str (fun _ _ => rfl)) pa_nil))))
        (pss_cons (ps_set (i := 4) scDraw.nd rfl (Or.inl rfl) (pe_ix ix_list (pe_dget hu (pv 0) pe_str (fun _ _ => rfl)) (pv 3) (fun _ _ => rfl)))
        (pss_one (ps_if (pt_cmpR op_gt (pv 4) pe_int (nomark _))
          (pss_cons (ps_asg (pe_op op_fdivN (pv 4) (pv 1)) (pg_sub (pe_dget hu (pv 0) pe_str (fun _ _ => rfl)) (pv 3) set_list))
          (pss_one (ps_ret (pe_op op_modN (pv 4) (pv 1)))))
          pss_nil))))
        pss_nil)
      (pss_one (ps_ret (pe_op op_modN (pe_call GM hr rfl gM FM.kp bM .nil pass0 (pa_cons
          (pe_call GM hr rfl gM FM.kp bM .nil pass0 (pa_cons (pe_op op_add (pe_ix ix_list (pe_dget hu (pv 0) pe_str (fun _ _ => rfl)) (pe_op op_modN (pv 2) pe_int) (fun _ _ => rfl)) (pe_op op_mul pe_int (pe_op op_fdivN (pv 2) pe_int))) (pa_cons (pv 2) pa_nil)))
          (pa_cons (pe_op op_add (pv 2) pe_int) pa_nil))) (pv 1))))))
      , ?_⟩
    obtain ⟨hm, ne, ⟨cs, hc, lcs, bcs⟩, ⟨gs, hg, lgs⟩, n0⟩ := M
    have nmc : m ≠ lc := ne_of hm hc (by intro q; cases q)
    have nmg : m ≠ lg := ne_of hm hg (by intro q; cases q)
    have tail : ∀ H2 : Hp, H2 m = some (.dK (mD lc lg (n + 1))) → H2 lc = some (.lst (cs.map V.int)) → H2 lg = some (.lst (gs.map V.int)) → (∀ b o, b ≠ m → H b = some o → H2 b = some o) → ∀ (v3 v4 : Option V),
        (fun σ H => tRet (tOp (rI (fun _ j => j ≠ 0) fun i j => V.int (i.fmod j)) (tCall spMixed [] E0 (tCons (tCall spMixed [] E0 (tCons (tOp (rI0 fun i j => V.int (i + j)) (tOp (rIxL K) (tDGet (tVar 0) (tC (.str "cells"))) (tOp (rI (fun _ j => j ≠ 0) fun i j => V.int (i.fmod j)) (tVar 2) (tC (.int 64)))) (tOp (rI CMul fun i j => V.int (i * j)) (tC (.int 31)) (tOp (rI CDivN fun i j => V.int (i.fdiv j)) (tVar 2) (tC (.int 64))))) (tCons (tVar 2) tNil))) (tCons (tOp (rI0 fun i j => V.int (i + j)) (tVar 2) (tC (.int 7))) tNil))) (tVar 1)) { nx := fun _ H' => Q .non H', rt := Q } σ H) [some (.ref m), some (.int t), some (.int n), v3, v4] H2 := by
      intro H2 hm2 hc2 hg2 o2 v3 v4
      have f0 : 0 ≤ Int.fmod n 64 := fm0 _ (by decide)
      have f1 : Int.fmod n 64 < 64 := Int.fmod_lt_of_pos n (by decide)
      obtain ⟨j, ej⟩ := Int.eq_ofNat_of_zero_le f0
      have jl : j < cs.length := by omega
      have hj : (cs.map V.int)[j]? = some (.int cs[j]) := by simp [jl]
      have bj := bcs cs[j] (List.getElem_mem jl)
      have ed : Int.fdiv n 64 = n / 64 := Int.fdiv_eq_ediv_of_nonneg n (by decide)
      refine ⟨_, rfl, m, _, rfl, dg (k := .inr "cells") hm2 mD_c, _, rfl, _, _, rfl, rfl, (by show (64 : Int) ≠ 0; decide), _, _, _, _, rfl, rfl, SqL.of hc2, at_of ej hj, _, rfl, _, _, rfl, rfl, ⟨by decide, by decide⟩, _, _, rfl, rfl, .inl ⟨by decide, by decide⟩, _, _, rfl, rfl, ?_⟩
      refine ⟨_, rfl, _, _, rfl, by omega, by omega, n0, by omega, ?_⟩
      refine ⟨_, rfl, _, _, rfl, rfl, ?_⟩
      have b0 := mixed_nonneg (cs[j] + 31 * Int.fdiv n 64) n
      have b1 := mixed_lt (cs[j] + 31 * Int.fdiv n 64) n
      refine ⟨_, _, rfl, by omega, by omega, by omega, by omega, ?_⟩
      refine ⟨_, rfl, _, _, rfl, rfl, (by omega), ?_⟩
      exact k _ _ (fm0 _ t0) (Int.fmod_lt_of_pos _ t0) ⟨hm2, ne, ⟨cs, hc2, lcs, bcs⟩, ⟨gs, hg2, lgs⟩, by omega⟩ (fun b o hb _ e => o2 b o hb e)
    -- n = m["spot"]; m["spot"] = n + 1
    refine ⟨_, rfl, m, _, rfl, dg (k := .inr "spot") hm mD_s, ?_⟩
    refine ⟨_, rfl, _, _, rfl, rfl, _, rfl, m, _, rfl, DPut.k (k := Sum.inr "spot") hm (by show 3 < sizeLine; decide), ?_⟩
    rw [mD_put]
    generalize eH1 : upd H m (.dK (mD lc lg (n + 1))) = H1
    have hm1 : H1 m = some (.dK (mD lc lg (n + 1))) := by rw [← eH1, upd_same]
    have hc1 : H1 lc = some (.lst (cs.map V.int)) := by rw [← eH1, upd_ne nmc.symm, hc]
    have hg1 : H1 lg = some (.lst (gs.map V.int)) := by rw [← eH1, upd_ne nmg.symm, hg]
    have o1 : ∀ b, b ≠ m → H1 b = H b := fun b hb => by rw [← eH1, upd_ne hb]
    -- m["great"] != []
    refine ⟨_, rfl, m, _, rfl, dg (k := .inr "great") hm1 mD_g, (by decide), fun p hp => ?_⟩
    generalize eH2 : upd H1 p (.lst []) = H2
    have np : ∀ b o, H1 b = some o → b ≠ p := fun b o h => ne_of_none h hp
    have hm2 : H2 m = some (.dK (mD lc lg (n + 1))) := by rw [← eH2, upd_ne (np _ _ hm1), hm1]
    have hc2 : H2 lc = some (.lst (cs.map V.int)) := by rw [← eH2, upd_ne (np _ _ hc1), hc1]
    have hg2 : H2 lg = some (.lst (gs.map V.int)) := by rw [← eH2, upd_ne (np _ _ hg1), hg1]
    have hp2 : H2 p = some (.lst []) := by rw [← eH2, upd_same]
    have o2 : ∀ b o, b ≠ m → H b = some o → H2 b = some o := fun b o hb e => by
      have e1 : H1 b = some o := (o1 b hb).trans e
      rw [← eH2, upd_ne (np _ _ e1), e1]
    have nlp : lg ≠ p := np _ _ hg1
    refine ⟨_, _, .lst (SqL.of hg2) (dpInts gs), .lst (xs := []) (SqL.of hp2) .nil, shInts gs, (by decide), _, rfl, ?_⟩
    rw [eqvNil]
    refine ite2 (fun h => ?_) (fun h => ?_)
    · have gl : 0 < gs.length := by
        cases gs with
        | nil => simp at h
        | cons a l => simp
      -- at = n % len(m["great"]); cell = m["great"][at]
      have gN : ((gs.map V.int).length : Int) ≠ 0 := by rw [List.length_map]; omega
      have f0 : 0 ≤ Int.fmod n ((gs.map V.int).length : Int) := fm0 _ (by rw [List.length_map]; omega)
      have f1 : Int.fmod n ((gs.map V.int).length : Int) < (gs.length : Int) := by
        have q := Int.fmod_lt_of_pos n (show (0 : Int) < ((gs.map V.int).length : Int) by rw [List.length_map]; omega)
        rw [List.length_map] at q ⊢
        exact q
      refine ⟨_, rfl, _, rfl, m, _, rfl, dg (k := .inr "great") hm2 mD_g, _, _, rfl, .inl (SqL.of hg2), _, _, rfl, rfl, gN, ?_⟩
      obtain ⟨j, ej⟩ := Int.eq_ofNat_of_zero_le f0
      have jl : j < gs.length := by omega
      have hj : (gs.map V.int)[j]? = some (.int gs[j]) := by simp [jl]
      refine ⟨_, rfl, m, _, rfl, dg (k := .inr "great") hm2 mD_g, _, rfl, _, _, _, _, rfl, rfl, SqL.of hg2, at_of ej hj, ?_⟩
      -- if cell > 0
      refine ⟨_, rfl, _, _, rfl, rfl, _, rfl, ?_⟩
      refine ite2 (fun h0 => ?_) (fun h0 => ?_)
      · refine ⟨_, rfl, _, rfl, _, _, rfl, rfl, ⟨by omega, by omega⟩, ?_⟩
        refine ⟨_, rfl, m, _, rfl, dg (k := .inr "great") hm2 mD_g, _, rfl, _, _, _, j, rfl, rfl, hg2, (by rw [ej]; exact ixN_n (by rw [List.length_map]; exact jl)), ?_⟩
        refine ⟨_, rfl, _, rfl, _, _, rfl, rfl, (by omega), ?_⟩
        refine k _ _ (fm0 _ t0) (Int.fmod_lt_of_pos _ t0) ⟨by rw [upd_ne nmg]; exact hm2, ne, ⟨cs, by rw [upd_ne ne]; exact hc2, lcs, bcs⟩, ⟨gs.set j ((gs[j]).fdiv t), ?_, by rw [List.length_set]; exact lgs⟩, by omega⟩ (fun b o hb hb2 e => ?_)
        · rw [upd_same, List.map_set]
        · rw [upd_ne hb2]
          exact o2 b o hb e
      · exact tail H2 hm2 hc2 hg2 o2 _ _
    · exact tail H2 hm2 hc2 hg2 o2 _ _
end
end K3

/-! the top's run cut at a few statements, over states that are written out -/
noncomputable section
namespace HL
open PySem PySem.W PySem.Calls PyProof.Rows HandSHeadRun
section
variable (st : SharedT → Thread → Option (SharedT × Thread)) (n0 : Nat) (ann : Option Value)
def sgF : Nat → SharedT → Thread → Option (Flow × SharedT × Code × Pos)
  | 0, _, _ => none
  | m + 1, s, t => match endAt 1 t with
    | some f => some (f, s, t.code, t.pos)
    | none => match stepOk n0 ann t with
      | false => none
      | true => match st s t with
        | some (s', t') => frS s' fun s' => sgF m s' t'
        | none => none
def nF : Nat → SharedT → Thread → Option (SharedT × Thread)
  | 0, s, t => some (s, t)
  | m + 1, s, t => match through t with
    | true => none
    | false => match stepOk n0 ann t with
      | false => none
      | true => match st s t with
        | some (s', t') => frS s' fun s' => nF m s' t'
        | none => none
end
section
variable {tb : String → Option Builtin} {p : Program} {w : World} {n0 : Nat} {ann : Option Value}
theorem sgF_ok : ∀ {m : Nat} {s s' : SharedT} {t : Thread} {f : Flow} {c : Code} {q : Pos}, sgF (stepT (denote tb) p w) n0 ann m s t = some (f, s', c, q) → segRun tb p w n0 ann 1 m s.abs t = some (f, s'.abs, c, q)
  | 0, _, _, _, _, _, _, h => by cases h
  | m + 1, s, s', t, f, c, q, h => by
    unfold sgF at h
    unfold segRun
    cases he : endAt 1 t with
    | some x =>
      rw [he] at h
      cases h
      rfl
    | none =>
      rw [he] at h
      cases hk : stepOk n0 ann t with
      | false =>
        rw [hk] at h
        cases h
      | true =>
        rw [hk] at h
        cases hs : stepT (denote tb) p w s t with
        | none =>
          rw [hs] at h
          cases h
        | some r =>
          obtain ⟨s2, t2⟩ := r
          rw [hs] at h
          have h3 : (frS s2 fun s' => sgF (stepT (denote tb) p w) n0 ann m s' t2) = some (f, s', c, q) := h
          rw [frS_eq] at h3
          rw [stepT_spec hs]
          exact sgF_ok h3
theorem nF_ok : ∀ {m : Nat} {s s' : SharedT} {t t' : Thread}, nF (stepT (denote tb) p w) n0 ann m s t = some (s', t') → topGo tb p w n0 ann m s.abs t = some (s'.abs, t')
  | 0, _, _, _, _, h => by
    cases h
    rfl
  | m + 1, s, s', t, t', h => by
    unfold nF at h
    unfold topGo
    cases he : through t with
    | true =>
      rw [he] at h
      cases h
    | false =>
      rw [he] at h
      cases hk : stepOk n0 ann t with
      | false =>
        rw [hk] at h
        cases h
      | true =>
        rw [hk] at h
        cases hs : stepT (denote tb) p w s t with
        | none =>
          rw [hs] at h
          cases h
        | some r =>
          obtain ⟨s2, t2⟩ := r
          rw [hs] at h
          have h3 : (frS s2 fun s' => nF (stepT (denote tb) p w) n0 ann m s' t2) = some (s', t') := h
          rw [frS_eq] at h3
          rw [stepT_spec hs]
          exact nF_ok h3
end
def execsQ : List Stmt → Env → Sem Flow := PySem.W.Fast.tw12563942051412417395
def startQ : List Stmt → Env → Sem Unit := PySem.W.Fast.tw1066825118222455980
def okQ : Nat → Option Value → Thread → Bool := PySem.W.Fast.tw6613529449190102663
theorem execsQ_eq : @PySem.execs = execsQ := PySem.W.Fast.te12563942051412417395
theorem startQ_eq : @PySem.blockStart = startQ := PySem.W.Fast.te1066825118222455980
theorem okQ_eq : @PySem.W.stepOk = okQ := PySem.W.Fast.te6613529449190102663
/-- a thread at the statements l of the top -/
abbrev thQ (l : List Stmt) (env : Env) (c : Code) (p : Pos) (q : Pos) : Thread := ⟨(execsQ l env).wrap doneF deadEnd id id, c, p, [topFrame q]⟩
abbrev blQ (l : List Stmt) (env : Env) (c : Code) (p : Pos) (q : Pos) : Thread := ⟨(startQ l env).wrap (fun _ => doneF .next) deadEnd id id, c, p, [topFrame q]⟩
abbrev runQ (p : Program) (w : World) (n0 : Nat) (ann : Option Value) := sgF (stepQ (denQ tabQ) p w) n0 ann
theorem seg_of {p : Program} {w : World} {ann : Option Value} {n0 m : Nat} {s s' : SharedT} {l : List Stmt} {env : Env} {c c' : Code} {f : Flow} {x q x' : Pos} (h : runQ p w n0 ann m s (thQ l env c x q) = some (f, s', c', x')) :
    segRun treeTable p w n0 ann 1 m s.abs (piecesOf l env c x [topFrame q]) = some (f, s'.abs, c', x') := by
  have h1 : sgF (stepQ (denQ tabQ) p w) n0 ann m s (thQ l env c x q) = some (f, s', c', x') := h
  rw [← stepQ_eq, ← denQ_eq, ← tabQ_eq] at h1
  unfold thQ at h1
  rw [← execsQ_eq] at h1
  exact sgF_ok h1
theorem blk_of {p : Program} {w : World} {ann : Option Value} {n0 m : Nat} {s s' : SharedT} {l : List Stmt} {env : Env} {c c' : Code} {f : Flow} {x q x' : Pos} (h : runQ p w n0 ann m s (blQ l env c x q) = some (f, s', c', x')) :
    segRun treeTable p w n0 ann 1 m s.abs (blockOf l env c x [topFrame q]) = some (f, s'.abs, c', x') := by
  have h1 : sgF (stepQ (denQ tabQ) p w) n0 ann m s (blQ l env c x q) = some (f, s', c', x') := h
  rw [← stepQ_eq, ← denQ_eq, ← tabQ_eq] at h1
  unfold blQ at h1
  rw [← startQ_eq] at h1
  exact sgF_ok h1
theorem pre_of {p : Program} {w : World} {ann : Option Value} {n0 m : Nat} {s s' : SharedT} {b c : Code} {x q : Pos} (h : nF (stepQ (denQ tabQ) p w) n0 ann m s (topStub p) = some (s', ⟨denQ tabQ b, c, x, [topFrame q]⟩)) :
    topGo treeTable p w n0 ann m s.abs (topStub p) = some (s'.abs, ⟨denote treeTable b, c, x, [topFrame q]⟩) := by
  rw [← stepQ_eq, ← denQ_eq, ← tabQ_eq] at h
  exact nF_ok h
theorem fin_of {p : Program} {w : World} {ann : Option Value} {n0 m : Nat} {s s' : SharedT} {t : Thread} (h : goF (stepQ (denQ tabQ) p w) n0 ann m s t = some s') :
    topRun treeTable p w n0 ann m s.abs t = some s'.abs := by
  rw [← stepQ_eq, ← denQ_eq, ← tabQ_eq] at h
  exact goF_ok h
theorem boot_of {w : World} {os : OsState} {t : BT} {n : Nat} (e : putAll (boot_heap w.params).objs.toList .nil 0 = some (t, n)) :
    (boot_heap w.params).objs.size = n ∧ (bootT w os (t, n)).abs = ⟨boot_heap w.params, #[], boot_drawn, boot_toks, os⟩ := by
  have eh := putAll_heap e
  constructor
  · rw [← eh]
    exact absHeap_size t n _
  · show (⟨absHeap t n (boot_heap w.params).life, #[], boot_drawn, boot_toks, os⟩ : Shared) = _
    rw [eh]
/-- the top's end, by the library's lemma over a run in pieces: the opening is the boot's -/
theorem left_cut {p q : Program} {loose : List Str} {Xt : Shared → Bool} {α : Type} {Yf : Shared → α} {Ya : World → α} {N M m₀ n₁ k₁ : Nat} {ann : Option Value} {tr : Params → BT} {life : Life} {gs₁ : Array GenState} {d₁ : Drawn}
    (e : opening p = plainProg p.main.scope.names) (hN : Nat.ble 600 N = true) (f : ∀ s, fenceModules? p s = some s) (le : Nat.ble M N = true)
    (size : ∀ P : Params, ((boot_heap P).isNs mainGlobals && (#[] : Array GenState).size == 0, (boot_heap P).objs.size, (boot_heap P).nsMap mainGlobals "__annotations__") = (true, m₀, ann))
    (run : ∀ (w : World) (os : OsState), topRun treeTable p w m₀ ann M ⟨boot_heap w.params, #[], boot_drawn, boot_toks, os⟩ (topStub p) = some (SharedT.abs ⟨tr w.params, n₁, life, gs₁, d₁, k₁, os⟩))
    (look : ∀ (w : World) (os : OsState), looksF p (boot_heap w.params) (SharedT.abs ⟨tr w.params, n₁, life, gs₁, d₁, k₁, os⟩) = true ∧ openSeen q loose (importedModules p.main.body) Xt true (SharedT.abs ⟨tr w.params, n₁, life, gs₁, d₁, k₁, os⟩) = openGood q loose ∧ Yf (SharedT.abs ⟨tr w.params, n₁, life, gs₁, d₁, k₁, os⟩) = Ya w) :
    LeftO p q loose Xt Yf Ya N true :=
  LeftO.of_pieces (H₁ := fun P => absHeap (tr P) n₁ life) (gs₁ := gs₁) (d₁ := d₁) (k₁ := k₁) (boot_open e hN f) (fun w => size w.params) run le
    (fun w => funext fun os => Prod.ext (look w os).1 (Prod.ext (look w os).2.1 (look w os).2.2))
theorem head_cut {r : OpenRow} {q : Program} {H : Hook} {M m₀ n₁ k₁ : Nat} {ann : Option Value} {tr : Params → BT} {life : Life} {gs₁ : Array GenState} {d₁ : Drawn} {loose : List PySem.Str} {d : DefRec} {kwd : List (PySem.Str × PySem.Expr)}
    (e : opening r.prog = plainProg r.prog.main.scope.names) (f : ∀ s, fenceModules? r.prog s = some s)
    (size : ∀ P : Params, ((boot_heap P).isNs mainGlobals && (#[] : Array GenState).size == 0, (boot_heap P).objs.size, (boot_heap P).nsMap mainGlobals "__annotations__") = (true, m₀, ann))
    (run : ∀ (w : World) (os : OsState), topRun treeTable r.prog w m₀ ann M ⟨boot_heap w.params, #[], boot_drawn, boot_toks, os⟩ (topStub r.prog) = some (SharedT.abs ⟨tr w.params, n₁, life, gs₁, d₁, k₁, os⟩))
    (look : ∀ (w : World) (os : OsState), looksF r.prog (boot_heap w.params) (SharedT.abs ⟨tr w.params, n₁, life, gs₁, d₁, k₁, os⟩) = true ∧ openSeen q loose (importedModules r.prog.main.body) (fun s => xlAt q [] s && recOk r.toRowW.records s) true (SharedT.abs ⟨tr w.params, n₁, life, gs₁, d₁, k₁, os⟩) = openGood q loose ∧ H.obs (SharedT.abs ⟨tr w.params, n₁, life, gs₁, d₁, k₁, os⟩) = H.val w)
    (hdef : defOf q r.name = some (d, kwd)) (hp : r.prog.theDef r.name = some (d.params, d.body, d.scope)) (hk : kwWritten? d.params.kwonlyargs d.params.kw_defaults = some kwd)
    (hwr : (!r.writes || r.records.isEmpty) = true) (k1 : r.wellSaid = true) (ok : (chainsOk q && opensWell r.prog && (frees r.toRowW && r.within.isEmpty)) = true) (hb : r.prog.bare) (hw : r.toRowW.promised)
    (call : WalkO q loose (XL q []) H.says r.toRowW d kwd fun f vs => PySem.call f vs) : r.Holds := by
  have left : LeftO r.prog q loose (fun s => xlAt q [] s && recOk r.toRowW.records s) H.obs H.val (M + 600) true :=
    left_cut (M := M) e (Nat.ble_eq_true_of_le (by omega)) f (Nat.ble_eq_true_of_le (by omega)) size run look
  exact holds_open (r := r) (q := q) (loose := loose) (XP := XL q []) (YP := H.says) (d := d) (kwd := kwd) left H.of H.keeps (fun s z => xl_of s (Bool.and_eq_true_iff.mp z).1) XL.keeps hdef hp hk (fun s z => recFacts_of (Bool.and_eq_true_iff.mp z).2) hwr k1 ok hb hw call
end HL
end

set_option linter.all false
namespace KH
open PySem PySem.W L2 HandSHeadRun HL
open K3 (top)
noncomputable section
abbrev S := PySem.Str.ofString
def o2 (P : Params) : Obj := ⟨.none, none, (.dict #[] 0), #[]⟩
def o3 (P : Params) : Obj := ⟨(.type "dict"), none, (.dict #[⟨PyData.keyHash P (S "__name__"), (.str (S "__name__") 165), (.str (S "law_ruleengine_k04_whole_paths_and_put") 670)⟩, ⟨PyData.keyHash P (S "__doc__"), (.str (S "__doc__") 166), .none⟩, ⟨PyData.keyHash P (S "__package__"), (.str (S "__package__") 167), .none⟩, ⟨PyData.keyHash P (S "__loader__"), (.str (S "__loader__") 168), (.builtin "__main__.__loader__#opaque")⟩, ⟨PyData.keyHash P (S "__spec__"), (.str (S "__spec__") 169), .none⟩, ⟨PyData.keyHash P (S "__annotations__"), (.str (S "__annotations__") 170), (.ref 6)⟩, ⟨PyData.keyHash P (S "__builtins__"), (.str (S "__builtins__") 171), (.ref 4)⟩, ⟨PyData.keyHash P (S "__file__"), (.str (S "__file__") 173), (.str (S "/claim/cut.py") 172)⟩, ⟨PyData.keyHash P (S "__cached__"), (.str (S "__cached__") 174), .none⟩, ⟨PyData.keyHash P (S "RuleengineError"), (.str (S "RuleengineError") 206), (.ref 24)⟩, ⟨PyData.keyHash P (S "InvalidTree"), (.str (S "InvalidTree") 233), (.ref 46)⟩, ⟨PyData.keyHash P (S "InvalidPath"), (.str (S "InvalidPath") 260), (.ref 67)⟩, ⟨PyData.keyHash P (S "InvalidPart"), (.str (S "InvalidPart") 287), (.ref 88)⟩, ⟨PyData.keyHash P (S "LETTERS"), (.str (S "LETTERS") 291), (.str (S "ABCDEFGHIJKLMNOPQRSTUVWXYZabcdefghijklmnopqrstuvwxyz") 290)⟩, ⟨PyData.keyHash P (S "NAME_SIGNS"), (.str (S "NAME_SIGNS") 293), (.str (S "ABCDEFGHIJKLMNOPQRSTUVWXYZabcdefghijklmnopqrstuvwxyz0123456789_") 292)⟩, ⟨PyData.keyHash P (S "MAX_NAME"), (.str (S "MAX_NAME") 295), (.int (20) 294)⟩, ⟨PyData.keyHash P (S "is_number"), (.str (S "is_number") 302), (.ref 97)⟩, ⟨PyData.keyHash P (S "is_name"), (.str (S "is_name") 308), (.ref 102)⟩, ⟨PyData.keyHash P (S "MAX_TEXT"), (.str (S "MAX_TEXT") 312), (.int (60) 311)⟩, ⟨PyData.keyHash P (S "Tree"), (.str (S "Tree") 408), (.ref 164)⟩, ⟨PyData.keyHash P (S "Var"), (.str (S "Var") 449), (.ref 192)⟩, ⟨PyData.keyHash P (S "Word"), (.str (S "Word") 488), (.ref 220)⟩, ⟨PyData.keyHash P (S "Rest"), (.str (S "Rest") 527), (.ref 248)⟩, ⟨PyData.keyHash P (S "Like"), (.str (S "Like") 578), (.ref 276)⟩, ⟨PyData.keyHash P (S "_is_tree_part"), (.str (S "_is_tree_part") 584), (.ref 285)⟩, ⟨PyData.keyHash P (S "_is_like_part"), (.str (S "_is_like_part") 591), (.ref 292)⟩, ⟨PyData.keyHash P (S "_is_like_row"), (.str (S "_is_like_row") 597), (.ref 297)⟩, ⟨PyData.keyHash P (S "is_node"), (.str (S "is_node") 604), (.ref 304)⟩, ⟨PyData.keyHash P (S "row_items"), (.str (S "row_items") 611), (.ref 311)⟩, ⟨PyData.keyHash P (S "nodes_among"), (.str (S "nodes_among") 617), (.ref 316)⟩, ⟨PyData.keyHash P (S "_measures_above"), (.str (S "_measures_above") 627), (.ref 323)⟩, ⟨PyData.keyHash P (S "_node_at"), (.str (S "_node_at") 637), (.ref 330)⟩, ⟨PyData.keyHash P (S "parts_with"), (.str (S "parts_with") 649), (.ref 337)⟩, ⟨PyData.keyHash P (S "_node_text"), (.str (S "_node_text") 655), (.ref 342)⟩, ⟨PyData.keyHash P (S "part_text"), (.str (S "part_text") 661), (.ref 347)⟩, ⟨PyData.keyHash P (S "_quoted"), (.str (S "_quoted") 669), (.ref 354)⟩, ⟨PyData.keyHash P (S "_law_mixed"), (.str (S "_law_mixed") 680), (.ref 361)⟩, ⟨PyData.keyHash P (S "_law_folded"), (.str (S "_law_folded") 686), (.ref 366)⟩, ⟨PyData.keyHash P (S "_law_draw"), (.str (S "_law_draw") 697), (.ref 373)⟩, ⟨PyData.keyHash P (S "_law_begun"), (.str (S "_law_begun") 703), (.ref 378)⟩, ⟨PyData.keyHash P (S "_law_table"), (.str (S "_law_table") 710), (.ref 385)⟩, ⟨PyData.keyHash P (S "_law_word"), (.str (S "_law_word") 717), (.ref 392)⟩, ⟨PyData.keyHash P (S "_law_form"), (.str (S "_law_form") 726), (.ref 399)⟩, ⟨PyData.keyHash P (S "_law_tree"), (.str (S "_law_tree") 732), (.ref 404)⟩, ⟨PyData.keyHash P (S "_law_row"), (.str (S "_law_row") 741), (.ref 411)⟩, ⟨PyData.keyHash P (S "_law_made"), (.str (S "_law_made") 750), (.ref 418)⟩, ⟨PyData.keyHash P (S "_law_closed"), (.str (S "_law_closed") 756), (.ref 423)⟩, ⟨PyData.keyHash P (S "_law_below"), (.str (S "_law_below") 765), (.ref 430)⟩, ⟨PyData.keyHash P (S "_law_at"), (.str (S "_law_at") 774), (.ref 437)⟩, ⟨PyData.keyHash P (S "_law_paths"), (.str (S "_law_paths") 780), (.ref 442)⟩, ⟨PyData.keyHash P (S "_law_doubled"), (.str (S "_law_doubled") 789), (.ref 449)⟩, ⟨PyData.keyHash P (S "_law_fault"), (.str (S "_law_fault") 799), (.ref 456)⟩, ⟨PyData.keyHash P (S "_law_placed"), (.str (S "_law_placed") 813), (.ref 463)⟩, ⟨PyData.keyHash P (S "_law_read_right"), (.str (S "_law_read_right") 824), (.ref 470)⟩, ⟨PyData.keyHash P (S "_law_odds_right"), (.str (S "_law_odds_right") 830), (.ref 475)⟩, ⟨PyData.keyHash P (S "_law_put_right"), (.str (S "_law_put_right") 847), (.ref 482)⟩, ⟨PyData.keyHash P (S "_law_limits_right"), (.str (S "_law_limits_right") 853), (.ref 487)⟩, ⟨PyData.keyHash P (S "law"), (.str (S "law") 864), (.ref 494)⟩] 58), #[]⟩
def o11 (P : Params) : Obj := ⟨(.type "tuple"), none, (.seq #[] 0), #[]⟩
def o12 (P : Params) : Obj := ⟨.none, none, (.fields #[(.int (2) 0), (.int (0) 0), (.ref 20), (.int (4) 0), (.int (0) 0), (.ref 34), (.int (9) 0), (.int (0) 0), (.ref 55), (.int (14) 0), (.int (0) 0), (.ref 76), (.int (23) 0), (.int (0) 0), (.ref 96), (.int (25) 0), (.int (0) 0), (.ref 101), (.int (31) 0), (.int (0) 0), (.ref 108), (.int (92) 0), (.int (0) 0), (.ref 174), (.int (104) 0), (.int (0) 0), (.ref 202), (.int (114) 0), (.int (0) 0), (.ref 230), (.int (124) 0), (.int (0) 0), (.ref 258), (.int (145) 0), (.int (0) 0), (.ref 284), (.int (151) 0), (.int (0) 0), (.ref 291), (.int (157) 0), (.int (0) 0), (.ref 296), (.int (159) 0), (.int (0) 0), (.ref 303), (.int (161) 0), (.int (0) 0), (.ref 310), (.int (165) 0), (.int (0) 0), (.ref 315), (.int (171) 0), (.int (0) 0), (.ref 322), (.int (179) 0), (.int (0) 0), (.ref 329), (.int (188) 0), (.int (0) 0), (.ref 336), (.int (202) 0), (.int (0) 0), (.ref 341), (.int (205) 0), (.int (0) 0), (.ref 346), (.int (212) 0), (.int (0) 0), (.ref 353), (.int (216) 0), (.int (0) 0), (.ref 360), (.int (219) 0), (.int (0) 0), (.ref 365), (.int (226) 0), (.int (0) 0), (.ref 372), (.int (236) 0), (.int (0) 0), (.ref 377), (.int (240) 0), (.int (0) 0), (.ref 384), (.int (248) 0), (.int (0) 0), (.ref 391), (.int (250) 0), (.int (0) 0), (.ref 398), (.int (256) 0), (.int (0) 0), (.ref 403), (.int (268) 0), (.int (0) 0), (.ref 410), (.int (273) 0), (.int (0) 0), (.ref 417), (.int (291) 0), (.int (0) 0), (.ref 422), (.int (297) 0), (.int (0) 0), (.ref 429), (.int (305) 0), (.int (0) 0), (.ref 436), (.int (309) 0), (.int (0) 0), (.ref 441), (.int (314) 0), (.int (0) 0), (.ref 448), (.int (319) 0), (.int (0) 0), (.ref 455), (.int (330) 0), (.int (0) 0), (.ref 462), (.int (347) 0), (.int (0) 0), (.ref 469), (.int (358) 0), (.int (0) 0), (.ref 474), (.int (371) 0), (.int (0) 0), (.ref 481), (.int (386) 0), (.int (0) 0), (.ref 486), (.int (405) 0), (.int (0) 0), (.ref 493)]), #[]⟩
def o13 (P : Params) : Obj := ⟨(.type "code"), none, (.fields #[(.str (S "<module>") 182), (.str (S "<module>") 183), (.str (S "/claim/cut.py") 184), (.int (1) 0), (.int (0) 0), (.int (0) 0), (.int (0) 0), (.int (0) 0), (.ref 11), (.bool false), (.int (181) 0), (.ref 12), .none, .none, .none, .none, (.int (185) 0), (.int (1) 0), (.str (S "/claim/cut.py") 186)]), #[]⟩
def o14 (P : Params) : Obj := ⟨(.type "frame"), none, .plain, #[(some (.ref 13)), (some (.ref 3)), (some (.ref 3)), none, (some (.str (S "__main__") 164)), none, (some (.ref 0))]⟩
def o15 (P : Params) : Obj := ⟨(.type "tuple"), none, (.seq #[(.type "ValueError")] 0), #[]⟩
def o16 (P : Params) : Obj := ⟨(.type "builtin_function_or_method"), none, (.fields #[(.builtin "type.__prepare__"), (.type "type")]), #[]⟩
def o17 (P : Params) : Obj := ⟨(.type "dict"), none, (.dict #[⟨PyData.keyHash P (S "__module__"), (.str (S "__module__") 196), (.str (S "ruleengine.errors") 187)⟩, ⟨PyData.keyHash P (S "__qualname__"), (.str (S "__qualname__") 198), (.str (S "RuleengineError") 197)⟩, ⟨PyData.keyHash P (S "__firstlineno__"), (.str (S "__firstlineno__") 200), (.int (2) 199)⟩, ⟨PyData.keyHash P (S "__static_attributes__"), (.str (S "__static_attributes__") 201), (.ref 22)⟩] 4), #[]⟩
def o18 (P : Params) : Obj := ⟨(.type "tuple"), none, (.seq #[] 0), #[]⟩
def o19 (P : Params) : Obj := ⟨.none, none, (.fields #[]), #[]⟩
def o20 (P : Params) : Obj := ⟨(.type "code"), none, (.fields #[(.str (S "RuleengineError") 191), (.str (S "RuleengineError") 192), (.str (S "/claim/cut.py") 193), (.int (2) 0), (.int (0) 0), (.int (0) 0), (.int (0) 0), (.int (0) 0), (.ref 18), (.bool false), (.int (181) 0), (.ref 19), .none, .none, .none, .none, (.int (194) 0), (.int (2) 0), (.str (S "/claim/cut.py") 195)]), #[]⟩
def o21 (P : Params) : Obj := ⟨(.type "frame"), none, .plain, #[(some (.ref 20)), (some (.ref 3)), (some (.ref 17)), none, (some (.str (S "ruleengine.errors") 187)), none, (some (.ref 0))]⟩
def o22 (P : Params) : Obj := ⟨(.type "tuple"), none, (.seq #[] 0), #[]⟩
def o23 (P : Params) : Obj := ⟨(.type "dict"), none, (.dict #[⟨PyData.keyHash P (S "__module__"), (.str (S "__module__") 196), (.str (S "ruleengine.errors") 187)⟩, ⟨PyData.keyHash P (S "__firstlineno__"), (.str (S "__firstlineno__") 200), (.int (2) 199)⟩, ⟨PyData.keyHash P (S "__static_attributes__"), (.str (S "__static_attributes__") 201), (.ref 22)⟩, ⟨PyData.keyHash P (S "__weakref__"), (.str (S "__weakref__") 203), (.ref 25)⟩, ⟨PyData.keyHash P (S "__doc__"), (.str (S "__doc__") 204), .none⟩] 3), #[]⟩
def o24 (P : Params) : Obj := ⟨(.type "type"), none, (.cls ⟨(S "RuleengineError"), [(.type "ValueError")], [(.ref 24), (.type "ValueError"), (.type "Exception"), (.type "BaseException"), (.type "object")], 23, (S "RuleengineError"), true, [], [(.ref 46), (.ref 67), (.ref 88)], false, none, false⟩), #[(some (.ref 15)), none, (some (.str (S "RuleengineError") 189)), (some (.str (S "RuleengineError") 197)), (some (.builtin "ValueError.__new__")), (some (.bool true))]⟩
def o25 (P : Params) : Obj := ⟨(.type "getset_descriptor"), none, (.fields #[(.str (S "__weakref__") 202), (.ref 24), (.builtin "ExceptionGroup.__weakref__"), .none]), #[]⟩
def o26 (P : Params) : Obj := ⟨(.type "super"), none, (.fields #[(.ref 24), (.ref 24), (.ref 24)]), #[]⟩
def o27 (P : Params) : Obj := ⟨(.type "builtin_function_or_method"), none, (.fields #[(.builtin "object.__init_subclass__"), (.ref 24)]), #[]⟩
def o28 (P : Params) : Obj := ⟨(.type "tuple"), none, (.seq #[(.ref 24)] 0), #[]⟩
def o29 (P : Params) : Obj := ⟨(.type "builtin_function_or_method"), none, (.fields #[(.builtin "type.__prepare__"), (.type "type")]), #[]⟩
def o30 (P : Params) : Obj := ⟨(.type "dict"), none, (.dict #[⟨PyData.keyHash P (S "__module__"), (.str (S "__module__") 214), (.str (S "ruleengine.errors") 187)⟩, ⟨PyData.keyHash P (S "__qualname__"), (.str (S "__qualname__") 216), (.str (S "InvalidTree") 215)⟩, ⟨PyData.keyHash P (S "__firstlineno__"), (.str (S "__firstlineno__") 218), (.int (4) 217)⟩, ⟨PyData.keyHash P (S "__init__"), (.str (S "__init__") 227), (.ref 43)⟩, ⟨PyData.keyHash P (S "__static_attributes__"), (.str (S "__static_attributes__") 229), (.ref 44)⟩, ⟨PyData.keyHash P (S "__classcell__"), (.str (S "__classcell__") 230), (.ref 31)⟩] 6), #[]⟩
def o31 (P : Params) : Obj := ⟨(.type "cell"), none, (.cell (some (.ref 46))), #[]⟩
def o32 (P : Params) : Obj := ⟨(.type "tuple"), none, (.seq #[] 0), #[]⟩
def o33 (P : Params) : Obj := ⟨.none, none, (.fields #[(.int (6) 0), (.int (4) 0), (.ref 42)]), #[]⟩
def o34 (P : Params) : Obj := ⟨(.type "code"), none, (.fields #[(.str (S "InvalidTree") 209), (.str (S "InvalidTree") 210), (.str (S "/claim/cut.py") 211), (.int (4) 0), (.int (0) 0), (.int (0) 0), (.int (0) 0), (.int (0) 0), (.ref 32), (.bool false), (.int (181) 0), (.ref 33), .none, .none, .none, .none, (.int (212) 0), (.int (4) 0), (.str (S "/claim/cut.py") 213)]), #[]⟩
def o35 (P : Params) : Obj := ⟨(.type "frame"), none, .plain, #[(some (.ref 34)), (some (.ref 3)), (some (.ref 30)), none, (some (.str (S "ruleengine.errors") 187)), none, (some (.ref 0))]⟩
def o36 (P : Params) : Obj := ⟨(.type "tuple"), none, (.seq #[(.ref 31)] 0), #[]⟩
def o37 (P : Params) : Obj := ⟨(.type "tuple"), none, (.seq #[(.str (S "__class__") 222)] 0), #[]⟩
def o38 (P : Params) : Obj := ⟨.none, none, (.fields #[]), #[]⟩
def o39 (P : Params) : Obj := ⟨(.type "tuple"), none, (.seq #[(.str (S "self") 223), (.str (S "part") 224)] 0), #[]⟩
def o40 (P : Params) : Obj := ⟨(.type "tuple"), none, (.seq #[] 0), #[]⟩
def o41 (P : Params) : Obj := ⟨.none, none, (.func ⟨(S "__init__"), (S "InvalidTree.__init__"), defArgs (inClass (top 2) 0), .stmts (defBody (inClass (top 2) 0)), defScope (inClass (top 2) 0), 0, [], .none, .none, .none, .none, none, .none, .none, 0⟩), #[]⟩
def o42 (P : Params) : Obj := ⟨(.type "code"), none, (.fields #[(.str (S "__init__") 219), (.str (S "InvalidTree.__init__") 220), (.str (S "/claim/cut.py") 221), (.int (6) 0), (.int (2) 0), (.int (0) 0), (.int (0) 0), (.int (3) 0), (.ref 37), (.bool true), (.int (181) 0), (.ref 38), .none, (.ref 39), (.ref 40), (.ref 41), (.int (225) 0), (.int (6) 0), (.str (S "/claim/cut.py") 226)]), #[]⟩
def o43 (P : Params) : Obj := ⟨(.type "function"), none, (.func ⟨(S "__init__"), (S "InvalidTree.__init__"), defArgs (inClass (top 2) 0), .stmts (defBody (inClass (top 2) 0)), defScope (inClass (top 2) 0), 3, [((S "__class__"), 31)], .none, .none, .none, (.str (S "ruleengine.errors") 187), none, (.ref 42), (.ref 36), 0⟩), #[]⟩
def o44 (P : Params) : Obj := ⟨(.type "tuple"), none, (.seq #[(.str (S "part") 228)] 0), #[]⟩
def o45 (P : Params) : Obj := ⟨(.type "dict"), none, (.dict #[⟨PyData.keyHash P (S "__module__"), (.str (S "__module__") 214), (.str (S "ruleengine.errors") 187)⟩, ⟨PyData.keyHash P (S "__firstlineno__"), (.str (S "__firstlineno__") 218), (.int (4) 217)⟩, ⟨PyData.keyHash P (S "__init__"), (.str (S "__init__") 227), (.ref 43)⟩, ⟨PyData.keyHash P (S "__static_attributes__"), (.str (S "__static_attributes__") 229), (.ref 44)⟩, ⟨PyData.keyHash P (S "__doc__"), (.str (S "__doc__") 231), .none⟩] 3), #[]⟩
def o46 (P : Params) : Obj := ⟨(.type "type"), none, (.cls ⟨(S "InvalidTree"), [(.ref 24)], [(.ref 46), (.ref 24), (.type "ValueError"), (.type "Exception"), (.type "BaseException"), (.type "object")], 45, (S "InvalidTree"), true, [], [], false, none, false⟩), #[(some (.ref 28)), none, (some (.str (S "InvalidTree") 207)), (some (.str (S "InvalidTree") 215)), (some (.builtin "ValueError.__new__")), (some (.bool true))]⟩
def o47 (P : Params) : Obj := ⟨(.type "super"), none, (.fields #[(.ref 46), (.ref 46), (.ref 46)]), #[]⟩
def o48 (P : Params) : Obj := ⟨(.type "builtin_function_or_method"), none, (.fields #[(.builtin "object.__init_subclass__"), (.ref 46)]), #[]⟩
def o49 (P : Params) : Obj := ⟨(.type "tuple"), none, (.seq #[(.ref 24)] 0), #[]⟩
def o50 (P : Params) : Obj := ⟨(.type "builtin_function_or_method"), none, (.fields #[(.builtin "type.__prepare__"), (.type "type")]), #[]⟩
def o51 (P : Params) : Obj := ⟨(.type "dict"), none, (.dict #[⟨PyData.keyHash P (S "__module__"), (.str (S "__module__") 241), (.str (S "ruleengine.errors") 187)⟩, ⟨PyData.keyHash P (S "__qualname__"), (.str (S "__qualname__") 243), (.str (S "InvalidPath") 242)⟩, ⟨PyData.keyHash P (S "__firstlineno__"), (.str (S "__firstlineno__") 245), (.int (9) 244)⟩, ⟨PyData.keyHash P (S "__init__"), (.str (S "__init__") 254), (.ref 64)⟩, ⟨PyData.keyHash P (S "__static_attributes__"), (.str (S "__static_attributes__") 256), (.ref 65)⟩, ⟨PyData.keyHash P (S "__classcell__"), (.str (S "__classcell__") 257), (.ref 52)⟩] 6), #[]⟩
def o52 (P : Params) : Obj := ⟨(.type "cell"), none, (.cell (some (.ref 67))), #[]⟩
def o53 (P : Params) : Obj := ⟨(.type "tuple"), none, (.seq #[] 0), #[]⟩
def o54 (P : Params) : Obj := ⟨.none, none, (.fields #[(.int (11) 0), (.int (4) 0), (.ref 63)]), #[]⟩
def o55 (P : Params) : Obj := ⟨(.type "code"), none, (.fields #[(.str (S "InvalidPath") 236), (.str (S "InvalidPath") 237), (.str (S "/claim/cut.py") 238), (.int (9) 0), (.int (0) 0), (.int (0) 0), (.int (0) 0), (.int (0) 0), (.ref 53), (.bool false), (.int (181) 0), (.ref 54), .none, .none, .none, .none, (.int (239) 0), (.int (9) 0), (.str (S "/claim/cut.py") 240)]), #[]⟩
def o56 (P : Params) : Obj := ⟨(.type "frame"), none, .plain, #[(some (.ref 55)), (some (.ref 3)), (some (.ref 51)), none, (some (.str (S "ruleengine.errors") 187)), none, (some (.ref 0))]⟩
def o57 (P : Params) : Obj := ⟨(.type "tuple"), none, (.seq #[(.ref 52)] 0), #[]⟩
def o58 (P : Params) : Obj := ⟨(.type "tuple"), none, (.seq #[(.str (S "__class__") 249)] 0), #[]⟩
def o59 (P : Params) : Obj := ⟨.none, none, (.fields #[]), #[]⟩
def o60 (P : Params) : Obj := ⟨(.type "tuple"), none, (.seq #[(.str (S "self") 250), (.str (S "value") 251)] 0), #[]⟩
def o61 (P : Params) : Obj := ⟨(.type "tuple"), none, (.seq #[] 0), #[]⟩
def o62 (P : Params) : Obj := ⟨.none, none, (.func ⟨(S "__init__"), (S "InvalidPath.__init__"), defArgs (inClass (top 3) 0), .stmts (defBody (inClass (top 3) 0)), defScope (inClass (top 3) 0), 0, [], .none, .none, .none, .none, none, .none, .none, 0⟩), #[]⟩
def o63 (P : Params) : Obj := ⟨(.type "code"), none, (.fields #[(.str (S "__init__") 246), (.str (S "InvalidPath.__init__") 247), (.str (S "/claim/cut.py") 248), (.int (11) 0), (.int (2) 0), (.int (0) 0), (.int (0) 0), (.int (3) 0), (.ref 58), (.bool true), (.int (181) 0), (.ref 59), .none, (.ref 60), (.ref 61), (.ref 62), (.int (252) 0), (.int (11) 0), (.str (S "/claim/cut.py") 253)]), #[]⟩
def o64 (P : Params) : Obj := ⟨(.type "function"), none, (.func ⟨(S "__init__"), (S "InvalidPath.__init__"), defArgs (inClass (top 3) 0), .stmts (defBody (inClass (top 3) 0)), defScope (inClass (top 3) 0), 3, [((S "__class__"), 52)], .none, .none, .none, (.str (S "ruleengine.errors") 187), none, (.ref 63), (.ref 57), 0⟩), #[]⟩
def o65 (P : Params) : Obj := ⟨(.type "tuple"), none, (.seq #[(.str (S "value") 255)] 0), #[]⟩
def o66 (P : Params) : Obj := ⟨(.type "dict"), none, (.dict #[⟨PyData.keyHash P (S "__module__"), (.str (S "__module__") 241), (.str (S "ruleengine.errors") 187)⟩, ⟨PyData.keyHash P (S "__firstlineno__"), (.str (S "__firstlineno__") 245), (.int (9) 244)⟩, ⟨PyData.keyHash P (S "__init__"), (.str (S "__init__") 254), (.ref 64)⟩, ⟨PyData.keyHash P (S "__static_attributes__"), (.str (S "__static_attributes__") 256), (.ref 65)⟩, ⟨PyData.keyHash P (S "__doc__"), (.str (S "__doc__") 258), .none⟩] 3), #[]⟩
def o67 (P : Params) : Obj := ⟨(.type "type"), none, (.cls ⟨(S "InvalidPath"), [(.ref 24)], [(.ref 67), (.ref 24), (.type "ValueError"), (.type "Exception"), (.type "BaseException"), (.type "object")], 66, (S "InvalidPath"), true, [], [], false, none, false⟩), #[(some (.ref 49)), none, (some (.str (S "InvalidPath") 234)), (some (.str (S "InvalidPath") 242)), (some (.builtin "ValueError.__new__")), (some (.bool true))]⟩
def o68 (P : Params) : Obj := ⟨(.type "super"), none, (.fields #[(.ref 67), (.ref 67), (.ref 67)]), #[]⟩
def o69 (P : Params) : Obj := ⟨(.type "builtin_function_or_method"), none, (.fields #[(.builtin "object.__init_subclass__"), (.ref 67)]), #[]⟩
def o70 (P : Params) : Obj := ⟨(.type "tuple"), none, (.seq #[(.ref 24)] 0), #[]⟩
def o71 (P : Params) : Obj := ⟨(.type "builtin_function_or_method"), none, (.fields #[(.builtin "type.__prepare__"), (.type "type")]), #[]⟩
def o72 (P : Params) : Obj := ⟨(.type "dict"), none, (.dict #[⟨PyData.keyHash P (S "__module__"), (.str (S "__module__") 268), (.str (S "ruleengine.errors") 187)⟩, ⟨PyData.keyHash P (S "__qualname__"), (.str (S "__qualname__") 270), (.str (S "InvalidPart") 269)⟩, ⟨PyData.keyHash P (S "__firstlineno__"), (.str (S "__firstlineno__") 272), (.int (14) 271)⟩, ⟨PyData.keyHash P (S "__init__"), (.str (S "__init__") 281), (.ref 85)⟩, ⟨PyData.keyHash P (S "__static_attributes__"), (.str (S "__static_attributes__") 283), (.ref 86)⟩, ⟨PyData.keyHash P (S "__classcell__"), (.str (S "__classcell__") 284), (.ref 73)⟩] 6), #[]⟩
def o73 (P : Params) : Obj := ⟨(.type "cell"), none, (.cell (some (.ref 88))), #[]⟩
def o74 (P : Params) : Obj := ⟨(.type "tuple"), none, (.seq #[] 0), #[]⟩
def o75 (P : Params) : Obj := ⟨.none, none, (.fields #[(.int (16) 0), (.int (4) 0), (.ref 84)]), #[]⟩
def o76 (P : Params) : Obj := ⟨(.type "code"), none, (.fields #[(.str (S "InvalidPart") 263), (.str (S "InvalidPart") 264), (.str (S "/claim/cut.py") 265), (.int (14) 0), (.int (0) 0), (.int (0) 0), (.int (0) 0), (.int (0) 0), (.ref 74), (.bool false), (.int (181) 0), (.ref 75), .none, .none, .none, .none, (.int (266) 0), (.int (14) 0), (.str (S "/claim/cut.py") 267)]), #[]⟩
def o77 (P : Params) : Obj := ⟨(.type "frame"), none, .plain, #[(some (.ref 76)), (some (.ref 3)), (some (.ref 72)), none, (some (.str (S "ruleengine.errors") 187)), none, (some (.ref 0))]⟩
def o78 (P : Params) : Obj := ⟨(.type "tuple"), none, (.seq #[(.ref 73)] 0), #[]⟩
def o79 (P : Params) : Obj := ⟨(.type "tuple"), none, (.seq #[(.str (S "__class__") 276)] 0), #[]⟩
def o80 (P : Params) : Obj := ⟨.none, none, (.fields #[]), #[]⟩
def o81 (P : Params) : Obj := ⟨(.type "tuple"), none, (.seq #[(.str (S "self") 277), (.str (S "part") 278)] 0), #[]⟩
def o82 (P : Params) : Obj := ⟨(.type "tuple"), none, (.seq #[] 0), #[]⟩
def o83 (P : Params) : Obj := ⟨.none, none, (.func ⟨(S "__init__"), (S "InvalidPart.__init__"), defArgs (inClass (top 4) 0), .stmts (defBody (inClass (top 4) 0)), defScope (inClass (top 4) 0), 0, [], .none, .none, .none, .none, none, .none, .none, 0⟩), #[]⟩
def o84 (P : Params) : Obj := ⟨(.type "code"), none, (.fields #[(.str (S "__init__") 273), (.str (S "InvalidPart.__init__") 274), (.str (S "/claim/cut.py") 275), (.int (16) 0), (.int (2) 0), (.int (0) 0), (.int (0) 0), (.int (3) 0), (.ref 79), (.bool true), (.int (181) 0), (.ref 80), .none, (.ref 81), (.ref 82), (.ref 83), (.int (279) 0), (.int (16) 0), (.str (S "/claim/cut.py") 280)]), #[]⟩
def o85 (P : Params) : Obj := ⟨(.type "function"), none, (.func ⟨(S "__init__"), (S "InvalidPart.__init__"), defArgs (inClass (top 4) 0), .stmts (defBody (inClass (top 4) 0)), defScope (inClass (top 4) 0), 3, [((S "__class__"), 73)], .none, .none, .none, (.str (S "ruleengine.errors") 187), none, (.ref 84), (.ref 78), 0⟩), #[]⟩
def o86 (P : Params) : Obj := ⟨(.type "tuple"), none, (.seq #[(.str (S "part") 282)] 0), #[]⟩
def o87 (P : Params) : Obj := ⟨(.type "dict"), none, (.dict #[⟨PyData.keyHash P (S "__module__"), (.str (S "__module__") 268), (.str (S "ruleengine.errors") 187)⟩, ⟨PyData.keyHash P (S "__firstlineno__"), (.str (S "__firstlineno__") 272), (.int (14) 271)⟩, ⟨PyData.keyHash P (S "__init__"), (.str (S "__init__") 281), (.ref 85)⟩, ⟨PyData.keyHash P (S "__static_attributes__"), (.str (S "__static_attributes__") 283), (.ref 86)⟩, ⟨PyData.keyHash P (S "__doc__"), (.str (S "__doc__") 285), .none⟩] 3), #[]⟩
def o88 (P : Params) : Obj := ⟨(.type "type"), none, (.cls ⟨(S "InvalidPart"), [(.ref 24)], [(.ref 88), (.ref 24), (.type "ValueError"), (.type "Exception"), (.type "BaseException"), (.type "object")], 87, (S "InvalidPart"), true, [], [], false, none, false⟩), #[(some (.ref 70)), none, (some (.str (S "InvalidPart") 261)), (some (.str (S "InvalidPart") 269)), (some (.builtin "ValueError.__new__")), (some (.bool true))]⟩
def o89 (P : Params) : Obj := ⟨(.type "super"), none, (.fields #[(.ref 88), (.ref 88), (.ref 88)]), #[]⟩
def o90 (P : Params) : Obj := ⟨(.type "builtin_function_or_method"), none, (.fields #[(.builtin "object.__init_subclass__"), (.ref 88)]), #[]⟩
def o91 (P : Params) : Obj := ⟨(.type "tuple"), none, (.seq #[] 0), #[]⟩
def o92 (P : Params) : Obj := ⟨.none, none, (.fields #[]), #[]⟩
def o93 (P : Params) : Obj := ⟨(.type "tuple"), none, (.seq #[(.str (S "value") 299)] 0), #[]⟩
def o94 (P : Params) : Obj := ⟨(.type "tuple"), none, (.seq #[] 0), #[]⟩
def o95 (P : Params) : Obj := ⟨.none, none, (.func ⟨(S "is_number"), (S "is_number"), defArgs (top 9), .stmts (defBody (top 9)), defScope (top 9), 0, [], .none, .none, .none, .none, none, .none, .none, 0⟩), #[]⟩
def o96 (P : Params) : Obj := ⟨(.type "code"), none, (.fields #[(.str (S "is_number") 296), (.str (S "is_number") 297), (.str (S "/claim/cut.py") 298), (.int (23) 0), (.int (1) 0), (.int (0) 0), (.int (0) 0), (.int (3) 0), (.ref 91), (.bool true), (.int (181) 0), (.ref 92), .none, (.ref 93), (.ref 94), (.ref 95), (.int (300) 0), (.int (23) 0), (.str (S "/claim/cut.py") 301)]), #[]⟩
def o97 (P : Params) : Obj := ⟨(.type "function"), none, (.func ⟨(S "is_number"), (S "is_number"), defArgs (top 9), .stmts (defBody (top 9)), defScope (top 9), 3, [], .none, .none, .none, (.str (S "ruleengine.kinds") 288), none, (.ref 96), .none, 0⟩), #[]⟩
def o98 (P : Params) : Obj := ⟨(.type "tuple"), none, (.seq #[] 0), #[]⟩
def o99 (P : Params) : Obj := ⟨.none, none, (.fields #[]), #[]⟩
def o100 (P : Params) : Obj := ⟨.none, none, (.func ⟨(S "is_name"), (S "is_name"), defArgs (top 10), .stmts (defBody (top 10)), defScope (top 10), 0, [], .none, .none, .none, .none, none, .none, .none, 0⟩), #[]⟩
def o101 (P : Params) : Obj := ⟨(.type "code"), none, (.fields #[(.str (S "is_name") 303), (.str (S "is_name") 304), (.str (S "/claim/cut.py") 305), (.int (25) 0), (.int (1) 0), (.int (0) 0), (.int (0) 0), (.int (3) 0), (.ref 98), (.bool true), (.int (181) 0), (.ref 99), .none, .none, .none, (.ref 100), (.int (306) 0), (.int (25) 0), (.str (S "/claim/cut.py") 307)]), #[]⟩
def o102 (P : Params) : Obj := ⟨(.type "function"), none, (.func ⟨(S "is_name"), (S "is_name"), defArgs (top 10), .stmts (defBody (top 10)), defScope (top 10), 3, [], .none, .none, .none, (.str (S "ruleengine.kinds") 288), none, (.ref 101), .none, 0⟩), #[]⟩
def o103 (P : Params) : Obj := ⟨(.type "tuple"), none, (.seq #[] 0), #[]⟩
def o104 (P : Params) : Obj := ⟨(.type "builtin_function_or_method"), none, (.fields #[(.builtin "type.__prepare__"), (.type "type")]), #[]⟩
def o105 (P : Params) : Obj := ⟨(.type "dict"), none, (.dict #[⟨PyData.keyHash P (S "__module__"), (.str (S "__module__") 320), (.str (S "ruleengine.trees") 309)⟩, ⟨PyData.keyHash P (S "__qualname__"), (.str (S "__qualname__") 322), (.str (S "Tree") 321)⟩, ⟨PyData.keyHash P (S "__firstlineno__"), (.str (S "__firstlineno__") 324), (.int (31) 323)⟩, ⟨PyData.keyHash P (S "MAX_NODES"), (.str (S "MAX_NODES") 326), (.int (400) 325)⟩, ⟨PyData.keyHash P (S "MAX_LEVELS"), (.str (S "MAX_LEVELS") 328), (.int (100) 327)⟩, ⟨PyData.keyHash P (S "__init__"), (.str (S "__init__") 342), (.ref 116)⟩, ⟨PyData.keyHash P (S "__len__"), (.str (S "__len__") 349), (.ref 123)⟩, ⟨PyData.keyHash P (S "__eq__"), (.str (S "__eq__") 357), (.ref 130)⟩, ⟨PyData.keyHash P (S "__contains__"), (.str (S "__contains__") 365), (.ref 137)⟩, ⟨PyData.keyHash P (S "__getitem__"), (.str (S "__getitem__") 374), (.ref 144)⟩, ⟨PyData.keyHash P (S "__iter__"), (.str (S "__iter__") 381), (.ref 151)⟩, ⟨PyData.keyHash P (S "each_path"), (.str (S "each_path") 387), (.ref 156)⟩, ⟨PyData.keyHash P (S "put"), (.str (S "put") 393), (.ref 161)⟩, ⟨PyData.keyHash P (S "__static_attributes__"), (.str (S "__static_attributes__") 400), (.ref 162)⟩] 14), #[]⟩
def o106 (P : Params) : Obj := ⟨(.type "tuple"), none, (.seq #[] 0), #[]⟩
def o107 (P : Params) : Obj := ⟨.none, none, (.fields #[(.int (35) 0), (.int (4) 0), (.ref 115), (.int (52) 0), (.int (4) 0), (.ref 122), (.int (55) 0), (.int (4) 0), (.ref 129), (.int (58) 0), (.int (4) 0), (.ref 136), (.int (61) 0), (.int (4) 0), (.ref 143), (.int (67) 0), (.int (4) 0), (.ref 150), (.int (70) 0), (.int (4) 0), (.ref 155), (.int (78) 0), (.int (4) 0), (.ref 160)]), #[]⟩
def o108 (P : Params) : Obj := ⟨(.type "code"), none, (.fields #[(.str (S "Tree") 315), (.str (S "Tree") 316), (.str (S "/claim/cut.py") 317), (.int (31) 0), (.int (0) 0), (.int (0) 0), (.int (0) 0), (.int (0) 0), (.ref 106), (.bool false), (.int (181) 0), (.ref 107), .none, .none, .none, .none, (.int (318) 0), (.int (31) 0), (.str (S "/claim/cut.py") 319)]), #[]⟩
def o109 (P : Params) : Obj := ⟨(.type "frame"), none, .plain, #[(some (.ref 108)), (some (.ref 3)), (some (.ref 105)), none, (some (.str (S "ruleengine.trees") 309)), none, (some (.ref 0))]⟩
def o110 (P : Params) : Obj := ⟨(.type "tuple"), none, (.seq #[] 0), #[]⟩
def o111 (P : Params) : Obj := ⟨.none, none, (.fields #[]), #[]⟩
def o112 (P : Params) : Obj := ⟨(.type "tuple"), none, (.seq #[(.str (S "self") 332), (.str (S "form") 333), (.str (S "parts") 334), (.str (S "spot") 335), (.str (S "part") 336), (.str (S "children") 337), (.str (S "size") 338), (.str (S "levels") 339)] 0), #[]⟩
def o113 (P : Params) : Obj := ⟨(.type "tuple"), none, (.seq #[] 0), #[]⟩
def o114 (P : Params) : Obj := ⟨.none, none, (.func ⟨(S "__init__"), (S "Tree.__init__"), defArgs (inClass (top 13) 2), .stmts (defBody (inClass (top 13) 2)), defScope (inClass (top 13) 2), 0, [], .none, .none, .none, .none, none, .none, .none, 0⟩), #[]⟩
def o115 (P : Params) : Obj := ⟨(.type "code"), none, (.fields #[(.str (S "__init__") 329), (.str (S "Tree.__init__") 330), (.str (S "/claim/cut.py") 331), (.int (35) 0), (.int (2) 0), (.int (0) 0), (.int (0) 0), (.int (7) 0), (.ref 110), (.bool true), (.int (181) 0), (.ref 111), .none, (.ref 112), (.ref 113), (.ref 114), (.int (340) 0), (.int (35) 0), (.str (S "/claim/cut.py") 341)]), #[]⟩
def o116 (P : Params) : Obj := ⟨(.type "function"), none, (.func ⟨(S "__init__"), (S "Tree.__init__"), defArgs (inClass (top 13) 2), .stmts (defBody (inClass (top 13) 2)), defScope (inClass (top 13) 2), 3, [], .none, .none, .none, (.str (S "ruleengine.trees") 309), none, (.ref 115), .none, 0⟩), #[]⟩
def o117 (P : Params) : Obj := ⟨(.type "tuple"), none, (.seq #[] 0), #[]⟩
def o118 (P : Params) : Obj := ⟨.none, none, (.fields #[]), #[]⟩
def o119 (P : Params) : Obj := ⟨(.type "tuple"), none, (.seq #[(.str (S "self") 346)] 0), #[]⟩
def o120 (P : Params) : Obj := ⟨(.type "tuple"), none, (.seq #[] 0), #[]⟩
def o121 (P : Params) : Obj := ⟨.none, none, (.func ⟨(S "__len__"), (S "Tree.__len__"), defArgs (inClass (top 13) 3), .stmts (defBody (inClass (top 13) 3)), defScope (inClass (top 13) 3), 0, [], .none, .none, .none, .none, none, .none, .none, 0⟩), #[]⟩
def o122 (P : Params) : Obj := ⟨(.type "code"), none, (.fields #[(.str (S "__len__") 343), (.str (S "Tree.__len__") 344), (.str (S "/claim/cut.py") 345), (.int (52) 0), (.int (1) 0), (.int (0) 0), (.int (0) 0), (.int (3) 0), (.ref 117), (.bool true), (.int (181) 0), (.ref 118), .none, (.ref 119), (.ref 120), (.ref 121), (.int (347) 0), (.int (52) 0), (.str (S "/claim/cut.py") 348)]), #[]⟩
def o123 (P : Params) : Obj := ⟨(.type "function"), none, (.func ⟨(S "__len__"), (S "Tree.__len__"), defArgs (inClass (top 13) 3), .stmts (defBody (inClass (top 13) 3)), defScope (inClass (top 13) 3), 3, [], .none, .none, .none, (.str (S "ruleengine.trees") 309), none, (.ref 122), .none, 0⟩), #[]⟩
def o124 (P : Params) : Obj := ⟨(.type "tuple"), none, (.seq #[] 0), #[]⟩
def o125 (P : Params) : Obj := ⟨.none, none, (.fields #[]), #[]⟩
def o126 (P : Params) : Obj := ⟨(.type "tuple"), none, (.seq #[(.str (S "self") 353), (.str (S "other") 354)] 0), #[]⟩
def o127 (P : Params) : Obj := ⟨(.type "tuple"), none, (.seq #[] 0), #[]⟩
def o128 (P : Params) : Obj := ⟨.none, none, (.func ⟨(S "__eq__"), (S "Tree.__eq__"), defArgs (inClass (top 13) 4), .stmts (defBody (inClass (top 13) 4)), defScope (inClass (top 13) 4), 0, [], .none, .none, .none, .none, none, .none, .none, 0⟩), #[]⟩
def o129 (P : Params) : Obj := ⟨(.type "code"), none, (.fields #[(.str (S "__eq__") 350), (.str (S "Tree.__eq__") 351), (.str (S "/claim/cut.py") 352), (.int (55) 0), (.int (2) 0), (.int (0) 0), (.int (0) 0), (.int (3) 0), (.ref 124), (.bool true), (.int (181) 0), (.ref 125), .none, (.ref 126), (.ref 127), (.ref 128), (.int (355) 0), (.int (55) 0), (.str (S "/claim/cut.py") 356)]), #[]⟩
def o130 (P : Params) : Obj := ⟨(.type "function"), none, (.func ⟨(S "__eq__"), (S "Tree.__eq__"), defArgs (inClass (top 13) 4), .stmts (defBody (inClass (top 13) 4)), defScope (inClass (top 13) 4), 3, [], .none, .none, .none, (.str (S "ruleengine.trees") 309), none, (.ref 129), .none, 0⟩), #[]⟩
def o131 (P : Params) : Obj := ⟨(.type "tuple"), none, (.seq #[] 0), #[]⟩
def o132 (P : Params) : Obj := ⟨.none, none, (.fields #[]), #[]⟩
def o133 (P : Params) : Obj := ⟨(.type "tuple"), none, (.seq #[(.str (S "self") 361), (.str (S "x") 362)] 0), #[]⟩
def o134 (P : Params) : Obj := ⟨(.type "tuple"), none, (.seq #[] 0), #[]⟩
def o135 (P : Params) : Obj := ⟨.none, none, (.func ⟨(S "__contains__"), (S "Tree.__contains__"), defArgs (inClass (top 13) 5), .stmts (defBody (inClass (top 13) 5)), defScope (inClass (top 13) 5), 0, [], .none, .none, .none, .none, none, .none, .none, 0⟩), #[]⟩
def o136 (P : Params) : Obj := ⟨(.type "code"), none, (.fields #[(.str (S "__contains__") 358), (.str (S "Tree.__contains__") 359), (.str (S "/claim/cut.py") 360), (.int (58) 0), (.int (2) 0), (.int (0) 0), (.int (0) 0), (.int (3) 0), (.ref 131), (.bool true), (.int (181) 0), (.ref 132), .none, (.ref 133), (.ref 134), (.ref 135), (.int (363) 0), (.int (58) 0), (.str (S "/claim/cut.py") 364)]), #[]⟩
def o137 (P : Params) : Obj := ⟨(.type "function"), none, (.func ⟨(S "__contains__"), (S "Tree.__contains__"), defArgs (inClass (top 13) 5), .stmts (defBody (inClass (top 13) 5)), defScope (inClass (top 13) 5), 3, [], .none, .none, .none, (.str (S "ruleengine.trees") 309), none, (.ref 136), .none, 0⟩), #[]⟩
def o138 (P : Params) : Obj := ⟨(.type "tuple"), none, (.seq #[] 0), #[]⟩
def o139 (P : Params) : Obj := ⟨.none, none, (.fields #[]), #[]⟩
def o140 (P : Params) : Obj := ⟨(.type "tuple"), none, (.seq #[(.str (S "self") 369), (.str (S "at") 370), (.str (S "node") 371)] 0), #[]⟩
def o141 (P : Params) : Obj := ⟨(.type "tuple"), none, (.seq #[] 0), #[]⟩
def o142 (P : Params) : Obj := ⟨.none, none, (.func ⟨(S "__getitem__"), (S "Tree.__getitem__"), defArgs (inClass (top 13) 6), .stmts (defBody (inClass (top 13) 6)), defScope (inClass (top 13) 6), 0, [], .none, .none, .none, .none, none, .none, .none, 0⟩), #[]⟩
def o143 (P : Params) : Obj := ⟨(.type "code"), none, (.fields #[(.str (S "__getitem__") 366), (.str (S "Tree.__getitem__") 367), (.str (S "/claim/cut.py") 368), (.int (61) 0), (.int (2) 0), (.int (0) 0), (.int (0) 0), (.int (3) 0), (.ref 138), (.bool true), (.int (181) 0), (.ref 139), .none, (.ref 140), (.ref 141), (.ref 142), (.int (372) 0), (.int (61) 0), (.str (S "/claim/cut.py") 373)]), #[]⟩
def o144 (P : Params) : Obj := ⟨(.type "function"), none, (.func ⟨(S "__getitem__"), (S "Tree.__getitem__"), defArgs (inClass (top 13) 6), .stmts (defBody (inClass (top 13) 6)), defScope (inClass (top 13) 6), 3, [], .none, .none, .none, (.str (S "ruleengine.trees") 309), none, (.ref 143), .none, 0⟩), #[]⟩
def o145 (P : Params) : Obj := ⟨(.type "tuple"), none, (.seq #[] 0), #[]⟩
def o146 (P : Params) : Obj := ⟨.none, none, (.fields #[]), #[]⟩
def o147 (P : Params) : Obj := ⟨(.type "tuple"), none, (.seq #[(.str (S "self") 378)] 0), #[]⟩
def o148 (P : Params) : Obj := ⟨(.type "tuple"), none, (.seq #[] 0), #[]⟩
def o149 (P : Params) : Obj := ⟨.none, none, (.func ⟨(S "__iter__"), (S "Tree.__iter__"), defArgs (inClass (top 13) 7), .stmts (defBody (inClass (top 13) 7)), defScope (inClass (top 13) 7), 0, [], .none, .none, .none, .none, none, .none, .none, 0⟩), #[]⟩
def o150 (P : Params) : Obj := ⟨(.type "code"), none, (.fields #[(.str (S "__iter__") 375), (.str (S "Tree.__iter__") 376), (.str (S "/claim/cut.py") 377), (.int (67) 0), (.int (1) 0), (.int (0) 0), (.int (0) 0), (.int (3) 0), (.ref 145), (.bool true), (.int (181) 0), (.ref 146), .none, (.ref 147), (.ref 148), (.ref 149), (.int (379) 0), (.int (67) 0), (.str (S "/claim/cut.py") 380)]), #[]⟩
def o151 (P : Params) : Obj := ⟨(.type "function"), none, (.func ⟨(S "__iter__"), (S "Tree.__iter__"), defArgs (inClass (top 13) 7), .stmts (defBody (inClass (top 13) 7)), defScope (inClass (top 13) 7), 3, [], .none, .none, .none, (.str (S "ruleengine.trees") 309), none, (.ref 150), .none, 0⟩), #[]⟩
def o152 (P : Params) : Obj := ⟨(.type "tuple"), none, (.seq #[] 0), #[]⟩
def o153 (P : Params) : Obj := ⟨.none, none, (.fields #[]), #[]⟩
def o154 (P : Params) : Obj := ⟨.none, none, (.func ⟨(S "each_path"), (S "Tree.each_path"), defArgs (inClass (top 13) 8), .stmts (defBody (inClass (top 13) 8)), defScope (inClass (top 13) 8), 0, [], .none, .none, .none, .none, none, .none, .none, 0⟩), #[]⟩
def o155 (P : Params) : Obj := ⟨(.type "code"), none, (.fields #[(.str (S "each_path") 382), (.str (S "Tree.each_path") 383), (.str (S "/claim/cut.py") 384), (.int (70) 0), (.int (1) 0), (.int (0) 0), (.int (0) 0), (.int (35) 0), (.ref 152), (.bool true), (.int (181) 0), (.ref 153), .none, .none, .none, (.ref 154), (.int (385) 0), (.int (70) 0), (.str (S "/claim/cut.py") 386)]), #[]⟩
def o156 (P : Params) : Obj := ⟨(.type "function"), none, (.func ⟨(S "each_path"), (S "Tree.each_path"), defArgs (inClass (top 13) 8), .stmts (defBody (inClass (top 13) 8)), defScope (inClass (top 13) 8), 3, [], .none, .none, .none, (.str (S "ruleengine.trees") 309), none, (.ref 155), .none, 0⟩), #[]⟩
def o157 (P : Params) : Obj := ⟨(.type "tuple"), none, (.seq #[] 0), #[]⟩
def o158 (P : Params) : Obj := ⟨.none, none, (.fields #[]), #[]⟩
def o159 (P : Params) : Obj := ⟨.none, none, (.func ⟨(S "put"), (S "Tree.put"), defArgs (inClass (top 13) 9), .stmts (defBody (inClass (top 13) 9)), defScope (inClass (top 13) 9), 0, [], .none, .none, .none, .none, none, .none, .none, 0⟩), #[]⟩
def o160 (P : Params) : Obj := ⟨(.type "code"), none, (.fields #[(.str (S "put") 388), (.str (S "Tree.put") 389), (.str (S "/claim/cut.py") 390), (.int (78) 0), (.int (3) 0), (.int (0) 0), (.int (0) 0), (.int (3) 0), (.ref 157), (.bool true), (.int (181) 0), (.ref 158), .none, .none, .none, (.ref 159), (.int (391) 0), (.int (78) 0), (.str (S "/claim/cut.py") 392)]), #[]⟩
def o161 (P : Params) : Obj := ⟨(.type "function"), none, (.func ⟨(S "put"), (S "Tree.put"), defArgs (inClass (top 13) 9), .stmts (defBody (inClass (top 13) 9)), defScope (inClass (top 13) 9), 3, [], .none, .none, .none, (.str (S "ruleengine.trees") 309), none, (.ref 160), .none, 0⟩), #[]⟩
def o162 (P : Params) : Obj := ⟨(.type "tuple"), none, (.seq #[(.str (S "children") 394), (.str (S "form") 395), (.str (S "levels") 396), (.str (S "parts") 397), (.str (S "size") 398), (.str (S "text") 399)] 0), #[]⟩
def o163 (P : Params) : Obj := ⟨(.type "dict"), none, (.dict #[⟨PyData.keyHash P (S "__module__"), (.str (S "__module__") 320), (.str (S "ruleengine.trees") 309)⟩, ⟨PyData.keyHash P (S "__firstlineno__"), (.str (S "__firstlineno__") 324), (.int (31) 323)⟩, ⟨PyData.keyHash P (S "MAX_NODES"), (.str (S "MAX_NODES") 326), (.int (400) 325)⟩, ⟨PyData.keyHash P (S "MAX_LEVELS"), (.str (S "MAX_LEVELS") 328), (.int (100) 327)⟩, ⟨PyData.keyHash P (S "__init__"), (.str (S "__init__") 342), (.ref 116)⟩, ⟨PyData.keyHash P (S "__len__"), (.str (S "__len__") 349), (.ref 123)⟩, ⟨PyData.keyHash P (S "__eq__"), (.str (S "__eq__") 357), (.ref 130)⟩, ⟨PyData.keyHash P (S "__contains__"), (.str (S "__contains__") 365), (.ref 137)⟩, ⟨PyData.keyHash P (S "__getitem__"), (.str (S "__getitem__") 374), (.ref 144)⟩, ⟨PyData.keyHash P (S "__iter__"), (.str (S "__iter__") 381), (.ref 151)⟩, ⟨PyData.keyHash P (S "each_path"), (.str (S "each_path") 387), (.ref 156)⟩, ⟨PyData.keyHash P (S "put"), (.str (S "put") 393), (.ref 161)⟩, ⟨PyData.keyHash P (S "__static_attributes__"), (.str (S "__static_attributes__") 400), (.ref 162)⟩, ⟨PyData.keyHash P (S "__dict__"), (.str (S "__dict__") 402), (.ref 165)⟩, ⟨PyData.keyHash P (S "__weakref__"), (.str (S "__weakref__") 404), (.ref 166)⟩, ⟨PyData.keyHash P (S "__doc__"), (.str (S "__doc__") 405), .none⟩, ⟨PyData.keyHash P (S "__hash__"), (.str (S "__hash__") 406), .none⟩] 5), #[]⟩
def o164 (P : Params) : Obj := ⟨(.type "type"), none, (.cls ⟨(S "Tree"), [(.type "object")], [(.ref 164), (.type "object")], 163, (S "Tree"), true, [], [], false, none, false⟩), #[none, none, (some (.str (S "Tree") 313)), (some (.str (S "Tree") 321)), (some (.builtin "object.__new__")), (some (.bool true))]⟩
def o165 (P : Params) : Obj := ⟨(.type "getset_descriptor"), none, (.fields #[(.str (S "__dict__") 401), (.ref 164), (.builtin "function.__dict__"), (.builtin "function.__dict__#set")]), #[]⟩
def o166 (P : Params) : Obj := ⟨(.type "getset_descriptor"), none, (.fields #[(.str (S "__weakref__") 403), (.ref 164), (.builtin "ExceptionGroup.__weakref__"), .none]), #[]⟩
def o167 (P : Params) : Obj := ⟨(.type "super"), none, (.fields #[(.ref 164), (.ref 164), (.ref 164)]), #[]⟩
def o168 (P : Params) : Obj := ⟨(.type "builtin_function_or_method"), none, (.fields #[(.builtin "object.__init_subclass__"), (.ref 164)]), #[]⟩
def o169 (P : Params) : Obj := ⟨(.type "tuple"), none, (.seq #[] 0), #[]⟩
def o170 (P : Params) : Obj := ⟨(.type "builtin_function_or_method"), none, (.fields #[(.builtin "type.__prepare__"), (.type "type")]), #[]⟩
def o171 (P : Params) : Obj := ⟨(.type "dict"), none, (.dict #[⟨PyData.keyHash P (S "__module__"), (.str (S "__module__") 416), (.str (S "ruleengine.trees") 309)⟩, ⟨PyData.keyHash P (S "__qualname__"), (.str (S "__qualname__") 418), (.str (S "Var") 417)⟩, ⟨PyData.keyHash P (S "__firstlineno__"), (.str (S "__firstlineno__") 420), (.int (92) 419)⟩, ⟨PyData.keyHash P (S "__init__"), (.str (S "__init__") 428), (.ref 182)⟩, ⟨PyData.keyHash P (S "__eq__"), (.str (S "__eq__") 436), (.ref 189)⟩, ⟨PyData.keyHash P (S "__static_attributes__"), (.str (S "__static_attributes__") 441), (.ref 190)⟩] 6), #[]⟩
def o172 (P : Params) : Obj := ⟨(.type "tuple"), none, (.seq #[] 0), #[]⟩
def o173 (P : Params) : Obj := ⟨.none, none, (.fields #[(.int (94) 0), (.int (4) 0), (.ref 181), (.int (102) 0), (.int (4) 0), (.ref 188)]), #[]⟩
def o174 (P : Params) : Obj := ⟨(.type "code"), none, (.fields #[(.str (S "Var") 411), (.str (S "Var") 412), (.str (S "/claim/cut.py") 413), (.int (92) 0), (.int (0) 0), (.int (0) 0), (.int (0) 0), (.int (0) 0), (.ref 172), (.bool false), (.int (181) 0), (.ref 173), .none, .none, .none, .none, (.int (414) 0), (.int (92) 0), (.str (S "/claim/cut.py") 415)]), #[]⟩
def o175 (P : Params) : Obj := ⟨(.type "frame"), none, .plain, #[(some (.ref 174)), (some (.ref 3)), (some (.ref 171)), none, (some (.str (S "ruleengine.trees") 309)), none, (some (.ref 0))]⟩
def o176 (P : Params) : Obj := ⟨(.type "tuple"), none, (.seq #[] 0), #[]⟩
def o177 (P : Params) : Obj := ⟨.none, none, (.fields #[]), #[]⟩
def o178 (P : Params) : Obj := ⟨(.type "tuple"), none, (.seq #[(.str (S "self") 424), (.str (S "name") 425)] 0), #[]⟩
def o179 (P : Params) : Obj := ⟨(.type "tuple"), none, (.seq #[] 0), #[]⟩
def o180 (P : Params) : Obj := ⟨.none, none, (.func ⟨(S "__init__"), (S "Var.__init__"), defArgs (inClass (top 14) 0), .stmts (defBody (inClass (top 14) 0)), defScope (inClass (top 14) 0), 0, [], .none, .none, .none, .none, none, .none, .none, 0⟩), #[]⟩
def o181 (P : Params) : Obj := ⟨(.type "code"), none, (.fields #[(.str (S "__init__") 421), (.str (S "Var.__init__") 422), (.str (S "/claim/cut.py") 423), (.int (94) 0), (.int (2) 0), (.int (0) 0), (.int (0) 0), (.int (3) 0), (.ref 176), (.bool true), (.int (181) 0), (.ref 177), .none, (.ref 178), (.ref 179), (.ref 180), (.int (426) 0), (.int (94) 0), (.str (S "/claim/cut.py") 427)]), #[]⟩
def o182 (P : Params) : Obj := ⟨(.type "function"), none, (.func ⟨(S "__init__"), (S "Var.__init__"), defArgs (inClass (top 14) 0), .stmts (defBody (inClass (top 14) 0)), defScope (inClass (top 14) 0), 3, [], .none, .none, .none, (.str (S "ruleengine.trees") 309), none, (.ref 181), .none, 0⟩), #[]⟩
def o183 (P : Params) : Obj := ⟨(.type "tuple"), none, (.seq #[] 0), #[]⟩
def o184 (P : Params) : Obj := ⟨.none, none, (.fields #[]), #[]⟩
def o185 (P : Params) : Obj := ⟨(.type "tuple"), none, (.seq #[(.str (S "self") 432), (.str (S "other") 433)] 0), #[]⟩
def o186 (P : Params) : Obj := ⟨(.type "tuple"), none, (.seq #[] 0), #[]⟩
def o187 (P : Params) : Obj := ⟨.none, none, (.func ⟨(S "__eq__"), (S "Var.__eq__"), defArgs (inClass (top 14) 1), .stmts (defBody (inClass (top 14) 1)), defScope (inClass (top 14) 1), 0, [], .none, .none, .none, .none, none, .none, .none, 0⟩), #[]⟩
def o188 (P : Params) : Obj := ⟨(.type "code"), none, (.fields #[(.str (S "__eq__") 429), (.str (S "Var.__eq__") 430), (.str (S "/claim/cut.py") 431), (.int (102) 0), (.int (2) 0), (.int (0) 0), (.int (0) 0), (.int (3) 0), (.ref 183), (.bool true), (.int (181) 0), (.ref 184), .none, (.ref 185), (.ref 186), (.ref 187), (.int (434) 0), (.int (102) 0), (.str (S "/claim/cut.py") 435)]), #[]⟩
def o189 (P : Params) : Obj := ⟨(.type "function"), none, (.func ⟨(S "__eq__"), (S "Var.__eq__"), defArgs (inClass (top 14) 1), .stmts (defBody (inClass (top 14) 1)), defScope (inClass (top 14) 1), 3, [], .none, .none, .none, (.str (S "ruleengine.trees") 309), none, (.ref 188), .none, 0⟩), #[]⟩
def o190 (P : Params) : Obj := ⟨(.type "tuple"), none, (.seq #[(.str (S "levels") 437), (.str (S "name") 438), (.str (S "size") 439), (.str (S "text") 440)] 0), #[]⟩
def o191 (P : Params) : Obj := ⟨(.type "dict"), none, (.dict #[⟨PyData.keyHash P (S "__module__"), (.str (S "__module__") 416), (.str (S "ruleengine.trees") 309)⟩, ⟨PyData.keyHash P (S "__firstlineno__"), (.str (S "__firstlineno__") 420), (.int (92) 419)⟩, ⟨PyData.keyHash P (S "__init__"), (.str (S "__init__") 428), (.ref 182)⟩, ⟨PyData.keyHash P (S "__eq__"), (.str (S "__eq__") 436), (.ref 189)⟩, ⟨PyData.keyHash P (S "__static_attributes__"), (.str (S "__static_attributes__") 441), (.ref 190)⟩, ⟨PyData.keyHash P (S "__dict__"), (.str (S "__dict__") 443), (.ref 193)⟩, ⟨PyData.keyHash P (S "__weakref__"), (.str (S "__weakref__") 445), (.ref 194)⟩, ⟨PyData.keyHash P (S "__doc__"), (.str (S "__doc__") 446), .none⟩, ⟨PyData.keyHash P (S "__hash__"), (.str (S "__hash__") 447), .none⟩] 5), #[]⟩
def o192 (P : Params) : Obj := ⟨(.type "type"), none, (.cls ⟨(S "Var"), [(.type "object")], [(.ref 192), (.type "object")], 191, (S "Var"), true, [], [], false, none, false⟩), #[none, none, (some (.str (S "Var") 409)), (some (.str (S "Var") 417)), (some (.builtin "object.__new__")), (some (.bool true))]⟩
def o193 (P : Params) : Obj := ⟨(.type "getset_descriptor"), none, (.fields #[(.str (S "__dict__") 442), (.ref 192), (.builtin "function.__dict__"), (.builtin "function.__dict__#set")]), #[]⟩
def o194 (P : Params) : Obj := ⟨(.type "getset_descriptor"), none, (.fields #[(.str (S "__weakref__") 444), (.ref 192), (.builtin "ExceptionGroup.__weakref__"), .none]), #[]⟩
def o195 (P : Params) : Obj := ⟨(.type "super"), none, (.fields #[(.ref 192), (.ref 192), (.ref 192)]), #[]⟩
def o196 (P : Params) : Obj := ⟨(.type "builtin_function_or_method"), none, (.fields #[(.builtin "object.__init_subclass__"), (.ref 192)]), #[]⟩
def o197 (P : Params) : Obj := ⟨(.type "tuple"), none, (.seq #[] 0), #[]⟩
def o198 (P : Params) : Obj := ⟨(.type "builtin_function_or_method"), none, (.fields #[(.builtin "type.__prepare__"), (.type "type")]), #[]⟩
def o199 (P : Params) : Obj := ⟨(.type "dict"), none, (.dict #[⟨PyData.keyHash P (S "__module__"), (.str (S "__module__") 457), (.str (S "ruleengine.trees") 309)⟩, ⟨PyData.keyHash P (S "__qualname__"), (.str (S "__qualname__") 459), (.str (S "Word") 458)⟩, ⟨PyData.keyHash P (S "__firstlineno__"), (.str (S "__firstlineno__") 461), (.int (104) 460)⟩, ⟨PyData.keyHash P (S "__init__"), (.str (S "__init__") 469), (.ref 210)⟩, ⟨PyData.keyHash P (S "__eq__"), (.str (S "__eq__") 477), (.ref 217)⟩, ⟨PyData.keyHash P (S "__static_attributes__"), (.str (S "__static_attributes__") 480), (.ref 218)⟩] 6), #[]⟩
def o200 (P : Params) : Obj := ⟨(.type "tuple"), none, (.seq #[] 0), #[]⟩
def o201 (P : Params) : Obj := ⟨.none, none, (.fields #[(.int (106) 0), (.int (4) 0), (.ref 209), (.int (112) 0), (.int (4) 0), (.ref 216)]), #[]⟩
def o202 (P : Params) : Obj := ⟨(.type "code"), none, (.fields #[(.str (S "Word") 452), (.str (S "Word") 453), (.str (S "/claim/cut.py") 454), (.int (104) 0), (.int (0) 0), (.int (0) 0), (.int (0) 0), (.int (0) 0), (.ref 200), (.bool false), (.int (181) 0), (.ref 201), .none, .none, .none, .none, (.int (455) 0), (.int (104) 0), (.str (S "/claim/cut.py") 456)]), #[]⟩
def o203 (P : Params) : Obj := ⟨(.type "frame"), none, .plain, #[(some (.ref 202)), (some (.ref 3)), (some (.ref 199)), none, (some (.str (S "ruleengine.trees") 309)), none, (some (.ref 0))]⟩
def o204 (P : Params) : Obj := ⟨(.type "tuple"), none, (.seq #[] 0), #[]⟩
def o205 (P : Params) : Obj := ⟨.none, none, (.fields #[]), #[]⟩
def o206 (P : Params) : Obj := ⟨(.type "tuple"), none, (.seq #[(.str (S "self") 465), (.str (S "name") 466)] 0), #[]⟩
def o207 (P : Params) : Obj := ⟨(.type "tuple"), none, (.seq #[] 0), #[]⟩
def o208 (P : Params) : Obj := ⟨.none, none, (.func ⟨(S "__init__"), (S "Word.__init__"), defArgs (inClass (top 15) 0), .stmts (defBody (inClass (top 15) 0)), defScope (inClass (top 15) 0), 0, [], .none, .none, .none, .none, none, .none, .none, 0⟩), #[]⟩
def o209 (P : Params) : Obj := ⟨(.type "code"), none, (.fields #[(.str (S "__init__") 462), (.str (S "Word.__init__") 463), (.str (S "/claim/cut.py") 464), (.int (106) 0), (.int (2) 0), (.int (0) 0), (.int (0) 0), (.int (3) 0), (.ref 204), (.bool true), (.int (181) 0), (.ref 205), .none, (.ref 206), (.ref 207), (.ref 208), (.int (467) 0), (.int (106) 0), (.str (S "/claim/cut.py") 468)]), #[]⟩
def o210 (P : Params) : Obj := ⟨(.type "function"), none, (.func ⟨(S "__init__"), (S "Word.__init__"), defArgs (inClass (top 15) 0), .stmts (defBody (inClass (top 15) 0)), defScope (inClass (top 15) 0), 3, [], .none, .none, .none, (.str (S "ruleengine.trees") 309), none, (.ref 209), .none, 0⟩), #[]⟩
def o211 (P : Params) : Obj := ⟨(.type "tuple"), none, (.seq #[] 0), #[]⟩
def o212 (P : Params) : Obj := ⟨.none, none, (.fields #[]), #[]⟩
def o213 (P : Params) : Obj := ⟨(.type "tuple"), none, (.seq #[(.str (S "self") 473), (.str (S "other") 474)] 0), #[]⟩
def o214 (P : Params) : Obj := ⟨(.type "tuple"), none, (.seq #[] 0), #[]⟩
def o215 (P : Params) : Obj := ⟨.none, none, (.func ⟨(S "__eq__"), (S "Word.__eq__"), defArgs (inClass (top 15) 1), .stmts (defBody (inClass (top 15) 1)), defScope (inClass (top 15) 1), 0, [], .none, .none, .none, .none, none, .none, .none, 0⟩), #[]⟩
def o216 (P : Params) : Obj := ⟨(.type "code"), none, (.fields #[(.str (S "__eq__") 470), (.str (S "Word.__eq__") 471), (.str (S "/claim/cut.py") 472), (.int (112) 0), (.int (2) 0), (.int (0) 0), (.int (0) 0), (.int (3) 0), (.ref 211), (.bool true), (.int (181) 0), (.ref 212), .none, (.ref 213), (.ref 214), (.ref 215), (.int (475) 0), (.int (112) 0), (.str (S "/claim/cut.py") 476)]), #[]⟩
def o217 (P : Params) : Obj := ⟨(.type "function"), none, (.func ⟨(S "__eq__"), (S "Word.__eq__"), defArgs (inClass (top 15) 1), .stmts (defBody (inClass (top 15) 1)), defScope (inClass (top 15) 1), 3, [], .none, .none, .none, (.str (S "ruleengine.trees") 309), none, (.ref 216), .none, 0⟩), #[]⟩
def o218 (P : Params) : Obj := ⟨(.type "tuple"), none, (.seq #[(.str (S "name") 478), (.str (S "text") 479)] 0), #[]⟩
def o219 (P : Params) : Obj := ⟨(.type "dict"), none, (.dict #[⟨PyData.keyHash P (S "__module__"), (.str (S "__module__") 457), (.str (S "ruleengine.trees") 309)⟩, ⟨PyData.keyHash P (S "__firstlineno__"), (.str (S "__firstlineno__") 461), (.int (104) 460)⟩, ⟨PyData.keyHash P (S "__init__"), (.str (S "__init__") 469), (.ref 210)⟩, ⟨PyData.keyHash P (S "__eq__"), (.str (S "__eq__") 477), (.ref 217)⟩, ⟨PyData.keyHash P (S "__static_attributes__"), (.str (S "__static_attributes__") 480), (.ref 218)⟩, ⟨PyData.keyHash P (S "__dict__"), (.str (S "__dict__") 482), (.ref 221)⟩, ⟨PyData.keyHash P (S "__weakref__"), (.str (S "__weakref__") 484), (.ref 222)⟩, ⟨PyData.keyHash P (S "__doc__"), (.str (S "__doc__") 485), .none⟩, ⟨PyData.keyHash P (S "__hash__"), (.str (S "__hash__") 486), .none⟩] 5), #[]⟩
def o220 (P : Params) : Obj := ⟨(.type "type"), none, (.cls ⟨(S "Word"), [(.type "object")], [(.ref 220), (.type "object")], 219, (S "Word"), true, [], [], false, none, false⟩), #[none, none, (some (.str (S "Word") 450)), (some (.str (S "Word") 458)), (some (.builtin "object.__new__")), (some (.bool true))]⟩
def o221 (P : Params) : Obj := ⟨(.type "getset_descriptor"), none, (.fields #[(.str (S "__dict__") 481), (.ref 220), (.builtin "function.__dict__"), (.builtin "function.__dict__#set")]), #[]⟩
def o222 (P : Params) : Obj := ⟨(.type "getset_descriptor"), none, (.fields #[(.str (S "__weakref__") 483), (.ref 220), (.builtin "ExceptionGroup.__weakref__"), .none]), #[]⟩
def o223 (P : Params) : Obj := ⟨(.type "super"), none, (.fields #[(.ref 220), (.ref 220), (.ref 220)]), #[]⟩
def o224 (P : Params) : Obj := ⟨(.type "builtin_function_or_method"), none, (.fields #[(.builtin "object.__init_subclass__"), (.ref 220)]), #[]⟩
def o225 (P : Params) : Obj := ⟨(.type "tuple"), none, (.seq #[] 0), #[]⟩
def o226 (P : Params) : Obj := ⟨(.type "builtin_function_or_method"), none, (.fields #[(.builtin "type.__prepare__"), (.type "type")]), #[]⟩
def o227 (P : Params) : Obj := ⟨(.type "dict"), none, (.dict #[⟨PyData.keyHash P (S "__module__"), (.str (S "__module__") 496), (.str (S "ruleengine.trees") 309)⟩, ⟨PyData.keyHash P (S "__qualname__"), (.str (S "__qualname__") 498), (.str (S "Rest") 497)⟩, ⟨PyData.keyHash P (S "__firstlineno__"), (.str (S "__firstlineno__") 500), (.int (114) 499)⟩, ⟨PyData.keyHash P (S "__init__"), (.str (S "__init__") 508), (.ref 238)⟩, ⟨PyData.keyHash P (S "__eq__"), (.str (S "__eq__") 516), (.ref 245)⟩, ⟨PyData.keyHash P (S "__static_attributes__"), (.str (S "__static_attributes__") 519), (.ref 246)⟩] 6), #[]⟩
def o228 (P : Params) : Obj := ⟨(.type "tuple"), none, (.seq #[] 0), #[]⟩
def o229 (P : Params) : Obj := ⟨.none, none, (.fields #[(.int (116) 0), (.int (4) 0), (.ref 237), (.int (122) 0), (.int (4) 0), (.ref 244)]), #[]⟩
def o230 (P : Params) : Obj := ⟨(.type "code"), none, (.fields #[(.str (S "Rest") 491), (.str (S "Rest") 492), (.str (S "/claim/cut.py") 493), (.int (114) 0), (.int (0) 0), (.int (0) 0), (.int (0) 0), (.int (0) 0), (.ref 228), (.bool false), (.int (181) 0), (.ref 229), .none, .none, .none, .none, (.int (494) 0), (.int (114) 0), (.str (S "/claim/cut.py") 495)]), #[]⟩
def o231 (P : Params) : Obj := ⟨(.type "frame"), none, .plain, #[(some (.ref 230)), (some (.ref 3)), (some (.ref 227)), none, (some (.str (S "ruleengine.trees") 309)), none, (some (.ref 0))]⟩
def o232 (P : Params) : Obj := ⟨(.type "tuple"), none, (.seq #[] 0), #[]⟩
def o233 (P : Params) : Obj := ⟨.none, none, (.fields #[]), #[]⟩
def o234 (P : Params) : Obj := ⟨(.type "tuple"), none, (.seq #[(.str (S "self") 504), (.str (S "name") 505)] 0), #[]⟩
def o235 (P : Params) : Obj := ⟨(.type "tuple"), none, (.seq #[] 0), #[]⟩
def o236 (P : Params) : Obj := ⟨.none, none, (.func ⟨(S "__init__"), (S "Rest.__init__"), defArgs (inClass (top 16) 0), .stmts (defBody (inClass (top 16) 0)), defScope (inClass (top 16) 0), 0, [], .none, .none, .none, .none, none, .none, .none, 0⟩), #[]⟩
def o237 (P : Params) : Obj := ⟨(.type "code"), none, (.fields #[(.str (S "__init__") 501), (.str (S "Rest.__init__") 502), (.str (S "/claim/cut.py") 503), (.int (116) 0), (.int (2) 0), (.int (0) 0), (.int (0) 0), (.int (3) 0), (.ref 232), (.bool true), (.int (181) 0), (.ref 233), .none, (.ref 234), (.ref 235), (.ref 236), (.int (506) 0), (.int (116) 0), (.str (S "/claim/cut.py") 507)]), #[]⟩
def o238 (P : Params) : Obj := ⟨(.type "function"), none, (.func ⟨(S "__init__"), (S "Rest.__init__"), defArgs (inClass (top 16) 0), .stmts (defBody (inClass (top 16) 0)), defScope (inClass (top 16) 0), 3, [], .none, .none, .none, (.str (S "ruleengine.trees") 309), none, (.ref 237), .none, 0⟩), #[]⟩
def o239 (P : Params) : Obj := ⟨(.type "tuple"), none, (.seq #[] 0), #[]⟩
def o240 (P : Params) : Obj := ⟨.none, none, (.fields #[]), #[]⟩
def o241 (P : Params) : Obj := ⟨(.type "tuple"), none, (.seq #[(.str (S "self") 512), (.str (S "other") 513)] 0), #[]⟩
def o242 (P : Params) : Obj := ⟨(.type "tuple"), none, (.seq #[] 0), #[]⟩
def o243 (P : Params) : Obj := ⟨.none, none, (.func ⟨(S "__eq__"), (S "Rest.__eq__"), defArgs (inClass (top 16) 1), .stmts (defBody (inClass (top 16) 1)), defScope (inClass (top 16) 1), 0, [], .none, .none, .none, .none, none, .none, .none, 0⟩), #[]⟩
def o244 (P : Params) : Obj := ⟨(.type "code"), none, (.fields #[(.str (S "__eq__") 509), (.str (S "Rest.__eq__") 510), (.str (S "/claim/cut.py") 511), (.int (122) 0), (.int (2) 0), (.int (0) 0), (.int (0) 0), (.int (3) 0), (.ref 239), (.bool true), (.int (181) 0), (.ref 240), .none, (.ref 241), (.ref 242), (.ref 243), (.int (514) 0), (.int (122) 0), (.str (S "/claim/cut.py") 515)]), #[]⟩
def o245 (P : Params) : Obj := ⟨(.type "function"), none, (.func ⟨(S "__eq__"), (S "Rest.__eq__"), defArgs (inClass (top 16) 1), .stmts (defBody (inClass (top 16) 1)), defScope (inClass (top 16) 1), 3, [], .none, .none, .none, (.str (S "ruleengine.trees") 309), none, (.ref 244), .none, 0⟩), #[]⟩
def o246 (P : Params) : Obj := ⟨(.type "tuple"), none, (.seq #[(.str (S "name") 517), (.str (S "text") 518)] 0), #[]⟩
def o247 (P : Params) : Obj := ⟨(.type "dict"), none, (.dict #[⟨PyData.keyHash P (S "__module__"), (.str (S "__module__") 496), (.str (S "ruleengine.trees") 309)⟩, ⟨PyData.keyHash P (S "__firstlineno__"), (.str (S "__firstlineno__") 500), (.int (114) 499)⟩, ⟨PyData.keyHash P (S "__init__"), (.str (S "__init__") 508), (.ref 238)⟩, ⟨PyData.keyHash P (S "__eq__"), (.str (S "__eq__") 516), (.ref 245)⟩, ⟨PyData.keyHash P (S "__static_attributes__"), (.str (S "__static_attributes__") 519), (.ref 246)⟩, ⟨PyData.keyHash P (S "__dict__"), (.str (S "__dict__") 521), (.ref 249)⟩, ⟨PyData.keyHash P (S "__weakref__"), (.str (S "__weakref__") 523), (.ref 250)⟩, ⟨PyData.keyHash P (S "__doc__"), (.str (S "__doc__") 524), .none⟩, ⟨PyData.keyHash P (S "__hash__"), (.str (S "__hash__") 525), .none⟩] 5), #[]⟩
def o248 (P : Params) : Obj := ⟨(.type "type"), none, (.cls ⟨(S "Rest"), [(.type "object")], [(.ref 248), (.type "object")], 247, (S "Rest"), true, [], [], false, none, false⟩), #[none, none, (some (.str (S "Rest") 489)), (some (.str (S "Rest") 497)), (some (.builtin "object.__new__")), (some (.bool true))]⟩
def o249 (P : Params) : Obj := ⟨(.type "getset_descriptor"), none, (.fields #[(.str (S "__dict__") 520), (.ref 248), (.builtin "function.__dict__"), (.builtin "function.__dict__#set")]), #[]⟩
def o250 (P : Params) : Obj := ⟨(.type "getset_descriptor"), none, (.fields #[(.str (S "__weakref__") 522), (.ref 248), (.builtin "ExceptionGroup.__weakref__"), .none]), #[]⟩
def o251 (P : Params) : Obj := ⟨(.type "super"), none, (.fields #[(.ref 248), (.ref 248), (.ref 248)]), #[]⟩
def o252 (P : Params) : Obj := ⟨(.type "builtin_function_or_method"), none, (.fields #[(.builtin "object.__init_subclass__"), (.ref 248)]), #[]⟩
def o253 (P : Params) : Obj := ⟨(.type "tuple"), none, (.seq #[] 0), #[]⟩
def o254 (P : Params) : Obj := ⟨(.type "builtin_function_or_method"), none, (.fields #[(.builtin "type.__prepare__"), (.type "type")]), #[]⟩
def o255 (P : Params) : Obj := ⟨(.type "dict"), none, (.dict #[⟨PyData.keyHash P (S "__module__"), (.str (S "__module__") 535), (.str (S "ruleengine.trees") 309)⟩, ⟨PyData.keyHash P (S "__qualname__"), (.str (S "__qualname__") 537), (.str (S "Like") 536)⟩, ⟨PyData.keyHash P (S "__firstlineno__"), (.str (S "__firstlineno__") 539), (.int (124) 538)⟩, ⟨PyData.keyHash P (S "MAX_SIZE"), (.str (S "MAX_SIZE") 541), (.int (60) 540)⟩, ⟨PyData.keyHash P (S "MAX_LEVELS"), (.str (S "MAX_LEVELS") 543), (.int (8) 542)⟩, ⟨PyData.keyHash P (S "__init__"), (.str (S "__init__") 556), (.ref 266)⟩, ⟨PyData.keyHash P (S "__eq__"), (.str (S "__eq__") 564), (.ref 273)⟩, ⟨PyData.keyHash P (S "__static_attributes__"), (.str (S "__static_attributes__") 570), (.ref 274)⟩] 8), #[]⟩
def o256 (P : Params) : Obj := ⟨(.type "tuple"), none, (.seq #[] 0), #[]⟩
def o257 (P : Params) : Obj := ⟨.none, none, (.fields #[(.int (128) 0), (.int (4) 0), (.ref 265), (.int (143) 0), (.int (4) 0), (.ref 272)]), #[]⟩
def o258 (P : Params) : Obj := ⟨(.type "code"), none, (.fields #[(.str (S "Like") 530), (.str (S "Like") 531), (.str (S "/claim/cut.py") 532), (.int (124) 0), (.int (0) 0), (.int (0) 0), (.int (0) 0), (.int (0) 0), (.ref 256), (.bool false), (.int (181) 0), (.ref 257), .none, .none, .none, .none, (.int (533) 0), (.int (124) 0), (.str (S "/claim/cut.py") 534)]), #[]⟩
def o259 (P : Params) : Obj := ⟨(.type "frame"), none, .plain, #[(some (.ref 258)), (some (.ref 3)), (some (.ref 255)), none, (some (.str (S "ruleengine.trees") 309)), none, (some (.ref 0))]⟩
def o260 (P : Params) : Obj := ⟨(.type "tuple"), none, (.seq #[] 0), #[]⟩
def o261 (P : Params) : Obj := ⟨.none, none, (.fields #[]), #[]⟩
def o262 (P : Params) : Obj := ⟨(.type "tuple"), none, (.seq #[(.str (S "self") 547), (.str (S "form") 548), (.str (S "parts") 549), (.str (S "spot") 550), (.str (S "part") 551), (.str (S "size") 552), (.str (S "levels") 553)] 0), #[]⟩
def o263 (P : Params) : Obj := ⟨(.type "tuple"), none, (.seq #[] 0), #[]⟩
def o264 (P : Params) : Obj := ⟨.none, none, (.func ⟨(S "__init__"), (S "Like.__init__"), defArgs (inClass (top 17) 2), .stmts (defBody (inClass (top 17) 2)), defScope (inClass (top 17) 2), 0, [], .none, .none, .none, .none, none, .none, .none, 0⟩), #[]⟩
def o265 (P : Params) : Obj := ⟨(.type "code"), none, (.fields #[(.str (S "__init__") 544), (.str (S "Like.__init__") 545), (.str (S "/claim/cut.py") 546), (.int (128) 0), (.int (2) 0), (.int (0) 0), (.int (0) 0), (.int (7) 0), (.ref 260), (.bool true), (.int (181) 0), (.ref 261), .none, (.ref 262), (.ref 263), (.ref 264), (.int (554) 0), (.int (128) 0), (.str (S "/claim/cut.py") 555)]), #[]⟩
def o266 (P : Params) : Obj := ⟨(.type "function"), none, (.func ⟨(S "__init__"), (S "Like.__init__"), defArgs (inClass (top 17) 2), .stmts (defBody (inClass (top 17) 2)), defScope (inClass (top 17) 2), 3, [], .none, .none, .none, (.str (S "ruleengine.trees") 309), none, (.ref 265), .none, 0⟩), #[]⟩
def o267 (P : Params) : Obj := ⟨(.type "tuple"), none, (.seq #[] 0), #[]⟩
def o268 (P : Params) : Obj := ⟨.none, none, (.fields #[]), #[]⟩
def o269 (P : Params) : Obj := ⟨(.type "tuple"), none, (.seq #[(.str (S "self") 560), (.str (S "other") 561)] 0), #[]⟩
def o270 (P : Params) : Obj := ⟨(.type "tuple"), none, (.seq #[] 0), #[]⟩
def o271 (P : Params) : Obj := ⟨.none, none, (.func ⟨(S "__eq__"), (S "Like.__eq__"), defArgs (inClass (top 17) 3), .stmts (defBody (inClass (top 17) 3)), defScope (inClass (top 17) 3), 0, [], .none, .none, .none, .none, none, .none, .none, 0⟩), #[]⟩
def o272 (P : Params) : Obj := ⟨(.type "code"), none, (.fields #[(.str (S "__eq__") 557), (.str (S "Like.__eq__") 558), (.str (S "/claim/cut.py") 559), (.int (143) 0), (.int (2) 0), (.int (0) 0), (.int (0) 0), (.int (3) 0), (.ref 267), (.bool true), (.int (181) 0), (.ref 268), .none, (.ref 269), (.ref 270), (.ref 271), (.int (562) 0), (.int (143) 0), (.str (S "/claim/cut.py") 563)]), #[]⟩
def o273 (P : Params) : Obj := ⟨(.type "function"), none, (.func ⟨(S "__eq__"), (S "Like.__eq__"), defArgs (inClass (top 17) 3), .stmts (defBody (inClass (top 17) 3)), defScope (inClass (top 17) 3), 3, [], .none, .none, .none, (.str (S "ruleengine.trees") 309), none, (.ref 272), .none, 0⟩), #[]⟩
def o274 (P : Params) : Obj := ⟨(.type "tuple"), none, (.seq #[(.str (S "form") 565), (.str (S "levels") 566), (.str (S "parts") 567), (.str (S "size") 568), (.str (S "text") 569)] 0), #[]⟩
def o275 (P : Params) : Obj := ⟨(.type "dict"), none, (.dict #[⟨PyData.keyHash P (S "__module__"), (.str (S "__module__") 535), (.str (S "ruleengine.trees") 309)⟩, ⟨PyData.keyHash P (S "__firstlineno__"), (.str (S "__firstlineno__") 539), (.int (124) 538)⟩, ⟨PyData.keyHash P (S "MAX_SIZE"), (.str (S "MAX_SIZE") 541), (.int (60) 540)⟩, ⟨PyData.keyHash P (S "MAX_LEVELS"), (.str (S "MAX_LEVELS") 543), (.int (8) 542)⟩, ⟨PyData.keyHash P (S "__init__"), (.str (S "__init__") 556), (.ref 266)⟩, ⟨PyData.keyHash P (S "__eq__"), (.str (S "__eq__") 564), (.ref 273)⟩, ⟨PyData.keyHash P (S "__static_attributes__"), (.str (S "__static_attributes__") 570), (.ref 274)⟩, ⟨PyData.keyHash P (S "__dict__"), (.str (S "__dict__") 572), (.ref 277)⟩, ⟨PyData.keyHash P (S "__weakref__"), (.str (S "__weakref__") 574), (.ref 278)⟩, ⟨PyData.keyHash P (S "__doc__"), (.str (S "__doc__") 575), .none⟩, ⟨PyData.keyHash P (S "__hash__"), (.str (S "__hash__") 576), .none⟩] 5), #[]⟩
def o276 (P : Params) : Obj := ⟨(.type "type"), none, (.cls ⟨(S "Like"), [(.type "object")], [(.ref 276), (.type "object")], 275, (S "Like"), true, [], [], false, none, false⟩), #[none, none, (some (.str (S "Like") 528)), (some (.str (S "Like") 536)), (some (.builtin "object.__new__")), (some (.bool true))]⟩
def o277 (P : Params) : Obj := ⟨(.type "getset_descriptor"), none, (.fields #[(.str (S "__dict__") 571), (.ref 276), (.builtin "function.__dict__"), (.builtin "function.__dict__#set")]), #[]⟩
def o278 (P : Params) : Obj := ⟨(.type "getset_descriptor"), none, (.fields #[(.str (S "__weakref__") 573), (.ref 276), (.builtin "ExceptionGroup.__weakref__"), .none]), #[]⟩
def o279 (P : Params) : Obj := ⟨(.type "super"), none, (.fields #[(.ref 276), (.ref 276), (.ref 276)]), #[]⟩
def o280 (P : Params) : Obj := ⟨(.type "builtin_function_or_method"), none, (.fields #[(.builtin "object.__init_subclass__"), (.ref 276)]), #[]⟩
def o281 (P : Params) : Obj := ⟨(.type "tuple"), none, (.seq #[] 0), #[]⟩
def o282 (P : Params) : Obj := ⟨.none, none, (.fields #[]), #[]⟩
def o283 (P : Params) : Obj := ⟨.none, none, (.func ⟨(S "_is_tree_part"), (S "_is_tree_part"), defArgs (top 18), .stmts (defBody (top 18)), defScope (top 18), 0, [], .none, .none, .none, .none, none, .none, .none, 0⟩), #[]⟩
def o284 (P : Params) : Obj := ⟨(.type "code"), none, (.fields #[(.str (S "_is_tree_part") 579), (.str (S "_is_tree_part") 580), (.str (S "/claim/cut.py") 581), (.int (145) 0), (.int (1) 0), (.int (0) 0), (.int (0) 0), (.int (3) 0), (.ref 281), (.bool true), (.int (181) 0), (.ref 282), .none, .none, .none, (.ref 283), (.int (582) 0), (.int (145) 0), (.str (S "/claim/cut.py") 583)]), #[]⟩
def o285 (P : Params) : Obj := ⟨(.type "function"), none, (.func ⟨(S "_is_tree_part"), (S "_is_tree_part"), defArgs (top 18), .stmts (defBody (top 18)), defScope (top 18), 3, [], .none, .none, .none, (.str (S "ruleengine.trees") 309), none, (.ref 284), .none, 0⟩), #[]⟩
def o286 (P : Params) : Obj := ⟨(.type "tuple"), none, (.seq #[] 0), #[]⟩
def o287 (P : Params) : Obj := ⟨.none, none, (.fields #[]), #[]⟩
def o288 (P : Params) : Obj := ⟨(.type "tuple"), none, (.seq #[(.str (S "part") 588)] 0), #[]⟩
def o289 (P : Params) : Obj := ⟨(.type "tuple"), none, (.seq #[] 0), #[]⟩
def o290 (P : Params) : Obj := ⟨.none, none, (.func ⟨(S "_is_like_part"), (S "_is_like_part"), defArgs (top 19), .stmts (defBody (top 19)), defScope (top 19), 0, [], .none, .none, .none, .none, none, .none, .none, 0⟩), #[]⟩
def o291 (P : Params) : Obj := ⟨(.type "code"), none, (.fields #[(.str (S "_is_like_part") 585), (.str (S "_is_like_part") 586), (.str (S "/claim/cut.py") 587), (.int (151) 0), (.int (1) 0), (.int (0) 0), (.int (0) 0), (.int (3) 0), (.ref 286), (.bool true), (.int (181) 0), (.ref 287), .none, (.ref 288), (.ref 289), (.ref 290), (.int (589) 0), (.int (151) 0), (.str (S "/claim/cut.py") 590)]), #[]⟩
def o292 (P : Params) : Obj := ⟨(.type "function"), none, (.func ⟨(S "_is_like_part"), (S "_is_like_part"), defArgs (top 19), .stmts (defBody (top 19)), defScope (top 19), 3, [], .none, .none, .none, (.str (S "ruleengine.trees") 309), none, (.ref 291), .none, 0⟩), #[]⟩
def o293 (P : Params) : Obj := ⟨(.type "tuple"), none, (.seq #[] 0), #[]⟩
def o294 (P : Params) : Obj := ⟨.none, none, (.fields #[]), #[]⟩
def o295 (P : Params) : Obj := ⟨.none, none, (.func ⟨(S "_is_like_row"), (S "_is_like_row"), defArgs (top 20), .stmts (defBody (top 20)), defScope (top 20), 0, [], .none, .none, .none, .none, none, .none, .none, 0⟩), #[]⟩
def o296 (P : Params) : Obj := ⟨(.type "code"), none, (.fields #[(.str (S "_is_like_row") 592), (.str (S "_is_like_row") 593), (.str (S "/claim/cut.py") 594), (.int (157) 0), (.int (1) 0), (.int (0) 0), (.int (0) 0), (.int (3) 0), (.ref 293), (.bool true), (.int (181) 0), (.ref 294), .none, .none, .none, (.ref 295), (.int (595) 0), (.int (157) 0), (.str (S "/claim/cut.py") 596)]), #[]⟩
def o297 (P : Params) : Obj := ⟨(.type "function"), none, (.func ⟨(S "_is_like_row"), (S "_is_like_row"), defArgs (top 20), .stmts (defBody (top 20)), defScope (top 20), 3, [], .none, .none, .none, (.str (S "ruleengine.trees") 309), none, (.ref 296), .none, 0⟩), #[]⟩
def o298 (P : Params) : Obj := ⟨(.type "tuple"), none, (.seq #[] 0), #[]⟩
def o299 (P : Params) : Obj := ⟨.none, none, (.fields #[]), #[]⟩
def o300 (P : Params) : Obj := ⟨(.type "tuple"), none, (.seq #[(.str (S "value") 601)] 0), #[]⟩
def o301 (P : Params) : Obj := ⟨(.type "tuple"), none, (.seq #[] 0), #[]⟩
def o302 (P : Params) : Obj := ⟨.none, none, (.func ⟨(S "is_node"), (S "is_node"), defArgs (top 21), .stmts (defBody (top 21)), defScope (top 21), 0, [], .none, .none, .none, .none, none, .none, .none, 0⟩), #[]⟩
def o303 (P : Params) : Obj := ⟨(.type "code"), none, (.fields #[(.str (S "is_node") 598), (.str (S "is_node") 599), (.str (S "/claim/cut.py") 600), (.int (159) 0), (.int (1) 0), (.int (0) 0), (.int (0) 0), (.int (3) 0), (.ref 298), (.bool true), (.int (181) 0), (.ref 299), .none, (.ref 300), (.ref 301), (.ref 302), (.int (602) 0), (.int (159) 0), (.str (S "/claim/cut.py") 603)]), #[]⟩
def o304 (P : Params) : Obj := ⟨(.type "function"), none, (.func ⟨(S "is_node"), (S "is_node"), defArgs (top 21), .stmts (defBody (top 21)), defScope (top 21), 3, [], .none, .none, .none, (.str (S "ruleengine.trees") 309), none, (.ref 303), .none, 0⟩), #[]⟩
def o305 (P : Params) : Obj := ⟨(.type "tuple"), none, (.seq #[] 0), #[]⟩
def o306 (P : Params) : Obj := ⟨.none, none, (.fields #[]), #[]⟩
def o307 (P : Params) : Obj := ⟨(.type "tuple"), none, (.seq #[(.str (S "row") 608)] 0), #[]⟩
def o308 (P : Params) : Obj := ⟨(.type "tuple"), none, (.seq #[] 0), #[]⟩
def o309 (P : Params) : Obj := ⟨.none, none, (.func ⟨(S "row_items"), (S "row_items"), defArgs (top 22), .stmts (defBody (top 22)), defScope (top 22), 0, [], .none, .none, .none, .none, none, .none, .none, 0⟩), #[]⟩
def o310 (P : Params) : Obj := ⟨(.type "code"), none, (.fields #[(.str (S "row_items") 605), (.str (S "row_items") 606), (.str (S "/claim/cut.py") 607), (.int (161) 0), (.int (1) 0), (.int (0) 0), (.int (0) 0), (.int (3) 0), (.ref 305), (.bool true), (.int (181) 0), (.ref 306), .none, (.ref 307), (.ref 308), (.ref 309), (.int (609) 0), (.int (161) 0), (.str (S "/claim/cut.py") 610)]), #[]⟩
def o311 (P : Params) : Obj := ⟨(.type "function"), none, (.func ⟨(S "row_items"), (S "row_items"), defArgs (top 22), .stmts (defBody (top 22)), defScope (top 22), 3, [], .none, .none, .none, (.str (S "ruleengine.trees") 309), none, (.ref 310), .none, 0⟩), #[]⟩
def o312 (P : Params) : Obj := ⟨(.type "tuple"), none, (.seq #[] 0), #[]⟩
def o313 (P : Params) : Obj := ⟨.none, none, (.fields #[]), #[]⟩
def o314 (P : Params) : Obj := ⟨.none, none, (.func ⟨(S "nodes_among"), (S "nodes_among"), defArgs (top 23), .stmts (defBody (top 23)), defScope (top 23), 0, [], .none, .none, .none, .none, none, .none, .none, 0⟩), #[]⟩
def o315 (P : Params) : Obj := ⟨(.type "code"), none, (.fields #[(.str (S "nodes_among") 612), (.str (S "nodes_among") 613), (.str (S "/claim/cut.py") 614), (.int (165) 0), (.int (1) 0), (.int (0) 0), (.int (0) 0), (.int (3) 0), (.ref 312), (.bool true), (.int (181) 0), (.ref 313), .none, .none, .none, (.ref 314), (.int (615) 0), (.int (165) 0), (.str (S "/claim/cut.py") 616)]), #[]⟩
def o316 (P : Params) : Obj := ⟨(.type "function"), none, (.func ⟨(S "nodes_among"), (S "nodes_among"), defArgs (top 23), .stmts (defBody (top 23)), defScope (top 23), 3, [], .none, .none, .none, (.str (S "ruleengine.trees") 309), none, (.ref 315), .none, 0⟩), #[]⟩
def o317 (P : Params) : Obj := ⟨(.type "tuple"), none, (.seq #[] 0), #[]⟩
def o318 (P : Params) : Obj := ⟨.none, none, (.fields #[]), #[]⟩
def o319 (P : Params) : Obj := ⟨(.type "tuple"), none, (.seq #[(.str (S "nodes") 621), (.str (S "size") 622), (.str (S "deepest") 623), (.str (S "node") 624)] 0), #[]⟩
def o320 (P : Params) : Obj := ⟨(.type "tuple"), none, (.seq #[] 0), #[]⟩
def o321 (P : Params) : Obj := ⟨.none, none, (.func ⟨(S "_measures_above"), (S "_measures_above"), defArgs (top 24), .stmts (defBody (top 24)), defScope (top 24), 0, [], .none, .none, .none, .none, none, .none, .none, 0⟩), #[]⟩
def o322 (P : Params) : Obj := ⟨(.type "code"), none, (.fields #[(.str (S "_measures_above") 618), (.str (S "_measures_above") 619), (.str (S "/claim/cut.py") 620), (.int (171) 0), (.int (1) 0), (.int (0) 0), (.int (0) 0), (.int (3) 0), (.ref 317), (.bool true), (.int (181) 0), (.ref 318), .none, (.ref 319), (.ref 320), (.ref 321), (.int (625) 0), (.int (171) 0), (.str (S "/claim/cut.py") 626)]), #[]⟩
def o323 (P : Params) : Obj := ⟨(.type "function"), none, (.func ⟨(S "_measures_above"), (S "_measures_above"), defArgs (top 24), .stmts (defBody (top 24)), defScope (top 24), 3, [], .none, .none, .none, (.str (S "ruleengine.trees") 309), none, (.ref 322), .none, 0⟩), #[]⟩
def o324 (P : Params) : Obj := ⟨(.type "tuple"), none, (.seq #[] 0), #[]⟩
def o325 (P : Params) : Obj := ⟨.none, none, (.fields #[]), #[]⟩
def o326 (P : Params) : Obj := ⟨(.type "tuple"), none, (.seq #[(.str (S "tree") 631), (.str (S "path") 632), (.str (S "node") 633), (.str (S "number") 634)] 0), #[]⟩
def o327 (P : Params) : Obj := ⟨(.type "tuple"), none, (.seq #[] 0), #[]⟩
def o328 (P : Params) : Obj := ⟨.none, none, (.func ⟨(S "_node_at"), (S "_node_at"), defArgs (top 25), .stmts (defBody (top 25)), defScope (top 25), 0, [], .none, .none, .none, .none, none, .none, .none, 0⟩), #[]⟩
def o329 (P : Params) : Obj := ⟨(.type "code"), none, (.fields #[(.str (S "_node_at") 628), (.str (S "_node_at") 629), (.str (S "/claim/cut.py") 630), (.int (179) 0), (.int (2) 0), (.int (0) 0), (.int (0) 0), (.int (3) 0), (.ref 324), (.bool true), (.int (181) 0), (.ref 325), .none, (.ref 326), (.ref 327), (.ref 328), (.int (635) 0), (.int (179) 0), (.str (S "/claim/cut.py") 636)]), #[]⟩
def o330 (P : Params) : Obj := ⟨(.type "function"), none, (.func ⟨(S "_node_at"), (S "_node_at"), defArgs (top 25), .stmts (defBody (top 25)), defScope (top 25), 3, [], .none, .none, .none, (.str (S "ruleengine.trees") 309), none, (.ref 329), .none, 0⟩), #[]⟩
def o331 (P : Params) : Obj := ⟨(.type "tuple"), none, (.seq #[] 0), #[]⟩
def o332 (P : Params) : Obj := ⟨.none, none, (.fields #[]), #[]⟩
def o333 (P : Params) : Obj := ⟨(.type "tuple"), none, (.seq #[(.str (S "parts") 641), (.str (S "nodes") 642), (.str (S "changed") 643), (.str (S "passed") 644), (.str (S "part") 645), (.str (S "many") 646)] 0), #[]⟩
def o334 (P : Params) : Obj := ⟨(.type "tuple"), none, (.seq #[] 0), #[]⟩
def o335 (P : Params) : Obj := ⟨.none, none, (.func ⟨(S "parts_with"), (S "parts_with"), defArgs (top 26), .stmts (defBody (top 26)), defScope (top 26), 0, [], .none, .none, .none, .none, none, .none, .none, 0⟩), #[]⟩
def o336 (P : Params) : Obj := ⟨(.type "code"), none, (.fields #[(.str (S "parts_with") 638), (.str (S "parts_with") 639), (.str (S "/claim/cut.py") 640), (.int (188) 0), (.int (2) 0), (.int (0) 0), (.int (0) 0), (.int (3) 0), (.ref 331), (.bool true), (.int (181) 0), (.ref 332), .none, (.ref 333), (.ref 334), (.ref 335), (.int (647) 0), (.int (188) 0), (.str (S "/claim/cut.py") 648)]), #[]⟩
def o337 (P : Params) : Obj := ⟨(.type "function"), none, (.func ⟨(S "parts_with"), (S "parts_with"), defArgs (top 26), .stmts (defBody (top 26)), defScope (top 26), 3, [], .none, .none, .none, (.str (S "ruleengine.trees") 309), none, (.ref 336), .none, 0⟩), #[]⟩
def o338 (P : Params) : Obj := ⟨(.type "tuple"), none, (.seq #[] 0), #[]⟩
def o339 (P : Params) : Obj := ⟨.none, none, (.fields #[]), #[]⟩
def o340 (P : Params) : Obj := ⟨.none, none, (.func ⟨(S "_node_text"), (S "_node_text"), defArgs (top 27), .stmts (defBody (top 27)), defScope (top 27), 0, [], .none, .none, .none, .none, none, .none, .none, 0⟩), #[]⟩
def o341 (P : Params) : Obj := ⟨(.type "code"), none, (.fields #[(.str (S "_node_text") 650), (.str (S "_node_text") 651), (.str (S "/claim/cut.py") 652), (.int (202) 0), (.int (2) 0), (.int (0) 0), (.int (0) 0), (.int (3) 0), (.ref 338), (.bool true), (.int (181) 0), (.ref 339), .none, .none, .none, (.ref 340), (.int (653) 0), (.int (202) 0), (.str (S "/claim/cut.py") 654)]), #[]⟩
def o342 (P : Params) : Obj := ⟨(.type "function"), none, (.func ⟨(S "_node_text"), (S "_node_text"), defArgs (top 27), .stmts (defBody (top 27)), defScope (top 27), 3, [], .none, .none, .none, (.str (S "ruleengine.trees") 309), none, (.ref 341), .none, 0⟩), #[]⟩
def o343 (P : Params) : Obj := ⟨(.type "tuple"), none, (.seq #[] 0), #[]⟩
def o344 (P : Params) : Obj := ⟨.none, none, (.fields #[]), #[]⟩
def o345 (P : Params) : Obj := ⟨.none, none, (.func ⟨(S "part_text"), (S "part_text"), defArgs (top 28), .stmts (defBody (top 28)), defScope (top 28), 0, [], .none, .none, .none, .none, none, .none, .none, 0⟩), #[]⟩
def o346 (P : Params) : Obj := ⟨(.type "code"), none, (.fields #[(.str (S "part_text") 656), (.str (S "part_text") 657), (.str (S "/claim/cut.py") 658), (.int (205) 0), (.int (1) 0), (.int (0) 0), (.int (0) 0), (.int (3) 0), (.ref 343), (.bool true), (.int (181) 0), (.ref 344), .none, .none, .none, (.ref 345), (.int (659) 0), (.int (205) 0), (.str (S "/claim/cut.py") 660)]), #[]⟩
def o347 (P : Params) : Obj := ⟨(.type "function"), none, (.func ⟨(S "part_text"), (S "part_text"), defArgs (top 28), .stmts (defBody (top 28)), defScope (top 28), 3, [], .none, .none, .none, (.str (S "ruleengine.trees") 309), none, (.ref 346), .none, 0⟩), #[]⟩
def o348 (P : Params) : Obj := ⟨(.type "tuple"), none, (.seq #[] 0), #[]⟩
def o349 (P : Params) : Obj := ⟨.none, none, (.fields #[]), #[]⟩
def o350 (P : Params) : Obj := ⟨(.type "tuple"), none, (.seq #[(.str (S "text") 665), (.str (S "marked") 666)] 0), #[]⟩
def o351 (P : Params) : Obj := ⟨(.type "tuple"), none, (.seq #[] 0), #[]⟩
def o352 (P : Params) : Obj := ⟨.none, none, (.func ⟨(S "_quoted"), (S "_quoted"), defArgs (top 29), .stmts (defBody (top 29)), defScope (top 29), 0, [], .none, .none, .none, .none, none, .none, .none, 0⟩), #[]⟩
def o353 (P : Params) : Obj := ⟨(.type "code"), none, (.fields #[(.str (S "_quoted") 662), (.str (S "_quoted") 663), (.str (S "/claim/cut.py") 664), (.int (212) 0), (.int (1) 0), (.int (0) 0), (.int (0) 0), (.int (3) 0), (.ref 348), (.bool true), (.int (181) 0), (.ref 349), .none, (.ref 350), (.ref 351), (.ref 352), (.int (667) 0), (.int (212) 0), (.str (S "/claim/cut.py") 668)]), #[]⟩
def o354 (P : Params) : Obj := ⟨(.type "function"), none, (.func ⟨(S "_quoted"), (S "_quoted"), defArgs (top 29), .stmts (defBody (top 29)), defScope (top 29), 3, [], .none, .none, .none, (.str (S "ruleengine.trees") 309), none, (.ref 353), .none, 0⟩), #[]⟩
def o355 (P : Params) : Obj := ⟨(.type "tuple"), none, (.seq #[] 0), #[]⟩
def o356 (P : Params) : Obj := ⟨.none, none, (.fields #[]), #[]⟩
def o357 (P : Params) : Obj := ⟨(.type "tuple"), none, (.seq #[(.str (S "_law_cell") 675), (.str (S "_law_n") 676), (.str (S "_law_turned") 677)] 0), #[]⟩
def o358 (P : Params) : Obj := ⟨(.type "tuple"), none, (.seq #[] 0), #[]⟩
def o359 (P : Params) : Obj := ⟨.none, none, (.func ⟨(S "_law_mixed"), (S "_law_mixed"), defArgs (top 31), .stmts (defBody (top 31)), defScope (top 31), 0, [], .none, .none, .none, .none, none, .none, .none, 0⟩), #[]⟩
def o360 (P : Params) : Obj := ⟨(.type "code"), none, (.fields #[(.str (S "_law_mixed") 672), (.str (S "_law_mixed") 673), (.str (S "/claim/cut.py") 674), (.int (216) 0), (.int (2) 0), (.int (0) 0), (.int (0) 0), (.int (3) 0), (.ref 355), (.bool true), (.int (181) 0), (.ref 356), .none, (.ref 357), (.ref 358), (.ref 359), (.int (678) 0), (.int (216) 0), (.str (S "/claim/cut.py") 679)]), #[]⟩
def o361 (P : Params) : Obj := ⟨(.type "function"), none, (.func ⟨(S "_law_mixed"), (S "_law_mixed"), defArgs (top 31), .stmts (defBody (top 31)), defScope (top 31), 3, [], .none, .none, .none, (.str (S "law_ruleengine_k04_whole_paths_and_put") 670), none, (.ref 360), .none, 0⟩), #[]⟩
def o362 (P : Params) : Obj := ⟨(.type "tuple"), none, (.seq #[] 0), #[]⟩
def o363 (P : Params) : Obj := ⟨.none, none, (.fields #[]), #[]⟩
def o364 (P : Params) : Obj := ⟨.none, none, (.func ⟨(S "_law_folded"), (S "_law_folded"), defArgs (top 32), .stmts (defBody (top 32)), defScope (top 32), 0, [], .none, .none, .none, .none, none, .none, .none, 0⟩), #[]⟩
def o365 (P : Params) : Obj := ⟨(.type "code"), none, (.fields #[(.str (S "_law_folded") 681), (.str (S "_law_folded") 682), (.str (S "/claim/cut.py") 683), (.int (219) 0), (.int (1) 0), (.int (0) 0), (.int (0) 0), (.int (3) 0), (.ref 362), (.bool true), (.int (181) 0), (.ref 363), .none, .none, .none, (.ref 364), (.int (684) 0), (.int (219) 0), (.str (S "/claim/cut.py") 685)]), #[]⟩
def o366 (P : Params) : Obj := ⟨(.type "function"), none, (.func ⟨(S "_law_folded"), (S "_law_folded"), defArgs (top 32), .stmts (defBody (top 32)), defScope (top 32), 3, [], .none, .none, .none, (.str (S "law_ruleengine_k04_whole_paths_and_put") 670), none, (.ref 365), .none, 0⟩), #[]⟩
def o367 (P : Params) : Obj := ⟨(.type "tuple"), none, (.seq #[] 0), #[]⟩
def o368 (P : Params) : Obj := ⟨.none, none, (.fields #[]), #[]⟩
def o369 (P : Params) : Obj := ⟨(.type "tuple"), none, (.seq #[(.str (S "_law_m") 690), (.str (S "_law_top") 691), (.str (S "_law_n") 692), (.str (S "_law_at_here") 693), (.str (S "_law_cell") 694)] 0), #[]⟩
def o370 (P : Params) : Obj := ⟨(.type "tuple"), none, (.seq #[] 0), #[]⟩
def o371 (P : Params) : Obj := ⟨.none, none, (.func ⟨(S "_law_draw"), (S "_law_draw"), defArgs (top 33), .stmts (defBody (top 33)), defScope (top 33), 0, [], .none, .none, .none, .none, none, .none, .none, 0⟩), #[]⟩
def o372 (P : Params) : Obj := ⟨(.type "code"), none, (.fields #[(.str (S "_law_draw") 687), (.str (S "_law_draw") 688), (.str (S "/claim/cut.py") 689), (.int (226) 0), (.int (2) 0), (.int (0) 0), (.int (0) 0), (.int (3) 0), (.ref 367), (.bool true), (.int (181) 0), (.ref 368), .none, (.ref 369), (.ref 370), (.ref 371), (.int (695) 0), (.int (226) 0), (.str (S "/claim/cut.py") 696)]), #[]⟩
def o373 (P : Params) : Obj := ⟨(.type "function"), none, (.func ⟨(S "_law_draw"), (S "_law_draw"), defArgs (top 33), .stmts (defBody (top 33)), defScope (top 33), 3, [], .none, .none, .none, (.str (S "law_ruleengine_k04_whole_paths_and_put") 670), none, (.ref 372), .none, 0⟩), #[]⟩
def o374 (P : Params) : Obj := ⟨(.type "tuple"), none, (.seq #[] 0), #[]⟩
def o375 (P : Params) : Obj := ⟨.none, none, (.fields #[]), #[]⟩
def o376 (P : Params) : Obj := ⟨.none, none, (.func ⟨(S "_law_begun"), (S "_law_begun"), defArgs (top 34), .stmts (defBody (top 34)), defScope (top 34), 0, [], .none, .none, .none, .none, none, .none, .none, 0⟩), #[]⟩
def o377 (P : Params) : Obj := ⟨(.type "code"), none, (.fields #[(.str (S "_law_begun") 698), (.str (S "_law_begun") 699), (.str (S "/claim/cut.py") 700), (.int (236) 0), (.int (1) 0), (.int (0) 0), (.int (0) 0), (.int (3) 0), (.ref 374), (.bool true), (.int (181) 0), (.ref 375), .none, .none, .none, (.ref 376), (.int (701) 0), (.int (236) 0), (.str (S "/claim/cut.py") 702)]), #[]⟩
def o378 (P : Params) : Obj := ⟨(.type "function"), none, (.func ⟨(S "_law_begun"), (S "_law_begun"), defArgs (top 34), .stmts (defBody (top 34)), defScope (top 34), 3, [], .none, .none, .none, (.str (S "law_ruleengine_k04_whole_paths_and_put") 670), none, (.ref 377), .none, 0⟩), #[]⟩
def o379 (P : Params) : Obj := ⟨(.type "tuple"), none, (.seq #[] 0), #[]⟩
def o380 (P : Params) : Obj := ⟨.none, none, (.fields #[]), #[]⟩
def o381 (P : Params) : Obj := ⟨(.type "tuple"), none, (.seq #[(.str (S "_law_found") 707)] 0), #[]⟩
def o382 (P : Params) : Obj := ⟨(.type "tuple"), none, (.seq #[] 0), #[]⟩
def o383 (P : Params) : Obj := ⟨.none, none, (.func ⟨(S "_law_table"), (S "_law_table"), defArgs (top 35), .stmts (defBody (top 35)), defScope (top 35), 0, [], .none, .none, .none, .none, none, .none, .none, 0⟩), #[]⟩
def o384 (P : Params) : Obj := ⟨(.type "code"), none, (.fields #[(.str (S "_law_table") 704), (.str (S "_law_table") 705), (.str (S "/claim/cut.py") 706), (.int (240) 0), (.int (0) 0), (.int (0) 0), (.int (0) 0), (.int (3) 0), (.ref 379), (.bool true), (.int (181) 0), (.ref 380), .none, (.ref 381), (.ref 382), (.ref 383), (.int (708) 0), (.int (240) 0), (.str (S "/claim/cut.py") 709)]), #[]⟩
def o385 (P : Params) : Obj := ⟨(.type "function"), none, (.func ⟨(S "_law_table"), (S "_law_table"), defArgs (top 35), .stmts (defBody (top 35)), defScope (top 35), 3, [], .none, .none, .none, (.str (S "law_ruleengine_k04_whole_paths_and_put") 670), none, (.ref 384), .none, 0⟩), #[]⟩
def o386 (P : Params) : Obj := ⟨(.type "tuple"), none, (.seq #[] 0), #[]⟩
def o387 (P : Params) : Obj := ⟨.none, none, (.fields #[]), #[]⟩
def o388 (P : Params) : Obj := ⟨(.type "tuple"), none, (.seq #[(.str (S "_law_m") 714)] 0), #[]⟩
def o389 (P : Params) : Obj := ⟨(.type "tuple"), none, (.seq #[] 0), #[]⟩
def o390 (P : Params) : Obj := ⟨.none, none, (.func ⟨(S "_law_word"), (S "_law_word"), defArgs (top 36), .stmts (defBody (top 36)), defScope (top 36), 0, [], .none, .none, .none, .none, none, .none, .none, 0⟩), #[]⟩
def o391 (P : Params) : Obj := ⟨(.type "code"), none, (.fields #[(.str (S "_law_word") 711), (.str (S "_law_word") 712), (.str (S "/claim/cut.py") 713), (.int (248) 0), (.int (1) 0), (.int (0) 0), (.int (0) 0), (.int (3) 0), (.ref 386), (.bool true), (.int (181) 0), (.ref 387), .none, (.ref 388), (.ref 389), (.ref 390), (.int (715) 0), (.int (248) 0), (.str (S "/claim/cut.py") 716)]), #[]⟩
def o392 (P : Params) : Obj := ⟨(.type "function"), none, (.func ⟨(S "_law_word"), (S "_law_word"), defArgs (top 36), .stmts (defBody (top 36)), defScope (top 36), 3, [], .none, .none, .none, (.str (S "law_ruleengine_k04_whole_paths_and_put") 670), none, (.ref 391), .none, 0⟩), #[]⟩
def o393 (P : Params) : Obj := ⟨(.type "tuple"), none, (.seq #[] 0), #[]⟩
def o394 (P : Params) : Obj := ⟨.none, none, (.fields #[]), #[]⟩
def o395 (P : Params) : Obj := ⟨(.type "tuple"), none, (.seq #[(.str (S "_law_m") 721), (.str (S "_law_take") 722), (.str (S "_law_deep") 723)] 0), #[]⟩
def o396 (P : Params) : Obj := ⟨(.type "tuple"), none, (.seq #[] 0), #[]⟩
def o397 (P : Params) : Obj := ⟨.none, none, (.func ⟨(S "_law_form"), (S "_law_form"), defArgs (top 37), .stmts (defBody (top 37)), defScope (top 37), 0, [], .none, .none, .none, .none, none, .none, .none, 0⟩), #[]⟩
def o398 (P : Params) : Obj := ⟨(.type "code"), none, (.fields #[(.str (S "_law_form") 718), (.str (S "_law_form") 719), (.str (S "/claim/cut.py") 720), (.int (250) 0), (.int (3) 0), (.int (0) 0), (.int (0) 0), (.int (3) 0), (.ref 393), (.bool true), (.int (181) 0), (.ref 394), .none, (.ref 395), (.ref 396), (.ref 397), (.int (724) 0), (.int (250) 0), (.str (S "/claim/cut.py") 725)]), #[]⟩
def o399 (P : Params) : Obj := ⟨(.type "function"), none, (.func ⟨(S "_law_form"), (S "_law_form"), defArgs (top 37), .stmts (defBody (top 37)), defScope (top 37), 3, [], .none, .none, .none, (.str (S "law_ruleengine_k04_whole_paths_and_put") 670), none, (.ref 398), .none, 0⟩), #[]⟩
def o400 (P : Params) : Obj := ⟨(.type "tuple"), none, (.seq #[] 0), #[]⟩
def o401 (P : Params) : Obj := ⟨.none, none, (.fields #[]), #[]⟩
def o402 (P : Params) : Obj := ⟨.none, none, (.func ⟨(S "_law_tree"), (S "_law_tree"), defArgs (top 38), .stmts (defBody (top 38)), defScope (top 38), 0, [], .none, .none, .none, .none, none, .none, .none, 0⟩), #[]⟩
def o403 (P : Params) : Obj := ⟨(.type "code"), none, (.fields #[(.str (S "_law_tree") 727), (.str (S "_law_tree") 728), (.str (S "/claim/cut.py") 729), (.int (256) 0), (.int (3) 0), (.int (0) 0), (.int (0) 0), (.int (3) 0), (.ref 400), (.bool true), (.int (181) 0), (.ref 401), .none, .none, .none, (.ref 402), (.int (730) 0), (.int (256) 0), (.str (S "/claim/cut.py") 731)]), #[]⟩
def o404 (P : Params) : Obj := ⟨(.type "function"), none, (.func ⟨(S "_law_tree"), (S "_law_tree"), defArgs (top 38), .stmts (defBody (top 38)), defScope (top 38), 3, [], .none, .none, .none, (.str (S "law_ruleengine_k04_whole_paths_and_put") 670), none, (.ref 403), .none, 0⟩), #[]⟩
def o405 (P : Params) : Obj := ⟨(.type "tuple"), none, (.seq #[] 0), #[]⟩
def o406 (P : Params) : Obj := ⟨.none, none, (.fields #[]), #[]⟩
def o407 (P : Params) : Obj := ⟨(.type "tuple"), none, (.seq #[(.str (S "_law_items") 736), (.str (S "_law_found") 737), (.str (S "_law_item") 738)] 0), #[]⟩
def o408 (P : Params) : Obj := ⟨(.type "tuple"), none, (.seq #[] 0), #[]⟩
def o409 (P : Params) : Obj := ⟨.none, none, (.func ⟨(S "_law_row"), (S "_law_row"), defArgs (top 39), .stmts (defBody (top 39)), defScope (top 39), 0, [], .none, .none, .none, .none, none, .none, .none, 0⟩), #[]⟩
def o410 (P : Params) : Obj := ⟨(.type "code"), none, (.fields #[(.str (S "_law_row") 733), (.str (S "_law_row") 734), (.str (S "/claim/cut.py") 735), (.int (268) 0), (.int (1) 0), (.int (0) 0), (.int (0) 0), (.int (3) 0), (.ref 405), (.bool true), (.int (181) 0), (.ref 406), .none, (.ref 407), (.ref 408), (.ref 409), (.int (739) 0), (.int (268) 0), (.str (S "/claim/cut.py") 740)]), #[]⟩
def o411 (P : Params) : Obj := ⟨(.type "function"), none, (.func ⟨(S "_law_row"), (S "_law_row"), defArgs (top 39), .stmts (defBody (top 39)), defScope (top 39), 3, [], .none, .none, .none, (.str (S "law_ruleengine_k04_whole_paths_and_put") 670), none, (.ref 410), .none, 0⟩), #[]⟩
def o412 (P : Params) : Obj := ⟨(.type "tuple"), none, (.seq #[] 0), #[]⟩
def o413 (P : Params) : Obj := ⟨.none, none, (.fields #[]), #[]⟩
def o414 (P : Params) : Obj := ⟨(.type "tuple"), none, (.seq #[(.str (S "_law_part") 745), (.str (S "_law_rows") 746), (.str (S "_law_own") 747)] 0), #[]⟩
def o415 (P : Params) : Obj := ⟨(.type "tuple"), none, (.seq #[] 0), #[]⟩
def o416 (P : Params) : Obj := ⟨.none, none, (.func ⟨(S "_law_made"), (S "_law_made"), defArgs (top 40), .stmts (defBody (top 40)), defScope (top 40), 0, [], .none, .none, .none, .none, none, .none, .none, 0⟩), #[]⟩
def o417 (P : Params) : Obj := ⟨(.type "code"), none, (.fields #[(.str (S "_law_made") 742), (.str (S "_law_made") 743), (.str (S "/claim/cut.py") 744), (.int (273) 0), (.int (1) 0), (.int (0) 0), (.int (0) 0), (.int (3) 0), (.ref 412), (.bool true), (.int (181) 0), (.ref 413), .none, (.ref 414), (.ref 415), (.ref 416), (.int (748) 0), (.int (273) 0), (.str (S "/claim/cut.py") 749)]), #[]⟩
def o418 (P : Params) : Obj := ⟨(.type "function"), none, (.func ⟨(S "_law_made"), (S "_law_made"), defArgs (top 40), .stmts (defBody (top 40)), defScope (top 40), 3, [], .none, .none, .none, (.str (S "law_ruleengine_k04_whole_paths_and_put") 670), none, (.ref 417), .none, 0⟩), #[]⟩
def o419 (P : Params) : Obj := ⟨(.type "tuple"), none, (.seq #[] 0), #[]⟩
def o420 (P : Params) : Obj := ⟨.none, none, (.fields #[]), #[]⟩
def o421 (P : Params) : Obj := ⟨.none, none, (.func ⟨(S "_law_closed"), (S "_law_closed"), defArgs (top 41), .stmts (defBody (top 41)), defScope (top 41), 0, [], .none, .none, .none, .none, none, .none, .none, 0⟩), #[]⟩
def o422 (P : Params) : Obj := ⟨(.type "code"), none, (.fields #[(.str (S "_law_closed") 751), (.str (S "_law_closed") 752), (.str (S "/claim/cut.py") 753), (.int (291) 0), (.int (1) 0), (.int (0) 0), (.int (0) 0), (.int (3) 0), (.ref 419), (.bool true), (.int (181) 0), (.ref 420), .none, .none, .none, (.ref 421), (.int (754) 0), (.int (291) 0), (.str (S "/claim/cut.py") 755)]), #[]⟩
def o423 (P : Params) : Obj := ⟨(.type "function"), none, (.func ⟨(S "_law_closed"), (S "_law_closed"), defArgs (top 41), .stmts (defBody (top 41)), defScope (top 41), 3, [], .none, .none, .none, (.str (S "law_ruleengine_k04_whole_paths_and_put") 670), none, (.ref 422), .none, 0⟩), #[]⟩
def o424 (P : Params) : Obj := ⟨(.type "tuple"), none, (.seq #[] 0), #[]⟩
def o425 (P : Params) : Obj := ⟨.none, none, (.fields #[]), #[]⟩
def o426 (P : Params) : Obj := ⟨(.type "tuple"), none, (.seq #[(.str (S "_law_plant") 760), (.str (S "_law_found") 761), (.str (S "_law_own") 762)] 0), #[]⟩
def o427 (P : Params) : Obj := ⟨(.type "tuple"), none, (.seq #[] 0), #[]⟩
def o428 (P : Params) : Obj := ⟨.none, none, (.func ⟨(S "_law_below"), (S "_law_below"), defArgs (top 42), .stmts (defBody (top 42)), defScope (top 42), 0, [], .none, .none, .none, .none, none, .none, .none, 0⟩), #[]⟩
def o429 (P : Params) : Obj := ⟨(.type "code"), none, (.fields #[(.str (S "_law_below") 757), (.str (S "_law_below") 758), (.str (S "/claim/cut.py") 759), (.int (297) 0), (.int (1) 0), (.int (0) 0), (.int (0) 0), (.int (3) 0), (.ref 424), (.bool true), (.int (181) 0), (.ref 425), .none, (.ref 426), (.ref 427), (.ref 428), (.int (763) 0), (.int (297) 0), (.str (S "/claim/cut.py") 764)]), #[]⟩
def o430 (P : Params) : Obj := ⟨(.type "function"), none, (.func ⟨(S "_law_below"), (S "_law_below"), defArgs (top 42), .stmts (defBody (top 42)), defScope (top 42), 3, [], .none, .none, .none, (.str (S "law_ruleengine_k04_whole_paths_and_put") 670), none, (.ref 429), .none, 0⟩), #[]⟩
def o431 (P : Params) : Obj := ⟨(.type "tuple"), none, (.seq #[] 0), #[]⟩
def o432 (P : Params) : Obj := ⟨.none, none, (.fields #[]), #[]⟩
def o433 (P : Params) : Obj := ⟨(.type "tuple"), none, (.seq #[(.str (S "_law_plant") 769), (.str (S "_law_path_so") 770), (.str (S "_law_n") 771)] 0), #[]⟩
def o434 (P : Params) : Obj := ⟨(.type "tuple"), none, (.seq #[] 0), #[]⟩
def o435 (P : Params) : Obj := ⟨.none, none, (.func ⟨(S "_law_at"), (S "_law_at"), defArgs (top 43), .stmts (defBody (top 43)), defScope (top 43), 0, [], .none, .none, .none, .none, none, .none, .none, 0⟩), #[]⟩
def o436 (P : Params) : Obj := ⟨(.type "code"), none, (.fields #[(.str (S "_law_at") 766), (.str (S "_law_at") 767), (.str (S "/claim/cut.py") 768), (.int (305) 0), (.int (2) 0), (.int (0) 0), (.int (0) 0), (.int (3) 0), (.ref 431), (.bool true), (.int (181) 0), (.ref 432), .none, (.ref 433), (.ref 434), (.ref 435), (.int (772) 0), (.int (305) 0), (.str (S "/claim/cut.py") 773)]), #[]⟩
def o437 (P : Params) : Obj := ⟨(.type "function"), none, (.func ⟨(S "_law_at"), (S "_law_at"), defArgs (top 43), .stmts (defBody (top 43)), defScope (top 43), 3, [], .none, .none, .none, (.str (S "law_ruleengine_k04_whole_paths_and_put") 670), none, (.ref 436), .none, 0⟩), #[]⟩
def o438 (P : Params) : Obj := ⟨(.type "tuple"), none, (.seq #[] 0), #[]⟩
def o439 (P : Params) : Obj := ⟨.none, none, (.fields #[]), #[]⟩
def o440 (P : Params) : Obj := ⟨.none, none, (.func ⟨(S "_law_paths"), (S "_law_paths"), defArgs (top 44), .stmts (defBody (top 44)), defScope (top 44), 0, [], .none, .none, .none, .none, none, .none, .none, 0⟩), #[]⟩
def o441 (P : Params) : Obj := ⟨(.type "code"), none, (.fields #[(.str (S "_law_paths") 775), (.str (S "_law_paths") 776), (.str (S "/claim/cut.py") 777), (.int (309) 0), (.int (1) 0), (.int (0) 0), (.int (0) 0), (.int (3) 0), (.ref 438), (.bool true), (.int (181) 0), (.ref 439), .none, .none, .none, (.ref 440), (.int (778) 0), (.int (309) 0), (.str (S "/claim/cut.py") 779)]), #[]⟩
def o442 (P : Params) : Obj := ⟨(.type "function"), none, (.func ⟨(S "_law_paths"), (S "_law_paths"), defArgs (top 44), .stmts (defBody (top 44)), defScope (top 44), 3, [], .none, .none, .none, (.str (S "law_ruleengine_k04_whole_paths_and_put") 670), none, (.ref 441), .none, 0⟩), #[]⟩
def o443 (P : Params) : Obj := ⟨(.type "tuple"), none, (.seq #[] 0), #[]⟩
def o444 (P : Params) : Obj := ⟨.none, none, (.fields #[]), #[]⟩
def o445 (P : Params) : Obj := ⟨(.type "tuple"), none, (.seq #[(.str (S "_law_kind_of") 784), (.str (S "_law_found") 785), (.str (S "_law_n") 786)] 0), #[]⟩
def o446 (P : Params) : Obj := ⟨(.type "tuple"), none, (.seq #[] 0), #[]⟩
def o447 (P : Params) : Obj := ⟨.none, none, (.func ⟨(S "_law_doubled"), (S "_law_doubled"), defArgs (top 45), .stmts (defBody (top 45)), defScope (top 45), 0, [], .none, .none, .none, .none, none, .none, .none, 0⟩), #[]⟩
def o448 (P : Params) : Obj := ⟨(.type "code"), none, (.fields #[(.str (S "_law_doubled") 781), (.str (S "_law_doubled") 782), (.str (S "/claim/cut.py") 783), (.int (314) 0), (.int (1) 0), (.int (0) 0), (.int (0) 0), (.int (3) 0), (.ref 443), (.bool true), (.int (181) 0), (.ref 444), .none, (.ref 445), (.ref 446), (.ref 447), (.int (787) 0), (.int (314) 0), (.str (S "/claim/cut.py") 788)]), #[]⟩
def o449 (P : Params) : Obj := ⟨(.type "function"), none, (.func ⟨(S "_law_doubled"), (S "_law_doubled"), defArgs (top 45), .stmts (defBody (top 45)), defScope (top 45), 3, [], .none, .none, .none, (.str (S "law_ruleengine_k04_whole_paths_and_put") 670), none, (.ref 448), .none, 0⟩), #[]⟩
def o450 (P : Params) : Obj := ⟨(.type "tuple"), none, (.seq #[] 0), #[]⟩
def o451 (P : Params) : Obj := ⟨.none, none, (.fields #[]), #[]⟩
def o452 (P : Params) : Obj := ⟨(.type "tuple"), none, (.seq #[(.str (S "_law_call") 793), (.str (S "_law_error") 794), (.str (S "_law_found") 795), (.str (S "e") 796)] 0), #[]⟩
def o453 (P : Params) : Obj := ⟨(.type "tuple"), none, (.seq #[] 0), #[]⟩
def o454 (P : Params) : Obj := ⟨.none, none, (.func ⟨(S "_law_fault"), (S "_law_fault"), defArgs (top 46), .stmts (defBody (top 46)), defScope (top 46), 0, [], .none, .none, .none, .none, none, .none, .none, 0⟩), #[]⟩
def o455 (P : Params) : Obj := ⟨(.type "code"), none, (.fields #[(.str (S "_law_fault") 790), (.str (S "_law_fault") 791), (.str (S "/claim/cut.py") 792), (.int (319) 0), (.int (1) 0), (.int (0) 0), (.int (0) 0), (.int (3) 0), (.ref 450), (.bool true), (.int (181) 0), (.ref 451), .none, (.ref 452), (.ref 453), (.ref 454), (.int (797) 0), (.int (319) 0), (.str (S "/claim/cut.py") 798)]), #[]⟩
def o456 (P : Params) : Obj := ⟨(.type "function"), none, (.func ⟨(S "_law_fault"), (S "_law_fault"), defArgs (top 46), .stmts (defBody (top 46)), defScope (top 46), 3, [], .none, .none, .none, (.str (S "law_ruleengine_k04_whole_paths_and_put") 670), none, (.ref 455), .none, 0⟩), #[]⟩
def o457 (P : Params) : Obj := ⟨(.type "tuple"), none, (.seq #[] 0), #[]⟩
def o458 (P : Params) : Obj := ⟨.none, none, (.fields #[]), #[]⟩
def o459 (P : Params) : Obj := ⟨(.type "tuple"), none, (.seq #[(.str (S "_law_plant") 803), (.str (S "_law_path_so") 804), (.str (S "_law_other_one") 805), (.str (S "_law_found") 806), (.str (S "_law_number") 807), (.str (S "_law_own") 808), (.str (S "_law_row_here") 809), (.str (S "_law_item") 810)] 0), #[]⟩
def o460 (P : Params) : Obj := ⟨(.type "tuple"), none, (.seq #[] 0), #[]⟩
def o461 (P : Params) : Obj := ⟨.none, none, (.func ⟨(S "_law_placed"), (S "_law_placed"), defArgs (top 47), .stmts (defBody (top 47)), defScope (top 47), 0, [], .none, .none, .none, .none, none, .none, .none, 0⟩), #[]⟩
def o462 (P : Params) : Obj := ⟨(.type "code"), none, (.fields #[(.str (S "_law_placed") 800), (.str (S "_law_placed") 801), (.str (S "/claim/cut.py") 802), (.int (330) 0), (.int (3) 0), (.int (0) 0), (.int (0) 0), (.int (3) 0), (.ref 457), (.bool true), (.int (181) 0), (.ref 458), .none, (.ref 459), (.ref 460), (.ref 461), (.int (811) 0), (.int (330) 0), (.str (S "/claim/cut.py") 812)]), #[]⟩
def o463 (P : Params) : Obj := ⟨(.type "function"), none, (.func ⟨(S "_law_placed"), (S "_law_placed"), defArgs (top 47), .stmts (defBody (top 47)), defScope (top 47), 3, [], .none, .none, .none, (.str (S "law_ruleengine_k04_whole_paths_and_put") 670), none, (.ref 462), .none, 0⟩), #[]⟩
def o464 (P : Params) : Obj := ⟨(.type "tuple"), none, (.seq #[] 0), #[]⟩
def o465 (P : Params) : Obj := ⟨.none, none, (.fields #[]), #[]⟩
def o466 (P : Params) : Obj := ⟨(.type "tuple"), none, (.seq #[(.str (S "_law_plant") 817), (.str (S "_law_one") 818), (.str (S "_law_due") 819), (.str (S "_law_spot") 820), (.str (S "_law_far") 821)] 0), #[]⟩
def o467 (P : Params) : Obj := ⟨(.type "tuple"), none, (.seq #[] 0), #[]⟩
def o468 (P : Params) : Obj := ⟨.none, none, (.func ⟨(S "_law_read_right"), (S "_law_read_right"), defArgs (top 48), .stmts (defBody (top 48)), defScope (top 48), 0, [], .none, .none, .none, .none, none, .none, .none, 0⟩), #[]⟩
def o469 (P : Params) : Obj := ⟨(.type "code"), none, (.fields #[(.str (S "_law_read_right") 814), (.str (S "_law_read_right") 815), (.str (S "/claim/cut.py") 816), (.int (347) 0), (.int (2) 0), (.int (0) 0), (.int (0) 0), (.int (3) 0), (.ref 464), (.bool true), (.int (181) 0), (.ref 465), .none, (.ref 466), (.ref 467), (.ref 468), (.int (822) 0), (.int (347) 0), (.str (S "/claim/cut.py") 823)]), #[]⟩
def o470 (P : Params) : Obj := ⟨(.type "function"), none, (.func ⟨(S "_law_read_right"), (S "_law_read_right"), defArgs (top 48), .stmts (defBody (top 48)), defScope (top 48), 3, [], .none, .none, .none, (.str (S "law_ruleengine_k04_whole_paths_and_put") 670), none, (.ref 469), .none, 0⟩), #[]⟩
def o471 (P : Params) : Obj := ⟨(.type "tuple"), none, (.seq #[] 0), #[]⟩
def o472 (P : Params) : Obj := ⟨.none, none, (.fields #[]), #[]⟩
def o473 (P : Params) : Obj := ⟨.none, none, (.func ⟨(S "_law_odds_right"), (S "_law_odds_right"), defArgs (top 49), .stmts (defBody (top 49)), defScope (top 49), 0, [], .none, .none, .none, .none, none, .none, .none, 0⟩), #[]⟩
def o474 (P : Params) : Obj := ⟨(.type "code"), none, (.fields #[(.str (S "_law_odds_right") 825), (.str (S "_law_odds_right") 826), (.str (S "/claim/cut.py") 827), (.int (358) 0), (.int (2) 0), (.int (0) 0), (.int (0) 0), (.int (3) 0), (.ref 471), (.bool true), (.int (181) 0), (.ref 472), .none, .none, .none, (.ref 473), (.int (828) 0), (.int (358) 0), (.str (S "/claim/cut.py") 829)]), #[]⟩
def o475 (P : Params) : Obj := ⟨(.type "function"), none, (.func ⟨(S "_law_odds_right"), (S "_law_odds_right"), defArgs (top 49), .stmts (defBody (top 49)), defScope (top 49), 3, [], .none, .none, .none, (.str (S "law_ruleengine_k04_whole_paths_and_put") 670), none, (.ref 474), .none, 0⟩), #[]⟩
def o476 (P : Params) : Obj := ⟨(.type "tuple"), none, (.seq #[] 0), #[]⟩
def o477 (P : Params) : Obj := ⟨.none, none, (.fields #[]), #[]⟩
def o478 (P : Params) : Obj := ⟨(.type "tuple"), none, (.seq #[(.str (S "_law_m") 834), (.str (S "_law_plant") 835), (.str (S "_law_one") 836), (.str (S "_law_turn") 837), (.str (S "_law_paths_so") 838), (.str (S "_law_before") 839), (.str (S "_law_due") 840), (.str (S "_law_told") 841)] 0), #[]⟩
def o479 (P : Params) : Obj := ⟨(.type "tuple"), none, (.seq #[(.str (S "_law_one") 842), (.str (S "_law_fresh") 843), (.str (S "_law_spot") 844)] 0), #[]⟩
def o480 (P : Params) : Obj := ⟨.none, none, (.func ⟨(S "_law_put_right"), (S "_law_put_right"), defArgs (top 50), .stmts (defBody (top 50)), defScope (top 50), 0, [], .none, .none, .none, .none, none, .none, .none, 0⟩), #[]⟩
def o481 (P : Params) : Obj := ⟨(.type "code"), none, (.fields #[(.str (S "_law_put_right") 831), (.str (S "_law_put_right") 832), (.str (S "/claim/cut.py") 833), (.int (371) 0), (.int (3) 0), (.int (0) 0), (.int (0) 0), (.int (3) 0), (.ref 476), (.bool true), (.int (181) 0), (.ref 477), .none, (.ref 478), (.ref 479), (.ref 480), (.int (845) 0), (.int (371) 0), (.str (S "/claim/cut.py") 846)]), #[]⟩
def o482 (P : Params) : Obj := ⟨(.type "function"), none, (.func ⟨(S "_law_put_right"), (S "_law_put_right"), defArgs (top 50), .stmts (defBody (top 50)), defScope (top 50), 3, [], .none, .none, .none, (.str (S "law_ruleengine_k04_whole_paths_and_put") 670), none, (.ref 481), .none, 0⟩), #[]⟩
def o483 (P : Params) : Obj := ⟨(.type "tuple"), none, (.seq #[] 0), #[]⟩
def o484 (P : Params) : Obj := ⟨.none, none, (.fields #[]), #[]⟩
def o485 (P : Params) : Obj := ⟨.none, none, (.func ⟨(S "_law_limits_right"), (S "_law_limits_right"), defArgs (top 51), .stmts (defBody (top 51)), defScope (top 51), 0, [], .none, .none, .none, .none, none, .none, .none, 0⟩), #[]⟩
def o486 (P : Params) : Obj := ⟨(.type "code"), none, (.fields #[(.str (S "_law_limits_right") 848), (.str (S "_law_limits_right") 849), (.str (S "/claim/cut.py") 850), (.int (386) 0), (.int (0) 0), (.int (0) 0), (.int (0) 0), (.int (3) 0), (.ref 483), (.bool true), (.int (181) 0), (.ref 484), .none, .none, .none, (.ref 485), (.int (851) 0), (.int (386) 0), (.str (S "/claim/cut.py") 852)]), #[]⟩
def o487 (P : Params) : Obj := ⟨(.type "function"), none, (.func ⟨(S "_law_limits_right"), (S "_law_limits_right"), defArgs (top 51), .stmts (defBody (top 51)), defScope (top 51), 3, [], .none, .none, .none, (.str (S "law_ruleengine_k04_whole_paths_and_put") 670), none, (.ref 486), .none, 0⟩), #[]⟩
def o488 (P : Params) : Obj := ⟨(.type "tuple"), none, (.seq #[] 0), #[]⟩
def o489 (P : Params) : Obj := ⟨.none, none, (.fields #[]), #[]⟩
def o490 (P : Params) : Obj := ⟨(.type "tuple"), none, (.seq #[(.str (S "_law_script") 857), (.str (S "_law_m") 858), (.str (S "_law_turn") 859), (.str (S "_law_plant") 860), (.str (S "_law_one") 861)] 0), #[]⟩
def o491 (P : Params) : Obj := ⟨(.type "tuple"), none, (.seq #[] 0), #[]⟩
def o492 (P : Params) : Obj := ⟨.none, none, (.func ⟨(S "law"), (S "law"), defArgs (top 52), .stmts (defBody (top 52)), defScope (top 52), 0, [], .none, .none, .none, .none, none, .none, .none, 0⟩), #[]⟩
def o493 (P : Params) : Obj := ⟨(.type "code"), none, (.fields #[(.str (S "law") 854), (.str (S "law") 855), (.str (S "/claim/cut.py") 856), (.int (405) 0), (.int (1) 0), (.int (0) 0), (.int (0) 0), (.int (3) 0), (.ref 488), (.bool true), (.int (181) 0), (.ref 489), .none, (.ref 490), (.ref 491), (.ref 492), (.int (862) 0), (.int (405) 0), (.str (S "/claim/cut.py") 863)]), #[]⟩
def o494 (P : Params) : Obj := ⟨(.type "function"), none, (.func ⟨(S "law"), (S "law"), defArgs (top 52), .stmts (defBody (top 52)), defScope (top 52), 3, [], .none, .none, .none, (.str (S "law_ruleengine_k04_whole_paths_and_put") 670), none, (.ref 493), .none, 0⟩), #[]⟩
def KF : PySem.Params → PySem.W.Frag := fun P => (nat_lit 2, o2 P) :: (nat_lit 3, o3 P) :: (nat_lit 15, o15 P) :: (nat_lit 22, o22 P) :: (nat_lit 23, o23 P) :: (nat_lit 24, o24 P) :: (nat_lit 25, o25 P) :: (nat_lit 28, o28 P) :: (nat_lit 31, o31 P) :: (nat_lit 36, o36 P) :: (nat_lit 37, o37 P) :: (nat_lit 39, o39 P) :: (nat_lit 40, o40 P) :: (nat_lit 42, o42 P) :: (nat_lit 43, o43 P) :: (nat_lit 44, o44 P) :: (nat_lit 45, o45 P) :: (nat_lit 46, o46 P) :: (nat_lit 49, o49 P) :: (nat_lit 52, o52 P) :: (nat_lit 57, o57 P) :: (nat_lit 58, o58 P) :: (nat_lit 60, o60 P) :: (nat_lit 61, o61 P) :: (nat_lit 63, o63 P) :: (nat_lit 64, o64 P) :: (nat_lit 65, o65 P) :: (nat_lit 66, o66 P) :: (nat_lit 67, o67 P) :: (nat_lit 70, o70 P) :: (nat_lit 73, o73 P) :: (nat_lit 78, o78 P) :: (nat_lit 79, o79 P) :: (nat_lit 81, o81 P) :: (nat_lit 82, o82 P) :: (nat_lit 84, o84 P) :: (nat_lit 85, o85 P) :: (nat_lit 86, o86 P) :: (nat_lit 87, o87 P) :: (nat_lit 88, o88 P) :: (nat_lit 91, o91 P) :: (nat_lit 93, o93 P) :: (nat_lit 94, o94 P) :: (nat_lit 96, o96 P) :: (nat_lit 97, o97 P) :: (nat_lit 98, o98 P) :: (nat_lit 101, o101 P) :: (nat_lit 102, o102 P) :: (nat_lit 110, o110 P) :: (nat_lit 112, o112 P) :: (nat_lit 113, o113 P) :: (nat_lit 115, o115 P) :: (nat_lit 116, o116 P) :: (nat_lit 117, o117 P) :: (nat_lit 119, o119 P) :: (nat_lit 120, o120 P) :: (nat_lit 122, o122 P) :: (nat_lit 123, o123 P) :: (nat_lit 124, o124 P) :: (nat_lit 126, o126 P) :: (nat_lit 127, o127 P) :: (nat_lit 129, o129 P) :: (nat_lit 130, o130 P) :: (nat_lit 131, o131 P) :: (nat_lit 133, o133 P) :: (nat_lit 134, o134 P) :: (nat_lit 136, o136 P) :: (nat_lit 137, o137 P) :: (nat_lit 138, o138 P) :: (nat_lit 140, o140 P) :: (nat_lit 141, o141 P) :: (nat_lit 143, o143 P) :: (nat_lit 144, o144 P) :: (nat_lit 145, o145 P) :: (nat_lit 147, o147 P) :: (nat_lit 148, o148 P) :: (nat_lit 150, o150 P) :: (nat_lit 151, o151 P) :: (nat_lit 152, o152 P) :: (nat_lit 155, o155 P) :: (nat_lit 156, o156 P) :: (nat_lit 157, o157 P) :: (nat_lit 160, o160 P) :: (nat_lit 161, o161 P) :: (nat_lit 162, o162 P) :: (nat_lit 163, o163 P) :: (nat_lit 164, o164 P) :: (nat_lit 165, o165 P) :: (nat_lit 166, o166 P) :: (nat_lit 176, o176 P) :: (nat_lit 178, o178 P) :: (nat_lit 179, o179 P) :: (nat_lit 181, o181 P) :: (nat_lit 182, o182 P) :: (nat_lit 183, o183 P) :: (nat_lit 185, o185 P) :: (nat_lit 186, o186 P) :: (nat_lit 188, o188 P) :: (nat_lit 189, o189 P) :: (nat_lit 190, o190 P) :: (nat_lit 191, o191 P) :: (nat_lit 192, o192 P) :: (nat_lit 193, o193 P) :: (nat_lit 194, o194 P) :: (nat_lit 204, o204 P) :: (nat_lit 206, o206 P) :: (nat_lit 207, o207 P) :: (nat_lit 209, o209 P) :: (nat_lit 210, o210 P) :: (nat_lit 211, o211 P) :: (nat_lit 213, o213 P) :: (nat_lit 214, o214 P) :: (nat_lit 216, o216 P) :: (nat_lit 217, o217 P) :: (nat_lit 218, o218 P) :: (nat_lit 219, o219 P) :: (nat_lit 220, o220 P) :: (nat_lit 221, o221 P) :: (nat_lit 222, o222 P) :: (nat_lit 232, o232 P) :: (nat_lit 234, o234 P) :: (nat_lit 235, o235 P) :: (nat_lit 237, o237 P) :: (nat_lit 238, o238 P) :: (nat_lit 239, o239 P) :: (nat_lit 241, o241 P) :: (nat_lit 242, o242 P) :: (nat_lit 244, o244 P) :: (nat_lit 245, o245 P) :: (nat_lit 246, o246 P) :: (nat_lit 247, o247 P) :: (nat_lit 248, o248 P) :: (nat_lit 249, o249 P) :: (nat_lit 250, o250 P) :: (nat_lit 260, o260 P) :: (nat_lit 262, o262 P) :: (nat_lit 263, o263 P) :: (nat_lit 265, o265 P) :: (nat_lit 266, o266 P) :: (nat_lit 267, o267 P) :: (nat_lit 269, o269 P) :: (nat_lit 270, o270 P) :: (nat_lit 272, o272 P) :: (nat_lit 273, o273 P) :: (nat_lit 274, o274 P) :: (nat_lit 275, o275 P) :: (nat_lit 276, o276 P) :: (nat_lit 277, o277 P) :: (nat_lit 278, o278 P) :: (nat_lit 281, o281 P) :: (nat_lit 284, o284 P) :: (nat_lit 285, o285 P) :: (nat_lit 286, o286 P) :: (nat_lit 288, o288 P) :: (nat_lit 289, o289 P) :: (nat_lit 291, o291 P) :: (nat_lit 292, o292 P) :: (nat_lit 293, o293 P) :: (nat_lit 296, o296 P) :: (nat_lit 297, o297 P) :: (nat_lit 298, o298 P) :: (nat_lit 300, o300 P) :: (nat_lit 301, o301 P) :: (nat_lit 303, o303 P) :: (nat_lit 304, o304 P) :: (nat_lit 305, o305 P) :: (nat_lit 307, o307 P) :: (nat_lit 308, o308 P) :: (nat_lit 310, o310 P) :: (nat_lit 311, o311 P) :: (nat_lit 312, o312 P) :: (nat_lit 315, o315 P) :: (nat_lit 316, o316 P) :: (nat_lit 317, o317 P) :: (nat_lit 319, o319 P) :: (nat_lit 320, o320 P) :: (nat_lit 322, o322 P) :: (nat_lit 323, o323 P) :: (nat_lit 324, o324 P) :: (nat_lit 326, o326 P) :: (nat_lit 327, o327 P) :: (nat_lit 329, o329 P) :: (nat_lit 330, o330 P) :: (nat_lit 331, o331 P) :: (nat_lit 333, o333 P) :: (nat_lit 334, o334 P) :: (nat_lit 336, o336 P) :: (nat_lit 337, o337 P) :: (nat_lit 338, o338 P) :: (nat_lit 341, o341 P) :: (nat_lit 342, o342 P) :: (nat_lit 343, o343 P) :: (nat_lit 346, o346 P) :: (nat_lit 347, o347 P) :: (nat_lit 348, o348 P) :: (nat_lit 350, o350 P) :: (nat_lit 351, o351 P) :: (nat_lit 353, o353 P) :: (nat_lit 354, o354 P) :: (nat_lit 355, o355 P) :: (nat_lit 357, o357 P) :: (nat_lit 358, o358 P) :: (nat_lit 360, o360 P) :: (nat_lit 361, o361 P) :: (nat_lit 362, o362 P) :: (nat_lit 365, o365 P) :: (nat_lit 366, o366 P) :: (nat_lit 367, o367 P) :: (nat_lit 369, o369 P) :: (nat_lit 370, o370 P) :: (nat_lit 372, o372 P) :: (nat_lit 373, o373 P) :: (nat_lit 374, o374 P) :: (nat_lit 377, o377 P) :: (nat_lit 378, o378 P) :: (nat_lit 379, o379 P) :: (nat_lit 381, o381 P) :: (nat_lit 382, o382 P) :: (nat_lit 384, o384 P) :: (nat_lit 385, o385 P) :: (nat_lit 386, o386 P) :: (nat_lit 388, o388 P) :: (nat_lit 389, o389 P) :: (nat_lit 391, o391 P) :: (nat_lit 392, o392 P) :: (nat_lit 393, o393 P) :: (nat_lit 395, o395 P) :: (nat_lit 396, o396 P) :: (nat_lit 398, o398 P) :: (nat_lit 399, o399 P) :: (nat_lit 400, o400 P) :: (nat_lit 403, o403 P) :: (nat_lit 404, o404 P) :: (nat_lit 405, o405 P) :: (nat_lit 407, o407 P) :: (nat_lit 408, o408 P) :: (nat_lit 410, o410 P) :: (nat_lit 411, o411 P) :: (nat_lit 412, o412 P) :: (nat_lit 414, o414 P) :: (nat_lit 415, o415 P) :: (nat_lit 417, o417 P) :: (nat_lit 418, o418 P) :: (nat_lit 419, o419 P) :: (nat_lit 422, o422 P) :: (nat_lit 423, o423 P) :: (nat_lit 424, o424 P) :: (nat_lit 426, o426 P) :: (nat_lit 427, o427 P) :: (nat_lit 429, o429 P) :: (nat_lit 430, o430 P) :: (nat_lit 431, o431 P) :: (nat_lit 433, o433 P) :: (nat_lit 434, o434 P) :: (nat_lit 436, o436 P) :: (nat_lit 437, o437 P) :: (nat_lit 438, o438 P) :: (nat_lit 441, o441 P) :: (nat_lit 442, o442 P) :: (nat_lit 443, o443 P) :: (nat_lit 445, o445 P) :: (nat_lit 446, o446 P) :: (nat_lit 448, o448 P) :: (nat_lit 449, o449 P) :: (nat_lit 450, o450 P) :: (nat_lit 452, o452 P) :: (nat_lit 453, o453 P) :: (nat_lit 455, o455 P) :: (nat_lit 456, o456 P) :: (nat_lit 457, o457 P) :: (nat_lit 459, o459 P) :: (nat_lit 460, o460 P) :: (nat_lit 462, o462 P) :: (nat_lit 463, o463 P) :: (nat_lit 464, o464 P) :: (nat_lit 466, o466 P) :: (nat_lit 467, o467 P) :: (nat_lit 469, o469 P) :: (nat_lit 470, o470 P) :: (nat_lit 471, o471 P) :: (nat_lit 474, o474 P) :: (nat_lit 475, o475 P) :: (nat_lit 476, o476 P) :: (nat_lit 478, o478 P) :: (nat_lit 479, o479 P) :: (nat_lit 481, o481 P) :: (nat_lit 482, o482 P) :: (nat_lit 483, o483 P) :: (nat_lit 486, o486 P) :: (nat_lit 487, o487 P) :: (nat_lit 488, o488 P) :: (nat_lit 490, o490 P) :: (nat_lit 491, o491 P) :: (nat_lit 493, o493 P) :: (nat_lit 494, o494 P) :: []
def asF : List Addr := [2, 3, 15, 22, 23, 24, 25, 28, 31, 36, 37, 39, 40, 42, 43, 44, 45, 46, 49, 52, 57, 58, 60, 61, 63, 64, 65, 66, 67, 70, 73, 78, 79, 81, 82, 84, 85, 86, 87, 88, 91, 93, 94, 96, 97, 98, 101, 102, 110, 112, 113, 115, 116, 117, 119, 120, 122, 123, 124, 126, 127, 129, 130, 131, 133, 134, 136, 137, 138, 140, 141, 143, 144, 145, 147, 148, 150, 151, 152, 155, 156, 157, 160, 161, 162, 163, 164, 165, 166, 176, 178, 179, 181, 182, 183, 185, 186, 188, 189, 190, 191, 192, 193, 194, 204, 206, 207, 209, 210, 211, 213, 214, 216, 217, 218, 219, 220, 221, 222, 232, 234, 235, 237, 238, 239, 241, 242, 244, 245, 246, 247, 248, 249, 250, 260, 262, 263, 265, 266, 267, 269, 270, 272, 273, 274, 275, 276, 277, 278, 281, 284, 285, 286, 288, 289, 291, 292, 293, 296, 297, 298, 300, 301, 303, 304, 305, 307, 308, 310, 311, 312, 315, 316, 317, 319, 320, 322, 323, 324, 326, 327, 329, 330, 331, 333, 334, 336, 337, 338, 341, 342, 343, 346, 347, 348, 350, 351, 353, 354, 355, 357, 358, 360, 361, 362, 365, 366, 367, 369, 370, 372, 373, 374, 377, 378, 379, 381, 382, 384, 385, 386, 388, 389, 391, 392, 393, 395, 396, 398, 399, 400, 403, 404, 405, 407, 408, 410, 411, 412, 414, 415, 417, 418, 419, 422, 423, 424, 426, 427, 429, 430, 431, 433, 434, 436, 437, 438, 441, 442, 443, 445, 446, 448, 449, 450, 452, 453, 455, 456, 457, 459, 460, 462, 463, 464, 466, 467, 469, 470, 471, 474, 475, 476, 478, 479, 481, 482, 483, 486, 487, 488, 490, 491, 493, 494]
def mA_12 (P : Params) : Obj := ⟨.none, none, (.fields #[]), #[]⟩
def trA (P : Params) : BT := (.node (boot_o_0 P) (.node (boot_o_1 P) (.node (boot_o_3 P) (.node (boot_o_7 P) .nil .nil) (.node (o11 P) .nil .nil)) (.node (boot_o_5 P) (.node (boot_o_9 P) .nil .nil) (.node (o13 P) .nil .nil))) (.node (o2 P) (.node (boot_o_4 P) (.node (boot_o_8 P) .nil .nil) (.node (mA_12 P) .nil .nil)) (.node (boot_o_6 P) (.node (boot_o_10 P) .nil .nil) (.node (o14 P) .nil .nil))))
def SA (w : World) (os : OsState) : SharedT := ⟨trA w.params, 15, ⟨[], [], [], 0, [], [], false, #[], [], 0, false, false, false, 0, [2000, 10, 10], false, 0, true, [], [], 0, false⟩, #[], ⟨0, 0, 0, 0⟩, 187, os⟩
def trB (P : Params) : BT := (.node (boot_o_0 P) (.node (boot_o_1 P) (.node (boot_o_3 P) (.node (boot_o_7 P) .nil .nil) (.node (o11 P) .nil .nil)) (.node (boot_o_5 P) (.node (boot_o_9 P) .nil .nil) (.node (o13 P) .nil .nil))) (.node (o2 P) (.node (boot_o_4 P) (.node (boot_o_8 P) .nil .nil) (.node (mA_12 P) .nil .nil)) (.node (boot_o_6 P) (.node (boot_o_10 P) .nil .nil) (.node (o14 P) .nil .nil))))
def SB (w : World) (os : OsState) : SharedT := ⟨trB w.params, 15, ⟨[], [], [], 0, [], [], false, #[], [], 0, false, false, false, 0, [2000, 10, 10], false, 0, true, [], [], 0, false⟩, #[], ⟨0, 0, 0, 0⟩, 187, os⟩
def trC0 (P : Params) : BT := (.node (boot_o_0 P) (.node (boot_o_1 P) (.node (o3 P) (.node (boot_o_7 P) (.node (o15 P) (.node (o31 P) (.node (o63 P) (.node (o127 P) (.node (o255 P) .nil .nil) (.node (o383 P) .nil .nil)) (.node (o191 P) (.node (o319 P) .nil .nil) (.node (o447 P) .nil .nil))) (.node (o95 P) (.node (o159 P) (.node (o287 P) .nil .nil) (.node (o415 P) .nil .nil)) (.node (o223 P) (.node (o351 P) .nil .nil) (.node (o479 P) .nil .nil)))) (.node (o47 P) (.node (o79 P) (.node (o143 P) (.node (o271 P) .nil .nil) (.node (o399 P) .nil .nil)) (.node (o207 P) (.node (o335 P) .nil .nil) (.node (o463 P) .nil .nil))) (.node (o111 P) (.node (o175 P) (.node (o303 P) .nil .nil) (.node (o431 P) .nil .nil)) (.node (o239 P) (.node (o367 P) .nil .nil) .nil)))) (.node (o23 P) (.node (o39 P) (.node (o71 P) (.node (o135 P) (.node (o263 P) .nil .nil) (.node (o391 P) .nil .nil)) (.node (o199 P) (.node (o327 P) .nil .nil) (.node (o455 P) .nil .nil))) (.node (o103 P) (.node (o167 P) (.node (o295 P) .nil .nil) (.node (o423 P) .nil .nil)) (.node (o231 P) (.node (o359 P) .nil .nil) (.node (o487 P) .nil .nil)))) (.node (o55 P) (.node (o87 P) (.node (o151 P) (.node (o279 P) .nil .nil) (.node (o407 P) .nil .nil)) (.node (o215 P) (.node (o343 P) .nil .nil) (.node (o471 P) .nil .nil))) (.node (o119 P) (.node (o183 P) (.node (o311 P) .nil .nil) (.node (o439 P) .nil .nil)) (.node (o247 P) (.node (o375 P) .nil .nil) .nil))))) (.node (o11 P) (.node (o19 P) (.node (o35 P) (.node (o67 P) (.node (o131 P) (.node (o259 P) .nil .nil) (.node (o387 P) .nil .nil)) (.node (o195 P) (.node (o323 P) .nil .nil) (.node (o451 P) .nil .nil))) (.node (o99 P) (.node (o163 P) (.node (o291 P) .nil .nil) (.node (o419 P) .nil .nil)) (.node (o227 P) (.node (o355 P) .nil .nil) (.node (o483 P) .nil .nil)))) (.node (o51 P) (.node (o83 P) (.node (o147 P) (.node (o275 P) .nil .nil) (.node (o403 P) .nil .nil)) (.node (o211 P) (.node (o339 P) .nil .nil) (.node (o467 P) .nil .nil))) (.node (o115 P) (.node (o179 P) (.node (o307 P) .nil .nil) (.node (o435 P) .nil .nil)) (.node (o243 P) (.node (o371 P) .nil .nil) .nil)))) (.node (o27 P) (.node (o43 P) (.node (o75 P) (.node (o139 P) (.node (o267 P) .nil .nil) (.node (o395 P) .nil .nil)) (.node (o203 P) (.node (o331 P) .nil .nil) (.node (o459 P) .nil .nil))) (.node (o107 P) (.node (o171 P) (.node (o299 P) .nil .nil) (.node (o427 P) .nil .nil)) (.node (o235 P) (.node (o363 P) .nil .nil) (.node (o491 P) .nil .nil)))) (.node (o59 P) (.node (o91 P) (.node (o155 P) (.node (o283 P) .nil .nil) (.node (o411 P) .nil .nil)) (.node (o219 P) (.node (o347 P) .nil .nil) (.node (o475 P) .nil .nil))) (.node (o123 P) (.node (o187 P) (.node (o315 P) .nil .nil) (.node (o443 P) .nil .nil)) (.node (o251 P) (.node (o379 P) .nil .nil) .nil)))))) (.node (boot_o_5 P) (.node (boot_o_9 P) (.node (o17 P) (.node (o33 P) (.node (o65 P) (.node (o129 P) (.node (o257 P) .nil .nil) (.node (o385 P) .nil .nil)) (.node (o193 P) (.node (o321 P) .nil .nil) (.node (o449 P) .nil .nil))) (.node (o97 P) (.node (o161 P) (.node (o289 P) .nil .nil) (.node (o417 P) .nil .nil)) (.node (o225 P) (.node (o353 P) .nil .nil) (.node (o481 P) .nil .nil)))) (.node (o49 P) (.node (o81 P) (.node (o145 P) (.node (o273 P) .nil .nil) (.node (o401 P) .nil .nil)) (.node (o209 P) (.node (o337 P) .nil .nil) (.node (o465 P) .nil .nil))) (.node (o113 P) (.node (o177 P) (.node (o305 P) .nil .nil) (.node (o433 P) .nil .nil)) (.node (o241 P) (.node (o369 P) .nil .nil) .nil)))) (.node (o25 P) (.node (o41 P) (.node (o73 P) (.node (o137 P) (.node (o265 P) .nil .nil) (.node (o393 P) .nil .nil)) (.node (o201 P) (.node (o329 P) .nil .nil) (.node (o457 P) .nil .nil))) (.node (o105 P) (.node (o169 P) (.node (o297 P) .nil .nil) (.node (o425 P) .nil .nil)) (.node (o233 P) (.node (o361 P) .nil .nil) (.node (o489 P) .nil .nil)))) (.node (o57 P) (.node (o89 P) (.node (o153 P) (.node (o281 P) .nil .nil) (.node (o409 P) .nil .nil)) (.node (o217 P) (.node (o345 P) .nil .nil) (.node (o473 P) .nil .nil))) (.node (o121 P) (.node (o185 P) (.node (o313 P) .nil .nil) (.node (o441 P) .nil .nil)) (.node (o249 P) (.node (o377 P) .nil .nil) .nil))))) (.node (o13 P) (.node (o21 P) (.node (o37 P) (.node (o69 P) (.node (o133 P) (.node (o261 P) .nil .nil) (.node (o389 P) .nil .nil)) (.node (o197 P) (.node (o325 P) .nil .nil) (.node (o453 P) .nil .nil))) (.node (o101 P) (.node (o165 P) (.node (o293 P) .nil .nil) (.node (o421 P) .nil .nil)) (.node (o229 P) (.node (o357 P) .nil .nil) (.node (o485 P) .nil .nil)))) (.node (o53 P) (.node (o85 P) (.node (o149 P) (.node (o277 P) .nil .nil) (.node (o405 P) .nil .nil)) (.node (o213 P) (.node (o341 P) .nil .nil) (.node (o469 P) .nil .nil))) (.node (o117 P) (.node (o181 P) (.node (o309 P) .nil .nil) (.node (o437 P) .nil .nil)) (.node (o245 P) (.node (o373 P) .nil .nil) .nil)))) (.node (o29 P) (.node (o45 P) (.node (o77 P) (.node (o141 P) (.node (o269 P) .nil .nil) (.node (o397 P) .nil .nil)) (.node (o205 P) (.node (o333 P) .nil .nil) (.node (o461 P) .nil .nil))) (.node (o109 P) (.node (o173 P) (.node (o301 P) .nil .nil) (.node (o429 P) .nil .nil)) (.node (o237 P) (.node (o365 P) .nil .nil) (.node (o493 P) .nil .nil)))) (.node (o61 P) (.node (o93 P) (.node (o157 P) (.node (o285 P) .nil .nil) (.node (o413 P) .nil .nil)) (.node (o221 P) (.node (o349 P) .nil .nil) (.node (o477 P) .nil .nil))) (.node (o125 P) (.node (o189 P) (.node (o317 P) .nil .nil) (.node (o445 P) .nil .nil)) (.node (o253 P) (.node (o381 P) .nil .nil) .nil))))))) (.node (o2 P) (.node (boot_o_4 P) (.node (boot_o_8 P) (.node (o16 P) (.node (o32 P) (.node (o64 P) (.node (o128 P) (.node (o256 P) .nil .nil) (.node (o384 P) .nil .nil)) (.node (o192 P) (.node (o320 P) .nil .nil) (.node (o448 P) .nil .nil))) (.node (o96 P) (.node (o160 P) (.node (o288 P) .nil .nil) (.node (o416 P) .nil .nil)) (.node (o224 P) (.node (o352 P) .nil .nil) (.node (o480 P) .nil .nil)))) (.node (o48 P) (.node (o80 P) (.node (o144 P) (.node (o272 P) .nil .nil) (.node (o400 P) .nil .nil)) (.node (o208 P) (.node (o336 P) .nil .nil) (.node (o464 P) .nil .nil))) (.node (o112 P) (.node (o176 P) (.node (o304 P) .nil .nil) (.node (o432 P) .nil .nil)) (.node (o240 P) (.node (o368 P) .nil .nil) .nil)))) (.node (o24 P) (.node (o40 P) (.node (o72 P) (.node (o136 P) (.node (o264 P) .nil .nil) (.node (o392 P) .nil .nil)) (.node (o200 P) (.node (o328 P) .nil .nil) (.node (o456 P) .nil .nil))) (.node (o104 P) (.node (o168 P) (.node (o296 P) .nil .nil) (.node (o424 P) .nil .nil)) (.node (o232 P) (.node (o360 P) .nil .nil) (.node (o488 P) .nil .nil)))) (.node (o56 P) (.node (o88 P) (.node (o152 P) (.node (o280 P) .nil .nil) (.node (o408 P) .nil .nil)) (.node (o216 P) (.node (o344 P) .nil .nil) (.node (o472 P) .nil .nil))) (.node (o120 P) (.node (o184 P) (.node (o312 P) .nil .nil) (.node (o440 P) .nil .nil)) (.node (o248 P) (.node (o376 P) .nil .nil) .nil))))) (.node (o12 P) (.node (o20 P) (.node (o36 P) (.node (o68 P) (.node (o132 P) (.node (o260 P) .nil .nil) (.node (o388 P) .nil .nil)) (.node (o196 P) (.node (o324 P) .nil .nil) (.node (o452 P) .nil .nil))) (.node (o100 P) (.node (o164 P) (.node (o292 P) .nil .nil) (.node (o420 P) .nil .nil)) (.node (o228 P) (.node (o356 P) .nil .nil) (.node (o484 P) .nil .nil)))) (.node (o52 P) (.node (o84 P) (.node (o148 P) (.node (o276 P) .nil .nil) (.node (o404 P) .nil .nil)) (.node (o212 P) (.node (o340 P) .nil .nil) (.node (o468 P) .nil .nil))) (.node (o116 P) (.node (o180 P) (.node (o308 P) .nil .nil) (.node (o436 P) .nil .nil)) (.node (o244 P) (.node (o372 P) .nil .nil) .nil)))) (.node (o28 P) (.node (o44 P) (.node (o76 P) (.node (o140 P) (.node (o268 P) .nil .nil) (.node (o396 P) .nil .nil)) (.node (o204 P) (.node (o332 P) .nil .nil) (.node (o460 P) .nil .nil))) (.node (o108 P) (.node (o172 P) (.node (o300 P) .nil .nil) (.node (o428 P) .nil .nil)) (.node (o236 P) (.node (o364 P) .nil .nil) (.node (o492 P) .nil .nil)))) (.node (o60 P) (.node (o92 P) (.node (o156 P) (.node (o284 P) .nil .nil) (.node (o412 P) .nil .nil)) (.node (o220 P) (.node (o348 P) .nil .nil) (.node (o476 P) .nil .nil))) (.node (o124 P) (.node (o188 P) (.node (o316 P) .nil .nil) (.node (o444 P) .nil .nil)) (.node (o252 P) (.node (o380 P) .nil .nil) .nil)))))) (.node (boot_o_6 P) (.node (boot_o_10 P) (.node (o18 P) (.node (o34 P) (.node (o66 P) (.node (o130 P) (.node (o258 P) .nil .nil) (.node (o386 P) .nil .nil)) (.node (o194 P) (.node (o322 P) .nil .nil) (.node (o450 P) .nil .nil))) (.node (o98 P) (.node (o162 P) (.node (o290 P) .nil .nil) (.node (o418 P) .nil .nil)) (.node (o226 P) (.node (o354 P) .nil .nil) (.node (o482 P) .nil .nil)))) (.node (o50 P) (.node (o82 P) (.node (o146 P) (.node (o274 P) .nil .nil) (.node (o402 P) .nil .nil)) (.node (o210 P) (.node (o338 P) .nil .nil) (.node (o466 P) .nil .nil))) (.node (o114 P) (.node (o178 P) (.node (o306 P) .nil .nil) (.node (o434 P) .nil .nil)) (.node (o242 P) (.node (o370 P) .nil .nil) .nil)))) (.node (o26 P) (.node (o42 P) (.node (o74 P) (.node (o138 P) (.node (o266 P) .nil .nil) (.node (o394 P) .nil .nil)) (.node (o202 P) (.node (o330 P) .nil .nil) (.node (o458 P) .nil .nil))) (.node (o106 P) (.node (o170 P) (.node (o298 P) .nil .nil) (.node (o426 P) .nil .nil)) (.node (o234 P) (.node (o362 P) .nil .nil) (.node (o490 P) .nil .nil)))) (.node (o58 P) (.node (o90 P) (.node (o154 P) (.node (o282 P) .nil .nil) (.node (o410 P) .nil .nil)) (.node (o218 P) (.node (o346 P) .nil .nil) (.node (o474 P) .nil .nil))) (.node (o122 P) (.node (o186 P) (.node (o314 P) .nil .nil) (.node (o442 P) .nil .nil)) (.node (o250 P) (.node (o378 P) .nil .nil) .nil))))) (.node (o14 P) (.node (o22 P) (.node (o38 P) (.node (o70 P) (.node (o134 P) (.node (o262 P) .nil .nil) (.node (o390 P) .nil .nil)) (.node (o198 P) (.node (o326 P) .nil .nil) (.node (o454 P) .nil .nil))) (.node (o102 P) (.node (o166 P) (.node (o294 P) .nil .nil) (.node (o422 P) .nil .nil)) (.node (o230 P) (.node (o358 P) .nil .nil) (.node (o486 P) .nil .nil)))) (.node (o54 P) (.node (o86 P) (.node (o150 P) (.node (o278 P) .nil .nil) (.node (o406 P) .nil .nil)) (.node (o214 P) (.node (o342 P) .nil .nil) (.node (o470 P) .nil .nil))) (.node (o118 P) (.node (o182 P) (.node (o310 P) .nil .nil) (.node (o438 P) .nil .nil)) (.node (o246 P) (.node (o374 P) .nil .nil) .nil)))) (.node (o30 P) (.node (o46 P) (.node (o78 P) (.node (o142 P) (.node (o270 P) .nil .nil) (.node (o398 P) .nil .nil)) (.node (o206 P) (.node (o334 P) .nil .nil) (.node (o462 P) .nil .nil))) (.node (o110 P) (.node (o174 P) (.node (o302 P) .nil .nil) (.node (o430 P) .nil .nil)) (.node (o238 P) (.node (o366 P) .nil .nil) (.node (o494 P) .nil .nil)))) (.node (o62 P) (.node (o94 P) (.node (o158 P) (.node (o286 P) .nil .nil) (.node (o414 P) .nil .nil)) (.node (o222 P) (.node (o350 P) .nil .nil) (.node (o478 P) .nil .nil))) (.node (o126 P) (.node (o190 P) (.node (o318 P) .nil .nil) (.node (o446 P) .nil .nil)) (.node (o254 P) (.node (o382 P) .nil .nil) .nil))))))))
def SC0 (w : World) (os : OsState) : SharedT := ⟨trC0 w.params, 495, ⟨[], [], [], 0, [], [], false, #[], [], 0, false, false, false, 0, [2000, 10, 10], false, 0, true, [], [], 0, false⟩, #[], ⟨0, 0, 0, 0⟩, 865, os⟩
def trF (P : Params) : BT := (.node (boot_o_0 P) (.node (boot_o_1 P) (.node (o3 P) (.node (boot_o_7 P) (.node (o15 P) (.node (o31 P) (.node (o63 P) (.node (o127 P) (.node (o255 P) .nil .nil) (.node (o383 P) .nil .nil)) (.node (o191 P) (.node (o319 P) .nil .nil) (.node (o447 P) .nil .nil))) (.node (o95 P) (.node (o159 P) (.node (o287 P) .nil .nil) (.node (o415 P) .nil .nil)) (.node (o223 P) (.node (o351 P) .nil .nil) (.node (o479 P) .nil .nil)))) (.node (o47 P) (.node (o79 P) (.node (o143 P) (.node (o271 P) .nil .nil) (.node (o399 P) .nil .nil)) (.node (o207 P) (.node (o335 P) .nil .nil) (.node (o463 P) .nil .nil))) (.node (o111 P) (.node (o175 P) (.node (o303 P) .nil .nil) (.node (o431 P) .nil .nil)) (.node (o239 P) (.node (o367 P) .nil .nil) .nil)))) (.node (o23 P) (.node (o39 P) (.node (o71 P) (.node (o135 P) (.node (o263 P) .nil .nil) (.node (o391 P) .nil .nil)) (.node (o199 P) (.node (o327 P) .nil .nil) (.node (o455 P) .nil .nil))) (.node (o103 P) (.node (o167 P) (.node (o295 P) .nil .nil) (.node (o423 P) .nil .nil)) (.node (o231 P) (.node (o359 P) .nil .nil) (.node (o487 P) .nil .nil)))) (.node (o55 P) (.node (o87 P) (.node (o151 P) (.node (o279 P) .nil .nil) (.node (o407 P) .nil .nil)) (.node (o215 P) (.node (o343 P) .nil .nil) (.node (o471 P) .nil .nil))) (.node (o119 P) (.node (o183 P) (.node (o311 P) .nil .nil) (.node (o439 P) .nil .nil)) (.node (o247 P) (.node (o375 P) .nil .nil) .nil))))) (.node (o11 P) (.node (o19 P) (.node (o35 P) (.node (o67 P) (.node (o131 P) (.node (o259 P) .nil .nil) (.node (o387 P) .nil .nil)) (.node (o195 P) (.node (o323 P) .nil .nil) (.node (o451 P) .nil .nil))) (.node (o99 P) (.node (o163 P) (.node (o291 P) .nil .nil) (.node (o419 P) .nil .nil)) (.node (o227 P) (.node (o355 P) .nil .nil) (.node (o483 P) .nil .nil)))) (.node (o51 P) (.node (o83 P) (.node (o147 P) (.node (o275 P) .nil .nil) (.node (o403 P) .nil .nil)) (.node (o211 P) (.node (o339 P) .nil .nil) (.node (o467 P) .nil .nil))) (.node (o115 P) (.node (o179 P) (.node (o307 P) .nil .nil) (.node (o435 P) .nil .nil)) (.node (o243 P) (.node (o371 P) .nil .nil) .nil)))) (.node (o27 P) (.node (o43 P) (.node (o75 P) (.node (o139 P) (.node (o267 P) .nil .nil) (.node (o395 P) .nil .nil)) (.node (o203 P) (.node (o331 P) .nil .nil) (.node (o459 P) .nil .nil))) (.node (o107 P) (.node (o171 P) (.node (o299 P) .nil .nil) (.node (o427 P) .nil .nil)) (.node (o235 P) (.node (o363 P) .nil .nil) (.node (o491 P) .nil .nil)))) (.node (o59 P) (.node (o91 P) (.node (o155 P) (.node (o283 P) .nil .nil) (.node (o411 P) .nil .nil)) (.node (o219 P) (.node (o347 P) .nil .nil) (.node (o475 P) .nil .nil))) (.node (o123 P) (.node (o187 P) (.node (o315 P) .nil .nil) (.node (o443 P) .nil .nil)) (.node (o251 P) (.node (o379 P) .nil .nil) .nil)))))) (.node (boot_o_5 P) (.node (boot_o_9 P) (.node (o17 P) (.node (o33 P) (.node (o65 P) (.node (o129 P) (.node (o257 P) .nil .nil) (.node (o385 P) .nil .nil)) (.node (o193 P) (.node (o321 P) .nil .nil) (.node (o449 P) .nil .nil))) (.node (o97 P) (.node (o161 P) (.node (o289 P) .nil .nil) (.node (o417 P) .nil .nil)) (.node (o225 P) (.node (o353 P) .nil .nil) (.node (o481 P) .nil .nil)))) (.node (o49 P) (.node (o81 P) (.node (o145 P) (.node (o273 P) .nil .nil) (.node (o401 P) .nil .nil)) (.node (o209 P) (.node (o337 P) .nil .nil) (.node (o465 P) .nil .nil))) (.node (o113 P) (.node (o177 P) (.node (o305 P) .nil .nil) (.node (o433 P) .nil .nil)) (.node (o241 P) (.node (o369 P) .nil .nil) .nil)))) (.node (o25 P) (.node (o41 P) (.node (o73 P) (.node (o137 P) (.node (o265 P) .nil .nil) (.node (o393 P) .nil .nil)) (.node (o201 P) (.node (o329 P) .nil .nil) (.node (o457 P) .nil .nil))) (.node (o105 P) (.node (o169 P) (.node (o297 P) .nil .nil) (.node (o425 P) .nil .nil)) (.node (o233 P) (.node (o361 P) .nil .nil) (.node (o489 P) .nil .nil)))) (.node (o57 P) (.node (o89 P) (.node (o153 P) (.node (o281 P) .nil .nil) (.node (o409 P) .nil .nil)) (.node (o217 P) (.node (o345 P) .nil .nil) (.node (o473 P) .nil .nil))) (.node (o121 P) (.node (o185 P) (.node (o313 P) .nil .nil) (.node (o441 P) .nil .nil)) (.node (o249 P) (.node (o377 P) .nil .nil) .nil))))) (.node (o13 P) (.node (o21 P) (.node (o37 P) (.node (o69 P) (.node (o133 P) (.node (o261 P) .nil .nil) (.node (o389 P) .nil .nil)) (.node (o197 P) (.node (o325 P) .nil .nil) (.node (o453 P) .nil .nil))) (.node (o101 P) (.node (o165 P) (.node (o293 P) .nil .nil) (.node (o421 P) .nil .nil)) (.node (o229 P) (.node (o357 P) .nil .nil) (.node (o485 P) .nil .nil)))) (.node (o53 P) (.node (o85 P) (.node (o149 P) (.node (o277 P) .nil .nil) (.node (o405 P) .nil .nil)) (.node (o213 P) (.node (o341 P) .nil .nil) (.node (o469 P) .nil .nil))) (.node (o117 P) (.node (o181 P) (.node (o309 P) .nil .nil) (.node (o437 P) .nil .nil)) (.node (o245 P) (.node (o373 P) .nil .nil) .nil)))) (.node (o29 P) (.node (o45 P) (.node (o77 P) (.node (o141 P) (.node (o269 P) .nil .nil) (.node (o397 P) .nil .nil)) (.node (o205 P) (.node (o333 P) .nil .nil) (.node (o461 P) .nil .nil))) (.node (o109 P) (.node (o173 P) (.node (o301 P) .nil .nil) (.node (o429 P) .nil .nil)) (.node (o237 P) (.node (o365 P) .nil .nil) (.node (o493 P) .nil .nil)))) (.node (o61 P) (.node (o93 P) (.node (o157 P) (.node (o285 P) .nil .nil) (.node (o413 P) .nil .nil)) (.node (o221 P) (.node (o349 P) .nil .nil) (.node (o477 P) .nil .nil))) (.node (o125 P) (.node (o189 P) (.node (o317 P) .nil .nil) (.node (o445 P) .nil .nil)) (.node (o253 P) (.node (o381 P) .nil .nil) .nil))))))) (.node (o2 P) (.node (boot_o_4 P) (.node (boot_o_8 P) (.node (o16 P) (.node (o32 P) (.node (o64 P) (.node (o128 P) (.node (o256 P) .nil .nil) (.node (o384 P) .nil .nil)) (.node (o192 P) (.node (o320 P) .nil .nil) (.node (o448 P) .nil .nil))) (.node (o96 P) (.node (o160 P) (.node (o288 P) .nil .nil) (.node (o416 P) .nil .nil)) (.node (o224 P) (.node (o352 P) .nil .nil) (.node (o480 P) .nil .nil)))) (.node (o48 P) (.node (o80 P) (.node (o144 P) (.node (o272 P) .nil .nil) (.node (o400 P) .nil .nil)) (.node (o208 P) (.node (o336 P) .nil .nil) (.node (o464 P) .nil .nil))) (.node (o112 P) (.node (o176 P) (.node (o304 P) .nil .nil) (.node (o432 P) .nil .nil)) (.node (o240 P) (.node (o368 P) .nil .nil) .nil)))) (.node (o24 P) (.node (o40 P) (.node (o72 P) (.node (o136 P) (.node (o264 P) .nil .nil) (.node (o392 P) .nil .nil)) (.node (o200 P) (.node (o328 P) .nil .nil) (.node (o456 P) .nil .nil))) (.node (o104 P) (.node (o168 P) (.node (o296 P) .nil .nil) (.node (o424 P) .nil .nil)) (.node (o232 P) (.node (o360 P) .nil .nil) (.node (o488 P) .nil .nil)))) (.node (o56 P) (.node (o88 P) (.node (o152 P) (.node (o280 P) .nil .nil) (.node (o408 P) .nil .nil)) (.node (o216 P) (.node (o344 P) .nil .nil) (.node (o472 P) .nil .nil))) (.node (o120 P) (.node (o184 P) (.node (o312 P) .nil .nil) (.node (o440 P) .nil .nil)) (.node (o248 P) (.node (o376 P) .nil .nil) .nil))))) (.node (o12 P) (.node (o20 P) (.node (o36 P) (.node (o68 P) (.node (o132 P) (.node (o260 P) .nil .nil) (.node (o388 P) .nil .nil)) (.node (o196 P) (.node (o324 P) .nil .nil) (.node (o452 P) .nil .nil))) (.node (o100 P) (.node (o164 P) (.node (o292 P) .nil .nil) (.node (o420 P) .nil .nil)) (.node (o228 P) (.node (o356 P) .nil .nil) (.node (o484 P) .nil .nil)))) (.node (o52 P) (.node (o84 P) (.node (o148 P) (.node (o276 P) .nil .nil) (.node (o404 P) .nil .nil)) (.node (o212 P) (.node (o340 P) .nil .nil) (.node (o468 P) .nil .nil))) (.node (o116 P) (.node (o180 P) (.node (o308 P) .nil .nil) (.node (o436 P) .nil .nil)) (.node (o244 P) (.node (o372 P) .nil .nil) .nil)))) (.node (o28 P) (.node (o44 P) (.node (o76 P) (.node (o140 P) (.node (o268 P) .nil .nil) (.node (o396 P) .nil .nil)) (.node (o204 P) (.node (o332 P) .nil .nil) (.node (o460 P) .nil .nil))) (.node (o108 P) (.node (o172 P) (.node (o300 P) .nil .nil) (.node (o428 P) .nil .nil)) (.node (o236 P) (.node (o364 P) .nil .nil) (.node (o492 P) .nil .nil)))) (.node (o60 P) (.node (o92 P) (.node (o156 P) (.node (o284 P) .nil .nil) (.node (o412 P) .nil .nil)) (.node (o220 P) (.node (o348 P) .nil .nil) (.node (o476 P) .nil .nil))) (.node (o124 P) (.node (o188 P) (.node (o316 P) .nil .nil) (.node (o444 P) .nil .nil)) (.node (o252 P) (.node (o380 P) .nil .nil) .nil)))))) (.node (boot_o_6 P) (.node (boot_o_10 P) (.node (o18 P) (.node (o34 P) (.node (o66 P) (.node (o130 P) (.node (o258 P) .nil .nil) (.node (o386 P) .nil .nil)) (.node (o194 P) (.node (o322 P) .nil .nil) (.node (o450 P) .nil .nil))) (.node (o98 P) (.node (o162 P) (.node (o290 P) .nil .nil) (.node (o418 P) .nil .nil)) (.node (o226 P) (.node (o354 P) .nil .nil) (.node (o482 P) .nil .nil)))) (.node (o50 P) (.node (o82 P) (.node (o146 P) (.node (o274 P) .nil .nil) (.node (o402 P) .nil .nil)) (.node (o210 P) (.node (o338 P) .nil .nil) (.node (o466 P) .nil .nil))) (.node (o114 P) (.node (o178 P) (.node (o306 P) .nil .nil) (.node (o434 P) .nil .nil)) (.node (o242 P) (.node (o370 P) .nil .nil) .nil)))) (.node (o26 P) (.node (o42 P) (.node (o74 P) (.node (o138 P) (.node (o266 P) .nil .nil) (.node (o394 P) .nil .nil)) (.node (o202 P) (.node (o330 P) .nil .nil) (.node (o458 P) .nil .nil))) (.node (o106 P) (.node (o170 P) (.node (o298 P) .nil .nil) (.node (o426 P) .nil .nil)) (.node (o234 P) (.node (o362 P) .nil .nil) (.node (o490 P) .nil .nil)))) (.node (o58 P) (.node (o90 P) (.node (o154 P) (.node (o282 P) .nil .nil) (.node (o410 P) .nil .nil)) (.node (o218 P) (.node (o346 P) .nil .nil) (.node (o474 P) .nil .nil))) (.node (o122 P) (.node (o186 P) (.node (o314 P) .nil .nil) (.node (o442 P) .nil .nil)) (.node (o250 P) (.node (o378 P) .nil .nil) .nil))))) (.node (o14 P) (.node (o22 P) (.node (o38 P) (.node (o70 P) (.node (o134 P) (.node (o262 P) .nil .nil) (.node (o390 P) .nil .nil)) (.node (o198 P) (.node (o326 P) .nil .nil) (.node (o454 P) .nil .nil))) (.node (o102 P) (.node (o166 P) (.node (o294 P) .nil .nil) (.node (o422 P) .nil .nil)) (.node (o230 P) (.node (o358 P) .nil .nil) (.node (o486 P) .nil .nil)))) (.node (o54 P) (.node (o86 P) (.node (o150 P) (.node (o278 P) .nil .nil) (.node (o406 P) .nil .nil)) (.node (o214 P) (.node (o342 P) .nil .nil) (.node (o470 P) .nil .nil))) (.node (o118 P) (.node (o182 P) (.node (o310 P) .nil .nil) (.node (o438 P) .nil .nil)) (.node (o246 P) (.node (o374 P) .nil .nil) .nil)))) (.node (o30 P) (.node (o46 P) (.node (o78 P) (.node (o142 P) (.node (o270 P) .nil .nil) (.node (o398 P) .nil .nil)) (.node (o206 P) (.node (o334 P) .nil .nil) (.node (o462 P) .nil .nil))) (.node (o110 P) (.node (o174 P) (.node (o302 P) .nil .nil) (.node (o430 P) .nil .nil)) (.node (o238 P) (.node (o366 P) .nil .nil) (.node (o494 P) .nil .nil)))) (.node (o62 P) (.node (o94 P) (.node (o158 P) (.node (o286 P) .nil .nil) (.node (o414 P) .nil .nil)) (.node (o222 P) (.node (o350 P) .nil .nil) (.node (o478 P) .nil .nil))) (.node (o126 P) (.node (o190 P) (.node (o318 P) .nil .nil) (.node (o446 P) .nil .nil)) (.node (o254 P) (.node (o382 P) .nil .nil) .nil))))))))
def SF (w : World) (os : OsState) : SharedT := ⟨trF w.params, 495, ⟨[], [], [], 0, [], [], false, #[], [], 0, false, false, false, 0, [2000, 10, 10], false, 0, true, [], [], 0, false⟩, #[], ⟨0, 0, 0, 0⟩, 865, os⟩
def tr0 (P : Params) : BT := (.node (boot_o_0 P) (.node (boot_o_1 P) (.node (boot_o_3 P) (.node (boot_o_7 P) .nil .nil) .nil) (.node (boot_o_5 P) (.node (boot_o_9 P) .nil .nil) .nil)) (.node (boot_o_2 P) (.node (boot_o_4 P) (.node (boot_o_8 P) .nil .nil) .nil) (.node (boot_o_6 P) (.node (boot_o_10 P) .nil .nil) .nil)))
theorem as_eq : ∀ P : PySem.Params, asF = (KF P).map (fun x => x.1) := fun _ => by kernel_rfl
abbrev hookF : Hook := kmHook KF asF as_eq [472, 477, 484]
abbrev rowF : OpenRow := OpenLaw.row PySem.Challenge.rw_ruleengine_k04_whole_paths_and_put
abbrev prF : Program := PySem.Challenge.pw_ruleengine_k04_whole_paths_and_put
abbrev qvF : Program := view rowF.prog [1, 2, 3, 4, 6, 7, 8, 9, 10, 12, 13, 14, 15, 16, 17, 18, 19, 20, 21, 22, 23, 24, 25, 26, 27, 28, 29, 31, 32, 33, 34, 35, 36, 37, 38, 39, 40, 41, 42, 43, 44, 45, 46, 47, 48, 49, 50, 51, 52]
def looseF : List PySem.Str := [S "Tree", S "Like"]
def envF : Env := { scope := prF.main.scope, locals := mainNs, globals := mainNs, cells := [], code := (.ref 13), frame := some 14 }
abbrev cF : Code := .body prF.main.body envF
def sts0 : List Stmt := top 0 :: top 1 :: top 2 :: top 3 :: top 4 :: top 5 :: top 6 :: top 7 :: top 8 :: top 9 :: top 10 :: top 11 :: top 12 :: top 13 :: top 14 :: top 15 :: top 16 :: top 17 :: top 18 :: top 19 :: top 20 :: top 21 :: top 22 :: top 23 :: top 24 :: top 25 :: top 26 :: top 27 :: top 28 :: top 29 :: top 30 :: top 31 :: top 32 :: top 33 :: top 34 :: top 35 :: top 36 :: top 37 :: top 38 :: top 39 :: top 40 :: top 41 :: top 42 :: top 43 :: top 44 :: top 45 :: top 46 :: top 47 :: top 48 :: top 49 :: top 50 :: top 51 :: top 52 :: []
theorem ckP (w : World) (os : OsState) : nF (stepQ (denQ tabQ) prF w) 11 (some (.ref 6)) 12 (bootT w os (tr0 w.params, 11)) (topStub prF) = some (SA w os, ⟨denQ tabQ cF, cF, ⟨0, 0, 0, 0⟩, [topFrame ⟨0, 0, 0, 0⟩]⟩) := by kernel_rfl
theorem ckB (w : World) (os : OsState) : runQ prF w 11 (some (.ref 6)) 1 (SA w os) (blQ prF.main.body envF cF ⟨0, 0, 0, 0⟩ ⟨0, 0, 0, 0⟩) = some (.next, SB w os, cF, ⟨0, 0, 0, 0⟩) := by kernel_rfl
theorem ck0 (w : World) (os : OsState) : runQ prF w 11 (some (.ref 6)) 3653 (SB w os) (thQ sts0 envF cF ⟨0, 0, 0, 0⟩ ⟨0, 0, 0, 0⟩) = some (.next, SC0 w os, cF, ⟨405, 0, 415, 30⟩) := by kernel_rfl
theorem ckF (w : World) (os : OsState) : goF (stepQ (denQ tabQ) prF w) 11 (some (.ref 6)) 2 (SC0 w os) ⟨doneF .next, cF, ⟨405, 0, 415, 30⟩, [topFrame ⟨0, 0, 0, 0⟩]⟩ = some (SF w os) := by kernel_rfl
theorem ckZ (P : Params) : putAll (boot_heap P).objs.toList .nil 0 = some (tr0 P, 11) := by kernel_rfl
theorem bodyF : prF.main.body = sts0 ++ ([]) := by kernel_rfl
abbrev stepsF : Nat := (12 + (1 + (3653 + 2)))
theorem runF (w : World) (os : OsState) : topRun treeTable rowF.prog w 11 (some (.ref 6)) stepsF ⟨boot_heap w.params, #[], boot_drawn, boot_toks, os⟩ (topStub rowF.prog) = some (SF w os).abs := by
  obtain ⟨e1, e2⟩ := boot_of (w := w) (os := os) (ckZ w.params)
  rw [← e2]
  have h : topRun treeTable prF w 11 (some (.ref 6)) ((1 + (3653 + 2))) (SA w os).abs ⟨denote treeTable cF, cF, ⟨0, 0, 0, 0⟩, [topFrame ⟨0, 0, 0, 0⟩]⟩ = some (SF w os).abs := by
    refine piece_block (b := prF.main.body) (env := envF) (blk_of (ckB w os)) ?_
    rw [bodyF]
    exact (piece_app (l := sts0) (rest := []) (seg_of (ck0 w os)) (piece_nil (fin_of (ckF w os))))
  exact go_top (pre_of (ckP w os)) h
abbrev sqF (w : World) (os : OsState) := seenQ qvF looseF (importedModules rowF.prog.main.body) (fun s => xlAt qvF [] s && recOk rowF.records s) (SF w os).abs
abbrev gdF := openGood qvF looseF
theorem sizeF (P : Params) : ((boot_heap P).isNs mainGlobals && (#[] : Array GenState).size == 0, (boot_heap P).objs.size, (boot_heap P).nsMap mainGlobals "__annotations__") = (true, 11, (some (.ref 6))) := by kernel_rfl
theorem lkA (w : World) (os : OsState) : (looksF rowF.prog (boot_heap w.params) (SF w os).abs, (asF.map (getT (SF w os)), ([472, 477, 484] : List Addr).map (getT (SF w os))), sqF w os) = (true, hookF.val w, gdF) := by kernel_rfl
theorem lookF (w : World) (os : OsState) : looksF rowF.prog (boot_heap w.params) (SF w os).abs = true ∧ openSeen qvF looseF (importedModules rowF.prog.main.body) (fun s => xlAt qvF [] s && recOk rowF.records s) true (SF w os).abs = openGood qvF looseF ∧ hookF.obs (SF w os).abs = hookF.val w := by
  refine ⟨congrArg Prod.fst (lkA w os), ?_, ?_⟩
  · rw [seenQ_eq]
    exact congrArg (fun x => x.2.2) (lkA w os)
  · have h := congrArg (fun x => x.2.1) (lkA w os)
    rw [show getT (SF w os) = (SF w os).abs.heap.get? from funext (getT_eq (SF w os))] at h
    exact h
end
end KH

namespace K3
open PySem L2
section
variable {P : Program} {w : World} {K : PySem.W.Frag} {mg : Str → Option Value} {base : Heap}
def CellsOk (cs : List Int) : Prop := cs.length = 64 ∧ ∀ c ∈ cs, 0 ≤ c ∧ c < 2147483648
theorem CellsOk.set {cs : List Int} (h : CellsOk cs) (j : Nat) {v : Int} (h0 : 0 ≤ v) (h1 : v < 2147483648) : CellsOk (cs.set j v) := by
  refine ⟨by rw [List.length_set]; exact h.1, fun c hc => ?_⟩
  rcases List.mem_or_eq_of_mem_set hc with z | z
  · exact h.2 c z
  · rw [z]
    exact ⟨h0, h1⟩
theorem getI {cs : List Int} {j : Nat} (h : j < cs.length) : (cs.map V.int)[j]? = some (V.int cs[j]) := by simp [h]
def spFolded (K : PySem.W.Frag) : Sp := fun vs H Q _ => ∃ (a : Addr) (ns : List Int), vs = [.ref a] ∧ SqL K H a (ns.map V.int) ∧
  ∀ H' p cs, Same H H' → H p = none → H' p = some (.lst (cs.map V.int)) → CellsOk cs → Q (.ref p) H'
theorem scFolded : FnScope ["_law_script", "_law_n", "_law_found", "_law_cell"] ["_law_script"] (defScope sFolded) := ⟨rfl, rfl, rfl, by decide +kernel, rfl, by decide +kernel, by decide +kernel⟩
theorem same_upd {H0 H : Hp} {D : Addr} {o : HO} (s : Same H0 H) (n : H0 D = none) : Same H0 (upd H D o) := fun b x e => by
  rw [upd_ne (ne_of_none e n)]
  exact s b x e
theorem ok_folded {f : Addr} {fd : FuncData} (F : Fun K "_law_folded" "_law_folded" sFolded f fd) (gR : mg "range" = none) (gE : mg "enumerate" = none) :
    FnOk P w K mg base CX0 1 f fd ["_law_script"] (spFolded K) := by
  refine F.ok scFolded (fun vs H Q E h => ?_) (fun cdv A outer s H vs Q E hr h => ?_)
  · obtain ⟨a, ns, rfl, _⟩ := h
    rfl
  · obtain ⟨a, ns, rfl, hS, k⟩ := h
    refine ⟨_, pss_cons (ps_setLc (i := 2) (own := [("_law_n", 1)]) (g := gName 1) (tt := tYes) rfl scFolded.nd rfl rfl (sw_true rfl rfl rfl (by decide +kernel)) (pi_range1 rfl gR (pa_cons pe_int pa_nil))
          (blkOk_by (N := ["_law_script", "_law_n", "_law_found", "_law_cell"]) (sc := defScope sFolded) (by decide +kernel)) (fun _ _ _ _ _ => pg_name (i := 1) scFolded.nd rfl (Or.inl rfl)) (fun _ _ _ _ _ => pts_nil) (fun _ _ _ _ _ => pe_op op_add pe_int (pv 1)))
      (pss_cons (ps_for PassesOwn.never rfl (pi_enum rfl gE (pa_cons (pv 0) pa_nil)) (pg_tup (by rfl) (pgs_cons (pg_name (i := 1) scFolded.nd rfl (.inl rfl)) (pgs_cons (pg_name (i := 3) scFolded.nd rfl (.inl rfl)) pgs_nil)))
        (pss_one (ps_asg (pe_op op_mod (pe_op op_add (pe_op op_mul (pe_ix ix_list (pv 2) (pe_op op_mod (pv 1) pe_int) (fun _ _ => rfl)) pe_int) (pv 3)) pe_int) (pg_sub (pv 2) (pe_op op_mod (pv 1) pe_int) set_list))))
      (pss_cons (ps_for PassesOwn.never rfl (pi_range2 rfl gR (pa_cons pe_int (pa_cons pe_int pa_nil))) (pg_name (i := 1) scFolded.nd rfl (Or.inl rfl))
        (pss_one (ps_asg (pe_op op_mod (pe_op op_add (pe_ix ix_list (pv 2) (pv 1) (fun _ _ => rfl)) (pe_op op_mul (pe_ix ix_list (pv 2) (pe_op op_sub (pv 1) pe_int) (fun _ _ => rfl)) pe_int)) pe_int) (pg_sub (pv 2) (pv 1) set_list))))
      (pss_one (ps_ret (pv 2))))), ?_⟩
    refine ⟨64, rfl, by decide, by decide, fun D hD => lc_range (n := 64) (fun i H' => Same H H' ∧ H' D = some (.lst (((List.range i).map fun k : Nat => (17 + (k : Int))).map V.int))) ⟨same_upd (Same.refl H) hD, by rw [upd_same]; rfl⟩ ?_ ?_⟩
    · rintro i H' hi ⟨s1, h1⟩
      refine ⟨rfl, ?_⟩
      dsimp only [tYes]
      rw [if_pos rfl]
      refine ⟨_, rfl, _, _, rfl, rfl, _, h1, ?_, same_upd s1 hD, ?_⟩
      · rw [List.length_map, List.length_map, List.length_range]
        exact Nat.lt_trans hi (by decide)
      · rw [upd_same, List.range_succ]
        simp
    · rintro H' ⟨s1, h1⟩
      generalize ecs : ((List.range 64).map fun k : Nat => (17 + (k : Int))) = cs at h1
      have ok0 : CellsOk cs := by
        rw [← ecs]
        refine ⟨by simp, fun c hc => ?_⟩
        obtain ⟨k, hk, rfl⟩ := List.mem_map.mp hc
        have := List.mem_range.mp hk
        omega
      refine ⟨_, rfl, a, _, rfl, s1.seq hS, for_it walk_enum (fun _ σ H2 => ∃ (v1 v3 : Option V) (ds : List Int), σ = [some (.ref a), v1, some (.ref D), v3] ∧ Same H H2 ∧ H2 D = some (.lst (ds.map V.int)) ∧ CellsOk ds) ⟨_, _, cs, rfl, s1, h1, ok0⟩ (fun i σ H2 _ ⟨_, _, _, _, s2, _⟩ => s2.seq hS) ?_ ?_⟩
      · rintro i x σ H2 H3 hi ⟨v1, v3, ds, rfl, s2, h2, ok2⟩ ⟨T, y, z, rfl, hT, rfl, ey, ez⟩
        have ey : some (V.int (i : Nat)) = some y := ey
        cases ey
        have ez : (ns.map V.int)[i]? = some z := ez
        rw [List.length_map] at hi
        rw [getI hi] at ez
        cases ez
        have h2' : (upd H2 T (.tup [.int (i : Nat), .int ns[i]])) D = some (.lst (ds.map V.int)) := by rw [upd_ne (ne_of_none h2 hT)]; exact h2
        refine ⟨T, _, rfl, .inl (.inl upd_same), rfl, _, _, rfl, ?_⟩
        refine ⟨_, _, rfl, rfl, ?_⟩
        have j0 : ((i : Nat) : Int) % 64 = ((i % 64 : Nat) : Int) := by omega
        have jl : i % 64 < ds.length := by rw [ok2.1]; omega
        refine ⟨_, rfl, _, rfl, _, _, rfl, rfl, (by show (0 : Int) < 64; decide), _, _, _, _, rfl, rfl, SqL.of h2', at_of j0 (getI jl), _, _, rfl, rfl, .inr ⟨by decide, by decide⟩, _, rfl, _, _, rfl, rfl, _, _, rfl, rfl, (by show (0 : Int) < 2147483647; decide), ?_⟩
        refine ⟨_, rfl, _, rfl, _, _, rfl, rfl, (by show (0 : Int) < 64; decide), _, _, _, i % 64, rfl, rfl, h2', (by rw [j0]; exact ixN_n (by rw [List.length_map]; exact jl)), ?_⟩
        have b0 := Int.emod_nonneg (ds[i % 64] * 48271 + ns[i]) (show (2147483647 : Int) ≠ 0 by decide)
        have b1 := Int.emod_lt_of_pos (ds[i % 64] * 48271 + ns[i]) (show (0 : Int) < 2147483647 by decide)
        exact ⟨_, _, ds.set (i % 64) ((ds[i % 64] * 48271 + ns[i]) % 2147483647), rfl, same_upd (same_upd s2 (s2.free hT)) hD, by rw [upd_same, List.map_set], ok2.set _ b0 (by omega)⟩
      · rintro σ H2 ⟨v1, v3, ds, rfl, s2, h2, ok2⟩
        refine ⟨1, 64, rfl, ⟨by decide, by decide, by decide, by decide⟩, for_range (lo := 1) (n := 63) (fun _ σ H3 => ∃ (v1 v3 : Option V) (ds : List Int), σ = [some (.ref a), v1, some (.ref D), v3] ∧ Same H H3 ∧ H3 D = some (.lst (ds.map V.int)) ∧ CellsOk ds) ⟨_, _, ds, rfl, s2, h2, ok2⟩ ?_ ?_⟩
        · rintro i σ H3 hi ⟨v1, v3, es, rfl, s3, h3, ok3⟩
          have j0 : (1 + ((i : Nat) : Int)) = ((i + 1 : Nat) : Int) := by omega
          have j1 : (1 + ((i : Nat) : Int)) - 1 = ((i : Nat) : Int) := by omega
          have jl : i + 1 < es.length := by rw [ok3.1]; omega
          have jk : i < es.length := by omega
          refine ⟨_, rfl, _, rfl, _, _, _, _, rfl, rfl, SqL.of h3, at_of j0 (getI jl), _, rfl, _, rfl, _, _, rfl, rfl, _, _, _, _, rfl, rfl, SqL.of h3, at_of j1 (getI jk), _, _, rfl, rfl, .inr ⟨by decide, by decide⟩, _, _, rfl, rfl, _, _, rfl, rfl, (by show (0 : Int) < 2147483647; decide), ?_⟩
          refine ⟨_, rfl, _, rfl, _, _, _, i + 1, rfl, rfl, h3, (by rw [j0]; exact ixN_n (by rw [List.length_map]; exact jl)), ?_⟩
          have b0 := Int.emod_nonneg (es[i + 1] + es[i] * 16807) (show (2147483647 : Int) ≠ 0 by decide)
          have b1 := Int.emod_lt_of_pos (es[i + 1] + es[i] * 16807) (show (0 : Int) < 2147483647 by decide)
          exact ⟨_, _, es.set (i + 1) ((es[i + 1] + es[i] * 16807) % 2147483647), rfl, same_upd s3 hD, by rw [upd_same, List.map_set], ok3.set _ b0 (by omega)⟩
        · rintro σ H3 ⟨v1, v3, es, rfl, s3, h3, ok3⟩
          exact ⟨_, rfl, k _ _ _ s3 hD h3 ok3⟩
end
end K3

namespace K3
open PySem L2
section
variable {P : Program} {w : World} {K : PySem.W.Frag} {mg : Str → Option Value} {base : Heap}
def spBegun (K : PySem.W.Frag) : Sp := fun vs H Q _ => ∃ (a : Addr) (ns : List Int), vs = [.ref a] ∧ SqL K H a (ns.map V.int) ∧ ns.length ≤ 63 ∧
  ∀ H' m lc lg, Same H H' → H m = none → H lg = none → MA m lc lg 0 H' → Q (.ref m) H'
theorem scBegun : FnScope ["_law_script", "_law_m", "_law_cell"] ["_law_script"] (defScope sBegun) := ⟨rfl, rfl, rfl, by decide +kernel, rfl, by decide +kernel, by decide +kernel⟩
theorem ok_begun {f fM : Addr} {fd fdM : FuncData} (F : Fun K "_law_begun" "_law_begun" sBegun f fd) (FM : Fun K "_law_folded" "_law_folded" sFolded fM fdM) (bM : Binds K fdM ["_law_script"] []) (gM : mg "_law_folded" = some (.ref fM)) (gR : mg "range" = none) (gE : mg "enumerate" = none) :
    FnOk P w K mg base CX0 2 f fd ["_law_script"] (spBegun K) := by
  have GM : FnOk P w K mg base CX0 1 fM fdM ["_law_script"] (spFolded K) := ok_folded FM gR gE
  refine F.ok scBegun (fun vs H Q E h => ?_) (fun cdv A outer s H vs Q E hr h => ?_)
  · obtain ⟨a, ns, rfl, _⟩ := h
    rfl
  · obtain ⟨a, ns, rfl, hS, hl, k⟩ := h
    have hu := hu_of hr
    refine ⟨_, pss_cons (ps_set (i := 1) scBegun.nd rfl (Or.inl rfl) (pe_disp (pps_cons pe_str (pe_call GM hr rfl gM FM.kp bM .nil pass0 (pa_cons (pv 0) pa_nil)) (pps_cons pe_str (pe_lst pa_nil) (pps_cons pe_str pe_int pps_nil))) rfl rfl (by intro q; cases q) (by decide)))
      (pss_cons (ps_dput hu (pv 1) pe_str (pe_lc (own := [("_law_cell", 2)]) (g := gName 2) (tt := tYes) rfl scBegun.nd (pi_list (pv 0))
          (blkOk_by (N := ["_law_script", "_law_m", "_law_cell"]) (sc := defScope sBegun) (by decide +kernel)) (fun _ _ _ _ _ => pg_name (i := 2) scBegun.nd rfl (Or.inl rfl)) (fun _ _ _ _ _ => pts_nil)
          (fun _ _ _ _ _ => pe_ifExp (pt_cmpR op_ge (pv 2) (pe_op op_pow pe_int pe_int) (nomark _)) (pv 2) pe_int)) rfl)
      (pss_one (ps_ret (pv 1)))), ?_⟩
    intro m hm
    refine ⟨_, rfl, a, ns, rfl, (same_upd (Same.refl H) hm).seq hS, fun H1 lc cs s1 nlc hc okc => ?_⟩
    refine ⟨by decide, fun l0 nl0 => ?_⟩
    have s0 : Same H H1 := (same_upd (Same.refl H) hm).trans s1
    have nm1 : lc ≠ m := fun e => by
      rw [e, upd_same] at nlc
      cases nlc
    have hm1 : H1 m = some (.dK []) := s1 _ _ upd_same
    have e1 : (upd H1 l0 (.lst [])) m = some (.dK []) := by rw [upd_ne (ne_of_none hm1 nl0)]; exact hm1
    have e2 : (upd H1 l0 (.lst [])) lc = some (.lst (cs.map V.int)) := by rw [upd_ne (ne_of_none hc nl0)]; exact hc
    refine ⟨e1, mD lc l0 0, rfl, (by show 3 ≤ 15; decide), ?_⟩
    have em : mergeK [] (mD lc l0 0) = mD lc l0 0 := by
      simp only [mergeK, mD, List.foldl_cons, List.foldl_nil, putK, List.any_nil, List.any_cons, List.nil_append, List.cons_append, Bool.false_eq_true, if_false, decide_eq_false cg_, decide_eq_false ce_, decide_eq_false ge_, Bool.or_false]
    rw [em]
    generalize eH2 : upd (upd H1 l0 (.lst [])) m (.dK (mD lc l0 0)) = H2
    have hm2 : H2 m = some (.dK (mD lc l0 0)) := by rw [← eH2, upd_same]
    have hc2 : H2 lc = some (.lst (cs.map V.int)) := by rw [← eH2, upd_ne nm1]; exact e2
    have s2 : Same H H2 := fun b o e => by
      rw [← eH2, upd_ne (ne_of_none e hm)]
      exact same_upd s0 (s0.free nl0) b o e
    refine ⟨_, rfl, a, rfl, ⟨_, s2.seq hS⟩, fun D hD => lc_list (xs := ns.map V.int) (K := K) (a := a) (fun i H' => ∃ gs : List Int, Same H H' ∧ H' m = some (.dK (mD lc l0 0)) ∧ H' lc = some (.lst (cs.map V.int)) ∧ H' D = some (.lst (gs.map V.int)) ∧ gs.length = i) ⟨[], same_upd s2 (s2.free hD), by rw [upd_ne (ne_of_none hm2 hD)]; exact hm2, by rw [upd_ne (ne_of_none hc2 hD)]; exact hc2, upd_same, rfl⟩ (fun i H' _ ⟨_, s', _⟩ => s'.seq hS) ?_ ?_⟩
    · rintro i x H' hx ⟨gs, s', h1, h2, h3, h4⟩
      have hi : i < ns.length := by
        have q := (List.getElem?_eq_some_iff.mp hx).1
        rw [List.length_map] at q
        exact q
      rw [getI hi] at hx
      cases hx
      have go : ∀ z : Int, ∃ acc, H' D = some (.lst acc) ∧ acc.length < sizeLine ∧ ∃ gs : List Int, Same H (upd H' D (.lst (acc ++ [V.int z]))) ∧ (upd H' D (.lst (acc ++ [V.int z]))) m = some (.dK (mD lc l0 0)) ∧ (upd H' D (.lst (acc ++ [V.int z]))) lc = some (.lst (cs.map V.int)) ∧ (upd H' D (.lst (acc ++ [V.int z]))) D = some (.lst (gs.map V.int)) ∧ gs.length = i + 1 := fun z => by
        refine ⟨_, h3, ?_, gs ++ [z], same_upd s' (s2.free hD), ?_, ?_, ?_, ?_⟩
        · rw [List.length_map, h4]
          exact Nat.lt_of_lt_of_le hi (Nat.le_trans hl (by decide))
        · rw [upd_ne (ne_of_none hm2 hD)]; exact h1
        · rw [upd_ne (ne_of_none hc2 hD)]; exact h2
        · rw [upd_same, List.map_append]; rfl
        · rw [List.length_append, h4]; rfl
      refine ⟨rfl, ?_⟩
      dsimp only [tYes]
      rw [if_pos rfl]
      refine ⟨_, rfl, _, _, rfl, rfl, ⟨by decide, by decide, by decide⟩, _, _, rfl, rfl, _, rfl, ?_⟩
      refine ite2 (fun _ => ⟨_, rfl, go _⟩) (fun _ => go _)
    · rintro H' ⟨gs, s', h1, h2, h3, h4⟩
      refine ⟨_, rfl, m, _, rfl, DPut.k (k := Sum.inr "great") h1 (by show 3 < sizeLine; decide), ?_⟩
      rw [mD_putg]
      have nDm : D ≠ m := (ne_of_none hm2 hD).symm
      have nDc : D ≠ lc := (ne_of_none hc2 hD).symm
      refine ⟨_, rfl, k _ m lc D (fun b o e => ?_) hm (s2.free hD) ⟨upd_same, nDc.symm, ⟨cs, by rw [upd_ne nm1]; exact h2, okc.1, okc.2⟩, ⟨gs, by rw [upd_ne nDm]; exact h3, ?_⟩, by decide⟩⟩
      · rw [upd_ne (ne_of_none e hm)]
        exact s' b o e
      · rw [h4, List.length_map]
        exact hl
end
end K3

namespace K3
open PySem L2
/-! ### names -/
def LET : Str := "ABCDEFGHIJKLMNOPQRSTUVWXYZabcdefghijklmnopqrstuvwxyz"
def SIG : Str := "ABCDEFGHIJKLMNOPQRSTUVWXYZabcdefghijklmnopqrstuvwxyz0123456789_"
def LLET : Str := "abcdefghijklmnopqrstuvwxyzABCDEFGHIJKLMNOPQRSTUVWXYZ"
def DIG : Str := "0123456789_"
def inS (z : Str) (c : Nat) : Bool := decide (c ∈ z.cps.toList)
def nameS (z : Str) : Bool := decide (1 ≤ z.length) && decide (z.length ≤ 20) && (match z.cps.toList with | [] => false | c :: _ => inS LET c) && z.cps.toList.all (inS SIG)
def nameV : V → Bool
  | .str z => nameS z
  | _ => false
def NotStr (K : PySem.W.Frag) (H : Hp) (v : V) : Prop := (∀ z, v ≠ .str z) ∧ (∀ a, v = .ref a → ∃ o, H a = some o) ∧ ∃ t, TyX K H v t ∧ PySem.W.kitOne K t (.type "str") = some false
def Val (K : PySem.W.Frag) (H : Hp) (v : V) : Prop := (∃ z, v = .str z ∧ z.length ≤ 1000 ∧ PyData.strOk z = true) ∨ NotStr K H v
theorem NotStr.nameV {K : PySem.W.Frag} {H : Hp} {v : V} (h : NotStr K H v) : nameV v = false := by
  cases v with
  | str z => exact absurd rfl (h.1 z)
  | _ => rfl
section
variable {P : Program} {w : World} {K : PySem.W.Frag} {mg : Str → Option Value} {base : Heap}
def spName (K : PySem.W.Frag) : Sp := fun vs H Q _ => ∃ v, vs = [v] ∧ Val K H v ∧ ∀ H', Same H H' → Q (.bl (nameV v)) H'
structure TxtN (mg : Str → Option Value) : Prop where
  isi : mg "isinstance" = none
  str : mg "str" = none
  len : mg "len" = none
  all : mg "all" = none
  mx : ∃ t, mg "MAX_NAME" = some (.int 20 t)
  lt : ∃ t, mg "LETTERS" = some (.str LET t)
  sg : ∃ t, mg "NAME_SIGNS" = some (.str SIG t)
theorem scName : FnScope ["value", "sign"] ["value"] (defScope sName) := ⟨rfl, rfl, rfl, by decide +kernel, rfl, by decide +kernel, by decide +kernel⟩
theorem ok_name {f : Addr} {fd : FuncData} (F : Fun K "is_name" "is_name" sName f fd) (T : TxtN mg) : FnOk P w K mg base CX0 1 f fd ["value"] (spName K) := by
  refine F.ok scName (fun vs H Q E h => ?_) (fun cdv A outer s H vs Q E hr h => ?_)
  · obtain ⟨v, rfl, _⟩ := h
    rfl
  · obtain ⟨v, rfl, hv, k⟩ := h
    have hu := hu_of hr
    obtain ⟨tm, mx⟩ := T.mx
    obtain ⟨tl, lt⟩ := T.lt
    obtain ⟨tg, sg⟩ := T.sg
    refine ⟨_, pss_cons (ps_if (PW.pt (pw_or (pt_not (pt_val (pe_callB call_isi (by rfl) T.isi PyProof.Rows.boot_isinstance (pa_cons (pv 0) (pa_cons (pe_bltn (v := .ty "str") rfl T.str PyProof.Rows.boot_str rfl) pa_nil)))))
          (pw_or1 (pt_not (pt_chain op_le op_le pe_int (pe_callB call_len (by rfl) T.len PySem.boot_len (pa_cons (pv 0) pa_nil)) (pe_glob (v := .int 20) rfl mx ⟨_, rfl⟩))))))
        (pss_one (ps_ret pe_bl)) pss_nil)
      (pss_one (ps_ret (pe_and (pe_cmpR op_in_sign (pe_ix ix_str (pv 0) pe_int (fun _ _ => rfl)) (pe_glob (v := .str LET) rfl lt ⟨_, rfl⟩) (by rfl))
        (pe_one (pe_callB (cr_all rfl) (by rfl) T.all (show bootBuiltins "all" = some (.builtin "all") by decide +kernel) (pa_cons (pe_lc (own := [("sign", 1)]) (g := gName 1) (tt := tYes) rfl scName.nd (pi_str (pv 0)) (blkOk_by (N := ["value", "sign"]) (sc := defScope sName) (by decide +kernel))
          (fun _ _ _ _ _ => pg_name (i := 1) scName.nd rfl (Or.inl rfl)) (fun _ _ _ _ _ => pts_nil) (fun _ _ _ _ _ => pe_cmpR op_in_sign (pv 1) (pe_glob (v := .str SIG) rfl sg ⟨_, rfl⟩) (by rfl))) pa_nil)))))), ?_⟩
    rcases hv with ⟨z, rfl, hz, ho⟩ | hv
    · refine ⟨_, rfl, _, _, _, _, true, rfl, .ty "str", .base (.str z), kit_ty (by decide +kernel), _, rfl, ?_⟩
      refine iteF ?_
      -- 1 <= len(value) <= MAX_NAME
      have hz' : z.length ≤ sizeLine := Nat.le_trans hz (by decide)
      refine ⟨_, rfl, _, z.length, rfl, ⟨hz', rfl⟩, _, _, rfl, rfl, _, rfl, ?_⟩
      have eL : z.length = z.cps.toList.length := by simp [Str.length]
      have no : nameS z = false → Q (.bl false) H := fun e => by
        have q := k H (Same.refl H)
        change Q (V.bl (nameS z)) H at q
        rw [e] at q
        exact q
      refine ite2 (fun h1 => ?_) (fun h1 => ?_)
      · have h1' : 1 ≤ z.length := by have := of_decide_eq_true h1; omega
        refine ⟨_, _, rfl, rfl, _, rfl, ?_⟩
        by_cases h2 : ((z.length : Nat) : Int) ≤ 20
        · rw [decide_eq_true h2]
          refine iteF ?_
          have h2' : z.length ≤ 20 := by omega
          obtain ⟨c, l, ec⟩ : ∃ c l, z.cps.toList = c :: l := by
            cases q : z.cps.toList with
            | nil => rw [eL, q] at h1'; cases h1'
            | cons c l => exact ⟨c, l, rfl⟩
          have en : nameS z = (inS LET c && z.cps.toList.all (inS SIG)) := by
            unfold nameS
            rw [decide_eq_true h1', decide_eq_true h2', ec]
            rfl
          refine ⟨_, rfl, z, 0, c, rfl, rfl, hz', (atI_nat (j := 0) (by rw [ec]; rfl) : atI z.cps.toList ((0 : Nat) : Int) = some c), c, LET, rfl, rfl, _, rfl, ?_⟩
          refine ite2 (fun h3 => ?_) (fun h3 => ?_)
          · refine ⟨_, rfl, z, rfl, fun D hD => lc_it walk_str (fun i H' => Same H H' ∧ H' D = some (.lst (((z.cps.toList.take i).map (inS SIG)).map V.bl))) ⟨same_upd (Same.refl H) hD, by rw [upd_same]; rfl⟩ (fun _ _ _ _ => True.intro) ?_ ?_⟩
            · rintro i x H1 H2 hi ⟨s1, e1⟩ ⟨rfl, y, hy, rfl⟩
              have hy' : z.cps.toList[i]? = some y := by simpa using hy
              refine ⟨rfl, ?_⟩
              dsimp only [tYes]
              rw [if_pos rfl]
              refine ⟨_, rfl, y, SIG, rfl, rfl, _, e1, ?_, same_upd s1 hD, ?_⟩
              · rw [List.length_map, List.length_map]
                exact Nat.lt_of_le_of_lt (List.length_take_le _ _) (by
                  have : i < z.length := by rw [eL]; simpa using hi
                  exact Nat.lt_of_lt_of_le this hz')
              · rw [upd_same, List.take_add_one, hy']
                simp [inS]
            · rintro H1 ⟨s1, e1⟩
              rw [show z.cps.size = z.cps.toList.length by simp, List.take_length] at e1
              refine ⟨D, _, rfl, SqL.of e1, ?_⟩
              have q := k H1 s1
              change Q (V.bl (nameS z)) H1 at q
              rw [en, show inS LET c = true from h3] at q
              have e3 : ∀ l : List Nat, (l.map (inS SIG)).all id = l.all (inS SIG) := fun l => by
                induction l with
                | nil => rfl
                | cons a l ih => simp [ih]
              rw [e3]
              exact q
          · refine no ?_
            rw [en, show inS LET c = false from Bool.not_eq_true _ ▸ h3]
            rfl
        · rw [decide_eq_false h2]
          refine iteT ?_
          refine no ?_
          unfold nameS
          rw [decide_eq_false (show ¬ z.length ≤ 20 by omega)]
          simp
      · refine ⟨_, rfl, ?_⟩
        have e0 : z.length = 0 := by
          have : ¬ (1 : Int) ≤ z.length := fun q => h1 (decide_eq_true q)
          omega
        refine iteT ?_
        refine no ?_
        unfold nameS
        rw [e0]
        rfl
    · obtain ⟨t, ht, hk⟩ := hv.2.2
      refine ⟨_, rfl, _, _, _, _, false, rfl, .ty "str", ht, hk, _, rfl, ?_⟩
      refine iteT (iteT ?_)
      have q := k H (Same.refl H)
      rw [hv.nameV] at q
      exact q
end
end K3

namespace K3
open PySem L2
section
variable {P : Program} {w : World} {K : PySem.W.Frag} {mg : Str → Option Value} {base : Heap}
/-- what the written part says of an own exception class with one field, whose __init__ says super().__init__('..') -/
structure ErrC (P : Program) (K : PySem.W.Frag) (mg : Str → Option Value) (C fI cda cc : Addr) (fld qual : Str) (st : Stmt) : Prop where
  ox : OexC K C
  fi : PySem.W.findIn K (.ref C) "__init__" = some (some (.ref fI))
  ti : PySem.W.typeIn K (.ref fI) = some (.type "function")
  fn : ∃ (oc : Value) (od : Option Addr) (kV doc pm : Value) (an : Option Addr) (ct : Value) (osl : Array (Option Value)),
    K.lookup fI = some ⟨oc, od, .func (PySem.W.ksFn "__init__" qual (defArgs st) (defBody st) (defScope st) .none kV doc pm an (.ref cda) ct cc), osl⟩
  cd : PySem.W.codeIn K (.ref cda) qual = true
  cod : ∃ (ccl : Value) (cdd : Option Addr) (vs : Array Value) (ccs : Array (Option Value)) (file : Str) (tf : Tok), K.lookup cda = some ⟨ccl, cdd, .fields vs, ccs⟩ ∧ vs[2]? = some (.str file tf) ∧ ((P.main.file : Str) == file) = true
  cel : ∃ (cl : Value) (cld : Option Addr) (csl : Array (Option Value)), K.lookup cc = some ⟨cl, cld, .cell (some (.ref C)), csl⟩
  mr : PySem.W.mroIn K C (.ref C) = some true
  al : ∀ cd, PySem.W.clsIn K C = some cd → PySem.W.alongIn K "__init__" ((cd.mro.dropWhile (· != .ref C)).drop 1) = some (some (.builtin "ValueError.__init__"))
  sup : PySem.W.nsIn K mainGlobals "super" = some none
  opq : PySem.W.nsIn K cStatics "thirdparty.any" = some none
  ve : PySem.W.subIn K (.ref C) (.type "ValueError") = some true
  ei : PySem.W.excInitIn K C [.type "ValueError", .type "Exception", .type "BaseException", .type "object"] "ValueError.__new__" = true
  nf : PySem.W.findIn K (.ref C) fld = some none
  top : (P.main.scope.names.lookup ("super" : Str)).isSome = false
abbrev scErr : Scope := { kind := .function, names := [("self", .local), ("part", .local), ("__class__", .free), ("super", .globalImplicit)], isGenerator := false, isCoroutine := false }
def spErr (C : Addr) (fld : Str) : Sp := fun vs H Q _ => ∃ (a : Addr) (y : V), vs = [.ref a, y] ∧ H a = some (exo a C none) ∧
  ∀ dx, H dx = none → dx ≠ a → Q .non (upd (upd H dx (exd dx [(fld, y)])) a (exo a C (some dx)))
open PySem.W PySem.Calls in
/-- the __init__ of such a class, as the text has it: super().__init__('..'); self.fld = part -/
theorem ok_errInit {C fI cda cc : Addr} (T : ErrC P K mg C fI cda cc "part" "InvalidTree.__init__" sErrInit)
    {kV doc pm ct oc : Value} {od an : Option Addr} {osl : Array (Option Value)}
    (lk : K.lookup fI = some ⟨oc, od, .func (PySem.W.ksFn "__init__" "InvalidTree.__init__" (defArgs sErrInit) (defBody sErrInit) (defScope sErrInit) .none kV doc pm an (.ref cda) ct cc), osl⟩) :
    FnOk P w K mg base (L2.CX P w) 1 fI (PySem.W.ksFn "__init__" "InvalidTree.__init__" (defArgs sErrInit) (defBody sErrInit) (defScope sErrInit) .none kV doc pm an (.ref cda) ct cc) ["self", "part"] (spErr C "part") := by
  refine ⟨fun vs H Q E h => ?_, fun A outer s H args us vs Q E hr e0 hbd r h => ?_⟩
  · obtain ⟨a, y, rfl, _⟩ := h
    rfl
  · obtain ⟨a, y, rfl, ha, k⟩ := h
    obtain ⟨u0, u, rfl, r1, r2⟩ := vals2 r
    obtain rfl : u0 = Value.ref a := r1
    have KX : K.In s.heap := e0.mod.kin.keeps fun b o e => (e0.bs b o e).1
    have lim : s.heap.NoLimit := e0.mod.nolimit.keeps fun b o e => (e0.bs b o e).1
    obtain ⟨t1, hx⟩ := exo_at e0.hok ha
    obtain ⟨nm, q, N, bs, bm, sn, sub, ab, col, dd, k0, k1, k2, k3, k5, hC, hbm⟩ := T.ox.cls
    have hcl : clsIn K C = some { name := nm, bases := bs, mro := .ref C :: bm, ns := N, qualname := q, hasDict := true, slotNames := sn, subclasses := sub, abstract := ab, collection := col, hasDel := false } := by unfold clsIn; rw [hC] <;> rfl
    have hal := T.al _ hcl
    obtain ⟨ccl, cdd, cvs, ccs, file, tf, hcda, hvs, hfile⟩ := T.cod
    obtain ⟨cl, cld, csl, hcel⟩ := T.cel
    refine ks_codeAny_call_defAt (fd := ksFn "__init__" "InvalidTree.__init__" (defArgs sErrInit) (defBody sErrInit) (defScope sErrInit) .none kV doc pm an (.ref cda) ct cc) (body := defBody sErrInit) hr.depth (KX _ _ lk) rfl lim (codeRec_of KX T.cd) rfl hbd (show ∀ x ∈ (defScope sErrInit).names, x.2 ≠ .cell by decide +kernel) ?_ (fun h0 hns hk => ?_)
    · intro z hz
      rcases List.mem_cons.mp hz with e | hz
      · rw [e]; rfl
      · rcases List.mem_cons.mp hz with e | hz
        · rw [e]; rfl
        · cases hz
    · generalize eL : s.heap.objs.size = L at hns
      rw [show (callEnv (ksFn "__init__" "InvalidTree.__init__" (defArgs sErrInit) (defBody sErrInit) (defScope sErrInit) .none kV doc pm an (.ref cda) ct cc) L fI) = ksEnv "InvalidTree.__init__" (defScope sErrInit) L fI (.ref cda) cc from rfl]
      have up : ∀ {b o}, K.lookup b = some o → h0.get? b = some o := fun {b o} e => hk b o (KX b o e)
      have KX0 : K.In h0 := fun b o e => up e
      have hx0 := hk _ _ hx
      obtain ⟨mb, hmb, hbl⟩ := e0.mod.blt
      have hbk : ∀ b o, base.get? b = some o → h0.get? b = some o := fun b o e => hk b o (e0.bs b o e).1
      refine ks_wpAt_execs_cons (ks_wpAt_Expr_any (ks_wpAt_MethodCall (ks_wpAt_super_base (fd := ksFn "__init__" "InvalidTree.__init__" (defArgs sErrInit) (defBody sErrInit) (defScope sErrInit) .none kV doc pm an (.ref cda) ct cc) rfl rfl (by decide +kernel) rfl (up lk) rfl rfl rfl (up hcda) rfl hvs hfile T.top ?_)))
      refine ks_loadName_global rfl rfl (loadGlobal_builtin (env := ksEnv "InvalidTree.__init__" (defScope sErrInit) L fI (.ref cda) cc) (e0.mod.glob.keeps hbk) (mg_none_of e0.mod.kin e0.mod.glob T.sup) (hmb.keeps hbk) ((hbl _ (by decide +kernel)).trans PyProof.Rows.Boot.«super») ⟨rfl, ?_⟩)
      refine wpAny_loadName_free rfl rfl rfl ⟨_, up hcel, rfl⟩ ?_
      refine wpAny_loadName_local rfl rfl hns rfl ?_
      refine ks_wpAny_isType_cls (up hC) rfl ⟨rfl, ?_⟩
      refine ks_wpAny_call_super (up hC) rfl hx0 rfl (fun c e => by cases e) (looks_mroIn KX0 T.mr) (fun h1 so1 up1 => ?_)
      have KX1 : K.In h1 := fun b o e => up1 _ _ (up e)
      have hI1 : InstAt h1 a { cls := Value.ref C, data := Data.fields #[Value.ref t1, Value.none, Value.none, Value.none, Value.bool false, Value.none] } C none := ⟨up1 _ _ hx0, rfl, rfl, trivial⟩
      refine kxs_getMethod kxs_ValueError so1 (looks_opaque KX1 T.opq) (fun A Q E s k q => wpAny_bind ((looks_clsIn KX1 hcl) A _ E s k (wpAny_pure q))) rfl KX1 hal (hI1.type.andThen (looks_subIn KX1 T.ve)) (ks_ne KX1 hI1 hcl) (by decide +kernel) ?_
      generalize hu : h1.objs.size = z
      have lt1 : ∀ {b o}, h1.get? b = some o → b ≠ z := fun {b o} e q => by
        have w1 := Heap.lt_size e
        rw [q, ← hu] at w1
        exact Nat.lt_irrefl _ w1
      have up2 : ∀ b o, h1.get? b = some o → (h1.push (kxs_mw "ValueError.__init__" a)).get? b = some o := fun b o e => Heap.get?_push_of_some _ e
      have hmw : (h1.push (kxs_mw "ValueError.__init__" a)).get? z = some (kxs_mw "ValueError.__init__" a) := by
        rw [← hu]
        exact Heap.get?_push_size _ rfl
      generalize h1.push (kxs_mw "ValueError.__init__" a) = h2 at up2 hmw
      have all2 : ∀ b o, h0.get? b = some o → h2.get? b = some o := fun b o e => up2 b o (up1 b o e)
      refine kxs_callWith (i := "ValueError.__init__") (u := z) (x := a) (by rfl) (evalArgs_plain ?_)
      refine Calls.spliced_cons ?_
      refine Calls.Constant_str (pos := ⟨7, 25, 7, 39⟩) (k := 0) ?_
      refine Calls.spliced_nil ⟨hmw, ?_⟩
      have hbn : ∀ {b o}, h0.get? b = some o → H b ≠ none ∨ b = L → base.get? b = none := fun {b o} _ q => by
        cases e : base.get? b with
        | none => rfl
        | some v =>
          have w1 := e0.bs b v e
          rcases q with q | q
          · exact absurd w1.2 q
          · have w2 := Heap.lt_size w1.1
            rw [q, ← eL] at w2
            exact absurd w2 (Nat.lt_irrefl _)
      have aL : a ≠ L := fun q => by
        have w2 := Heap.lt_size hx
        rw [q, ← eL] at w2
        exact Nat.lt_irrefl _ w2
      have ba : base.get? a = none := hbn hx0 (.inl (by rw [ha]; exact fun q => nomatch q))
      have bz : base.get? z = none := by
        cases e : base.get? z with
        | none => rfl
        | some v => exact absurd rfl (lt1 (up1 _ _ (hbk _ _ e)))
      obtain ⟨oL, eL1, eL2, hoL, rL⟩ := id hns
      have F2 : PyProof.Rows.Fr base L h2 (fun x => List.lookup x ([("self" : Str), "part"].zip [Value.ref a, u]).reverse) := ⟨⟨oL, eL1, eL2, all2 _ _ hoL, rL⟩, fun b o e => all2 b o (hbk b o e), by rw [← eL]; exact e0.bsz⟩
      have za : z ≠ a := fun q => lt1 (up1 _ _ hx0) q.symm
      have zL : z ≠ L := fun q => lt1 (up1 _ _ hoL) q.symm
      refine kxs_call (t := t1) (dv := none) (c2 := .none) (s := ⟨h2, _, _, _, _⟩) F2 e0.mod.kin (news_at aL ba (all2 _ _ hx0)) F.excBase_ValueError T.ei (List.mem_cons_of_mem _ (mem_rest zL bz hmw za)) (.head rest_ne) (by show 1 ≤ sizeLine; decide) (fun t3 h3 F3 N3 _ => ?_)
      have k3 : ∀ b o, b ≠ L → b ≠ a → h2.get? b = some o → h3.get? b = some o := kept_of_news (fun b o e => all2 b o (hbk b o e)) F3 (fun p hp => N3 p (List.mem_cons_of_mem _ (List.mem_cons_of_mem _ hp)))
      have hx3 : h3.get? a = some ({ cls := .ref C, dict := none, data := .fields #[.ref t3, .none, .none, .none, .bool false, .none] } : Obj) := (N3 _ (List.mem_cons_of_mem _ (List.mem_cons_self ..))).1
      have all3 : ∀ b o, b ≠ a → s.heap.get? b = some o → h3.get? b = some o := fun b o hb e => k3 b o (fun q => by
        have w2 := Heap.lt_size e
        rw [q, ← eL] at w2
        exact Nat.lt_irrefl _ w2) hb (all2 b o (hk b o e))
      have KX3 : K.In h3 := e0.mod.kin.keeps F3.keep
      show wpAt _ _ _ (execs _ _) _ _ _
      refine ks_wpAt_execs_cons (ks_wpAt_Assign_Attr (wpAt_of_wpAny ?_))
      refine wpAny_Name (wpAny_loadName_local rfl rfl F3.ns rfl ?_) (by decide)
      refine wpAny_Name (wpAny_loadName_local rfl rfl F3.ns rfl ?_) (by decide)
      refine set_plain KX3 (ox := { cls := .ref C, dict := none, data := .fields #[.ref t3, .none, .none, .none, .bool false, .none] }) (od := none) ⟨hx3, rfl, rfl, trivial⟩ T.ox.sa ?_
      refine HandSPX.exc_osa KX3 hx3 hcl (show HandSPX.refsVE (.ref C :: bm) = true from hbm) rfl T.nf (fun hF tkF dx kF dn dne hxF hnF => ?_)
      have Ldx : s.heap.objs.size ≤ dx := by
        obtain ⟨o3, _, _, e3, _⟩ := F3.ns
        have w2 := Heap.lt_size e3
        rw [eL]
        exact Nat.le_trans (Nat.le_of_lt w2) dn
      have Hdx : H dx = none := e0.hok.fresh Ldx
      have keepF : ∀ b o, b ≠ a → s.heap.get? b = some o → hF.get? b = some o := fun b o nb e => kF b o nb (all3 b o nb e)
      have na : ∀ {b : Addr}, H b = none → b ≠ a := fun {b} n q => by
        rw [q, ha] at n
        cases n
      have nd : ∀ {b : Addr} {o : Obj}, s.heap.get? b = some o → b ≠ dx := fun {b o} e q => by
        have w2 := Heap.lt_size e
        rw [q] at w2
        exact absurd (Nat.lt_of_lt_of_le w2 Ldx) (Nat.lt_irrefl _)
      have same : ∀ b o, H b = some o → o ≠ exo a C none → (upd (upd H dx (exd dx [("part", y)])) a (exo a C (some dx))) b = some o := fun b o e ne => by
        rw [upd_ne (fun q => ne (by rw [q, ha] at e; exact (Option.some.inj e).symm)), upd_ne (ne_of_none e Hdx)]
        exact e
      have un : Un (frs outer) [] H (upd (upd H dx (exd dx [("part", y)])) a (exo a C (some dx))) s.heap hF := {
        keep := fun b o e n _ _ => keepF b o (na n) e
        slot := fun b o e n _ _ => ⟨o.slots, keepF b o (na n) e⟩
        free := fun b o e n _ => by
          rw [upd_ne (na n), upd_ne (nd e)]
          exact n
        there := fun b o e _ => by
          by_cases q : b = a
          · rw [q]
            exact ⟨_, hxF⟩
          · exact ⟨o, keepF b o q e⟩
        tups := fun b xs e => same b _ e (fun q => exo_tup q.symm)
        frzs := fun b o v e => same b _ e (fun q => exo_frz q.symm)
        tbls := fun b ps e => ⟨#[], by rw [same b _ e (fun q => exo_tbl q.symm)]; simp⟩ }
      have okF : HOk P w (upd (upd H dx (exd dx [("part", y)])) a (exo a C (some dx))) hF := fun b o e => by
        by_cases q : b = a
        · subst q
          rw [upd_same] at e
          cases e
          exact exo_ok hxF
        · rw [upd_ne q] at e
          by_cases q2 : b = dx
          · subst q2
            rw [upd_same] at e
            cases e
            exact exd_ok hnF (relO_put (fs := []) r2 fun g => True.intro)
          · rw [upd_ne q2] at e
            exact (e0.hok b o e).stay (fun c v hc z => keepF c v (by
                rcases hc with hc | hc
                · rw [hc]
                  exact q
                · exact at_ne ha hc exo_own) z) (fun c hc => same c _ hc (fun q => exo_own q.symm)) (fun c xs hc => same c _ hc (fun q => exo_tup q.symm))
      show wpAt _ _ _ (execs [] _) _ _ _
      refine wpAt_of_wpAny (wpAny_pure ?_)
      exact ⟨.non, _, rfl, e0.bare, un, okF, rfl, k dx Hdx dne⟩
end
end K3

namespace K3
open PySem L2
/-- at a: a caught exception of the class cls with its dict at d -/
def ExK (cls : Value) (d : Option Addr) (a : Addr) : HO := .ext fun h => ∃ (oe : Obj) (vs : Array Value), h.get? a = some oe ∧ Zc cls d oe ∧ oe.data = .fields vs
/-- what the body's exceptions are wished to do: caught by c, its object tracked behind the suite -/
def wKeep (K : PySem.W.Frag) (c : Value) (i j n : Nat) (D : Ends) : WX := fun cls d σ H =>
  PySem.W.exmOne K cls c = some true ∧ ∀ a, H a = none → σ.length = n → D.nx (((σ.set i (some (.ref a))).set j (some (.ref a))).set i none) (upd H a (ExK cls d a))
section
variable {X : Cx} {pins : List (Addr × Obj)} {σ : L2.St} {H : Hp} {s : Shared}
/-- an object that was not there at the entry, pinned till now, is tracked from now on -/
theorem Inv.takeUp {a : Addr} {oe : Obj} {vs : Array Value} {cls : Value} {d : Option Addr} (I : L2.Inv X pins σ H s) (ha : s.heap.get? a = some oe) (hz : Zc cls d oe) (hd : oe.data = .fields vs) (na : H a = none) (n0 : X.s_0.heap.get? a = none)
    (nL : a ≠ X.env.locals) (nC : ∀ x c, X.env.cells.lookup x = some c → c ≠ a) (nP : ∀ p ∈ X.pn ++ pins, p.1 ≠ a) : L2.Inv X pins σ (upd H a (ExK cls d a)) s := by
  have ne : ∀ b o, X.s_0.heap.get? b = some o → b ≠ a := fun b o e z => by
    rw [z, n0] at e
    cases e
  refine ⟨I.ok, I.os, I.bare, ⟨I.base.keep, I.base.slot, fun b o e n x => ?_, I.base.there, fun b xs e => ?_, fun b o u e => ?_, fun b ps e => ?_⟩, I.loc, I.cell, ?_, fun x c e => ?_, fun p hp => ?_, fun b u e => ?_, I.len⟩
  · rw [upd_ne (ne b o e)]
    exact I.base.free b o e n x
  · have q := I.base.tups b xs e
    rw [upd_ne (ne_of_none q na)]
    exact q
  · have q := I.base.frzs b o u e
    rw [upd_ne (ne_of_none q na)]
    exact q
  · obtain ⟨m, q⟩ := I.base.tbls b ps e
    exact ⟨m, by rw [upd_ne (ne_of_none q na)]; exact q⟩
  · rw [upd_ne nL.symm]
    exact I.free
  · rw [upd_ne (nC x c e)]
    exact I.freeC x c e
  · obtain ⟨q1, q2, q3⟩ := I.pin p hp
    exact ⟨q1, by rw [upd_ne (nP p hp)]; exact q2, q3⟩
  · by_cases q : b = a
    · subst q
      rw [upd_same] at e
      cases e
      exact ⟨⟨oe, vs, ha, hz, hd⟩, ⟨oe, ha⟩, fun h1 h2 ⟨o, v, w1, w2⟩ k => ⟨o, v, k o w1, w2⟩⟩
    · rw [upd_ne q] at e
      exact (I.hok b u e).stay (fun _ _ _ w => w) (fun c w => by rw [upd_ne (ne_of_none w na)]; exact w) fun c xs w => by rw [upd_ne (ne_of_none w na)]; exact w
end
section
variable {X : Cx} {x n : Str} {c : Value} {i j : Nat} {body : List Stmt} {np q1 q2 q3 pos pos' : Pos} {m : Str} {tb : WX → TS}
/-- try: body / except x as n: m = n -/
theorem ps_try_keep (hs : X.stack = X.env :: X.outer) (hf : X.env.frame = some X.env.locals) (hex : X.ex = []) (hN : X.N.Nodup) (hi : X.N[i]? = some n) (hj : X.N[j]? = some m) (hln : X.env.kindOf n = some .local) (hlm : X.env.kindOf m = some .local)
    (hij : i ≠ j) (hmb : X.fn m = true ∨ X.env.scope.names.lookup m = some .local) (hc : Names X x c)
    (hb : ∀ (W : WX) (pn : List (Addr × Obj)) (xe : Value → Shared → Prop), Takes (X.tr pn xe) W → PassesOwn (model X.prog X.w) X.A X.env xe → PSs (X.tr pn xe) body (tb W))
    (hd1 : (n == ("__debug__" : Str)) = false) (hd2 : (n == ("__classdict__" : Str)) = false) (hsw : swapsWith (.Name n q2) (some (.Name m q1)) q3.line X.env = pure false) :
    PS X (.Try body [.ExceptHandler (some (.Name x np)) (some n) [.Assign [.Name m q1] (.Name n q2) q3] pos'] [] [] pos) (fun D σ H => tb (wKeep X.K c i j X.N.length D) D σ H) := by
  refine ⟨fun pins s σ H D I h => ?_⟩
  have okX := I.ok
  have frX : X.A.frames = some (X.env :: X.outer) := by
    rw [okX.frames, hs]
  let clause : ExceptHandler := .ExceptHandler (some (.Name x np)) (some n) [.Assign [.Name m q1] (.Name n q2) q3] pos'
  refine wpAny_Try_except ?_
  refine wpAny_mono ((hb (wKeep X.K c i j X.N.length D) (X.pn ++ pins) (fun e s₁ => wpAny (model X.prog X.w) X.A (noteFrame e X.env) (fun _ s₂ => wpAny (model X.prog X.w) X.A (setFlight e none) (fun _ s₃ => wpAny (model X.prog X.w) X.A (handleBy e X.env [clause]) (SP X pins D) X.xe s₃) X.xe s₂) X.xe s₁)
    (fun u s' air => ?caught) PassesOwn.looking).run [] s σ H D (I.toTry _) h) (fun f s1 hsp => ?thru) (fun e s1 he => he)
  case thru =>
    cases f with
    | next =>
      obtain ⟨σ6, H6, S6, q6⟩ := hsp
      exact wpAny_execs_nil ⟨_, _, S6.ofTry okX, q6⟩
    | brk =>
      obtain ⟨σ6, H6, S6, q6⟩ := hsp
      exact ⟨_, _, S6.ofTry okX, q6⟩
    | cont =>
      obtain ⟨σ6, H6, S6, q6⟩ := hsp
      exact ⟨_, _, S6.ofTry okX, q6⟩
    | ret u =>
      obtain ⟨v6, σ6, H6, S6, r6, q6⟩ := hsp
      exact ⟨_, _, _, S6.ofTry okX, r6, q6⟩
  case caught =>
    obtain ⟨a, B, sI, pins1, σ1, H1, cls, d, rfl, J0, nb, up, sky, na, os, ag, hex1, hnx⟩ := air
    have J : L2.Inv X pins σ1 H1 sI := J0.ofTry okX
    rw [hs] at sky
    show wpAny (model X.prog X.w) X.A (noteFrame (.ref a) X.env) _ _ _
    refine Sky.land Zc.steady frX hf sky fun h3 fl3 up3 => ?_
    have J3 : L2.Inv X pins σ1 H1 { s' with heap := h3 } := J.landed nb fl3.1 (up.trans up3) os ag
    obtain ⟨oe3, vs3, he3, hz3, hd3⟩ := fl3.there
    have nfr : a ∉ frs (X.env :: X.outer) := fun hm => by
      obtain ⟨_, o1, e1, hnf⟩ := fl3.2.2.1.mem hm
      rw [he3] at e1
      cases e1
      exact hnf _ hd3
    have nL : a ≠ X.env.locals := fun z => nfr (List.mem_filterMap.mpr ⟨X.env, List.mem_cons_self, by rw [hf, z]⟩)
    have nF : a ∉ X.fs := fun hm => by
      obtain ⟨e1, he1, w1⟩ := List.mem_filterMap.mp hm
      exact nfr (List.mem_filterMap.mpr ⟨e1, List.mem_cons_of_mem _ he1, w1⟩)
    have nI : sI.heap.get? a = none := by
      cases e1 : sI.heap.get? a with
      | none => rfl
      | some o1 =>
        have w1 := nb a o1 e1 (by rw [hs]; exact nfr)
        rw [fl3.2.1] at w1
        cases w1
    have n0 : X.s_0.heap.get? a = none := by
      cases e1 : X.s_0.heap.get? a with
      | none => rfl
      | some o1 =>
        obtain ⟨o2, w1⟩ := J.base.there a o1 e1 (by rw [hex]; exact fun z => nomatch z)
        rw [nI] at w1
        cases w1
    have S3 := J3.suite he3 hd3 na nL nF
    refine wpAny_handleBy_cons (codeAny_handlers_test ?_) (by intro w1; cases w1)
    have LT : PySem.W.Looks (model X.prog X.w) h3 (typeOf (.ref a)) cls := fun A Q E s k w1 => wpAny_typeOf_ref (k _ _ he3) (by rw [hz3.1]; exact w1)
    have LM := PySem.W.exm_one (M := model X.prog X.w) (J3.kIn) LT hex1
    have test : ∀ {Q : Value → Shared → Prop} {E : Value → Shared → Prop}, Q c { s' with heap := h3 } →
        wpAny (model X.prog X.w) (X.A.mark (some (.ref a))) (eval (.Name x np) X.env) Q E { s' with heap := h3 } := fun {Q E} w1 => by
      obtain ⟨hg, hdbg, hm | ⟨hm, hv, hnn⟩⟩ := hc
      · exact ld_glob (X := X.suite a ((a, oe3) :: (X.pn ++ pins))) S3 hg hm w1 hdbg
      · exact ld_blt (X := X.suite a ((a, oe3) :: (X.pn ++ pins))) S3 hg hm hv w1 hnn hdbg
    refine test (LM.here ?_)
    refine codeAny_handlers_suite_as ?_
    refine HandSPX.lands_againZ fl3 fun h4 fl4 up4 => ?_
    have J4 : L2.Inv X pins σ1 H1 { s' with heap := h4 } := J.landed nb fl4.1 ((up.trans up3).trans up4) os ag
    obtain ⟨oe4, vs4, he4, hz4, hd4⟩ := fl4.there
    have S4 := J4.suite he4 hd4 na nL nF
    refine store_ok (X := X.suite a ((a, oe4) :: (X.pn ++ pins))) (v := .ref a) S4 hN hi (.inl hln) rfl (fun s5 S5 => ?_) (.inr hln)
    have hpa : PE (X.suite a ((a, oe4) :: (X.pn ++ pins))) (.Name n q2) (tVar i) := pe_var hi (.inl hln) hd1 hd2
    have hps : PS (X.suite a ((a, oe4) :: (X.pn ++ pins))) (.Assign [.Name m q1] (.Name n q2) q3) (tAsg (tVar i) (gName j)) := ps_asg hpa (pg_name hN hj (.inl hlm)) hsw
    have iσ : i < (σ1.set i (some (V.ref a))).length := by
      rw [List.length_set, J4.len]
      exact (List.getElem?_eq_some_iff.mp hi).1
    have at_i : (σ1.set i (some (V.ref a)))[i]? = some (some (V.ref a)) := by
      rw [List.length_set] at iσ
      exact List.getElem?_set_self iσ
    refine wpAny_mono ((pss_one hps).run [] s5 _ H1 { nx := fun σ6 H6 => σ6 = (σ1.set i (some (V.ref a))).set j (some (V.ref a)) ∧ H6 = H1, rt := fun _ _ => False } S5 ⟨V.ref a, at_i, rfl, rfl⟩) (fun f s6 hsp => ?_) (fun _ _ z => False.elim z)
    cases f with
    | next =>
      obtain ⟨σ6, H6, S6, e6, e7⟩ := hsp
      subst e6 e7
      have pa := S6.pin (a, oe4) (List.mem_append_left _ List.mem_cons_self)
      have U0 : L2.Inv X pins _ _ s6 := S6.unsuite okX
      have U := Inv.takeUp U0 pa.1 hz4 hd4 na n0 nL (fun x1 c1 w1 w2 => by
        obtain ⟨v1, o1, w3, w4⟩ := U0.cell x1 c1 w1
        rw [w2, pa.1] at w3
        cases w3
        rw [hd4] at w4
        cases w4) (fun p hp w2 => by
        have w3 := (J.pin p hp).1
        rw [w2, nI] at w3
        cases w3)
      exact gone_ok U hN hi hln (fun s7 J7 => ⟨_, _, J7, hnx a na J.len⟩)
    | brk =>
      obtain ⟨_, _, _, z⟩ := hsp
      exact z.elim
    | cont =>
      obtain ⟨_, _, _, z⟩ := hsp
      exact z.elim
    | ret u =>
      obtain ⟨_, _, _, _, _, z⟩ := hsp
      exact z.elim
end
end K3

namespace K3
open PySem L2
/-- what an own exception class says of its instances -/
structure ExcL (K : PySem.W.Frag) (C : Addr) : Prop where
  cl : (PySem.W.clsIn K C).isSome = true
  ga : PySem.W.findIn K (.ref C) "__getattribute__" = some (some (.builtin "BaseException.__getattribute__"))
  gg : PySem.W.findIn K (.ref C) "__getattr__" = some none
  ex : PySem.W.subIn K (.ref C) (.type "BaseException") = some true
  hd : PySem.W.hasDictIn K C = true
  ca : PySem.W.findIn K (.ref C) "__class__" = some (some (.builtin "object.__class__"))
  cg : PySem.W.specialIn K (.builtin "object.__class__") "__get__" = some (some (.builtin "getset_descriptor.__get__"))
  tk : PySem.W.takesIn K (.builtin "object.__class__") = some true
  mo : PySem.W.mroIn K C (.type "object") = some true
section
variable {X : Cx} {pins : List (Addr × Obj)} {σ : L2.St} {H : Hp} {s : Shared}
theorem exk_inst {a C dd : Addr} {fs : List (Str × V)} (I : L2.Inv X pins σ H s) (ha : H a = some (ExK (.ref C) (some dd) a)) (hd : H dd = some (.xd fs)) :
    ∃ oe od, PySem.W.InstAt s.heap a oe C (some od) ∧ (∀ f v, fs.lookup f = some v → ∃ u, PySem.W.lookIn f od = some (some u) ∧ RelV v u) := by
  obtain ⟨⟨oe, vs, e1, e2, e3⟩, _, _⟩ := I.hok a _ ha
  have hx : ObjOk X.prog X.w H s.heap dd (.xd fs) := I.hok dd _ hd
  obtain ⟨mA, hns, hr⟩ := hx
  obtain ⟨od, ho, hl⟩ := lookIn_ns hns
  refine ⟨oe, od, ⟨e1, e2.1, by unfold PySem.W.notCls; rw [e3] <;> rfl, by rw [e2.2]; exact ho⟩, fun f v l => ?_⟩
  obtain ⟨u, hu, ru⟩ := RelO.some_of (v := v) (o := mA f) (by rw [← l]; exact hr f)
  exact ⟨u, by rw [hl, hu], ru⟩
end
def tExk (K : PySem.W.Frag) (n : Str) (te : TE) : TE := fun σ H Q => te σ H fun x H1 => ∃ (a C dd : Addr) (fs : List (Str × V)) (v : V), x = .ref a ∧ H1 a = some (ExK (.ref C) (some dd) a) ∧ H1 dd = some (.xd fs) ∧ ExcL K C ∧ PySem.W.findIn K (.ref C) n = some none ∧ fs.lookup n = some v ∧ Q v H1
theorem pe_exk {X : Cx} {e : Expr} {te : TE} {pos : Pos} {n : Str} (he : PE X e te) (hb : attributeBase e n X.env (eval e X.env) = eval e X.env := by rfl) : PE X (.Attribute e n pos) (tExk X.K n te) := by
  refine ⟨fun pins s σ H Q I h => ?_⟩
  refine attr_of hb (thn (he.run pins s σ H _ I h) fun u s1 hh => ?_)
  obtain ⟨x, H1, I1, rx, a, C, dd, fs, v, ex, ha, hd, L, nf, l, q⟩ := hh
  subst ex
  obtain rfl : u = Value.ref a := rx
  obtain ⟨oe, od, J, look⟩ := exk_inst I1 ha hd
  obtain ⟨u, hu, ru⟩ := look n v l
  exact HandSPX.exc_get I1.kIn J L.ga L.gg L.ex (PySem.W.findObj_own L.hd nf rfl hu) (handed_of ru) ⟨v, H1, I1.tok _, ru, q⟩
def rIsK (K : PySem.W.Frag) : List V → Hp → VK → Prop := fun xs H Q => ∃ (a C C2 dd : Addr) (fs : List (Str × V)) (b : Bool), xs = [.ref a, .ref C2] ∧ H a = some (ExK (.ref C) (some dd) a) ∧ H dd = some (.xd fs) ∧ ExcL K C ∧ PySem.W.kitOne K (.ref C) (.ref C2) = some b ∧ Q (.bl b) H
theorem call_isK {X : Cx} : CallR X (.builtin "isinstance") (rIsK X.K) := by
  intro pins s σ H xs us Q I r h
  obtain ⟨a, C, C2, dd, fs, b, rfl, ha, hd, L, e, q⟩ := h
  obtain ⟨u1, u2, rfl, r1, r2⟩ := vals2 r
  obtain rfl : u1 = Value.ref a := r1
  obtain rfl : u2 = Value.ref C2 := r2
  obtain ⟨oe, od, J, _⟩ := exk_inst I ha hd
  exact PySem.W.kia_one (PySem.W.kitx_exc L.cl L.ga L.gg L.ex L.ca L.cg L.tk L.mo) I.kIn J e (fun z => nomatch z) fun tk => ⟨.bl b, H, I.tok tk, rfl, q⟩
@[simp] theorem x_tExk {K : PySem.W.Frag} {n : Str} {te : TE} {σ : L2.St} {H : Hp} {Q : VK} : tExk K n te σ H Q = te σ H fun x H1 => ∃ (a C dd : Addr) (fs : List (Str × V)) (v : V), x = .ref a ∧ H1 a = some (ExK (.ref C) (some dd) a) ∧ H1 dd = some (.xd fs) ∧ ExcL K C ∧ PySem.W.findIn K (.ref C) n = some none ∧ fs.lookup n = some v ∧ Q v H1 := rfl
end K3

namespace K3
open PySem L2
section
variable {X : Cx} {C fI cda cc : Addr}
/-- the facts that a raise of InvalidTree asks -/
structure ErrF (P : Program) (K : PySem.W.Frag) (mg : Str → Option Value) (C : Addr) : Prop where
  ex : ∃ fI cda cc, ErrC P K mg C fI cda cc "part" "InvalidTree.__init__" sErrInit
  mgC : mg "InvalidTree" = some (.ref C)
theorem pmk_form {e : Expr} {te : TE} {p pos : Pos} (T : ErrF X.prog X.K X.mg C) (hr : Room 2 X.A) (hg : Gl X "InvalidTree") (he : PE X e te)
    (hs : starEach [e] X.env = (false, eval e X.env) :: starEach [] X.env := by rfl) :
    PMk X (.Call (.Name "InvalidTree" p) [e] [] pos) (tMkO C (spErr C "part") [] (tCons te tNil)) := by
  obtain ⟨fI, cda, cc, TC⟩ := T.ex
  obtain ⟨oc, od, kV, doc, pm, an, ct, osl, lk⟩ := TC.fn
  exact pmk_oex TC.ox TC.fi TC.ti (ok_errInit TC lk) hr (.all fun us hl => match us, hl with | [_, _], _ => rfl) .nil passL hg T.mgC (pa_cons he pa_nil (by exact hs)) (by decide) hs (by rfl)
theorem raise_ans {H1 : Hp} {v : V} {Q : XK} (k : ∀ d, H1 d = none → Q (.ref C) (some d) (upd H1 d (.xd [("part", v)]))) :
    ([v] : List V).length ≤ 1000 ∧ ∀ a, H1 a = none → spErr C "part" (.ref a :: ([v] ++ [])) (upd H1 a (exo a C none))
      (fun u H2 => u = .non ∧ ∃ (d : Addr) (fs : List (Str × V)), H2 a = some (exo a C (some d)) ∧ H2 d = some (exd d fs) ∧ H1 d = none ∧ Q (.ref C) (some d) (upd (del H2 a) d (.xd fs))) (fun _ _ _ => False) := by
  refine ⟨by show 1 ≤ 1000; decide, fun a na => ⟨a, v, rfl, upd_same, fun dx ndx ne => ?_⟩⟩
  rw [upd_ne ne] at ndx
  refine ⟨rfl, dx, [("part", v)], upd_same, by rw [upd_ne ne, upd_same], ndx, ?_⟩
  have e : upd (del (upd (upd (upd H1 a (exo a C none)) dx (exd dx [("part", v)])) a (exo a C (some dx))) a) dx (.xd [("part", v)]) = upd H1 dx (.xd [("part", v)]) := by
    funext b
    by_cases q : b = dx
    · rw [q, upd_same, upd_same]
    · rw [upd_ne q, upd_ne q]
      by_cases q2 : b = a
      · rw [q2, del_same, na]
      · rw [del_ne q2, upd_ne q2, upd_ne q, upd_ne q2]
  rw [e]
  exact k dx ndx
end
/-! ### values stand while their own object stands -/
theorem TyOf.keep {K : PySem.W.Frag} {H H' : Hp} {v : V} {t : Value} (h : TyOf K H v t) (k : ∀ a o, v = .ref a → H a = some o → H' a = some o) : TyOf K H' v t := by
  cases h with
  | non => exact .non
  | bl x => exact .bl x
  | int i => exact .int i
  | str x => exact .str x
  | flt x => exact .flt x
  | lst e => exact .lst (k _ _ rfl e)
  | frz e => exact .frz (k _ _ rfl e)
  | tup e => exact .tup (k _ _ rfl e)
  | dK e => exact .dK (k _ _ rfl e)
  | dT e => exact .dT (k _ _ rfl e)
  | ins e cl ha hn htk hm => exact .ins (k _ _ rfl e) cl ha hn htk hm
theorem TyX.keep {K : PySem.W.Frag} {H H' : Hp} {v : V} {t : Value} (h : TyX K H v t) (k : ∀ a o, v = .ref a → H a = some o → H' a = some o) : TyX K H' v t := by
  cases h with
  | base h => exact .base (TyOf.keep h k)
  | byt b => exact .byt b
  | set e => exact .set (k _ _ rfl e)
  | kList e c => exact .kList e c
  | kTuple e c => exact .kTuple e c
  | kDict e c => exact .kDict e c
  | fTuple e => exact .fTuple (k _ _ rfl e)
  | fDict e => exact .fDict (k _ _ rfl e)
theorem Val.keep {K : PySem.W.Frag} {H H' : Hp} {v : V} (h : Val K H v) (k : ∀ a o, v = .ref a → H a = some o → H' a = some o) : Val K H' v := by
  rcases h with h | ⟨h1, h0, t, h2, h3⟩
  · exact .inl h
  · exact .inr ⟨h1, fun a e => let ⟨o, q⟩ := h0 a e; ⟨o, k a o e q⟩, t, TyX.keep h2 k, h3⟩
theorem Val.ne {K : PySem.W.Frag} {H : Hp} {v : V} {x : Addr} (h : Val K H v) (n : H x = none) : v ≠ .ref x := fun e => by
  rcases h with ⟨z, e2, _⟩ | h
  · rw [e] at e2
    cases e2
  · obtain ⟨o, q⟩ := h.2.1 x e
    rw [n] at q
    cases q
theorem Val.same {K : PySem.W.Frag} {H H' : Hp} {v : V} (h : Val K H v) (s : Same H H') : Val K H' v := Val.keep h fun a o _ e => s a o e
end K3

namespace K3
open PySem L2
open LamX (ExtN Tabs TabS TabB LamS lamS_by lamSB)
/-! ### what stands while tables of code grow -/
theorem rd_ext {H H' : Hp} {a : Addr} {xs : List V} (e : ExtN H H') (h : Rd H a (.lst xs)) : Rd H' a (.lst xs) := by
  rcases h with h | ⟨o, h⟩
  · exact .inl (e _ _ h fun ps q => by cases q)
  · exact .inr ⟨o, e _ _ h fun ps q => by cases q⟩
theorem seq_ext {K : PySem.W.Frag} {H H' : Hp} {a : Addr} {xs : List V} (e : ExtN H H') (h : SqL K H a xs) : SqL K H' a xs := by
  rcases h with h | h
  · exact .inl (rd_ext e h)
  · exact .inr h
/-- a text, or another thing whose own object stands -/
def ValB (K : PySem.W.Frag) (H : Hp) (v : V) : Prop := (∃ z, v = .str z ∧ z.length ≤ 1000 ∧ PyData.strOk z = true) ∨ ((∀ z, v ≠ .str z) ∧ (∀ a, v = .ref a → ∃ o, H a = some o ∧ ∀ ps, o ≠ .tbl ps) ∧ ∃ t, TyX K H v t ∧ PySem.W.kitOne K t (.type "str") = some false)
theorem ValB.val {K : PySem.W.Frag} {H : Hp} {v : V} (h : ValB K H v) : Val K H v := by
  rcases h with h | ⟨h1, h2, h3⟩
  · exact .inl h
  · exact .inr ⟨h1, fun a e => let ⟨o, q, _⟩ := h2 a e; ⟨o, q⟩, h3⟩
theorem ValB.ext {K : PySem.W.Frag} {H H' : Hp} {v : V} (h : ValB K H v) (e : ExtN H H') : ValB K H' v := by
  rcases h with h | ⟨h1, h2, t, h3, h4⟩
  · exact .inl h
  · refine .inr ⟨h1, fun a q => ?_, t, TyX.keep h3 fun a o q1 q2 => ?_, h4⟩
    · obtain ⟨o, q1, q2⟩ := h2 a q
      exact ⟨o, e _ _ q1 q2, q2⟩
    · obtain ⟨o', q3, q4⟩ := h2 a q1
      rw [q2] at q3
      cases q3
      exact e _ _ q2 q4
theorem ValB.same {K : PySem.W.Frag} {H H' : Hp} {v : V} (h : ValB K H v) (e : Same H H') : ValB K H' v := h.ext (ExtN.of e)
theorem layStrs : ∀ l : List Str, (∀ x ∈ l, PyData.strOk x = true) → PyData.canLayAll0 (l.map PyData.str) = true := fun l => by
  induction l with
  | nil => intro _; rfl
  | cons i l ih =>
    intro h
    simp [PyData.canLayAll0, PyData.canLay0, ih (fun x hx => h x (List.mem_cons_of_mem _ hx)), h i (List.mem_cons_self ..)]
theorem depStrs : ∀ l : List Str, PyData.depthAll (l.map PyData.str) = 0 := fun l => by
  induction l with
  | nil => rfl
  | cons i l ih => simp [PyData.depthAll, PyData.depth, ih]
theorem shTup {l : List Str} (h : ∀ x ∈ l, PyData.strOk x = true) : SeqAt.shaped (.tuple (l.map PyData.str)) = true := by
  simp [SeqAt.shaped, PyData.canLay0, PyData.depth, layStrs l h, depStrs]
/-- a list of tuples of texts -/
theorem shLT {ls : List (List Str)} (h : ∀ l ∈ ls, ∀ x ∈ l, PyData.strOk x = true) : SeqAt.shaped (.list (ls.map fun l => .tuple (l.map PyData.str))) = true := by
  have h1 : ∀ ls : List (List Str), (∀ l ∈ ls, ∀ x ∈ l, PyData.strOk x = true) → PyData.canLayAll0 (ls.map fun l => PyData.tuple (l.map PyData.str)) = true := fun ls => by
    induction ls with
    | nil => intro _; rfl
    | cons i l ih =>
      intro h
      simp [PyData.canLayAll0, PyData.canLay0, ih (fun x hx => h x (List.mem_cons_of_mem _ hx)), layStrs i (h i (List.mem_cons_self ..))]
  have h2 : ∀ ls : List (List Str), PyData.depthAll (ls.map fun l => PyData.tuple (l.map PyData.str)) ≤ 1 := fun ls => by
    induction ls with
    | nil => exact Nat.zero_le _
    | cons i l ih => 
      simp only [PyData.depthAll, PyData.depth, depStrs, List.map_cons]
      omega
  have := h2 ls
  have e : PyData.depthAll (ls.map fun l => PyData.tuple (l.map PyData.str)) + 1 ≤ 64 := by omega
  simp [SeqAt.shaped, PyData.canLay0, PyData.depth, h1 ls h]
  omega
theorem eqvNilT (l : List Str) : PyData.eqv (.tuple (l.map PyData.str)) (.tuple []) = l.isEmpty := by
  cases l <;> rfl
theorem lay_of {d : PyData} (h : SeqAt.shaped d = true) : d.canLay0 = true := by
  unfold SeqAt.shaped at h
  exact (Bool.and_eq_true _ _ ▸ h).1
/-! ### a def whose code object is known -/
structure FunC (K : PySem.W.Frag) (x qual : Str) (st : Stmt) (f : Addr) (fd : FuncData) (c : Addr) : Prop where
  ex : ∃ (oc : Value) (od : Option Addr) (kV doc pm : Value) (an : Option Addr) (ct : Value) (osl : Array (Option Value)),
    fd = PySem.W.fnOf x qual (defArgs st) (defBody st) (defScope st) .none kV doc pm an (.ref c) ct ∧ K.lookup f = some ⟨oc, od, .func fd, osl⟩ ∧ PySem.W.codeIn K (.ref c) qual = true
  kp : PySem.W.keepIn K (.ref f) = true
section
variable {P : Program} {w : World} {K : PySem.W.Frag} {mg : Str → Option Value} {base : Heap}
theorem FunC.ok {x qual : Str} {st : Stmt} {f c : Addr} {fd : FuncData} {N ps : List Str} {k : Nat} {sp : Sp} (F : FunC K x qual st f fd c) (S : FnScope N ps (defScope st)) (len : ∀ vs H Q E, sp vs H Q E → vs.length = ps.length)
    (hbody : ∀ (A : Around) (outer : List Env) (s : Shared) (H : Hp) (vs : List V) (Q : VK) (E : XK), Room k (A.deeper (PyProof.Rows.envOfC qual (defScope st) s.heap.objs.size f (.ref c))) → sp vs H Q E →
      ∃ t, PSs (cxOf CX0 P w K mg base N qual (defScope st) f (.ref c) A outer s H E).nox (defBody st) t ∧ t { nx := fun _ H' => Q .non H', rt := Q } (L2.start N vs) H) : FnOk P w K mg base CX0 (k + 1) f fd ps sp := by
  obtain ⟨oc, od, kV, doc, pm, an, ct, osl, rfl, lk, hcd⟩ := F.ex
  refine fn_of lk hcd S len fun A outer s H vs Q E hr hsp => ?_
  obtain ⟨t, h, q⟩ := hbody A outer s H vs Q E hr hsp
  exact ⟨t, h.nox, q⟩
end
theorem putK_new {kvs : List (Key × V)} {k : Key} {v : V} (h : k ∉ kvs.map Prod.fst) : putK kvs k v = kvs ++ [(k, v)] := by
  unfold putK
  rw [if_neg]
  intro q
  rw [List.any_eq_true] at q
  obtain ⟨p, hp, e⟩ := q
  exact h (List.mem_map.mpr ⟨p, hp, of_decide_eq_true e⟩)
theorem ext_upd {H H1 H2 : Hp} {l : Addr} {u : HO} (e1 : ExtN H H1) (n : H1 l = none) (e2 : ExtN H H2) : ExtN H (upd H2 l u) := fun b o e nt => by
  have nb : b ≠ l := fun q => by
    have z := e1 b o e nt
    rw [q, n] at z
    cases z
  rw [upd_ne nb]
  exact e2 b o e nt
theorem tabs_upd {T : List (Addr × Str)} {H : Hp} {l : Addr} {u : HO} (t : Tabs T H) (h1 : ∀ ps, H l ≠ some (.tbl ps)) (h2 : ∀ c q, H l ≠ some (LamX.CodeO c q)) : Tabs T (upd H l u) := fun p hp => by
  obtain ⟨ps, a, b, c⟩ := t p hp
  refine ⟨ps, by rw [upd_ne (fun q => h1 ps (by rw [← q]; exact a))]; exact a, b, fun pos cv hcv => ?_⟩
  obtain ⟨c0, e1, e2⟩ := c pos cv hcv
  exact ⟨c0, e1, by rw [upd_ne (fun q => h2 c0 _ (by rw [← q]; exact e2))]; exact e2⟩
theorem tabs_lst {T : List (Addr × Str)} {H : Hp} {l : Addr} {u : HO} {xs : List V} (t : Tabs T H) (h : H l = some (.lst xs)) : Tabs T (upd H l u) :=
  tabs_upd t (fun ps z => by rw [h] at z; cases z) fun c q z => by
    rw [h] at z
    unfold LamX.CodeO at z
    cases z
theorem tabs_dK {T : List (Addr × Str)} {H : Hp} {l : Addr} {u : HO} {xs : List (Key × V)} (t : Tabs T H) (h : H l = some (.dK xs)) : Tabs T (upd H l u) :=
  tabs_upd t (fun ps z => by rw [h] at z; cases z) fun c q z => by
    rw [h] at z
    unfold LamX.CodeO at z
    cases z
def mkP (p : Str × Str) : Key × V := (.inr p.1, .str p.2)
def dpP (p : Str × Str) : PyData := .tuple [.str p.1, .str p.2]
theorem dpPairs {K : PySem.W.Frag} {H : Hp} : ∀ {ps : List (Str × Str)} {ts : List Addr}, Paired (fun (t : Addr) (q : Key × V) => H t = some (.tup [kV q.1, q.2])) ts (ps.map mkP) → DpAll K H (ts.map V.ref) (ps.map dpP)
  | [], _, h => by
    cases h
    exact .nil
  | p :: ps, _, h => by
    cases h with
    | cons a t => exact .cons (.tup (SqT.of a) (.cons (.str _) (.cons (.str _) .nil))) (dpPairs t)
theorem shForm {a b : Str} {ps : List (Str × Str)} (ha : PyData.strOk a = true) (hb : PyData.strOk b = true) (h : ∀ p ∈ ps, PyData.strOk p.1 = true ∧ PyData.strOk p.2 = true) : SeqAt.shaped (.list [.str a, .str b, .tuple (ps.map dpP)]) = true := by
  have h1 : ∀ ps : List (Str × Str), (∀ p ∈ ps, PyData.strOk p.1 = true ∧ PyData.strOk p.2 = true) → PyData.canLayAll0 (ps.map dpP) = true := fun ps => by
    induction ps with
    | nil => intro _; rfl
    | cons i l ih =>
      intro h
      simp [PyData.canLayAll0, PyData.canLay0, dpP, ih (fun x hx => h x (List.mem_cons_of_mem _ hx)), h i (List.mem_cons_self ..)]
  have h2 : ∀ ps : List (Str × Str), PyData.depthAll (ps.map dpP) ≤ 1 := fun ps => by
    induction ps with
    | nil => exact Nat.zero_le _
    | cons i l ih =>
      have e : PyData.depth (dpP i) = 1 := by simp [dpP, PyData.depth, PyData.depthAll]
      rw [List.map_cons]
      simp only [PyData.depthAll, e]
      omega
  have h3 := h2 ps
  have e : PyData.depthAll (ps.map dpP) + 1 + 1 ≤ 64 := by omega
  simp [SeqAt.shaped, PyData.canLay0, PyData.canLayAll0, PyData.depth, PyData.depthAll, h1 ps h, ha, hb]
  omega
/-! ### which values are right and wrong -/
section
variable {K : PySem.W.Frag} {H : Hp}
theorem valB_str {z : Str} (h : z.length ≤ 1000) (o : PyData.strOk z = true) : ValB K H (.str z) := .inl ⟨z, rfl, h, o⟩
theorem valB_other {v : V} {a : String} (h1 : ∀ z, v ≠ .str z) (h2 : ∀ b, v = .ref b → ∃ o, H b = some o ∧ ∀ ps, o ≠ .tbl ps) (h3 : TyOf K H v (.type a)) (h4 : kitB a "str" = some false) : ValB K H v := .inr ⟨h1, h2, _, .base h3, kit_ty h4⟩
theorem valB_non : ValB K H .non := valB_other (fun _ => nofun) (fun _ => nofun) .non (by decide +kernel)
theorem valB_bl {b : Bool} : ValB K H (.bl b) := valB_other (fun _ => nofun) (fun _ => nofun) (.bl b) (by decide +kernel)
theorem valB_int {i : Int} : ValB K H (.int i) := valB_other (fun _ => nofun) (fun _ => nofun) (.int i) (by decide +kernel)
theorem valB_tup {a : Addr} {xs : List V} (e : H a = some (.tup xs)) : ValB K H (.ref a) := valB_other (fun _ => nofun) (fun b q => by cases q; exact ⟨_, e, fun _ => nofun⟩) (.tup e) (by decide +kernel)
theorem valB_lst {a : Addr} {xs : List V} (e : H a = some (.lst xs)) : ValB K H (.ref a) := valB_other (fun _ => nofun) (fun b q => by cases q; exact ⟨_, e, fun _ => nofun⟩) (.lst e) (by decide +kernel)
theorem valB_dK {a : Addr} {xs : List (Key × V)} (e : H a = some (.dK xs)) : ValB K H (.ref a) := valB_other (fun _ => nofun) (fun b q => by cases q; exact ⟨_, e, fun _ => nofun⟩) (.dK e) (by decide +kernel)
end
/-! ### a text written several times -/
def timesS (z : Str) (n : Nat) : Str := ⟨(List.replicate n z.cps).foldl (· ++ ·) #[]⟩
def rMulS : R2 := fun x y H Q => ∃ (z : Str) (n : Nat), x = .str z ∧ y = .int (n : Int) ∧ 2 ≤ n ∧ n ≤ 1000 ∧ 1 ≤ z.length ∧ z.length ≤ 100 ∧ (timesS z n).length ≤ 100000 ∧ Q (.str (timesS z n)) H
theorem op_mul_str {X : Cx} : OpR X (binaryOp .Mult) rMulS := by
  intro pins s σ H x y v u Q I rx ry h
  obtain ⟨z, n, rfl, rfl, n1, n2, z1, z2, hl, q⟩ := h
  obtain ⟨t, rfl⟩ := rx
  obtain ⟨t', rfl⟩ := ry
  have e1 : ¬ ((n : Int) < 1) := by omega
  have e2 : ¬ ((((n : Int) == 1) || (z.length == 0)) = true) := by
    rw [Bool.or_eq_true, beq_iff_eq, beq_iff_eq]
    omega
  refine PySem.P.mul_str ?_ (fun _ _ => ?_) (fun _ _ => ?_) ?_
  · rw [decide_eq_false (by omega), decide_eq_false (by omega)]
    rfl
  · have h3 : (1000 : Int) ≤ (2 ^ 63 - 1) / (n : Int) := (Int.le_ediv_iff_mul_le (by omega)).mpr (by omega)
    omega
  · have h4 : z.length * n ≤ 100 * 1000 := Nat.mul_le_mul z2 n2
    have e : ((n : Int)).toNat = n := by omega
    rw [e]
    have h5 : 100000 ≤ sizeLine := by decide
    exact decide_eq_false (by omega)
  · rw [if_neg e1, if_neg e2]
    have e : ((n : Int)).toNat = n := by omega
    rw [e]
    refine ⟨?_, ⟨.str (timesS z n), H, I.tok _, ⟨_, rfl⟩, q⟩⟩
    exact Nat.le_trans hl (by decide)
/-! ### what stands while the law draws and asks -/
def FD (m lg : Addr) (H H' : Hp) : Prop := ∀ b o, b ≠ m → b ≠ lg → H b = some o → (∀ ps, o ≠ .tbl ps) → H' b = some o
theorem FD.refl {m lg : Addr} (H : Hp) : FD m lg H H := fun _ _ _ _ e _ => e
theorem FD.trans {m lg : Addr} {H H1 H2 : Hp} (a : FD m lg H H1) (b : FD m lg H1 H2) : FD m lg H H2 := fun c o h1 h2 e n => b c o h1 h2 (a c o h1 h2 e n) n
theorem FD.ext {m lg : Addr} {H H' : Hp} (e : ExtN H H') : FD m lg H H' := fun b o _ _ q n => e b o q n
theorem FD.same {m lg : Addr} {H H' : Hp} (e : Same H H') : FD m lg H H' := fun b o _ _ q _ => e b o q
theorem FD.draw {m lg : Addr} {H H' : Hp} (e : ∀ b o, b ≠ m → b ≠ lg → H b = some o → H' b = some o) : FD m lg H H' := fun b o h1 h2 q _ => e b o h1 h2 q
theorem MA.ext {m lc lg : Addr} {n : Int} {H H' : Hp} (M : MA m lc lg n H) (e : ExtN H H') : MA m lc lg n H' := by
  obtain ⟨hm, ne, ⟨cs, hc, c1, c2⟩, ⟨gs, hg, g1⟩, n0⟩ := M
  exact ⟨e _ _ hm fun _ => nofun, ne, ⟨cs, e _ _ hc fun _ => nofun, c1, c2⟩, ⟨gs, e _ _ hg fun _ => nofun, g1⟩, n0⟩
theorem MA.same {m lc lg : Addr} {n : Int} {H H' : Hp} (M : MA m lc lg n H) (e : Same H H') : MA m lc lg n H' := M.ext (ExtN.of e)
theorem tabs_draw {T : List (Addr × Str)} {m lc lg : Addr} {n : Int} {H H' : Hp} (t : Tabs T H) (M : MA m lc lg n H) (e : ∀ b o, b ≠ m → b ≠ lg → H b = some o → H' b = some o) : Tabs T H' := fun p hp => by
  obtain ⟨hm, _, _, ⟨gs, hg, _⟩, _⟩ := M
  obtain ⟨ps, a, b, c⟩ := t p hp
  refine ⟨ps, e _ _ (ne_of a hm (by intro q; cases q)) (ne_of a hg (by intro q; cases q)) a, b, fun pos cv hcv => ?_⟩
  obtain ⟨c0, e1, e2⟩ := c pos cv hcv
  refine ⟨c0, e1, e _ _ (ne_of e2 hm ?_) (ne_of e2 hg ?_) e2⟩
  · unfold LamX.CodeO
    intro q
    cases q
  · unfold LamX.CodeO
    intro q
    cases q
def keyB (z : Str) : Bool := decide (z.length ≤ 1000) && PyData.strOk z
/-- a value that is not touched by drawing -/
structure OkV (K : PySem.W.Frag) (m lg : Addr) (H : Hp) (v : V) : Prop where
  b : ValB K H v
  m : v ≠ .ref m
  g : v ≠ .ref lg
theorem OkV.fd {K : PySem.W.Frag} {m lg : Addr} {H H' : Hp} {v : V} (h : OkV K m lg H v) (e : FD m lg H H') : OkV K m lg H' v := by
  refine ⟨?_, h.m, h.g⟩
  rcases h.b with q | ⟨h1, h2, t, h3, h4⟩
  · exact .inl q
  · have go : ∀ a o, v = .ref a → H a = some o → H' a = some o := fun a o q q2 => by
      obtain ⟨o', q3, q4⟩ := h2 a q
      rw [q2] at q3
      cases q3
      exact e a o (fun z => h.m (by rw [q, z])) (fun z => h.g (by rw [q, z])) q2 q4
    refine .inr ⟨h1, fun a q => ?_, t, TyX.keep h3 go, h4⟩
    obtain ⟨o, q2, q4⟩ := h2 a q
    exact ⟨o, go a o q q2, q4⟩
theorem okV_str {K : PySem.W.Frag} {m lg : Addr} {H : Hp} {z : Str} (h : keyB z = true) : OkV K m lg H (.str z) := by
  unfold keyB at h
  rw [Bool.and_eq_true] at h
  exact ⟨valB_str (of_decide_eq_true h.1) h.2, nofun, nofun⟩
theorem okV_of {K : PySem.W.Frag} {m lg : Addr} {H : Hp} {v : V} (h : ValB K H v) (n : ∀ a, v ≠ .ref a) : OkV K m lg H v := ⟨h, n m, n lg⟩
/-- a list of values that stands -/
structure LsV (K : PySem.W.Frag) (m lg : Addr) (H : Hp) (l : Addr) (xs : List V) : Prop where
  at_ : H l = some (.lst xs)
  nm : l ≠ m
  ng : l ≠ lg
  ok : ∀ x ∈ xs, OkV K m lg H x
theorem LsV.fd {K : PySem.W.Frag} {m lg : Addr} {H H' : Hp} {l : Addr} {xs : List V} (h : LsV K m lg H l xs) (e : FD m lg H H') : LsV K m lg H' l xs := ⟨e _ _ h.nm h.ng h.at_ fun _ => nofun, h.nm, h.ng, fun x hx => (h.ok x hx).fd e⟩
end K3

namespace K3
open PySem L2
open LamX (ExtN Tabs TabS TabB)
/-! ### parts of nodes: texts, rows, variables, nodes of trees and of patterns -/
inductive Tr where
  | tx (s : Str)
  | row (ts : List Tr)
  | vr (k : Nat) (n : Str)
  | nd (lk : Bool) (f : Str) (ps : List Tr)
/-- it can stand for a node -/
def isN : Tr → Bool
  | .nd .. => true
  | .vr 0 _ => true
  | _ => false
/-- the nodes among parts -/
def below : List Tr → List Tr
  | [] => []
  | .row ts :: ps => ts.filter isN ++ below ps
  | p :: ps => (if isN p = true then [p] else []) ++ below ps
def quoteS (s : Str) : Str := "\"" ++ (Txt.replace (Txt.replace (Txt.replace s "\\" "\\\\") "\"" "\\\"") "\n" "\\n") ++ "\""
def varS : Nat → Str → Str
  | 0, n => n
  | 1, n => "$" ++ n
  | _, n => "*" ++ n
mutual
def said : Tr → Str
  | .tx s => quoteS s
  | .row ts => "[" ++ Txt.join ", " (saids ts) ++ "]"
  | .vr k n => varS k n
  | .nd _ f ps => f ++ "(" ++ Txt.join ", " (saids ps) ++ ")"
def saids : List Tr → List Str
  | [] => []
  | t :: ts => said t :: saids ts
end
/-! size and levels of what can stand for a node; of a row, those of its items -/
mutual
def size : Tr → Nat
  | .nd _ _ ps => 1 + sizes ps
  | .vr 0 _ => 1
  | .row ts => sizes ts
  | _ => 0
def sizes : List Tr → Nat
  | [] => 0
  | t :: ts => size t + sizes ts
end
mutual
def levels : Tr → Nat
  | .nd _ _ ps => levelss ps + 1
  | .vr 0 _ => 1
  | .row ts => levelss ts
  | _ => 0
def levelss : List Tr → Nat
  | [] => 0
  | t :: ts => max (levels t) (levelss ts)
end
structure Cl5 where
  T : Addr
  L : Addr
  V : Addr
  W : Addr
  R : Addr
def Cl5.v (c : Cl5) : Nat → Addr
  | 0 => c.V
  | 1 => c.W
  | _ => c.R
def Cl5.n (c : Cl5) : Bool → Addr
  | false => c.T
  | true => c.L
/-- the nodes among parts, as they stand: rows are looked through -/
def KidsAt (H : Hp) : List V → List Tr → List V → Prop
  | [], [], cs => cs = []
  | x :: xs, .row ts :: ps, cs => ∃ a ys r, x = .ref a ∧ H a = some (.tup ys) ∧ ys.length = ts.length ∧ cs = ((ys.zip ts).filter fun p => isN p.2).map Prod.fst ++ r ∧ KidsAt H xs ps r
  | x :: xs, p :: ps, cs => ∃ r, cs = (if isN p = true then [x] else []) ++ r ∧ KidsAt H xs ps r
  | _, _, _ => False
mutual
def PtAt (C : Cl5) (H : Hp) : V → Tr → Prop
  | v, .tx s => v = .str s
  | v, .row ts => ∃ a xs, v = .ref a ∧ H a = some (.tup xs) ∧ PtsAt C H xs ts
  | v, .vr k n => ∃ x dx fs, v = .ref x ∧ H x = some (.ins (C.v k) dx fs) ∧ fs.lookup ("name" : Str) = some (.str n) ∧ fs.lookup ("text" : Str) = some (.str (varS k n)) ∧ (k = 0 → fs.lookup ("size" : Str) = some (.int 1) ∧ fs.lookup ("levels" : Str) = some (.int 1))
  | v, .nd lk f ps => ∃ x dx fs pa xs, v = .ref x ∧ H x = some (.ins (C.n lk) dx fs) ∧ fs.lookup ("form" : Str) = some (.str f) ∧ fs.lookup ("parts" : Str) = some (.ref pa) ∧ H pa = some (.tup xs) ∧ PtsAt C H xs ps ∧
      fs.lookup ("size" : Str) = some (.int ((1 + sizes ps : Nat) : Int)) ∧ fs.lookup ("levels" : Str) = some (.int ((levelss ps + 1 : Nat) : Int)) ∧ fs.lookup ("text" : Str) = some (.str (f ++ "(" ++ Txt.join ", " (saids ps) ++ ")")) ∧
      (lk = false → ∃ ca cs, fs.lookup ("children" : Str) = some (.ref ca) ∧ H ca = some (.tup cs) ∧ KidsAt H xs ps cs)
def PtsAt (C : Cl5) (H : Hp) : List V → List Tr → Prop
  | [], [] => True
  | x :: xs, t :: ts => PtAt C H x t ∧ PtsAt C H xs ts
  | _, _ => False
end
/-- instances and tuples stand -/
def tiO : HO → Bool
  | .ins .. => true
  | .tup _ => true
  | _ => false
def KpO (H H' : Hp) : Prop := ∀ b o, tiO o = true → H b = some o → H' b = some o
theorem KpO.same {H H' : Hp} (e : Same H H') : KpO H H' := fun b o _ q => e b o q
theorem KpO.ext {H H' : Hp} (e : ExtN H H') : KpO H H' := fun b o h q => e b o q fun ps z => by rw [z] at h; cases h
theorem KpO.trans {H H1 H2 : Hp} (a : KpO H H1) (b : KpO H1 H2) : KpO H H2 := fun c o h q => b c o h (a c o h q)
theorem KidsAt.kpo {H H' : Hp} (e : KpO H H') : ∀ {xs : List V} {ps : List Tr} {cs : List V}, KidsAt H xs ps cs → KidsAt H' xs ps cs
  | [], [], _, h => h
  | x :: xs, .row ts :: ps, cs, h => by
    obtain ⟨a, ys, r, h1, h2, h3, h4, h5⟩ := h
    exact ⟨a, ys, r, h1, e _ _ rfl h2, h3, h4, KidsAt.kpo e h5⟩
  | x :: xs, .tx _ :: ps, cs, h => by obtain ⟨r, h1, h2⟩ := h; exact ⟨r, h1, KidsAt.kpo e h2⟩
  | x :: xs, .vr _ _ :: ps, cs, h => by obtain ⟨r, h1, h2⟩ := h; exact ⟨r, h1, KidsAt.kpo e h2⟩
  | x :: xs, .nd _ _ _ :: ps, cs, h => by obtain ⟨r, h1, h2⟩ := h; exact ⟨r, h1, KidsAt.kpo e h2⟩
  | [], _ :: _, _, h => False.elim (by cases ‹Tr› <;> exact h)
  | _ :: _, [], _, h => False.elim h
mutual
theorem PtAt.kpo {C : Cl5} {H H' : Hp} (e : KpO H H') : ∀ {v : V} (t : Tr), PtAt C H v t → PtAt C H' v t
  | _, .tx _, h => h
  | _, .row ts, h => by
    obtain ⟨a, xs, h1, h2, h3⟩ := h
    exact ⟨a, xs, h1, e _ _ rfl h2, PtsAt.kpo e ts h3⟩
  | _, .vr k n, h => by
    obtain ⟨x, dx, fs, h1, h2, h3⟩ := h
    exact ⟨x, dx, fs, h1, e _ _ rfl h2, h3⟩
  | _, .nd lk f ps, h => by
    obtain ⟨x, dx, fs, pa, xs, h1, h2, h3, h4, h5, h6, h7, h8, h9, h10⟩ := h
    exact ⟨x, dx, fs, pa, xs, h1, e _ _ rfl h2, h3, h4, e _ _ rfl h5, PtsAt.kpo e ps h6, h7, h8, h9, fun z => let ⟨ca, cs, k1, k2, k3⟩ := h10 z; ⟨ca, cs, k1, e _ _ rfl k2, k3.kpo e⟩⟩
theorem PtsAt.kpo {C : Cl5} {H H' : Hp} (e : KpO H H') : ∀ {xs : List V} (ts : List Tr), PtsAt C H xs ts → PtsAt C H' xs ts
  | [], [], h => h
  | x :: xs, t :: ts, h => ⟨PtAt.kpo e t h.1, PtsAt.kpo e ts h.2⟩
  | [], _ :: _, h => False.elim h
  | _ :: _, [], h => False.elim h
end
theorem ptsAt_iff {C : Cl5} {H : Hp} : ∀ {xs : List V} {ts : List Tr}, PtsAt C H xs ts ↔ Paired (PtAt C H) xs ts
  | [], [] => ⟨fun _ => .nil, fun _ => True.intro⟩
  | x :: xs, t :: ts => ⟨fun h => .cons h.1 (ptsAt_iff.mp h.2), fun h => by cases h with | cons a b => exact ⟨a, ptsAt_iff.mpr b⟩⟩
  | [], _ :: _ => ⟨fun h => False.elim h, fun h => nomatch h⟩
  | _ :: _, [] => ⟨fun h => False.elim h, fun h => nomatch h⟩
theorem saids_map : ∀ ts : List Tr, saids ts = ts.map said
  | [] => rfl
  | t :: ts => by
    show said t :: saids ts = _
    rw [saids_map ts]
    rfl
end K3

namespace K3
open PySem L2
open LamX (ExtN Tabs TabS TabB)
structure Own (K : PySem.W.Frag) (A : Addr) : Prop where
  cl : Cls K A
  ha : PySem.W.findIn K (.ref A) "__class__" = some (some (.builtin "object.__class__"))
  hn : PySem.W.specialIn K (.builtin "object.__class__") "__get__" = some (some (.builtin "getset_descriptor.__get__"))
  htk : PySem.W.takesIn K (.builtin "object.__class__") = some true
  hm : PySem.W.mroIn K A (.type "object") = some true
theorem Own.ty {K : PySem.W.Frag} {A x dx : Addr} {H : Hp} {fs : List (Str × V)} (T : Own K A) (h : H x = some (.ins A dx fs)) : TyX K H (.ref x) (.ref A) := .base (.ins h T.cl T.ha T.hn T.htk T.hm)
def Cl5.all (C : Cl5) : List Addr := [C.T, C.L, C.V, C.W, C.R]
theorem Cl5.v_mem (C : Cl5) (k : Nat) : C.v k ∈ C.all := by
  match k with
  | 0 => simp [Cl5.v, Cl5.all]
  | 1 => simp [Cl5.v, Cl5.all]
  | _ + 2 => simp [Cl5.v, Cl5.all]
theorem Cl5.n_mem (C : Cl5) (b : Bool) : C.n b ∈ C.all := by cases b <;> simp [Cl5.n, Cl5.all]
/-- the five classes, and what the types say of each other -/
structure Ty5 (K : PySem.W.Frag) (C : Cl5) : Prop where
  own : ∀ a ∈ C.all, Own K a
  nd : C.all.Nodup
  kit : ∀ a ∈ C.all, ∀ b ∈ C.all, PySem.W.kitOne K (.ref a) (.ref b) = some (decide (a = b))
  str : ∀ a ∈ C.all, PySem.W.kitOne K (.ref a) (.type "str") = some false
  tup : ∀ a ∈ C.all, PySem.W.kitOne K (.ref a) (.type "tuple") = some false
  bs : ∀ a ∈ C.all, PySem.W.kitOne K (.type "str") (.ref a) = some false
  bt : ∀ a ∈ C.all, PySem.W.kitOne K (.type "tuple") (.ref a) = some false
def tyT (C : Cl5) : Tr → Value
  | .tx _ => .type "str"
  | .row _ => .type "tuple"
  | .vr k _ => .ref (C.v k)
  | .nd lk _ _ => .ref (C.n lk)
theorem PtAt.ty {K : PySem.W.Frag} {C : Cl5} {H : Hp} (T : Ty5 K C) : ∀ {v : V} {t : Tr}, PtAt C H v t → TyX K H v (tyT C t)
  | _, .tx s, h => by
    rw [show _ = V.str s from h]
    exact .base (.str _)
  | _, .row ts, h => by
    obtain ⟨a, xs, h1, h2, _⟩ := h
    rw [h1]
    exact .base (.tup h2)
  | _, .vr k n, h => by
    obtain ⟨x, dx, fs, h1, h2, _⟩ := h
    rw [h1]
    exact (T.own _ (C.v_mem k)).ty h2
  | _, .nd lk f ps, h => by
    obtain ⟨x, dx, fs, pa, xs, h1, h2, _⟩ := h
    rw [h1]
    exact (T.own _ (C.n_mem lk)).ty h2
def isT : Tr → Bool
  | .nd false _ _ => true
  | _ => false
def isTx : Tr → Bool
  | .tx _ => true
  | _ => false
def isRow : Tr → Bool
  | .row _ => true
  | _ => false
theorem kit_T {K : PySem.W.Frag} {C : Cl5} (T : Ty5 K C) (t : Tr) : PySem.W.kitOne K (tyT C t) (.ref C.T) = some (isT t) := by
  have mT : C.T ∈ C.all := C.n_mem false
  have nd := T.nd
  simp only [Cl5.all, List.nodup_cons, List.mem_cons, List.not_mem_nil, or_false, not_or] at nd
  obtain ⟨⟨a1, a2, a3, a4⟩, _⟩ := nd
  match t with
  | .tx _ => exact T.bs _ mT
  | .row _ => exact T.bt _ mT
  | .vr 0 _ => exact (T.kit _ (C.v_mem 0) _ mT).trans (by rw [decide_eq_false (fun q => a2 q.symm)]; rfl)
  | .vr 1 _ => exact (T.kit _ (C.v_mem 1) _ mT).trans (by rw [decide_eq_false (fun q => a3 q.symm)]; rfl)
  | .vr (n + 2) _ => exact (T.kit _ (C.v_mem (n + 2)) _ mT).trans (by rw [decide_eq_false (fun q => a4 q.symm)]; rfl)
  | .nd false _ _ => exact (T.kit _ (C.n_mem false) _ mT).trans (by show some (decide (C.T = C.T)) = some true; rw [decide_eq_true rfl])
  | .nd true _ _ => exact (T.kit _ (C.n_mem true) _ mT).trans (by rw [decide_eq_false (fun q => a1 q.symm)]; rfl)
theorem kit_str {K : PySem.W.Frag} {C : Cl5} (T : Ty5 K C) (t : Tr) : PySem.W.kitOne K (tyT C t) (.type "str") = some (isTx t) := by
  match t with
  | .tx _ => exact kit_ty (r := true) (by decide +kernel)
  | .row _ => exact kit_ty (r := false) (by decide +kernel)
  | .vr k _ => exact T.str _ (C.v_mem k)
  | .nd b _ _ => exact T.str _ (C.n_mem b)
theorem kit_tup {K : PySem.W.Frag} {C : Cl5} (T : Ty5 K C) (t : Tr) : PySem.W.kitOne K (tyT C t) (.type "tuple") = some (isRow t) := by
  match t with
  | .tx _ => exact kit_ty (r := false) (by decide +kernel)
  | .row _ => exact kit_ty (r := true) (by decide +kernel)
  | .vr k _ => exact T.tup _ (C.v_mem k)
  | .nd b _ _ => exact T.tup _ (C.n_mem b)
theorem kit_N {K : PySem.W.Frag} {C : Cl5} (T : Ty5 K C) (t : Tr) : PySem.W.kitAny K (tyT C t) [.ref C.L, .ref C.T, .ref C.V] = some (isN t) := by
  have nd := T.nd
  simp only [Cl5.all, List.nodup_cons, List.mem_cons, List.not_mem_nil, or_false, not_or] at nd
  obtain ⟨⟨a1, a2, a3, a4⟩, ⟨b2, b3, b4⟩, ⟨c3, c4⟩, _⟩ := nd
  have mT : C.T ∈ C.all := C.n_mem false
  have mL : C.L ∈ C.all := C.n_mem true
  have mV : C.V ∈ C.all := C.v_mem 0
  unfold PySem.W.kitAny PySem.W.kitAny PySem.W.kitAny PySem.W.kitAny
  match t with
  | .tx _ =>
    show (match PySem.W.kitOne K (.type "str") (.ref C.L) with | some true => some true | some false => _ | none => none) = _
    rw [T.bs _ mL]
    dsimp only
    rw [show PySem.W.kitOne K (tyT C (.tx _)) (.ref C.T) = some false from T.bs _ mT]
    dsimp only
    rw [show PySem.W.kitOne K (tyT C (.tx _)) (.ref C.V) = some false from T.bs _ mV]
    rfl
  | .row _ =>
    rw [show PySem.W.kitOne K (tyT C (.row _)) (.ref C.L) = some false from T.bt _ mL]
    dsimp only
    rw [show PySem.W.kitOne K (tyT C (.row _)) (.ref C.T) = some false from T.bt _ mT]
    dsimp only
    rw [show PySem.W.kitOne K (tyT C (.row _)) (.ref C.V) = some false from T.bt _ mV]
    rfl
  | .vr 0 n =>
    rw [show PySem.W.kitOne K (tyT C (.vr 0 n)) (.ref C.L) = some false from (T.kit _ mV _ mL).trans (by rw [decide_eq_false (fun q => b2 q.symm)])]
    dsimp only
    rw [show PySem.W.kitOne K (tyT C (.vr 0 n)) (.ref C.T) = some false from (T.kit _ mV _ mT).trans (by rw [decide_eq_false (fun q => a2 q.symm)])]
    dsimp only
    rw [show PySem.W.kitOne K (tyT C (.vr 0 n)) (.ref C.V) = some true from (T.kit _ mV _ mV).trans (by rw [decide_eq_true rfl])]
    rfl
  | .vr 1 n =>
    rw [show PySem.W.kitOne K (tyT C (.vr 1 n)) (.ref C.L) = some false from (T.kit _ (C.v_mem 1) _ mL).trans (by rw [decide_eq_false (fun q => b3 q.symm)])]
    dsimp only
    rw [show PySem.W.kitOne K (tyT C (.vr 1 n)) (.ref C.T) = some false from (T.kit _ (C.v_mem 1) _ mT).trans (by rw [decide_eq_false (fun q => a3 q.symm)])]
    dsimp only
    rw [show PySem.W.kitOne K (tyT C (.vr 1 n)) (.ref C.V) = some false from (T.kit _ (C.v_mem 1) _ mV).trans (by rw [decide_eq_false (fun q => c3 q.symm)])]
    rfl
  | .vr (k + 2) n =>
    rw [show PySem.W.kitOne K (tyT C (.vr (k + 2) n)) (.ref C.L) = some false from (T.kit _ (C.v_mem (k + 2)) _ mL).trans (by rw [decide_eq_false (fun q => b4 q.symm)])]
    dsimp only
    rw [show PySem.W.kitOne K (tyT C (.vr (k + 2) n)) (.ref C.T) = some false from (T.kit _ (C.v_mem (k + 2)) _ mT).trans (by rw [decide_eq_false (fun q => a4 q.symm)])]
    dsimp only
    rw [show PySem.W.kitOne K (tyT C (.vr (k + 2) n)) (.ref C.V) = some false from (T.kit _ (C.v_mem (k + 2)) _ mV).trans (by rw [decide_eq_false (fun q => c4 q.symm)])]
    rfl
  | .nd false f ps =>
    rw [show PySem.W.kitOne K (tyT C (.nd false f ps)) (.ref C.L) = some false from (T.kit _ mT _ mL).trans (by rw [decide_eq_false a1])]
    dsimp only
    rw [show PySem.W.kitOne K (tyT C (.nd false f ps)) (.ref C.T) = some true from (T.kit _ mT _ mT).trans (by rw [decide_eq_true rfl])]
    rfl
  | .nd true f ps =>
    rw [show PySem.W.kitOne K (tyT C (.nd true f ps)) (.ref C.L) = some true from (T.kit _ mL _ mL).trans (by rw [decide_eq_true rfl])]
    rfl
/-! ### _is_node, _is_tree_part -/
structure TxtT (mg : Str → Option Value) (C : Cl5) : Prop where
  isi : mg "isinstance" = none
  str : mg "str" = none
  tup : mg "tuple" = none
  len : mg "len" = none
  all : mg "all" = none
  mx : ∃ t, mg "MAX_TEXT" = some (.int 60 t)
  gT : mg "Tree" = some (.ref C.T)
  gL : mg "Like" = some (.ref C.L)
  gV : mg "Var" = some (.ref C.V)
  gW : mg "Word" = some (.ref C.W)
  gR : mg "Rest" = some (.ref C.R)
section
variable {P : Program} {w : World} {K : PySem.W.Frag} {mg : Str → Option Value} {base : Heap}
def spIsNode (C : Cl5) : Sp := fun vs H Q _ => ∃ v t, vs = [v] ∧ PtAt C H v t ∧ ∀ H', Same H H' → Q (.bl (isN t)) H'
theorem scIsNode : FnScope ["value"] ["value"] (defScope sIsNode) := ⟨rfl, rfl, rfl, by decide +kernel, rfl, by decide +kernel, by decide +kernel⟩
theorem ok_isNode {C : Cl5} {f : Addr} {fd : FuncData} (F : Fun K "is_node" "is_node" sIsNode f fd) (T : TxtT mg C) (T5 : Ty5 K C) : FnOk P w K mg base CX0 1 f fd ["value"] (spIsNode C) := by
  refine F.ok scIsNode (fun vs H Q E h => ?_) (fun cdv A outer s H vs Q E hr h => ?_)
  · obtain ⟨v, t, rfl, _⟩ := h
    rfl
  · obtain ⟨v, t, rfl, hv, k⟩ := h
    refine ⟨_, pss_one (ps_ret (pe_callB call_isiT (by rfl) T.isi PyProof.Rows.boot_isinstance (pa_cons (pv 0) (pa_cons (pe_tup (pa_cons (pe_glob (v := .ref C.L) rfl T.gL rfl) (pa_cons (pe_glob (v := .ref C.T) rfl T.gT rfl) (pa_cons (pe_glob (v := .ref C.V) rfl T.gV rfl) pa_nil)))) pa_nil)))), ?_⟩
    refine ⟨_, rfl, by show 3 ≤ sizeLine; decide, fun p hp => ?_⟩
    have s1 : Same H (upd H p (.tup [.ref C.L, .ref C.T, .ref C.V])) := same_upd (Same.refl H) hp
    exact ⟨v, p, [.ref C.L, .ref C.T, .ref C.V], tyT C t, _, isN t, rfl, upd_same, .cons (.own _) (.cons (.own _) (.cons (.own _) .nil)), PtAt.ty T5 (PtAt.kpo (KpO.same s1) t hv), kit_N T5 t, k _ s1⟩
end
end K3

namespace K3
open PySem L2
open LamX (ExtN Tabs TabS TabB)
/-- a part that a node of a tree can have -/
def okP : Tr → Bool
  | .tx s => decide (s.length ≤ 60)
  | .row ts => ts.all isT
  | .nd false _ _ => true
  | _ => false
/-- a value that is no part of a tree -/
def BadT (K : PySem.W.Frag) (C : Cl5) (H : Hp) (v : V) : Prop :=
  (∃ s, v = .str s ∧ 60 < s.length ∧ s.length ≤ 1000) ∨
  (∃ a xs bs, v = .ref a ∧ H a = some (.tup xs) ∧ xs.length ≤ 1000 ∧ Paired (fun x b => ∃ t, TyX K H x t ∧ PySem.W.kitOne K t (.ref C.T) = some b ∧ ∀ a, x = .ref a → ∃ o, H a = some o) xs bs ∧ bs.all id = false) ∨
  (∃ t, TyX K H v t ∧ PySem.W.kitOne K t (.type "str") = some false ∧ PySem.W.kitOne K t (.type "tuple") = some false ∧ PySem.W.kitOne K t (.ref C.T) = some false)
theorem TyX.sm {K : PySem.W.Frag} {H H' : Hp} {v : V} {t : Value} (h : TyX K H v t) (e : Same H H') : TyX K H' v t := TyX.keep h fun a o _ q => e a o q
theorem all_isT {C : Cl5} {H : Hp} {K : PySem.W.Frag} (T5 : Ty5 K C) : ∀ {xs : List V} {ts : List Tr}, PtsAt C H xs ts → ∃ bs, Paired (fun x b => ∃ t, TyX K H x t ∧ PySem.W.kitOne K t (.ref C.T) = some b) xs bs ∧ bs = ts.map isT
  | [], [], _ => ⟨[], .nil, rfl⟩
  | x :: xs, t :: ts, h => by
    obtain ⟨bs, h1, h2⟩ := all_isT T5 h.2
    exact ⟨isT t :: bs, .cons ⟨_, PtAt.ty T5 h.1, kit_T T5 t⟩ h1, by rw [h2]; rfl⟩
  | [], _ :: _, h => False.elim h
  | _ :: _, [], h => False.elim h
theorem pts_len {C : Cl5} {H : Hp} : ∀ {xs : List V} {ts : List Tr}, PtsAt C H xs ts → xs.length = ts.length
  | [], [], _ => rfl
  | x :: xs, t :: ts, h => by rw [List.length_cons, List.length_cons, pts_len h.2]
  | [], _ :: _, h => False.elim h
  | _ :: _, [], h => False.elim h
section
variable {P : Program} {w : World} {K : PySem.W.Frag} {mg : Str → Option Value} {base : Heap}
def rowB : Tr → Nat
  | .row ts => ts.length
  | .tx s => s.length
  | _ => 0
def spTreePart (K : PySem.W.Frag) (C : Cl5) : Sp := fun vs H Q _ => ∃ v, vs = [v] ∧ ((∃ t, PtAt C H v t ∧ rowB t ≤ 1000 ∧ ∀ H', Same H H' → Q (.bl (okP t)) H') ∨ (BadT K C H v ∧ ∀ H', Same H H' → Q (.bl false) H'))
theorem scTreePart : FnScope ["part", "item"] ["part"] (defScope sTreePart) := ⟨rfl, rfl, rfl, by decide +kernel, rfl, by decide +kernel, by decide +kernel⟩
theorem ok_treePart {C : Cl5} {f : Addr} {fd : FuncData} (F : Fun K "_is_tree_part" "_is_tree_part" sTreePart f fd) (T : TxtT mg C) (T5 : Ty5 K C) : FnOk P w K mg base CX0 1 f fd ["part"] (spTreePart K C) := by
  refine F.ok scTreePart (fun vs H Q E h => ?_) (fun cdv A outer s H vs Q E hr h => ?_)
  · obtain ⟨v, rfl, _⟩ := h
    rfl
  · obtain ⟨v, rfl, hv⟩ := h
    obtain ⟨tm, mx⟩ := T.mx
    refine ⟨_, pss_cons (ps_if (pt_val (pe_callB call_isi (by rfl) T.isi PyProof.Rows.boot_isinstance (pa_cons (pv 0) (pa_cons (pe_bltn (v := .ty "str") rfl T.str PyProof.Rows.boot_str rfl) pa_nil)))) (pss_one (ps_ret (pe_cmpR op_le (pe_callB call_len (by rfl) T.len PySem.boot_len (pa_cons (pv 0) pa_nil)) (pe_glob (v := .int 60) rfl mx ⟨_, rfl⟩) (nomark _)))) pss_nil)
      (pss_cons (ps_if (pt_val (pe_callB call_isi (by rfl) T.isi PyProof.Rows.boot_isinstance (pa_cons (pv 0) (pa_cons (pe_bltn (v := .ty "tuple") rfl T.tup PyProof.Rows.boot_tuple rfl) pa_nil)))) (pss_one (ps_ret
          (pe_callB (cr_all rfl) (by rfl) T.all (show bootBuiltins "all" = some (.builtin "all") by decide +kernel) (pa_cons (pe_lc (own := [("item", 1)]) (g := gName 1) (tt := tYes) (te := tCB (rIsi K) (tCons (tVar 1) (tCons (tC (.ref C.T)) tNil))) rfl scTreePart.nd (pi_tup (pv 0))
            (blkOk_by (N := ["part", "item"]) (sc := defScope sTreePart) (by decide +kernel)) (fun _ _ _ _ _ => pg_name (i := 1) scTreePart.nd rfl (Or.inl rfl)) (fun _ _ _ _ _ => pts_nil)
            (fun _ _ _ _ _ => pe_callB call_isi (by rfl) T.isi PyProof.Rows.boot_isinstance (pa_cons (pv 1) (pa_cons (pe_glob (v := .ref C.T) rfl T.gT rfl) pa_nil)))) pa_nil)))) pss_nil)
      (pss_one (ps_ret (pe_callB call_isi (by rfl) T.isi PyProof.Rows.boot_isinstance (pa_cons (pv 0) (pa_cons (pe_glob (v := .ref C.T) rfl T.gT rfl) pa_nil)))))), ?_⟩
    -- a tuple whose items have these types
    have go : ∀ (a : Addr) (xs : List V) (bs : List Bool), v = .ref a → H a = some (.tup xs) → xs.length ≤ 1000 → Paired (fun x b => ∃ t, TyX K H x t ∧ PySem.W.kitOne K t (.ref C.T) = some b) xs bs → ∀ {Q' : VK}, (∀ H', Same H H' → Q' (.bl (bs.all id)) H') →
        ∀ D, H D = none → ∃ W : Nat → Nat → Hp → Prop, (∃ m, W 0 m (upd H D (.lst []))) ∧ ∀ i m H2, W i m H2 → ((Itt K a).stop i H2 ∧ (∃ (a_1 : Addr) (bs_1 : List Bool), [V.ref D] = [V.ref a_1] ∧ SqL K H2 a_1 (bs_1.map V.bl) ∧ Q' (.bl (bs_1.all id)) H2)) ∨
          ((Itt K a).go i H2 ∧ ∃ Nx : Hp → Prop, (∀ H', Nx H' → ∃ m', m' < m ∧ W (i + 1) m' H') ∧ ∀ x H', (Itt K a).yld i H2 x H' → gName 1 x (wipe [some v, none] [1]) H' fun σ2 H3 => wipe σ2 [1] = wipe [some v, none] [1] ∧ tYes σ2 H3 fun b H4 =>
            if b = true then tCB (rIsi K) (tCons (tVar 1) (tCons (tC (.ref C.T)) tNil)) σ2 H4 fun y H5 => ∃ acc, H5 D = some (.lst acc) ∧ acc.length < sizeLine ∧ Nx (upd H5 D (.lst (acc ++ [y]))) else Nx H4) := by
      intro a xs bs ev ha hl hp Q' hq D hD
      have bl : bs.length = xs.length := hp.length.symm
      refine lc_tup (K := K) (a := a) (xs := xs) (fun i H' => Same H H' ∧ H' D = some (.lst ((bs.take i).map V.bl))) ⟨same_upd (Same.refl H) hD, upd_same⟩ (fun i H' _ ⟨s', _⟩ => SqT.of (s' _ _ ha)) ?_ ?_
      · rintro i x H1 hx ⟨s1, e1⟩
        obtain ⟨b, eb, t, ht, hk⟩ := LiI.paired_get hp hx
        have il : i < xs.length := (List.getElem?_eq_some_iff.mp hx).1
        refine ⟨rfl, ?_⟩
        dsimp only [tYes]
        rw [if_pos rfl]
        refine ⟨_, rfl, x, .ref C.T, t, _, b, rfl, .own _, TyX.sm ht s1, hk, _, e1, ?_, same_upd s1 hD, ?_⟩
        · rw [List.length_map]
          exact Nat.lt_of_le_of_lt (List.length_take_le _ _) (by
            have : sizeLine > 1000 := by decide
            omega)
        · rw [upd_same, List.take_add_one, eb]
          simp
      · rintro H1 ⟨s1, e1⟩
        rw [← bl, List.take_length] at e1
        exact ⟨D, bs, rfl, SqL.of e1, hq _ s1⟩
    rcases hv with ⟨t, ht, hb, k⟩ | ⟨hbad, k⟩
    · have ty := PtAt.ty T5 ht
      refine ⟨_, rfl, _, _, _, _, isTx t, rfl, .ty "str", ty, kit_str T5 t, _, rfl, ?_⟩
      match t, ht, hb, k, ty with
      | .tx s, ht, hb, k, ty =>
        refine iteT ?_
        have ev : v = .str s := ht
        subst ev
        have hz : s.length ≤ sizeLine := Nat.le_trans hb (by decide)
        refine ⟨_, rfl, _, s.length, rfl, ⟨hz, rfl⟩, _, _, rfl, rfl, ?_⟩
        have q := k H (Same.refl H)
        have e : decide (((s.length : Nat) : Int) ≤ 60) = decide (s.length ≤ 60) := decide_eq_decide.mpr ⟨fun h => by omega, fun h => by omega⟩
        change Q (.bl (decide (s.length ≤ 60))) H at q
        rw [← e] at q
        exact q
      | .row ts, ht, hb, k, ty =>
        refine iteF ?_
        refine ⟨_, rfl, _, _, _, _, true, rfl, .ty "tuple", ty, kit_tup T5 (.row ts), _, rfl, ?_⟩
        refine iteT ?_
        obtain ⟨a, xs, ev, ha, hp⟩ := ht
        obtain ⟨bs, pb, eb⟩ := all_isT T5 hp
        have xl := pts_len hp
        have hb : ts.length ≤ 1000 := hb
        subst ev
        refine ⟨_, rfl, a, rfl, ⟨_, SqT.of ha⟩, fun D hD => go a xs bs rfl ha (by omega) pb (fun H' s' => ?_) D hD⟩
        have q := k H' s'
        rw [eb]
        have e : (ts.map isT).all id = ts.all isT := by simp [List.all_map]
        rw [e]
        exact q
      | .vr j n, ht, hb, k, ty =>
        refine iteF ?_
        refine ⟨_, rfl, _, _, _, _, false, rfl, .ty "tuple", ty, kit_tup T5 (.vr j n), _, rfl, ?_⟩
        refine iteF ?_
        exact ⟨_, rfl, _, _, _, _, false, rfl, .own _, ty, kit_T T5 (.vr j n), k _ (Same.refl H)⟩
      | .nd lk f ps, ht, hb, k, ty =>
        refine iteF ?_
        refine ⟨_, rfl, _, _, _, _, false, rfl, .ty "tuple", ty, kit_tup T5 (.nd lk f ps), _, rfl, ?_⟩
        refine iteF ?_
        refine ⟨_, rfl, _, _, _, _, _, rfl, .own _, ty, kit_T T5 (.nd lk f ps), ?_⟩
        cases lk <;> exact k _ (Same.refl H)
    · rcases hbad with ⟨s, rfl, h1, h2⟩ | ⟨a, xs, bs, rfl, ha, hl, hp, hb⟩ | ⟨t, ht, h1, h2, h3⟩
      · refine ⟨_, rfl, _, _, _, _, true, rfl, .ty "str", .base (.str s), kit_ty (r := true) (by decide +kernel), _, rfl, ?_⟩
        refine iteT ?_
        have hz : s.length ≤ sizeLine := Nat.le_trans h2 (by decide)
        refine ⟨_, rfl, _, s.length, rfl, ⟨hz, rfl⟩, _, _, rfl, rfl, ?_⟩
        have e : decide (((s.length : Nat) : Int) ≤ 60) = false := decide_eq_false (by omega)
        have q := k _ (Same.refl H)
        rw [← e] at q
        exact q
      · refine ⟨_, rfl, _, _, _, _, false, rfl, .ty "str", .base (.tup ha), kit_ty (r := false) (by decide +kernel), _, rfl, ?_⟩
        refine iteF ?_
        refine ⟨_, rfl, _, _, _, _, true, rfl, .ty "tuple", .base (.tup ha), kit_ty (r := true) (by decide +kernel), _, rfl, ?_⟩
        refine iteT ?_
        refine ⟨_, rfl, a, rfl, ⟨_, SqT.of ha⟩, fun D hD => go a xs bs rfl ha hl (Paired.mapP hp fun x b q => let ⟨t, z1, z2, _⟩ := q; ⟨t, z1, z2⟩) (fun H' s' => ?_) D hD⟩
        rw [hb]
        exact k _ s'
      · refine ⟨_, rfl, _, _, _, _, false, rfl, .ty "str", ht, h1, _, rfl, ?_⟩
        refine iteF ?_
        refine ⟨_, rfl, _, _, _, _, false, rfl, .ty "tuple", ht, h2, _, rfl, ?_⟩
        refine iteF ?_
        exact ⟨_, rfl, _, _, _, _, false, rfl, .own _, ht, h3, k _ (Same.refl H)⟩
end
end K3

namespace K3
open PySem L2
open CwR (tReplC pet_replC pet_replT PET.of pst_ret psst_nil psst_one pst_if)
/-! ### texts of nodes -/
section
variable {P : Program} {w : World} {K : PySem.W.Frag} {mg : Str → Option Value} {base : Heap}
theorem pst_set {X : Cx} {i : Nat} {x : Str} {e : Expr} {te : TE} {pos pos' : Pos} (nod : X.N.Nodup) (at_ : X.N[i]? = some x) (lc : Loc X.env.scope x) (he : PET X e te) (sw : swapsWith e (some (.Name x pos')) pos.line X.env = pure false := by rfl) (fr : X.fn x = true ∨ X.env.scope.names.lookup x = some .local := by first | exact .inl rfl | exact .inr rfl | assumption) :
    PST X (.Assign [.Name x pos'] e pos) (tAsg te (gName i)) := fun pins z σ H D n0 I h =>
  wpAny_Assign_Name (thn (he pins z σ H _ n0 I h) fun _ _ ⟨_, H1, I1, rv, q⟩ => store_ok I1 nod at_ lc rv (fun _ I2 => ⟨_, H1, I2, q⟩) fr) sw
theorem funT_ok {x qual : Str} {st : Stmt} {f : Addr} {fd : FuncData} {N ps : List Str} {k : Nat} {sp : Sp} (F : Fun K x qual st f fd) (S : FnScope N ps (defScope st)) (nc : ∀ y ∈ (defScope st).names, y.2 ≠ .cell) (one : 1 ≤ ps.length) (len : ∀ vs H Q E, sp vs H Q E → vs.length = ps.length)
    (hbody : ∀ (cdv : Value) (A : Around) (outer : List Env) (s : Shared) (H : Hp) (vs : List V) (Q : VK) (E : XK), Room k (A.deeper (PyProof.Rows.envOfC qual (defScope st) s.heap.objs.size f cdv)) → sp vs H Q E →
      ∃ t, PSsT (cxOf CX0 P w K mg base N qual (defScope st) f cdv A outer s H E) (defBody st) t ∧ t { nx := fun _ H' => Q .non H', rt := Q } (L2.start N vs) H) : FnOk P w K mg base CX0 (k + 1) f fd ps sp := by
  obtain ⟨oc, od, kV, doc, pm, an, cdv, ct, osl, rfl, lk, hcd⟩ := F.ex
  exact fn_ofT lk hcd S nc one len fun A outer s H vs Q E hr hsp => hbody cdv A outer s H vs Q E hr hsp
theorem str_app_assoc (a b c : Str) : a ++ b ++ c = a ++ (b ++ c) := by
  show (⟨a.cps ++ b.cps ++ c.cps⟩ : Str) = ⟨a.cps ++ (b.cps ++ c.cps)⟩
  rw [Array.append_assoc]
theorem str_nil_app (a : Str) : Str.empty ++ a = a := by
  show (⟨#[] ++ a.cps⟩ : Str) = a
  rw [Array.empty_append]
theorem str_len (a b : Str) : (a ++ b).length = a.length + b.length := by
  show (a.cps ++ b.cps).size = _
  rw [Array.size_append]
  rfl
theorem quote_len {s : Str} (h : s.length ≤ 1000) : (quoteS s).length ≤ 27030 := by
  have l1 := TK.replace_len s "\\" "\\\\"
  have l2 := TK.replace_len (Txt.replace s "\\" "\\\\") "\"" "\\\""
  have l3 := TK.replace_len (Txt.replace (Txt.replace s "\\" "\\\\") "\"" "\\\"") "\n" "\\n"
  have e1 : ("\\\\" : Str).length = 2 := by decide +kernel
  have e2 : ("\\\"" : Str).length = 2 := by decide +kernel
  have e3 : ("\\n" : Str).length = 2 := by decide +kernel
  have e4 : ("\"" : Str).length = 1 := by decide +kernel
  rw [e1] at l1
  rw [e2] at l2
  rw [e3] at l3
  unfold quoteS
  rw [str_len, str_len, e4]
  omega
def spQuoted : Sp := fun vs H Q _ => ∃ s, vs = [.str s] ∧ s.length ≤ 1000 ∧ Q (.str (quoteS s)) H
theorem scQuoted : FnScope ["text", "marked"] ["text"] (defScope sQuoted) := ⟨rfl, rfl, rfl, by decide +kernel, rfl, by decide +kernel, by decide +kernel⟩
theorem ok_quoted {f : Addr} {fd : FuncData} (F : Fun K "_quoted" "_quoted" sQuoted f fd) : FnOk P w K mg base CX0 1 f fd ["text"] spQuoted := by
  refine funT_ok F scQuoted (by decide +kernel) (by decide) (fun vs H Q E h => ?_) (fun cdv A outer s H vs Q E hr h => ?_)
  · obtain ⟨z, rfl, _⟩ := h
    rfl
  · obtain ⟨z, rfl, hz, k⟩ := h
    refine ⟨_, psst_cons (pst_set (i := 1) scQuoted.nd rfl (Or.inl rfl) (pet_replT (pet_replT (pet_replC (pv 0)))))
      (psst_one (pst_ret (PET.of (pe_joined (.cons pe_str (.cons (pe_fmt (pv 1)) (.cons pe_str .nil))))))), ?_⟩
    have l1 := TK.replace_len z "\\" "\\\\"
    have l2 := TK.replace_len (Txt.replace z "\\" "\\\\") "\"" "\\\""
    have l3 := TK.replace_len (Txt.replace (Txt.replace z "\\" "\\\\") "\"" "\\\"") "\n" "\\n"
    have e1 : ("\\\\" : Str).length = 2 := by decide +kernel
    have e2 : ("\\\"" : Str).length = 2 := by decide +kernel
    have e3 : ("\\n" : Str).length = 2 := by decide +kernel
    have e4 : ("\"" : Str).length = 1 := by decide +kernel
    rw [e1] at l1
    rw [e2] at l2
    rw [e3] at l3
    have big : 100000 ≤ sizeLine := by decide
    refine ⟨_, rfl, z, rfl, by rw [e1]; omega, _, rfl, by rw [e2]; omega, _, rfl, by rw [e3]; omega, ?_⟩
    refine ⟨_, rfl, by rw [str_len, e4]; show 0 + 1 ≤ sizeLine; omega, _, rfl, .inl ⟨_, rfl, by omega, _, rfl, by rw [str_len, str_len, e4]; show 0 + 1 + _ ≤ sizeLine; omega, _, rfl, by rw [str_len, str_len, str_len, e4]; show 0 + 1 + _ + 1 ≤ sizeLine; omega, ?_⟩⟩
    rw [str_nil_app]
    exact k
end
end K3

namespace K3
open PySem L2
theorem saids_len : ∀ ts : List Tr, (saids ts).length = ts.length
  | [] => rfl
  | t :: ts => by
    show (said t :: saids ts).length = _
    rw [List.length_cons, List.length_cons, saids_len ts]
theorem sep_len : (", " : Str).length = 2 := by decide +kernel
/-- the length of a join, from above -/
def joinB (ts : List Tr) : Nat := ((saids ts).map (·.length)).sum + ts.length * 2
theorem join_len (ts : List Tr) : (Txt.join ", " (saids ts)).length ≤ joinB ts := by
  have h := PySem.size_glued ", " (saids ts)
  rw [sep_len, saids_len] at h
  show (Builtin.Str.glued ", " (saids ts)).length ≤ _
  rw [h]
  unfold joinB
  have : (ts.length - 1) * 2 ≤ ts.length * 2 := Nat.mul_le_mul_right _ (Nat.sub_le _ _)
  omega
def hasText : Tr → Bool
  | .vr .. => true
  | .nd .. => true
  | _ => false
/-- its text is short enough -/
def okTx : Tr → Prop
  | .tx s => s.length ≤ 1000
  | .row ts => (∀ t ∈ ts, hasText t = true) ∧ ts.length ≤ 1000 ∧ joinB ts ≤ 16000000
  | _ => True
structure Na5 (K : PySem.W.Frag) (C : Cl5) : Prop where
  na : ∀ a ∈ C.all, ∀ f ∈ ([("form" : Str), "parts", "children", "size", "levels", "text", "name"] : List Str), NoAttr K a f
theorem said_nd (lk : Bool) (f : Str) (ps : List Tr) : said (.nd lk f ps) = f ++ "(" ++ Txt.join ", " (saids ps) ++ ")" := by simp only [said]
theorem said_row (ts : List Tr) : said (.row ts) = "[" ++ Txt.join ", " (saids ts) ++ "]" := by simp only [said]
theorem said_tx (s : Str) : said (.tx s) = quoteS s := by simp only [said]
theorem text_of {K : PySem.W.Frag} {C : Cl5} {H : Hp} : ∀ {v : V} {t : Tr}, PtAt C H v t → hasText t = true → ∃ x A dx fs, v = .ref x ∧ H x = some (.ins A dx fs) ∧ A ∈ C.all ∧ fs.lookup ("text" : Str) = some (.str (said t))
  | _, .tx _, _, h => nomatch h
  | _, .row _, _, h => nomatch h
  | _, .vr k n, h, _ => by
    obtain ⟨x, dx, fs, h1, h2, h3, h4, _⟩ := h
    exact ⟨x, _, dx, fs, h1, h2, C.v_mem k, by rw [h4]; simp only [said]⟩
  | _, .nd lk f ps, h, _ => by
    obtain ⟨x, dx, fs, pa, xs, h1, h2, h3, h4, h5, h6, h7, h8, h9, _⟩ := h
    exact ⟨x, _, dx, fs, h1, h2, C.n_mem lk, by rw [h9, said_nd]⟩
section
variable {P : Program} {w : World} {K : PySem.W.Frag} {mg : Str → Option Value} {base : Heap}
def spPartText (C : Cl5) : Sp := fun vs H Q _ => ∃ v t, vs = [v] ∧ PtAt C H v t ∧ okTx t ∧ ∀ H', Same H H' → Q (.str (said t)) H'
def NPT : List Str := ["part", "inner", "item"]
theorem scPartText : FnScope NPT ["part"] (defScope sPartText) := ⟨rfl, rfl, rfl, by decide +kernel, rfl, by decide +kernel, by decide +kernel⟩
theorem ok_partText {C : Cl5} {f fQ : Addr} {fd fdQ : FuncData} (F : Fun K "part_text" "part_text" sPartText f fd) (T : TxtT mg C) (T5 : Ty5 K C) (N5 : Na5 K C) (GQ : FnOk P w K mg base CX0 1 fQ fdQ ["text"] spQuoted) (gQ : mg "_quoted" = some (.ref fQ)) (kQ : PySem.W.keepIn K (.ref fQ) = true) (bQ : Binds K fdQ ["text"] []) :
    FnOk P w K mg base CX0 2 f fd ["part"] (spPartText C) := by
  refine F.ok scPartText (fun vs H Q E h => ?_) (fun cdv A outer s H vs Q E hr h => ?_)
  · obtain ⟨v, t, rfl, _⟩ := h
    rfl
  · obtain ⟨v, t, rfl, hv, ho, k⟩ := h
    refine ⟨_, pss_cons (ps_if (pt_val (pe_callB call_isi (by rfl) T.isi PyProof.Rows.boot_isinstance (pa_cons (pv 0) (pa_cons (pe_bltn (v := .ty "str") rfl T.str PyProof.Rows.boot_str rfl) pa_nil)))) (pss_one (ps_ret (pe_call GQ hr rfl gQ kQ bQ .nil pass0 (pa_cons (pv 0) pa_nil)))) pss_nil)
      (pss_cons (ps_if (pt_val (pe_callB call_isi (by rfl) T.isi PyProof.Rows.boot_isinstance (pa_cons (pv 0) (pa_cons (pe_bltn (v := .ty "tuple") rfl T.tup PyProof.Rows.boot_tuple rfl) pa_nil))))
          (pss_cons (ps_set (i := 1) scPartText.nd rfl (Or.inl rfl) (pe_bm PySem.F.plainAttrs_str PySem.F.slot_str_join PySem.F.type_str_join mt_join pe_str (pa_cons (pe_lc (own := [("item", 2)]) (g := gName 2) (tt := tYes) (te := tFld K (tVar 2) "text") rfl scPartText.nd (pi_tup (pv 0))
            (blkOk_by (N := NPT) (sc := defScope sPartText) (by decide +kernel)) (fun _ _ _ _ _ => pg_name (i := 2) scPartText.nd rfl (Or.inl rfl)) (fun _ _ _ _ _ => pts_nil) (fun _ _ _ _ _ => pe_fld (pv 2) rfl)) pa_nil)))
          (pss_one (ps_ret (pe_joined (.cons pe_str (.cons (pe_fmt (pv 1)) (.cons pe_str .nil))))))) pss_nil)
      (pss_one (ps_ret (pe_fld (pv 0) rfl)))), ?_⟩
    have ty := PtAt.ty T5 hv
    have big : sizeLine ≥ 16777216 := by decide
    refine ⟨_, rfl, _, _, _, _, isTx t, rfl, .ty "str", ty, kit_str T5 t, _, rfl, ?_⟩
    have fld : hasText t = true → isTx t = false → isRow t = false → tFld K (tVar 0) "text" [some v, none, none] H Q := fun h1 _ _ => by
      obtain ⟨x, Ax, dx, fs, e1, e2, e3, e4⟩ := text_of (K := K) hv h1
      exact ⟨_, rfl, x, Ax, dx, fs, _, e1, e2, (T5.own _ e3).cl, N5.na _ e3 _ (by decide +kernel), e4, k _ (Same.refl H)⟩
    match t, hv, ho, k, ty, fld with
    | .tx z, hv, ho, k, ty, _ =>
      refine iteT ?_
      have ev : v = .str z := hv
      subst ev
      refine ⟨_, rfl, z, rfl, ho, ?_⟩
      rw [← said_tx]
      exact k _ (Same.refl H)
    | .row ts, hv, ho, k, ty, _ =>
      refine iteF ?_
      refine ⟨_, rfl, _, _, _, _, true, rfl, .ty "tuple", ty, kit_tup T5 (.row ts), _, rfl, ?_⟩
      refine iteT ?_
      obtain ⟨a, xs, ev, ha, hp⟩ := hv
      subst ev
      obtain ⟨o1, o2, o3⟩ := ho
      have xl := pts_len hp
      have pp := ptsAt_iff.mp hp
      refine ⟨rfl, _, rfl, a, rfl, ⟨_, SqT.of ha⟩, fun D hD => lc_tup (K := K) (a := a) (xs := xs) (fun i H' => Same H H' ∧ H' D = some (.lst (((saids ts).take i).map V.str))) ⟨same_upd (Same.refl H) hD, upd_same⟩ (fun i H' _ ⟨s', _⟩ => SqT.of (s' _ _ ha)) ?_ ?_⟩
      · rintro i x H1 hx ⟨s1, e1⟩
        obtain ⟨ti, et, hi⟩ := LiI.paired_get pp hx
        have il : i < xs.length := (List.getElem?_eq_some_iff.mp hx).1
        obtain ⟨y, Ay, dy, gs, q1, q2, q3, q4⟩ := text_of (K := K) (PtAt.kpo (KpO.same s1) ti hi) (o1 ti (List.mem_of_getElem? et))
        refine ⟨rfl, ?_⟩
        dsimp only [tYes]
        rw [if_pos rfl]
        refine ⟨_, rfl, y, Ay, dy, gs, _, q1, q2, (T5.own _ q3).cl, N5.na _ q3 _ (by decide +kernel), q4, _, e1, ?_, same_upd s1 hD, ?_⟩
        · rw [List.length_map]
          exact Nat.lt_of_le_of_lt (List.length_take_le _ _) (by omega)
        · have es : (saids ts)[i]? = some (said ti) := by rw [saids_map, List.getElem?_map, et]; rfl
          rw [upd_same, List.take_add_one, es]
          simp
      · rintro H1 ⟨s1, e1⟩
        rw [xl, ← saids_len ts, List.take_length] at e1
        have jl := join_len ts
        refine ⟨", ", D, saids ts, rfl, rfl, .inl (SqL.of e1), ?_, ?_⟩
        · rw [sep_len, saids_len]
          unfold joinB at o3
          omega
        have b1 : ("[" : Str).length = 1 := by decide +kernel
        have b2 : ("]" : Str).length = 1 := by decide +kernel
        refine ⟨_, rfl, by rw [str_len, b1]; show 0 + 1 ≤ sizeLine; omega, _, rfl, .inl ⟨_, rfl, by omega, _, rfl, by rw [str_len, str_len, b1]; show 0 + 1 + _ ≤ sizeLine; omega, _, rfl, by rw [str_len, str_len, str_len, b1, b2]; show 0 + 1 + _ + 1 ≤ sizeLine; omega, ?_⟩⟩
        rw [str_nil_app, ← said_row]
        exact k _ s1
    | .vr j n, hv, ho, k, ty, fld =>
      refine iteF ?_
      refine ⟨_, rfl, _, _, _, _, false, rfl, .ty "tuple", ty, kit_tup T5 (.vr j n), _, rfl, ?_⟩
      exact iteF (fld rfl rfl rfl)
    | .nd lk g ps, hv, ho, k, ty, fld =>
      refine iteF ?_
      refine ⟨_, rfl, _, _, _, _, false, rfl, .ty "tuple", ty, kit_tup T5 (.nd lk g ps), _, rfl, ?_⟩
      exact iteF (fld rfl rfl rfl)
end
end K3

namespace K3
open PySem L2
section
variable {P : Program} {w : World} {K : PySem.W.Frag} {mg : Str → Option Value} {base : Heap}
def spNodeText (C : Cl5) : Sp := fun vs H Q _ => ∃ (f : Str) (a : Addr) (xs : List V) (ps : List Tr), vs = [.str f, .ref a] ∧ H a = some (.tup xs) ∧ PtsAt C H xs ps ∧ (∀ p ∈ ps, okTx p) ∧ ps.length ≤ 1000 ∧ joinB ps ≤ 16000000 ∧ f.length ≤ 1000 ∧
  ∀ H', Same H H' → Q (.str (f ++ "(" ++ Txt.join ", " (saids ps) ++ ")")) H'
def NNT : List Str := ["form", "parts", "inner", "part"]
theorem scNodeText : FnScope NNT ["form", "parts"] (defScope sNodeText) := ⟨rfl, rfl, rfl, by decide +kernel, rfl, by decide +kernel, by decide +kernel⟩
theorem ok_nodeText {C : Cl5} {f fP : Addr} {fd fdP : FuncData} (F : Fun K "_node_text" "_node_text" sNodeText f fd) (GP : FnOk P w K mg base CX0 2 fP fdP ["part"] (spPartText C)) (gP : mg "part_text" = some (.ref fP)) (kP : PySem.W.keepIn K (.ref fP) = true) (bP : Binds K fdP ["part"] []) :
    FnOk P w K mg base CX0 3 f fd ["form", "parts"] (spNodeText C) := by
  refine F.ok scNodeText (fun vs H Q E h => ?_) (fun cdv A outer s H vs Q E hr h => ?_)
  · obtain ⟨g, a, xs, ps, rfl, _⟩ := h
    rfl
  · obtain ⟨g, a, xs, ps, rfl, ha, hp, ho, hl, hj, hg, k⟩ := h
    refine ⟨_, pss_cons (ps_set (i := 2) scNodeText.nd rfl (Or.inl rfl) (pe_bm PySem.F.plainAttrs_str PySem.F.slot_str_join PySem.F.type_str_join mt_join pe_str (pa_cons (pe_lc (own := [("part", 3)]) (g := gName 3) (tt := tYes) (te := tCall (spPartText C) [] E0 (tCons (tVar 3) tNil)) rfl scNodeText.nd (pi_tup (pv 1))
        (blkOk_by (N := NNT) (sc := defScope sNodeText) (by decide +kernel)) (fun _ _ _ _ _ => pg_name (i := 3) scNodeText.nd rfl (Or.inl rfl)) (fun _ _ _ _ _ => pts_nil) (fun _ _ _ _ _ => pe_call GP hr rfl gP kP bP .nil pass0 (pa_cons (pv 3) pa_nil))) pa_nil)))
      (pss_one (ps_ret (pe_joined (.cons (pe_fmt (pv 0)) (.cons pe_str (.cons (pe_fmt (pv 2)) (.cons pe_str .nil))))))), ?_⟩
    have big : sizeLine ≥ 16777216 := by decide
    have xl := pts_len hp
    have pp := ptsAt_iff.mp hp
    refine ⟨rfl, _, rfl, a, rfl, ⟨_, SqT.of ha⟩, fun D hD => lc_tup (K := K) (a := a) (xs := xs) (fun i H' => Same H H' ∧ H' D = some (.lst (((saids ps).take i).map V.str))) ⟨same_upd (Same.refl H) hD, upd_same⟩ (fun i H' _ ⟨s', _⟩ => SqT.of (s' _ _ ha)) ?_ ?_⟩
    · rintro i x H1 hx ⟨s1, e1⟩
      obtain ⟨ti, et, hi⟩ := LiI.paired_get pp hx
      have il : i < xs.length := (List.getElem?_eq_some_iff.mp hx).1
      refine ⟨rfl, ?_⟩
      dsimp only [tYes]
      rw [if_pos rfl]
      refine ⟨_, rfl, x, ti, rfl, PtAt.kpo (KpO.same s1) ti hi, ho ti (List.mem_of_getElem? et), fun H2 s2 => ⟨_, s2 _ _ e1, ?_, same_upd (s1.trans s2) hD, ?_⟩⟩
      · rw [List.length_map]
        exact Nat.lt_of_le_of_lt (List.length_take_le _ _) (by omega)
      · have es : (saids ps)[i]? = some (said ti) := by rw [saids_map, List.getElem?_map, et]; rfl
        rw [upd_same, List.take_add_one, es]
        simp
    · rintro H1 ⟨s1, e1⟩
      rw [xl, ← saids_len ps, List.take_length] at e1
      have jl := join_len ps
      refine ⟨", ", D, saids ps, rfl, rfl, .inl (SqL.of e1), ?_, ?_⟩
      · rw [sep_len, saids_len]
        unfold joinB at hj
        omega
      have b1 : ("(" : Str).length = 1 := by decide +kernel
      have b2 : (")" : Str).length = 1 := by decide +kernel
      refine ⟨_, rfl, .inl ⟨g, rfl, by omega, _, rfl, by rw [str_len]; show 0 + g.length ≤ sizeLine; omega, _, rfl, by rw [str_len, str_len, b1]; show 0 + g.length + 1 ≤ sizeLine; omega, _, rfl, .inl ⟨_, rfl, by omega, _, rfl, by rw [str_len, str_len, str_len, b1]; show 0 + g.length + 1 + _ ≤ sizeLine; omega, _, rfl, by rw [str_len, str_len, str_len, str_len, b1, b2]; show 0 + g.length + 1 + _ + 1 ≤ sizeLine; omega, ?_⟩⟩⟩
      rw [str_nil_app]
      exact k _ s1
/-! ### size and levels -/
theorem meas_of {C : Cl5} {H : Hp} : ∀ {v : V} {t : Tr}, PtAt C H v t → isN t = true → ∃ x A dx fs, v = .ref x ∧ H x = some (.ins A dx fs) ∧ A ∈ C.all ∧ fs.lookup ("size" : Str) = some (.int ((size t : Nat) : Int)) ∧ fs.lookup ("levels" : Str) = some (.int ((levels t : Nat) : Int))
  | _, .tx _, _, h => nomatch h
  | _, .row _, _, h => nomatch h
  | _, .vr 0 n, h, _ => by
    obtain ⟨x, dx, fs, h1, h2, h3, h4, h5⟩ := h
    obtain ⟨a, b⟩ := h5 rfl
    exact ⟨x, _, dx, fs, h1, h2, C.v_mem 0, a.trans (by simp only [size]; rfl), b.trans (by simp only [levels]; rfl)⟩
  | _, .vr (_ + 1) _, _, h => nomatch h
  | _, .nd lk f ps, h, _ => by
    obtain ⟨x, dx, fs, pa, xs, h1, h2, h3, h4, h5, h6, h7, h8, h9, _⟩ := h
    exact ⟨x, _, dx, fs, h1, h2, C.n_mem lk, h7.trans (by simp only [size]), h8.trans (by simp only [levels])⟩
theorem sizes_snoc : ∀ (ts : List Tr) (t : Tr), sizes (ts ++ [t]) = sizes ts + size t
  | [], t => by simp only [List.nil_append, sizes, Nat.add_zero, Nat.zero_add]
  | a :: ts, t => by simp only [List.cons_append, sizes, sizes_snoc ts t, Nat.add_assoc]
theorem levelss_snoc : ∀ (ts : List Tr) (t : Tr), levelss (ts ++ [t]) = max (levelss ts) (levels t)
  | [], t => by simp only [List.nil_append, levelss, Nat.max_zero, Nat.zero_max]
  | a :: ts, t => by simp only [List.cons_append, levelss, levelss_snoc ts t, Nat.max_assoc]
def spMeasures (C : Cl5) : Sp := fun vs H Q _ => ∃ (a : Addr) (xs : List V) (ts : List Tr), vs = [.ref a] ∧ H a = some (.tup xs) ∧ PtsAt C H xs ts ∧ (∀ t ∈ ts, isN t = true) ∧
  ∀ H' p, Same H H' → H p = none → H' p = some (.tup [.int ((1 + sizes ts : Nat) : Int), .int ((levelss ts + 1 : Nat) : Int)]) → Q (.ref p) H'
def NME : List Str := ["nodes", "size", "deepest", "node"]
theorem scMeasures : FnScope NME ["nodes"] (defScope sMeasures) := ⟨rfl, rfl, rfl, by decide +kernel, rfl, by decide +kernel, by decide +kernel⟩
theorem ok_measures {C : Cl5} {f : Addr} {fd : FuncData} (F : Fun K "_measures_above" "_measures_above" sMeasures f fd) (T5 : Ty5 K C) (N5 : Na5 K C) : FnOk P w K mg base CX0 1 f fd ["nodes"] (spMeasures C) := by
  refine F.ok scMeasures (fun vs H Q E h => ?_) (fun cdv A outer s H vs Q E hr h => ?_)
  · obtain ⟨a, xs, ts, rfl, _⟩ := h
    rfl
  · obtain ⟨a, xs, ts, rfl, ha, hp, hn, k⟩ := h
    refine ⟨_, pss_cons (ps_set (i := 1) scMeasures.nd rfl (Or.inl rfl) pe_int) (pss_cons (ps_set (i := 2) scMeasures.nd rfl (Or.inl rfl) pe_int)
      (pss_cons (ps_for PassesOwn.never rfl (pi_tup (pv 0)) (pg_name (i := 3) scMeasures.nd rfl (Or.inl rfl)) (pss_cons (ps_aug (i := 1) scMeasures.nd rfl (Or.inl rfl) (pe_fld (pv 3) rfl) iop_add)
        (pss_one (ps_if (pt_cmpR op_gt (pe_fld (pv 3) rfl) (pv 2) (nomark _)) (pss_one (ps_set (i := 2) scMeasures.nd rfl (Or.inl rfl) (pe_fld (pv 3) rfl))) pss_nil))))
      (pss_one (ps_ret (pe_tup (pa_cons (pv 1) (pa_cons (pe_op op_add (pv 2) pe_int) pa_nil))))))), ?_⟩
    have xl := pts_len hp
    have pp := ptsAt_iff.mp hp
    refine ⟨_, rfl, a, rfl, ⟨_, SqT.of ha⟩, for_tup (K := K) (a := a) (xs := xs) (fun i σ H' => ∃ v3 : Option V, σ = [some (.ref a), some (.int ((1 + sizes (ts.take i) : Nat) : Int)), some (.int ((levelss (ts.take i) : Nat) : Int)), v3] ∧ H' = H) ⟨_, rfl, rfl⟩ (fun i σ H' _ ⟨_, _, e⟩ => by rw [e]; exact SqT.of ha) ?_ ?_⟩
    · rintro i x σ H' hx ⟨v3, rfl, rfl⟩
      obtain ⟨ti, et, hi⟩ := LiI.paired_get pp hx
      obtain ⟨y, A_, dy, gs, rfl, q2, q3, q4, q5⟩ := meas_of hi (hn ti (List.mem_of_getElem? et))
      have cl := (T5.own _ q3).cl
      have sz : sizes (ts.take (i + 1)) = sizes (ts.take i) + size ti := by rw [List.take_add_one, et]; exact sizes_snoc _ _
      have lv : levelss (ts.take (i + 1)) = max (levelss (ts.take i)) (levels ti) := by rw [List.take_add_one, et]; exact levelss_snoc _ _
      refine ⟨_, rfl, _, rfl, y, A_, dy, gs, _, rfl, q2, cl, N5.na _ q3 _ (by decide +kernel), q4, _, _, rfl, rfl, ?_⟩
      refine ⟨_, rfl, y, A_, dy, gs, _, rfl, q2, cl, N5.na _ q3 _ (by decide +kernel), q5, _, rfl, _, _, rfl, rfl, _, rfl, ?_⟩
      have esz : (((1 + sizes (ts.take i) : Nat) : Int) + ((size ti : Nat) : Int)) = ((1 + sizes (ts.take (i + 1)) : Nat) : Int) := by rw [sz]; omega
      refine ite2 (fun h => ?_) (fun h => ?_)
      · have h := of_decide_eq_true h
        refine ⟨_, rfl, y, A_, dy, gs, _, rfl, q2, cl, N5.na _ q3 _ (by decide +kernel), q5, some (.ref y), ?_, rfl⟩
        rw [← esz, ← show levels ti = levelss (ts.take (i + 1)) by rw [lv]; omega]
        rfl
      · have h : ¬ ((levelss (ts.take i) : Nat) : Int) < ((levels ti : Nat) : Int) := fun q => h (decide_eq_true q)
        refine ⟨some (.ref y), ?_, rfl⟩
        rw [← esz, ← show levelss (ts.take i) = levelss (ts.take (i + 1)) by rw [lv]; omega]
        rfl
    · rintro σ H' ⟨v3, rfl, rfl⟩
      rw [xl, List.take_length]
      refine ⟨_, rfl, _, rfl, _, _, rfl, rfl, by show 2 ≤ sizeLine; decide, fun p hp2 => ?_⟩
      exact k _ p (same_upd (Same.refl _) hp2) hp2 upd_same
end
end K3

namespace K3
open PySem L2
/-! ### the nodes among parts -/
def kidOne (H : Hp) (x : V) (p : Tr) (ks : List V) : Prop := match p with
  | .row ts => ∃ a ys, x = .ref a ∧ H a = some (.tup ys) ∧ ys.length = ts.length ∧ ks = ((ys.zip ts).filter fun p => isN p.2).map Prod.fst
  | p => ks = if isN p = true then [x] else []
theorem kids_snoc {H : Hp} {x : V} {p : Tr} {ks : List V} (h1 : kidOne H x p ks) : ∀ {xs : List V} {ps : List Tr} {cs : List V}, KidsAt H xs ps cs → KidsAt H (xs ++ [x]) (ps ++ [p]) (cs ++ ks)
  | [], [], cs, h => by
    rw [show cs = [] from h]
    cases p with
    | row ts =>
      obtain ⟨a, ys, e1, e2, e3, e4⟩ := h1
      exact ⟨a, ys, [], e1, e2, e3, by rw [List.nil_append, e4, List.append_nil], rfl⟩
    | tx s => exact ⟨[], by rw [List.nil_append, List.append_nil]; exact h1, rfl⟩
    | vr k n => exact ⟨[], by rw [List.nil_append, List.append_nil]; exact h1, rfl⟩
    | nd lk f qs => exact ⟨[], by rw [List.nil_append, List.append_nil]; exact h1, rfl⟩
  | y :: xs, .row ts :: ps, cs, h => by
    obtain ⟨a, ys, r, e1, e2, e3, e4, e5⟩ := h
    exact ⟨a, ys, r ++ ks, e1, e2, e3, by rw [e4, List.append_assoc], kids_snoc h1 e5⟩
  | y :: xs, .tx s :: ps, cs, h => by obtain ⟨r, e1, e2⟩ := h; exact ⟨r ++ ks, by rw [e1, List.append_assoc], kids_snoc h1 e2⟩
  | y :: xs, .vr k n :: ps, cs, h => by obtain ⟨r, e1, e2⟩ := h; exact ⟨r ++ ks, by rw [e1, List.append_assoc], kids_snoc h1 e2⟩
  | y :: xs, .nd lk f qs :: ps, cs, h => by obtain ⟨r, e1, e2⟩ := h; exact ⟨r ++ ks, by rw [e1, List.append_assoc], kids_snoc h1 e2⟩
  | [], _ :: _, _, h => False.elim (by cases ‹Tr› <;> exact h)
  | _ :: _, [], _, h => False.elim h
theorem below_snoc : ∀ (ps : List Tr) (p : Tr), below (ps ++ [p]) = below ps ++ below [p]
  | [], p => by simp only [List.nil_append, below]
  | .row ts :: ps, p => by simp only [List.cons_append, below, below_snoc ps p, List.append_assoc]
  | .tx s :: ps, p => by simp only [List.cons_append, below, below_snoc ps p, List.append_assoc]
  | .vr k n :: ps, p => by simp only [List.cons_append, below, below_snoc ps p, List.append_assoc]
  | .nd lk f qs :: ps, p => by simp only [List.cons_append, below, below_snoc ps p, List.append_assoc]
theorem pts_app {C : Cl5} {H : Hp} : ∀ {xs ys : List V} {ts us : List Tr}, PtsAt C H xs ts → PtsAt C H ys us → PtsAt C H (xs ++ ys) (ts ++ us)
  | [], _, [], _, _, h => h
  | _ :: _, _, _ :: _, _, h, h2 => ⟨h.1, pts_app h.2 h2⟩
  | [], _, _ :: _, _, h, _ => False.elim h
  | _ :: _, _, [], _, h, _ => False.elim h
def picked (ys : List V) (us : List Tr) : List V := ((ys.zip us).filter fun p => isN p.2).map Prod.fst
theorem pts_picked {C : Cl5} {H : Hp} : ∀ {ys : List V} {us : List Tr}, PtsAt C H ys us → PtsAt C H (picked ys us) (us.filter isN)
  | [], [], h => h
  | y :: ys, u :: us, h => by
    have ih := pts_picked h.2
    unfold picked at ih ⊢
    rw [List.zip_cons_cons]
    cases e : isN u with
    | true =>
      rw [List.filter_cons_of_pos (by exact e), List.filter_cons_of_pos (by exact e), List.map_cons]
      exact ⟨h.1, ih⟩
    | false =>
      rw [List.filter_cons_of_neg (by rw [e]; exact Bool.false_ne_true), List.filter_cons_of_neg (by show ¬ isN u = true; rw [e]; exact Bool.false_ne_true)]
      exact ih
  | [], _ :: _, h => False.elim h
  | _ :: _, [], h => False.elim h
theorem picked_len (ys : List V) (us : List Tr) : (picked ys us).length ≤ us.length := by
  unfold picked
  rw [List.length_map]
  exact Nat.le_trans (List.length_filter_le _ _) (by rw [List.length_zip]; exact Nat.min_le_right _ _)
theorem picked_snoc {ys : List V} {us : List Tr} {j : Nat} {y : V} {u : Tr} (h1 : ys[j]? = some y) (h2 : us[j]? = some u) : picked (ys.take (j + 1)) (us.take (j + 1)) = picked (ys.take j) (us.take j) ++ (if isN u = true then [y] else []) := by
  have l1 : j < ys.length := (List.getElem?_eq_some_iff.mp h1).1
  have l2 : j < us.length := (List.getElem?_eq_some_iff.mp h2).1
  unfold picked
  rw [List.take_add_one, List.take_add_one, h1, h2]
  rw [List.zip_append (by rw [List.length_take, List.length_take]; omega), List.filter_append, List.map_append]
  congr 1
  cases e : isN u <;> simp [e]
section
variable {P : Program} {w : World} {K : PySem.W.Frag} {mg : Str → Option Value} {base : Heap}
def rowLen : Tr → Nat
  | .row ts => ts.length
  | _ => 0
def spNodes (C : Cl5) : Sp := fun vs H Q _ => ∃ (a : Addr) (xs : List V) (ps : List Tr), vs = [.ref a] ∧ H a = some (.tup xs) ∧ PtsAt C H xs ps ∧ ps.length ≤ 1000 ∧ (∀ p ∈ ps, rowLen p ≤ 1000) ∧
  ∀ H' p cs, Same H H' → H p = none → H' p = some (.tup cs) → KidsAt H' xs ps cs → PtsAt C H' cs (below ps) → Q (.ref p) H'
def NNA : List Str := ["parts", "nodes", "part", "row", "item"]
theorem scNodes : FnScope NNA ["parts"] (defScope sNodesAmong) := ⟨rfl, rfl, rfl, by decide +kernel, rfl, by decide +kernel, by decide +kernel⟩
theorem ok_nodes {C : Cl5} {f fN : Addr} {fd fdN : FuncData} (F : Fun K "nodes_among" "nodes_among" sNodesAmong f fd) (T : TxtT mg C) (T5 : Ty5 K C) (GN : FnOk P w K mg base CX0 1 fN fdN ["value"] (spIsNode C)) (gN : mg "is_node" = some (.ref fN)) (kN : PySem.W.keepIn K (.ref fN) = true) (bN : Binds K fdN ["value"] []) :
    FnOk P w K mg base CX0 2 f fd ["parts"] (spNodes C) := by
  refine F.ok scNodes (fun vs H Q E h => ?_) (fun cdv A outer s H vs Q E hr h => ?_)
  · obtain ⟨a, xs, ps, rfl, _⟩ := h
    rfl
  · obtain ⟨a, xs, ps, rfl, ha, hp, hl, hb, k⟩ := h
    refine ⟨_, pss_cons (ps_set (i := 1) scNodes.nd rfl (Or.inl rfl) (pe_lst pa_nil))
      (pss_cons (ps_for PassesOwn.never rfl (pi_tup (pv 0)) (pg_name (i := 2) scNodes.nd rfl (Or.inl rfl))
        (pss_cons (ps_set (i := 3) scNodes.nd rfl (Or.inl rfl) (pe_ifExp (pt_val (pe_callB call_isi (by rfl) T.isi PyProof.Rows.boot_isinstance (pa_cons (pv 2) (pa_cons (pe_bltn (v := .ty "tuple") rfl T.tup PyProof.Rows.boot_tuple rfl) pa_nil)))) (pv 2) (pe_tup (pa_cons (pv 2) pa_nil))))
        (pss_one (ps_expr (pe_bm PySem.F.plainAttrs_list PySem.F.slot_list_extend PySem.F.type_list_extend mt_extend (pv 1) (pa_cons (pe_lc (own := [("item", 4)]) (g := gName 4) (tt := tB (tCall (spIsNode C) [] E0 (tCons (tVar 4) tNil))) (te := tVar 4) rfl scNodes.nd (pi_tup (pv 3))
          (blkOk_by (N := NNA) (sc := defScope sNodesAmong) (by decide +kernel)) (fun _ _ _ _ _ => pg_name (i := 4) scNodes.nd rfl (Or.inl rfl)) (fun _ _ _ _ _ => pts_one (pt_val (pe_call GN hr rfl gN kN bN .nil pass0 (pa_cons (pv 4) pa_nil)))) (fun _ _ _ _ _ => pv 4)) pa_nil))))))
      (pss_one (ps_ret (pe_callTy call_tuple_of (by rfl) T.tup PyProof.Rows.boot_tuple (pa_cons (pv 1) pa_nil))))), ?_⟩
    have big : sizeLine ≥ 16777216 := by decide
    have xl := pts_len hp
    have pp := ptsAt_iff.mp hp
    refine ⟨Nat.zero_le _, fun nd hnd => ?_⟩
    refine ⟨_, rfl, a, rfl, ⟨_, SqT.of (same_upd (Same.refl H) hnd _ _ ha)⟩, for_tup (K := K) (a := a) (xs := xs) (fun i σ H' => ∃ (v2 v3 : Option V) (acc : List V), σ = [some (.ref a), some (.ref nd), v2, v3, none] ∧ Same H H' ∧ H' nd = some (.lst acc) ∧ acc.length ≤ 1000 * i ∧ KidsAt H' (xs.take i) (ps.take i) acc ∧ PtsAt C H' acc (below (ps.take i)))
      ⟨_, _, [], rfl, same_upd (Same.refl H) hnd, upd_same, Nat.zero_le _, rfl, True.intro⟩ (fun i σ H' _ ⟨_, _, _, _, s', _⟩ => SqT.of (s' _ _ ha)) ?_ ?_⟩
    · rintro i x σ H1 hx ⟨v2, v3, acc, rfl, s1, hN1, al, kd, pa⟩
      obtain ⟨p, ep, hi⟩ := LiI.paired_get pp hx
      have il : i < xs.length := (List.getElem?_eq_some_iff.mp hx).1
      have hi1 := PtAt.kpo (KpO.same s1) p hi
      have ty := PtAt.ty T5 hi1
      have rb := hb p (List.mem_of_getElem? ep)
      have ex : xs.take (i + 1) = xs.take i ++ [x] := by rw [List.take_add_one, hx]; rfl
      have eps : ps.take (i + 1) = ps.take i ++ [p] := by rw [List.take_add_one, ep]; rfl
      refine ⟨_, rfl, _, _, _, _, isRow p, rfl, .ty "tuple", ty, kit_tup T5 p, _, rfl, ?_⟩
      refine ite2 (fun hrow => ?r1) (fun hrow => ?r2)
      case' r1 =>
        obtain ⟨us, rfl⟩ : ∃ us, p = .row us := by cases p with
          | row us => exact ⟨us, rfl⟩
          | tx _ => cases hrow
          | vr _ _ => cases hrow
          | nd _ _ _ => cases hrow
        obtain ⟨ra, ys, erx, hra, hys⟩ := id hi1
        subst erx
        refine ⟨_, rfl, ?_⟩
        obtain ⟨H2, rfl⟩ : ∃ t, t = H1 := ⟨_, rfl⟩
        have s12 : Same H2 H2 := Same.refl H2
        have one : ∀ H', Same H2 H' → kidOne H' (.ref ra) (.row us) (picked ys us) ∧ below [Tr.row us] = us.filter isN := fun H' s' => ⟨⟨ra, ys, rfl, s' _ _ hra, pts_len hys, rfl⟩, by simp only [below, List.append_nil]⟩
        have ul : us.length ≤ 1000 := rb
        have hx2 : hx = hx := rfl
      case' r2 =>
        refine ⟨_, rfl, by show 1 ≤ sizeLine; omega, fun ra hra0 => ?_⟩
        generalize e2 : upd H1 ra _ = H2
        have s12 : Same H1 H2 := by rw [← e2]; exact same_upd (Same.refl H1) hra0
        have hra : H2 ra = some (.tup [x]) := by rw [← e2, upd_same]
        clear e2
        obtain ⟨ys, eys⟩ : ∃ ys, ys = [x] := ⟨_, rfl⟩
        obtain ⟨us, eus⟩ : ∃ us, us = [p] := ⟨_, rfl⟩
        rw [← eys] at hra
        have hys : PtsAt C H2 ys us := by rw [eys, eus]; exact ⟨PtAt.kpo (KpO.same s12) p hi1, True.intro⟩
        have one : ∀ H', Same H2 H' → kidOne H' x p (picked ys us) ∧ below [p] = us.filter isN := fun H' s' => by
          rw [eys, eus]
          cases p with
          | row us => exact absurd rfl hrow
          | tx z => exact ⟨rfl, rfl⟩
          | vr j n => cases j <;> exact ⟨rfl, rfl⟩
          | nd lk f qs => exact ⟨rfl, rfl⟩
        have ul : us.length ≤ 1000 := by rw [eus]; show 1 ≤ 1000; decide
        have hx2 : hx = hx := rfl
      all_goals
        have sH2 := s1.trans s12
        have yl := pts_len hys
        have pys := ptsAt_iff.mp hys
        have hN2 := s12 _ _ hN1
        refine ⟨_, rfl, .inl ⟨rfl, _, SqL.of hN2⟩, _, rfl, ra, rfl, ⟨_, SqT.of hra⟩, fun D hD => lc_tup (K := K) (a := ra) (xs := ys) (fun j H' => Same H2 H' ∧ H' D = some (.lst (picked (ys.take j) (us.take j)))) ⟨same_upd (Same.refl H2) hD, upd_same⟩ (fun j H' _ ⟨s', _⟩ => SqT.of (s' _ _ hra)) ?_ ?_⟩
        · rintro j y H3 hy ⟨s3, e3⟩
          obtain ⟨u, eu, hu⟩ := LiI.paired_get pys hy
          have jl : j < ys.length := (List.getElem?_eq_some_iff.mp hy).1
          have ps_ := picked_snoc hy eu
          refine ⟨rfl, ?_⟩
          refine ⟨_, rfl, y, u, rfl, PtAt.kpo (KpO.same s3) u hu, fun H4 s4 => ⟨_, rfl, ?_⟩⟩
          have s24 := s3.trans s4
          have e4 := s4 _ _ e3
          refine ite2 (fun hn => ?_) (fun hn => ?_)
          · rw [if_pos hn] at ps_
            refine ⟨_, rfl, _, e4, ?_, same_upd s24 hD, by rw [upd_same, ps_]⟩
            have := picked_len (ys.take j) (us.take j)
            rw [List.length_take] at this
            omega
          · rw [if_neg hn, List.append_nil] at ps_
            exact ⟨s24, by rw [ps_]; exact e4⟩
        · rintro H3 ⟨s3, e3⟩
          rw [List.take_length, yl, List.take_length] at e3
          have hN3 := s3 _ _ hN2
          have pl := picked_len ys us
          refine ⟨nd, D, acc, _, rfl, rfl, hN3, e3, by omega, ?_⟩
          have sF : Same H (upd H3 nd (.lst (acc ++ picked ys us))) := same_upd (sH2.trans s3) hnd
          have kp : KpO H3 (upd H3 nd (.lst (acc ++ picked ys us))) := fun b o hb' q => by
            have ne : b ≠ nd := fun z => by rw [z, hN3] at q; cases q; cases hb'
            rw [upd_ne ne]
            exact q
          have k13 : KpO H2 H3 := KpO.same s3
          obtain ⟨on, eb⟩ := one H3 s3
          refine ⟨_, _, _, rfl, sF, upd_same, by rw [List.length_append]; omega, ?_, ?_⟩
          · rw [ex, eps]
            exact KidsAt.kpo kp (kids_snoc on (KidsAt.kpo ((KpO.same s12).trans k13) kd))
          · rw [eps, below_snoc, eb]
            exact PtsAt.kpo kp _ (pts_app (PtsAt.kpo ((KpO.same s12).trans k13) _ pa) (PtsAt.kpo k13 _ (pts_picked hys)))
    · rintro σ H1 ⟨v2, v3, acc, rfl, s1, hN1, al, kd, pa⟩
      rw [xl] at kd
      rw [xl] at pa
      rw [← xl, List.take_length, xl, List.take_length] at kd
      rw [List.take_length] at pa
      refine ⟨_, rfl, nd, acc, rfl, .inl ⟨SqL.of hN1, fun p hp2 => ?_⟩⟩
      have s2 : Same H1 (upd H1 p (.tup acc)) := same_upd (Same.refl H1) hp2
      exact k _ p acc (s1.trans s2) (s1.free hp2) upd_same (KidsAt.kpo (KpO.same s2) kd) (PtsAt.kpo (KpO.same s2) _ pa)
end
end K3

namespace K3
open PySem L2 E0
/-! ### Tree's own making -/
def SameX (x : Addr) (H H' : Hp) : Prop := ∀ b o, b ≠ x → H b = some o → H' b = some o
theorem Same.x {x : Addr} {H H' : Hp} (s : Same H H') : SameX x H H' := fun b o _ e => s b o e
theorem SameX.trans {x : Addr} {H H1 H2 : Hp} (a : SameX x H H1) (b : SameX x H1 H2) : SameX x H H2 := fun c o n e => b c o n (a c o n e)
theorem SameX.upd {x : Addr} {H : Hp} {o : HO} : SameX x H (upd H x o) := fun b u n e => by rw [upd_ne n]; exact e
theorem lk_put3 {f g : Str} {v : V} {fs : List (Str × V)} (h : ¬ g = f) : (putF f v fs).lookup g = fs.lookup g := by rw [lookup_putF, if_neg h]
theorem lk_put1 {f : Str} {v : V} {fs : List (Str × V)} : (putF f v fs).lookup f = some v := by rw [lookup_putF, if_pos rfl]
theorem sizes_app : ∀ (a b : List Tr), sizes (a ++ b) = sizes a + sizes b
  | [], b => by simp only [List.nil_append, sizes, Nat.zero_add]
  | t :: a, b => by simp only [List.cons_append, sizes, sizes_app a b, Nat.add_assoc]
theorem levelss_app : ∀ (a b : List Tr), levelss (a ++ b) = max (levelss a) (levelss b)
  | [], b => by simp only [List.nil_append, levelss, Nat.zero_max]
  | t :: a, b => by simp only [List.cons_append, levelss, levelss_app a b, Nat.max_assoc]
theorem isT_isN {t : Tr} (h : isT t = true) : isN t = true := by
  match t, h with
  | .nd false _ _, _ => rfl
theorem below_ok : ∀ {ps : List Tr}, (∀ p ∈ ps, okP p = true) → sizes (below ps) = sizes ps ∧ levelss (below ps) = levelss ps ∧ ∀ t ∈ below ps, isN t = true
  | [], _ => ⟨rfl, rfl, fun t h => nomatch h⟩
  | p :: ps, h => by
    obtain ⟨a, b, c⟩ := below_ok (ps := ps) fun q hq => h q (List.mem_cons_of_mem _ hq)
    have hp := h p (List.mem_cons_self ..)
    match p, hp with
    | .tx s, _ =>
      refine ⟨?_, ?_, fun t ht => c t ht⟩
      · show sizes ([] ++ below ps) = size (.tx s) + sizes ps
        rw [List.nil_append, a]
        simp only [size, Nat.zero_add]
      · show levelss ([] ++ below ps) = max (levels (.tx s)) (levelss ps)
        rw [List.nil_append, b]
        simp only [levels, Nat.zero_max]
    | .row ts, hp =>
      have ht : ∀ t ∈ ts, isN t = true := fun t ht => isT_isN (List.all_eq_true.mp hp t ht)
      have e : below (.row ts :: ps) = ts ++ below ps := by
        show ts.filter isN ++ below ps = _
        rw [List.filter_eq_self.mpr ht]
      rw [e]
      refine ⟨?_, ?_, fun t hm => (List.mem_append.mp hm).elim (ht t) (c t)⟩
      · rw [sizes_app, a]
        simp only [sizes, size]
      · rw [levelss_app, b]
        simp only [levelss, levels]
    | .nd false f qs, _ =>
      refine ⟨?_, ?_, fun t hm => ?_⟩
      · show sizes ([.nd false f qs] ++ below ps) = _
        rw [sizes_app, a]
        simp only [sizes, Nat.add_zero]
      · show levelss ([.nd false f qs] ++ below ps) = _
        rw [levelss_app, b]
        simp only [levelss, Nat.max_zero]
      · rcases List.mem_append.mp (show t ∈ [Tr.nd false f qs] ++ below ps from hm) with q | q
        · rw [List.mem_singleton.mp q]; rfl
        · exact c t q
/-- a value among what a tree is asked to have -/
inductive PI where
  | good (t : Tr)
  | bad
def PIAt (K : PySem.W.Frag) (C : Cl5) (H : Hp) (v : V) : PI → Prop
  | .good t => PtAt C H v t ∧ okP t = true ∧ rowB t ≤ 1000 ∧ okTx t
  | .bad => BadT K C H v
theorem PIAt.same {K : PySem.W.Frag} {C : Cl5} {H H' : Hp} {v : V} (s : Same H H') : ∀ {i : PI}, PIAt K C H v i → PIAt K C H' v i
  | .good t, h => ⟨PtAt.kpo (KpO.same s) t h.1, h.2⟩
  | .bad, h => by
    rcases h with h | ⟨a, xs, bs, h1, h2, h3, h4, h5⟩ | ⟨t, h1, h2⟩
    · exact .inl h
    · exact .inr (.inl ⟨a, xs, bs, h1, s _ _ h2, h3, Paired.mapP h4 fun x b q => let ⟨t, q1, q2, q3⟩ := q; ⟨t, TyX.sm q1 s, q2, fun a e => let ⟨o, z⟩ := q3 a e; ⟨o, s _ _ z⟩⟩, h5⟩)
    · exact .inr (.inr ⟨t, TyX.sm h1 s, h2⟩)
def firstBad : Nat → List PI → Option Nat
  | _, [] => none
  | n, .bad :: _ => some n
  | n, .good _ :: r => firstBad (n + 1) r
def partsOf : List PI → List Tr
  | [] => []
  | .good t :: r => t :: partsOf r
  | .bad :: r => partsOf r
def treeDue (n : V) (pis : List PI) : Option V :=
  if nameV n = false then some (.str "form") else match firstBad 0 pis with
    | some i => some (.int ((i : Nat) : Int))
    | none => if 400 < 1 + sizes (partsOf pis) ∨ 100 < levelss (partsOf pis) + 1 then some (.str "size") else none
theorem good_all {K : PySem.W.Frag} {C : Cl5} {H : Hp} : ∀ {xs : List V} {pis : List PI} {n : Nat}, Paired (PIAt K C H) xs pis → firstBad n pis = none → PtsAt C H xs (partsOf pis) ∧ (∀ t ∈ partsOf pis, okP t = true ∧ rowB t ≤ 1000 ∧ okTx t) ∧ (partsOf pis).length = pis.length
  | _, _, _, .nil, _ => ⟨True.intro, (fun t h => nomatch h), rfl⟩
  | _, .bad :: _, _, .cons _ _, h => nomatch h
  | _, .good t :: _, _, .cons a r, h => by
    obtain ⟨h1, h2, h3⟩ := good_all r h
    refine ⟨⟨a.1, h1⟩, fun u hu => ?_, congrArg (· + 1) h3⟩
    rcases List.mem_cons.mp hu with q | q
    · rw [q]; exact a.2
    · exact h2 u q
/-! parts do not look at an instance that has nothing yet -/
theorem KidsAt.kx {H H' : Hp} {x dx A : Addr} {gs : List (Str × V)} (hx : H x = some (.ins A dx gs)) (e : SameX x H H') : ∀ {xs : List V} {ps : List Tr} {cs : List V}, KidsAt H xs ps cs → KidsAt H' xs ps cs
  | [], [], _, h => h
  | v :: xs, .row ts :: ps, cs, h => by
    obtain ⟨a, ys, r, h1, h2, h3, h4, h5⟩ := h
    exact ⟨a, ys, r, h1, e _ _ (fun q => by rw [q, hx] at h2; cases h2) h2, h3, h4, KidsAt.kx hx e h5⟩
  | v :: xs, .tx _ :: ps, cs, h => by obtain ⟨r, h1, h2⟩ := h; exact ⟨r, h1, KidsAt.kx hx e h2⟩
  | v :: xs, .vr _ _ :: ps, cs, h => by obtain ⟨r, h1, h2⟩ := h; exact ⟨r, h1, KidsAt.kx hx e h2⟩
  | v :: xs, .nd _ _ _ :: ps, cs, h => by obtain ⟨r, h1, h2⟩ := h; exact ⟨r, h1, KidsAt.kx hx e h2⟩
  | [], _ :: _, _, h => False.elim (by cases ‹Tr› <;> exact h)
  | _ :: _, [], _, h => False.elim h
mutual
theorem PtAt.kx {C : Cl5} {H H' : Hp} {x dx A : Addr} (hx : H x = some (.ins A dx [])) (e : SameX x H H') : ∀ {v : V} (t : Tr), PtAt C H v t → PtAt C H' v t
  | _, .tx _, h => h
  | _, .row ts, h => by
    obtain ⟨a, xs, h1, h2, h3⟩ := h
    exact ⟨a, xs, h1, e _ _ (fun q => by rw [q, hx] at h2; cases h2) h2, PtsAt.kx hx e ts h3⟩
  | _, .vr k n, h => by
    obtain ⟨y, dy, fs, h1, h2, h3, h4⟩ := h
    exact ⟨y, dy, fs, h1, e _ _ (fun q => by rw [q, hx] at h2; cases h2; cases h3) h2, h3, h4⟩
  | _, .nd lk f ps, h => by
    obtain ⟨y, dy, fs, pa, xs, h1, h2, h3, h4, h5, h6, h7, h8, h9, h10⟩ := h
    exact ⟨y, dy, fs, pa, xs, h1, e _ _ (fun q => by rw [q, hx] at h2; cases h2; cases h3) h2, h3, h4, e _ _ (fun q => by rw [q, hx] at h5; cases h5) h5, PtsAt.kx hx e ps h6, h7, h8, h9, fun z => let ⟨ca, cs, k1, k2, k3⟩ := h10 z; ⟨ca, cs, k1, e _ _ (fun q => by rw [q, hx] at k2; cases k2) k2, k3.kx hx e⟩⟩
theorem PtsAt.kx {C : Cl5} {H H' : Hp} {x dx A : Addr} (hx : H x = some (.ins A dx [])) (e : SameX x H H') : ∀ {xs : List V} (ts : List Tr), PtsAt C H xs ts → PtsAt C H' xs ts
  | [], [], h => h
  | v :: xs, t :: ts, h => ⟨PtAt.kx hx e t h.1, PtsAt.kx hx e ts h.2⟩
  | [], _ :: _, h => False.elim h
  | _ :: _, [], h => False.elim h
end
theorem at1 : ¬ ("form" : Str) = "parts" ∧ ¬ ("form" : Str) = "children" ∧ ¬ ("form" : Str) = "size" ∧ ¬ ("form" : Str) = "levels" ∧ ¬ ("form" : Str) = "text" := by decide +kernel
theorem at2 : ¬ ("parts" : Str) = "children" ∧ ¬ ("parts" : Str) = "size" ∧ ¬ ("parts" : Str) = "levels" ∧ ¬ ("parts" : Str) = "text" := by decide +kernel
theorem at3 : ¬ ("children" : Str) = "size" ∧ ¬ ("children" : Str) = "levels" ∧ ¬ ("children" : Str) = "text" := by decide +kernel
theorem at4 : ¬ ("size" : Str) = "levels" ∧ ¬ ("size" : Str) = "text" ∧ ¬ ("levels" : Str) = "text" := by decide +kernel
/-- its parts are just these values -/
def HasP (H : Hp) (x : Addr) (xs : List V) : Prop := ∃ A dx fs pa, H x = some (.ins A dx fs) ∧ fs.lookup ("parts" : Str) = some (.ref pa) ∧ H pa = some (.tup xs) ∧ fs.lookup ("each_path" : Str) = none ∧ fs.lookup ("put" : Str) = none
theorem HasP.kpo {H H' : Hp} {x : Addr} {xs : List V} (e : KpO H H') (h : HasP H x xs) : HasP H' x xs := by
  obtain ⟨A, dx, fs, pa, h1, h2, h3, h4⟩ := h
  exact ⟨A, dx, fs, pa, e _ _ rfl h1, h2, e _ _ rfl h3, h4⟩
theorem at6 : ¬ ("each_path" : Str) = "form" ∧ ¬ ("each_path" : Str) = "parts" ∧ ¬ ("each_path" : Str) = "children" ∧ ¬ ("each_path" : Str) = "size" ∧ ¬ ("each_path" : Str) = "levels" ∧ ¬ ("each_path" : Str) = "text" := by decide +kernel
theorem at7 : ¬ ("put" : Str) = "form" ∧ ¬ ("put" : Str) = "parts" ∧ ¬ ("put" : Str) = "children" ∧ ¬ ("put" : Str) = "size" ∧ ¬ ("put" : Str) = "levels" ∧ ¬ ("put" : Str) = "text" := by decide +kernel
def NTI : List Str := ["self", "form", "parts", "spot", "part", "children", "size", "levels"]
theorem scTreeInit : FnScope NTI ["self", "form", "parts"] (defScope sTreeInit) := ⟨rfl, rfl, rfl, by decide +kernel, rfl, by decide +kernel, by decide +kernel⟩
section
variable {P : Program} {w : World} {K : PySem.W.Frag} {mg : Str → Option Value} {base : Heap}
def spTreeInit (K : PySem.W.Frag) (C : Cl5) (CI : Addr) : Sp := fun vs H Q E => ∃ (x dx p : Addr) (n : V) (xs : List V) (pis : List PI), vs = [.ref x, n, .ref p] ∧ H x = some (.ins C.T dx []) ∧ H p = some (.tup xs) ∧ Val K H n ∧ Paired (PIAt K C H) xs pis ∧ pis.length ≤ 1000 ∧ joinB (partsOf pis) ≤ 16000000 ∧
  (match treeDue n pis with
   | some u => ∀ H' dd, Same H H' → H dd = none → H' dd = some (.xd [("part", u)]) → E (.ref CI) (some dd) H'
   | none => ∀ H' z, n = .str z → SameX x H H' → PtAt C H' (.ref x) (.nd false z (partsOf pis)) → HasP H' x xs → Q .non H')
structure TxtI (P : Program) (w : World) (K : PySem.W.Frag) (mg : Str → Option Value) (base : Heap) (C : Cl5) (CI fN fP fA fM fX : Addr) (fdN fdP fdA fdM fdX : FuncData) : Prop where
  er : ErrF P K mg CI
  enu : mg "enumerate" = none
  gT : mg "Tree" = some (.ref C.T)
  mx : ∃ mc t1 t2, ClX.CRead K C.T mc ∧ ClX.CVal K C.T mc "MAX_NODES" (.int 400) (.int 400 t1) ∧ ClX.CVal K C.T mc "MAX_LEVELS" (.int 100) (.int 100 t2)
  GN : FnOk P w K mg base CX0 1 fN fdN ["value"] (spName K)
  gN : mg "is_name" = some (.ref fN)
  kN : PySem.W.keepIn K (.ref fN) = true
  bN : Binds K fdN ["value"] []
  GP : FnOk P w K mg base CX0 1 fP fdP ["part"] (spTreePart K C)
  gP : mg "_is_tree_part" = some (.ref fP)
  kP : PySem.W.keepIn K (.ref fP) = true
  bP : Binds K fdP ["part"] []
  GA : FnOk P w K mg base CX0 2 fA fdA ["parts"] (spNodes C)
  gA : mg "nodes_among" = some (.ref fA)
  kA : PySem.W.keepIn K (.ref fA) = true
  bA : Binds K fdA ["parts"] []
  GM : FnOk P w K mg base CX0 1 fM fdM ["nodes"] (spMeasures C)
  gM : mg "_measures_above" = some (.ref fM)
  kM : PySem.W.keepIn K (.ref fM) = true
  bM : Binds K fdM ["nodes"] []
  GX : FnOk P w K mg base CX0 3 fX fdX ["form", "parts"] (spNodeText C)
  gX : mg "_node_text" = some (.ref fX)
  kX : PySem.W.keepIn K (.ref fX) = true
  bX : Binds K fdX ["form", "parts"] []
theorem body_treeInit {C : Cl5} {CI fN fP fA fM fX : Addr} {fdN fdP fdA fdM fdX : FuncData} (T : TxtI P w K mg base C CI fN fP fA fM fX fdN fdP fdA fdM fdX) (T5 : Ty5 K C) (N5 : Na5 K C)
    {f : Addr} {cdv : Value} {A : Around} {outer : List Env} {s : Shared} {H : Hp} {vs : List V} {Q : VK} {E : XK} (hr : Room 3 (A.deeper (PyProof.Rows.envOfC "Tree.__init__" (defScope sTreeInit) s.heap.objs.size f cdv))) (h : spTreeInit K C CI vs H Q E) :
    ∃ t, PSs (cxOf (L2.CX P w) P w K mg base NTI "Tree.__init__" (defScope sTreeInit) f cdv A outer s H E) (defBody sTreeInit) t ∧ t { nx := fun _ H' => Q .non H', rt := Q } (L2.start NTI vs) H := by
  obtain ⟨x, dx, p, n, xs, pis, rfl, hx, hp0, hn, hp, hl, hj, k⟩ := h
  have hr2 : Room 2 _ := hr.mono (by decide)
  have hr1 : Room 1 _ := hr.mono (by decide)
  obtain ⟨mc, t1, t2, cr, cv1, cv2⟩ := T.mx
  have tkE : Takes (cxOf (L2.CX P w) P w K mg base NTI "Tree.__init__" (defScope sTreeInit) f cdv A outer s H E) (fun cls dd _ H => E cls dd H) := takes_of rfl rfl rfl rfl
  refine ⟨_, pss_cons (ps_if (pt_not (pt_val (pe_call T.GN hr1 (by rfl) T.gN T.kN T.bN .nil pass0 (pa_cons (pv 1) pa_nil)))) (pss_one (ps_raise rfl tkE (pmk_form T.er hr2 rfl pe_str))) pss_nil)
    (pss_cons (ps_for (passes_of rfl) rfl (pi_enumT rfl T.enu (pa_cons (pv 2) pa_nil)) (pg_tup (by rfl) (pgs_cons (pg_name (i := 3) scTreeInit.nd rfl (.inl rfl)) (pgs_cons (pg_name (i := 4) scTreeInit.nd rfl (.inl rfl)) pgs_nil)))
      (pss_one (ps_if (pt_not (pt_val (pe_call T.GP hr1 (by rfl) T.gP T.kP T.bP .nil pass0 (pa_cons (pv 4) pa_nil)))) (pss_one (ps_raise rfl tkE (pmk_form T.er hr2 rfl (pv 3)))) pss_nil)))
    (pss_cons (ps_set (i := 5) scTreeInit.nd rfl (Or.inl rfl) (pe_call T.GA hr2 (by rfl) T.gA T.kA T.bA .nil pass0 (pa_cons (pv 2) pa_nil)))
    (pss_cons (ps_asg (pe_call T.GM hr1 (by rfl) T.gM T.kM T.bM .nil pass0 (pa_cons (pv 5) pa_nil)) (pg_tup (by rfl) (pgs_cons (pg_name (i := 6) scTreeInit.nd rfl (.inl rfl)) (pgs_cons (pg_name (i := 7) scTreeInit.nd rfl (.inl rfl)) pgs_nil))))
    (pss_cons (ps_if (PW.pt (pw_or (pt_cmpR op_gt (pv 6) (ClX.pe_cval (pe_glob (v := .ref C.T) rfl T.gT rfl)) (nomark _)) (pw_or1 (pt_cmpR op_gt (pv 7) (ClX.pe_cval (pe_glob (v := .ref C.T) rfl T.gT rfl)) (nomark _))))) (pss_one (ps_raise rfl tkE (pmk_form T.er hr2 rfl pe_str))) pss_nil)
    (pss_cons (ps_fld (pv 0) (pv 1) rfl) (pss_cons (ps_fld (pv 0) (pv 2) rfl) (pss_cons (ps_fld (pv 0) (pv 5) rfl) (pss_cons (ps_fld (pv 0) (pv 6) rfl) (pss_cons (ps_fld (pv 0) (pv 7) rfl)
    (pss_one (ps_fld (pv 0) (pe_call T.GX hr (by rfl) T.gX T.kX T.bX .nil pass0 (pa_cons (pv 1) (pa_cons (pv 2) pa_nil))) rfl))))))))))), ?_⟩
  have bad : ∀ (u : V) (H1 : Hp), treeDue n pis = some u → Same H H1 → ∀ dd, H1 dd = none → E (.ref CI) (some dd) (upd H1 dd (.xd [("part", u)])) := fun u H1 e s1 dd hdd => by
    rw [e] at k
    exact k _ dd (same_upd s1 (s1.free hdd)) (s1.free hdd) upd_same
  refine ⟨_, rfl, n, rfl, hn, fun H1 s1 => ⟨_, rfl, ?_⟩⟩
  cases hnv : nameV n with
  | false =>
    refine iteT ?_
    exact raise_ans fun dd hdd => bad _ _ (by unfold treeDue; rw [if_pos hnv]) s1 dd hdd
  | true =>
    refine iteF ?_
    obtain ⟨z, rfl⟩ : ∃ z, n = .str z := by
      cases n with
      | str z => exact ⟨z, rfl⟩
      | _ => cases hnv
    have e0 : treeDue (.str z) pis = match firstBad 0 pis with
      | some i => some (.int ((i : Nat) : Int))
      | none => if 400 < 1 + sizes (partsOf pis) ∨ 100 < levelss (partsOf pis) + 1 then some (.str "size") else none := by
      unfold treeDue
      rw [if_neg (by rw [hnv]; exact Bool.noConfusion)]
    refine ⟨_, rfl, p, xs, rfl, SqT.of (s1 _ _ hp0), for_it walk_enumT (fun i σ H' => ∃ v3 v4 : Option V, σ = [some (.ref x), some (.str z), some (.ref p), v3, v4, none, none, none] ∧ Same H H' ∧ firstBad 0 pis = firstBad i (pis.drop i))
      ⟨_, _, rfl, s1, rfl⟩ (fun i σ H' _ ⟨_, _, _, s', _⟩ => SqT.of (s' _ _ hp0)) ?_ ?_⟩
    · rintro i vv σ H2 H3 hi ⟨v3, v4, rfl, s2, fb⟩ ⟨Tp, y, u, rfl, hT, rfl, ey, ez⟩
      have ey : some (V.int (i : Nat)) = some y := ey
      cases ey
      have ez : xs[i]? = some u := ez
      obtain ⟨it, eit, hit⟩ := LiI.paired_get hp ez
      have hil : i < pis.length := (List.getElem?_eq_some_iff.mp eit).1
      have hdrop : pis.drop i = it :: pis.drop (i + 1) := by
        rw [List.drop_eq_getElem_cons hil]
        rw [List.getElem?_eq_getElem hil] at eit
        rw [Option.some.inj eit]
      have s3 : Same H (upd H2 Tp (.tup [.int (i : Nat), u])) := same_upd s2 (s2.free hT)
      refine ⟨Tp, _, rfl, .inl (.inl upd_same), rfl, _, _, rfl, ?_⟩
      refine ⟨_, _, rfl, rfl, ?_⟩
      have hit3 := hit.same s3
      generalize upd H2 Tp (.tup [.int (i : Nat), u]) = H3 at s3 hit3 ⊢
      cases it with
      | good t =>
        refine ⟨_, rfl, u, rfl, .inl ⟨t, hit3.1, hit3.2.2.1, fun H4 s4 => ⟨_, rfl, ?_⟩⟩⟩
        rw [hit3.2.1]
        refine iteF ?_
        exact ⟨_, _, rfl, s3.trans s4, by rw [fb, hdrop]; rfl⟩
      | bad =>
        refine ⟨_, rfl, u, rfl, .inr ⟨hit3, fun H4 s4 => ⟨_, rfl, ?_⟩⟩⟩
        refine iteT ?_
        refine ⟨_, rfl, ?_⟩
        exact raise_ans fun dd hdd => bad _ _ (by rw [e0, fb, hdrop]; rfl) (s3.trans s4) dd hdd
    · rintro σ H2 ⟨v3, v4, rfl, s2, fb⟩
      have xl := hp.length
      rw [xl, List.drop_length] at fb
      have fb : firstBad 0 pis = none := fb
      rw [fb] at e0
      dsimp only at e0
      obtain ⟨pts, okp, pl⟩ := good_all hp fb
      have hok : ∀ t ∈ partsOf pis, okP t = true := fun t ht => (okp t ht).1
      obtain ⟨b1, b2, b3⟩ := below_ok hok
      generalize partsOf pis = ps at e0 pts okp pl hok b1 b2 b3 hj k ⊢
      have pts2 := PtsAt.kpo (KpO.same s2) ps pts
      refine ⟨_, rfl, p, xs, ps, rfl, s2 _ _ hp0, pts2, by omega, fun t ht => by
        have q := (okp t ht).2.1
        cases t with
        | row ts => exact q
        | _ => exact Nat.zero_le _, fun H3 ca cs s3 nca hca kids bl => ?_⟩
      refine ⟨_, rfl, ca, cs, below ps, rfl, hca, bl, b3, fun H4 tp s4 ntp htp => ?_⟩
      refine ⟨tp, _, rfl, .inl (.inl htp), rfl, _, _, rfl, ?_⟩
      refine ⟨_, _, rfl, rfl, ?_⟩
      rw [b1, b2]
      have s34 := s2.trans s3
      have s04 := s34.trans s4
      refine ⟨_, rfl, C.T, mc, _, _, rfl, cr, cv1, _, _, rfl, rfl, _, rfl, ?_⟩
      refine ite2 (fun h1 => ?_) (fun h1 => ?_)
      · have h1 := of_decide_eq_true h1
        refine iteT ?_
        exact raise_ans fun dd hdd => bad _ _ (by rw [e0, if_pos (.inl (by omega))]) s04 dd hdd
      have h1 : ¬ (400 : Int) < ((1 + sizes ps : Nat) : Int) := fun q => h1 (decide_eq_true q)
      refine ⟨_, rfl, C.T, mc, _, _, rfl, cr, cv2, _, _, rfl, rfl, _, rfl, ?_⟩
      refine ite2 (fun h2 => ?_) (fun h2 => ?_)
      · have h2 := of_decide_eq_true h2
        exact raise_ans fun dd hdd => bad _ _ (by rw [e0, if_pos (.inr (by omega))]) s04 dd hdd
      have h2 : ¬ (100 : Int) < ((levelss ps + 1 : Nat) : Int) := fun q => h2 (decide_eq_true q)
      have e1 : treeDue (.str z) pis = none := by rw [e0, if_neg (fun q => q.elim (fun q => h1 (by omega)) (fun q => h2 (by omega)))]
      rw [e1] at k
      have k : ∀ H' z', V.str z = .str z' → SameX x H H' → PtAt C H' (.ref x) (.nd false z' ps) → HasP H' x xs → Q .non H' := k
      have mT : C.T ∈ C.all := C.n_mem false
      have cl := (T5.own _ mT).cl
      have hx4 := s04 _ _ hx
      have zl : z.length ≤ 20 := by
        have q : nameS z = true := hnv
        unfold nameS at q
        simp only [Bool.and_eq_true, decide_eq_true_eq] at q
        exact q.1.1.2
      refine ⟨_, rfl, _, rfl, x, C.T, dx, _, rfl, hx4, cl, N5.na _ mT _ (by decide +kernel), (by show 0 < 1000; decide), ?_⟩
      refine ⟨_, rfl, _, rfl, x, C.T, dx, _, rfl, upd_same, cl, N5.na _ mT _ (by decide +kernel), (by show 1 < 1000; decide), ?_⟩
      rw [upd_upd]
      refine ⟨_, rfl, _, rfl, x, C.T, dx, _, rfl, upd_same, cl, N5.na _ mT _ (by decide +kernel), (by show 2 < 1000; decide), ?_⟩
      rw [upd_upd]
      refine ⟨_, rfl, _, rfl, x, C.T, dx, _, rfl, upd_same, cl, N5.na _ mT _ (by decide +kernel), (by show 3 < 1000; decide), ?_⟩
      rw [upd_upd]
      refine ⟨_, rfl, _, rfl, x, C.T, dx, _, rfl, upd_same, cl, N5.na _ mT _ (by decide +kernel), (by show 4 < 1000; decide), ?_⟩
      rw [upd_upd]
      generalize eF : putF "levels" (V.int ((levelss ps + 1 : Nat) : Int)) _ = F5
      generalize e5 : upd H4 x (.ins C.T dx F5) = H5
      have X5 : SameX x H4 H5 := by rw [← e5]; exact SameX.upd
      have hx5 : H5 x = some (.ins C.T dx F5) := by rw [← e5, upd_same]
      have pts4 := PtsAt.kpo (KpO.same (s3.trans s4)) ps pts2
      have pts5 := PtsAt.kx hx4 X5 ps pts4
      have np : p ≠ x := fun q => by rw [q, hx] at hp0; cases hp0
      have nc : ca ≠ x := fun q => by rw [q, s34 _ _ hx] at hca; cases hca
      have hp5 := X5 _ _ np (s04 _ _ hp0)
      have hc5 := X5 _ _ nc (s4 _ _ hca)
      have kd5 := (KidsAt.kpo (KpO.same s4) kids).kx hx4 X5
      clear e5
      refine ⟨_, rfl, _, rfl, z, p, xs, ps, rfl, hp5, pts5, fun t ht => (okp t ht).2.2, by omega, hj, by omega, fun H6 s6 => ?_⟩
      refine ⟨_, rfl, x, C.T, dx, _, rfl, s6 _ _ hx5, cl, N5.na _ mT _ (by decide +kernel), ?_, ?_⟩
      · rw [← eF]
        show 5 < 1000
        decide
      have X6 : SameX x H5 (upd H6 x (.ins C.T dx (putF "text" (.str (z ++ "(" ++ Txt.join ", " (saids ps) ++ ")")) F5))) := SameX.trans (Same.x s6) SameX.upd
      have XX : SameX x H (upd H6 x (.ins C.T dx (putF "text" (.str (z ++ "(" ++ Txt.join ", " (saids ps) ++ ")")) F5))) := SameX.trans (Same.x s04) (SameX.trans X5 X6)
      have hpa : (putF "text" (.str (z ++ "(" ++ Txt.join ", " (saids ps) ++ ")")) F5).lookup ("parts" : Str) = some (.ref p) := by
        rw [lk_put3 at2.2.2.2, ← eF, lk_put3 at2.2.2.1, lk_put3 at2.2.1, lk_put3 at2.1, lk_put1]
      refine k _ z rfl XX ⟨x, dx, _, p, xs, rfl, upd_same, ?_, hpa, XX _ _ np hp0, PtsAt.kx hx XX ps pts, ?_, ?_, lk_put1, fun _ => ⟨ca, cs, ?_, X6 _ _ nc hc5, ?_⟩⟩ ⟨_, _, _, p, upd_same, hpa, XX _ _ np hp0, ?_, ?_⟩
      · rw [lk_put3 at1.2.2.2.2, ← eF, lk_put3 at1.2.2.2.1, lk_put3 at1.2.2.1, lk_put3 at1.2.1, lk_put3 at1.1, lk_put1]
      · rw [lk_put3 at4.2.1, ← eF, lk_put3 at4.1, lk_put1]
      · rw [lk_put3 at4.2.2, ← eF, lk_put1]
      · rw [lk_put3 at3.2.2, ← eF, lk_put3 at3.2.1, lk_put3 at3.1, lk_put1]
      · exact kd5.kx hx5 X6
      · rw [lk_put3 at6.2.2.2.2.2, ← eF, lk_put3 at6.2.2.2.2.1, lk_put3 at6.2.2.2.1, lk_put3 at6.2.2.1, lk_put3 at6.2.1, lk_put3 at6.1]
        rfl
      · rw [lk_put3 at7.2.2.2.2.2, ← eF, lk_put3 at7.2.2.2.2.1, lk_put3 at7.2.2.2.1, lk_put3 at7.2.2.1, lk_put3 at7.2.1, lk_put3 at7.1]
        rfl
end
end K3

namespace K3
open PySem L2 E0
def TreeRes (C : Cl5) (CI : Addr) (n : V) (xs : List V) (pis : List PI) (E : XK) (H : Hp) (Q : VK) : Prop := match treeDue n pis with
  | some u => ∀ H' dd, Same H H' → H dd = none → H' dd = some (.xd [("part", u)]) → E (.ref CI) (some dd) H'
  | none => ∀ H' x z, n = .str z → Same H H' → H x = none → PtAt C H' (.ref x) (.nd false z (partsOf pis)) → HasP H' x xs → Q (.ref x) H'
section
variable {P : Program} {w : World} {K : PySem.W.Frag} {mg : Str → Option Value} {base : Heap}
def spTreeNew (K : PySem.W.Frag) (C : Cl5) (CI : Addr) : Sp := fun vs H Q E => ∃ ws rest, vs = ws ++ rest ∧ ws.length = ([("self" : Str), ("form" : Str)] : List Str).length ∧ rest.length ≤ sizeLine ∧ ∀ p, H p = none → spTreeInit K C CI (ws ++ [V.ref p]) (upd H p (.tup rest)) Q E
theorem treeInit_fnR {C : Cl5} {CI fN fP fA fM fX f : Addr} {fd fdN fdP fdA fdM fdX : FuncData} (F : Fun K "__init__" "Tree.__init__" sTreeInit f fd) (T : TxtI P w K mg base C CI fN fP fA fM fX fdN fdP fdA fdM fdX) (T5 : Ty5 K C) (N5 : Na5 K C) : FnR P w K mg base (L2.CX P w) 4 f (spTreeNew K C CI) := by
  obtain ⟨oc, od, kV, doc, pm, an, cdv, ct, osl, rfl, lk, hcd⟩ := F.ex
  refine StX.fn_star (N := NTI) (ps := ["self", "form"]) (pv := "parts") lk hcd scTreeInit StX.cxUp ?_ fun A outer s H vs Q E hr h => body_treeInit T T5 N5 hr h
  intro us rest hl
  match us, hl with
  | [a, b], _ => cases rest <;> rfl
theorem tree_made {C : Cl5} {CI : Addr} {n : V} {xs : List V} {pis : List PI} {H : Hp} {Q : VK} {E : XK} (hn : Val K H n) (hp : Paired (PIAt K C H) xs pis) (hl : pis.length ≤ 1000) (hj : joinB (partsOf pis) ≤ 16000000) (k : TreeRes C CI n xs pis E H Q) {x dx : Addr} (nx : H x = none) (ndx : H dx = none) (ne : dx ≠ x) :
    spTreeNew K C CI (.ref x :: n :: xs) (upd (upd H dx (.own x)) x (.ins C.T dx [])) (fun v H2 => v = .non ∧ Q (.ref x) H2) E := by
  refine ⟨[.ref x, n], xs, rfl, rfl, by rw [hp.length]; exact Nat.le_trans hl (by decide), fun p np => ?_⟩
  have s1 : Same H (upd (upd H dx (.own x)) x (.ins C.T dx [])) := fun b o e => by
    rw [upd_ne (ne_of_none e nx), upd_ne (ne_of_none e ndx)]
    exact e
  have hx1 : (upd (upd H dx (.own x)) x (.ins C.T dx [])) x = some (.ins C.T dx []) := upd_same
  have s2 : Same H (upd (upd (upd H dx (.own x)) x (.ins C.T dx [])) p (.tup xs)) := same_upd s1 (s1.free np)
  have hx2 : (upd (upd (upd H dx (.own x)) x (.ins C.T dx [])) p (.tup xs)) x = some (.ins C.T dx []) := by rw [upd_ne (ne_of_none hx1 np)]; exact hx1
  refine ⟨x, dx, p, n, xs, pis, rfl, hx2, upd_same, hn.same s2, Paired.mapP hp fun a b q => q.same s2, hl, hj, ?_⟩
  unfold TreeRes at k
  cases e : treeDue n pis with
  | some u =>
    rw [e] at k
    exact fun H' dd s' nd hd => k H' dd (s2.trans s') (s2.free nd) hd
  | none =>
    rw [e] at k
    exact fun H' z ez sX at_ hpp => ⟨rfl, k H' x z ez (fun b o q => sX b o (ne_of_none q nx) (s2 b o q)) nx at_ hpp⟩
/-! ### ==: by the texts -/
def spTreeEq (K : PySem.W.Frag) (C : Cl5) : Sp := fun vs H Q _ => ∃ (v y : V) (t : Tr), vs = [v, y] ∧ PtAt C H v t ∧ isT t = true ∧
  ((∃ u, PtAt C H y u ∧ isT u = true ∧ Q (.bl (decide (said t = said u))) H) ∨ (∃ ty, TyX K H y ty ∧ PySem.W.kitOne K ty (.ref C.T) = some false ∧ Q (.bl false) H))
theorem scTreeEq : FnScope ["self", "other"] ["self", "other"] (defScope sTreeEq) := ⟨rfl, rfl, rfl, by decide +kernel, rfl, by decide +kernel, by decide +kernel⟩
theorem isT_text {t : Tr} (h : isT t = true) : hasText t = true := by
  match t, h with
  | .nd false _ _, _ => rfl
theorem ok_treeEq {C : Cl5} {f : Addr} {fd : FuncData} (F : Fun K "__eq__" "Tree.__eq__" sTreeEq f fd) (T : TxtT mg C) (T5 : Ty5 K C) (N5 : Na5 K C) : FnOk P w K mg base CX0 1 f fd ["self", "other"] (spTreeEq K C) := by
  refine F.ok scTreeEq (fun vs H Q E h => ?_) (fun cdv A outer s H vs Q E hr h => ?_)
  · obtain ⟨v, y, t, rfl, _⟩ := h
    rfl
  · obtain ⟨v, y, t, rfl, hv, ht, q⟩ := h
    refine ⟨_, pss_one (ps_ret (pe_and (pe_callB call_isi (by rfl) T.isi PyProof.Rows.boot_isinstance (pa_cons (pv 1) (pa_cons (pe_glob (v := .ref C.T) rfl T.gT rfl) pa_nil))) (pe_one (pe_cmpR op_eq (pe_fld (pv 0) rfl) (pe_fld (pv 1) rfl) (nomark _))))), ?_⟩
    rcases q with ⟨u, hu, hut, q⟩ | ⟨ty, hty, hk, q⟩
    · obtain ⟨x, A1, dx, fs, rfl, e2, e3, e4⟩ := text_of (K := K) hv (isT_text ht)
      obtain ⟨x2, A2, dx2, gs, rfl, g2, g3, g4⟩ := text_of (K := K) hu (isT_text hut)
      have hkT := kit_T T5 u
      rw [hut] at hkT
      refine ⟨_, rfl, _, _, _, _, true, rfl, .own C.T, PtAt.ty T5 hu, hkT, _, rfl, ?_⟩
      refine iteT ?_
      refine ⟨_, rfl, x, A1, dx, fs, _, rfl, e2, (T5.own _ e3).cl, N5.na _ e3 _ (by decide +kernel), e4, _, rfl, x2, A2, dx2, gs, _, rfl, g2, (T5.own _ g3).cl, N5.na _ g3 _ (by decide +kernel), g4, rfl, ?_⟩
      have e : decide (V.str (said t) = V.str (said u)) = decide (said t = said u) := decide_eq_decide.mpr ⟨fun q => V.str.inj q, fun q => by rw [q]⟩
      rw [e]
      exact q
    · refine ⟨_, rfl, _, _, _, _, false, rfl, .own C.T, hty, hk, _, rfl, ?_⟩
      exact iteF q
end
end K3

namespace K3
open PySem L2 E0
/-! ### trees of nodes, texts and rows alone -/
def menuT : List Str := ["a", "b", "", "f", "g", "1", "2"]
theorem menuT_ok : ∀ s ∈ menuT, s.length ≤ 60 ∧ quoteS s = "\"" ++ s ++ "\"" ∧ PyData.strOk s = true := by
  have h : (menuT.all fun s => decide (s.length ≤ 60) && decide (quoteS s = "\"" ++ s ++ "\"") && PyData.strOk s) = true := by decide +kernel
  intro s hs
  have q := List.all_eq_true.mp h s hs
  simp only [Bool.and_eq_true, decide_eq_true_eq] at q
  exact ⟨q.1.1, q.1.2, q.2⟩
theorem nameS_len {s : Str} (h : nameS s = true) : s.length ≤ 20 := by
  unfold nameS at h
  simp only [Bool.and_eq_true, decide_eq_true_eq] at h
  exact h.1.1.2
mutual
def genT : Tr → Prop
  | .tx s => s ∈ menuT
  | .row ts => ts.length ≤ 1000 ∧ gensT ts ∧ ∀ t ∈ ts, isT t = true
  | .nd lk f ps => lk = false ∧ nameS f = true ∧ PyData.strOk f = true ∧ ps.length ≤ 9 ∧ gensT ps
  | .vr .. => False
def gensT : List Tr → Prop
  | [] => True
  | t :: ts => genT t ∧ gensT ts
end
theorem gens_mem : ∀ {ts : List Tr} {t : Tr}, gensT ts → t ∈ ts → genT t
  | a :: ts, t, h, m => by
    rcases List.mem_cons.mp m with e | m
    · rw [e]; exact h.1
    · exact gens_mem h.2 m
theorem gens_of : ∀ {ts : List Tr}, (∀ t ∈ ts, genT t) → gensT ts
  | [], _ => True.intro
  | a :: ts, h => ⟨h a (List.mem_cons_self ..), gens_of fun t m => h t (List.mem_cons_of_mem _ m)⟩
theorem gen_okP : ∀ {t : Tr}, genT t → okP t = true
  | .tx s, h => decide_eq_true (menuT_ok s h).1
  | .row ts, h => List.all_eq_true.mpr h.2.2
  | .nd true f ps, h => Bool.noConfusion h.1
  | .nd false f ps, _ => rfl
  | .vr .., h => False.elim h
theorem gen_row : ∀ {t : Tr}, genT t → rowLen t ≤ 1000 ∧ rowB t ≤ 1000
  | .tx s, h => ⟨Nat.zero_le _, Nat.le_trans (menuT_ok s h).1 (by decide)⟩
  | .row ts, h => ⟨h.1, h.1⟩
  | .nd .., _ => ⟨Nat.zero_le _, Nat.zero_le _⟩
  | .vr .., h => False.elim h
/-! how long its text can be -/
theorem joinB_cons (t : Tr) (ts : List Tr) : joinB (t :: ts) = (said t).length + 2 + joinB ts := by
  unfold joinB
  show ((said t).length :: (saids ts).map (·.length)).sum + (ts.length + 1) * 2 = _
  rw [List.sum_cons]
  omega
mutual
theorem said_sz : ∀ {t : Tr}, genT t → (said t).length + 2 ≤ 70 + 1000 * size t ∧ (isT t = true → (said t).length + 2 ≤ 1000 * size t)
  | .tx s, h => by
    obtain ⟨h1, h2, _⟩ := menuT_ok s h
    have e4 : ("\"" : Str).length = 1 := by decide +kernel
    rw [said_tx, h2, str_len, str_len, e4]
    exact ⟨by omega, nofun⟩
  | .row ts, h => by
    obtain ⟨_, h2, h3⟩ := h
    have b1 : ("[" : Str).length = 1 := by decide +kernel
    have b2 : ("]" : Str).length = 1 := by decide +kernel
    have := joinB_ts h2 h3
    have := join_len ts
    rw [said_row, str_len, str_len, b1, b2]
    show 1 + _ + 1 + 2 ≤ 70 + 1000 * sizes ts ∧ _
    exact ⟨by omega, nofun⟩
  | .nd lk f ps, h => by
    obtain ⟨_, h1, _, h3, h2⟩ := h
    have b1 : ("(" : Str).length = 1 := by decide +kernel
    have b2 : (")" : Str).length = 1 := by decide +kernel
    have := joinB_sz h2
    have := join_len ps
    have := nameS_len h1
    rw [said_nd, str_len, str_len, str_len, b1, b2]
    simp only [size]
    exact ⟨by omega, fun _ => by omega⟩
  | .vr .., h => False.elim h
theorem joinB_sz : ∀ {ts : List Tr}, gensT ts → joinB ts ≤ 70 * ts.length + 1000 * sizes ts
  | [], _ => Nat.zero_le _
  | t :: ts, h => by
    have h1 := (said_sz h.1).1
    have h2 := joinB_sz h.2
    rw [joinB_cons]
    show _ ≤ 70 * (ts.length + 1) + 1000 * (size t + sizes ts)
    omega
theorem joinB_ts : ∀ {ts : List Tr}, gensT ts → (∀ t ∈ ts, isT t = true) → joinB ts ≤ 1000 * sizes ts
  | [], _, _ => Nat.le_refl _
  | t :: ts, h, h' => by
    have h1 := (said_sz h.1).2 (h' t (List.mem_cons_self ..))
    have h2 := joinB_ts h.2 fun u m => h' u (List.mem_cons_of_mem _ m)
    rw [joinB_cons]
    show _ ≤ 1000 * (size t + sizes ts)
    omega
end
theorem gen_okTx : ∀ {t : Tr}, genT t → size t ≤ 10000 → okTx t
  | .tx s, h, _ => Nat.le_trans (menuT_ok s h).1 (by decide)
  | .row ts, h, b => by
    obtain ⟨h1, h2, h3⟩ := h
    have := joinB_ts h2 h3
    have b : sizes ts ≤ 10000 := b
    exact ⟨fun t m => isT_text (h3 t m), by omega, by omega⟩
  | .nd .., _, _ => True.intro
  | .vr .., h, _ => False.elim h
theorem gens_app : ∀ {a b : List Tr}, gensT a → gensT b → gensT (a ++ b)
  | [], _, _, h => h
  | _ :: _, _, h, h2 => ⟨h.1, gens_app h.2 h2⟩
theorem below_row {ts ps : List Tr} (h : ∀ t ∈ ts, isT t = true) : below (.row ts :: ps) = ts ++ below ps := by
  show ts.filter isN ++ below ps = _
  rw [List.filter_eq_self.mpr fun t m => isT_isN (h t m)]
theorem gens_below : ∀ {ps : List Tr}, gensT ps → gensT (below ps) ∧ ∀ t ∈ below ps, isT t = true
  | [], _ => ⟨True.intro, fun t h => nomatch h⟩
  | .tx s :: ps, h => gens_below (ps := ps) h.2
  | .row ts :: ps, h => by
    obtain ⟨⟨h1, h2, h3⟩, h4⟩ := h
    obtain ⟨i1, i2⟩ := gens_below h4
    rw [below_row h3]
    exact ⟨gens_app h2 i1, fun t m => (List.mem_append.mp m).elim (h3 t) (i2 t)⟩
  | .nd lk f qs :: ps, h => by
    obtain ⟨h1, h4⟩ := h
    obtain ⟨i1, i2⟩ := gens_below h4
    obtain ⟨rfl, _⟩ := id h1
    show gensT ([.nd false f qs] ++ below ps) ∧ ∀ t ∈ [Tr.nd false f qs] ++ below ps, isT t = true
    exact ⟨⟨h1, i1⟩, fun t m => (List.mem_cons.mp m).elim (fun e => by rw [e]; rfl) (i2 t)⟩
  | .vr .. :: ps, h => False.elim h.1
theorem isT_nd {t : Tr} (h : isT t = true) : ∃ f ps, t = .nd false f ps := by
  match t, h with
  | .nd false f ps, _ => exact ⟨f, ps, rfl⟩
/-! heights -/
mutual
def ht : Tr → Nat
  | .row ts => hts ts + 1
  | .nd _ _ ps => hts ps + 1
  | _ => 0
def hts : List Tr → Nat
  | [] => 0
  | t :: ts => max (ht t) (hts ts)
end
theorem hts_mem : ∀ {ts : List Tr} {t : Tr}, t ∈ ts → ht t ≤ hts ts
  | a :: ts, t, m => by
    show ht t ≤ max (ht a) (hts ts)
    rcases List.mem_cons.mp m with e | m
    · rw [e]; exact Nat.le_max_left _ _
    · exact Nat.le_trans (hts_mem m) (Nat.le_max_right _ _)
theorem hts_below : ∀ {ps : List Tr}, gensT ps → ∀ {t : Tr}, t ∈ below ps → ht t ≤ hts ps
  | .row ts :: ps, h, t, m => by
    show ht t ≤ max (hts ts + 1) (hts ps)
    rw [below_row h.1.2.2] at m
    rcases List.mem_append.mp m with q | q
    · have := hts_mem q
      omega
    · have := hts_below h.2 q
      omega
  | .tx s :: ps, h, t, m => Nat.le_trans (hts_below (ps := ps) h.2 m) (Nat.le_max_right _ _)
  | .nd lk f qs :: ps, h, t, m => by
    show ht t ≤ max (ht (.nd lk f qs)) (hts ps)
    rcases List.mem_cons.mp (show t ∈ Tr.nd lk f qs :: below ps from m) with e | q
    · rw [e]; exact Nat.le_max_left _ _
    · exact Nat.le_trans (hts_below h.2 q) (Nat.le_max_right _ _)
  | .vr .. :: ps, h, _, _ => False.elim h.1
/-! ### paths -/
mutual
def pathsT : Tr → List (List Nat)
  | .nd _ _ ps => [] :: kidsP 0 ps
  | _ => [[]]
/-- the paths below, the kids among these parts numbered from n on -/
def kidsP : Nat → List Tr → List (List Nat)
  | _, [] => []
  | n, t :: ps => kidP n t ++ kidsP (n + rowLen t + (if isT t = true then 1 else 0)) ps
def kidP : Nat → Tr → List (List Nat)
  | n, .row ts => rowP n ts
  | n, .nd _ _ ps => ([] :: kidsP 0 ps).map (n :: ·)
  | _, _ => []
def rowP : Nat → List Tr → List (List Nat)
  | _, [] => []
  | n, t :: ts => (pathsT t).map (n :: ·) ++ rowP (n + 1) ts
end
theorem kidsP_cons (n : Nat) (t : Tr) (ps : List Tr) : kidsP n (t :: ps) = kidP n t ++ kidsP (n + rowLen t + (if isT t = true then 1 else 0)) ps := by rw [kidsP]
theorem rowP_cons (n : Nat) (t : Tr) (ts : List Tr) : rowP n (t :: ts) = (pathsT t).map (n :: ·) ++ rowP (n + 1) ts := by rw [rowP]
theorem rowP_app : ∀ (n : Nat) (a b : List Tr), rowP n (a ++ b) = rowP n a ++ rowP (n + a.length) b
  | n, [], b => by simp [rowP]
  | n, t :: a, b => by
    rw [List.cons_append, rowP_cons, rowP_cons, rowP_app (n + 1) a b, List.append_assoc, List.length_cons, show n + 1 + a.length = n + (a.length + 1) by omega]
theorem kidsP_row : ∀ {ps : List Tr} (n : Nat), gensT ps → kidsP n ps = rowP n (below ps)
  | [], n, _ => by simp [kidsP, rowP, below]
  | .tx s :: ps, n, h => by
    have := kidsP_row (ps := ps) n h.2
    rw [kidsP_cons, kidP]
    · exact this
    · nofun
    · nofun
  | .row ts :: ps, n, h => by
    have := kidsP_row (ps := ps) (n + ts.length) h.2
    rw [below_row h.1.2.2, rowP_app, ← this, kidsP_cons, kidP]
    rfl
  | .nd lk f qs :: ps, n, h => by
    have := kidsP_row (ps := ps) (n + 1) h.2
    obtain ⟨rfl, _⟩ := id h.1
    show kidsP n (.nd false f qs :: ps) = rowP n (.nd false f qs :: below ps)
    rw [kidsP_cons, kidP, rowP_cons, ← this, pathsT]
    rfl
  | .vr .. :: ps, _, h => False.elim h.1
theorem paths_nd {lk : Bool} {f : Str} {ps : List Tr} (h : gensT ps) : pathsT (.nd lk f ps) = [] :: rowP 0 (below ps) := by
  unfold pathsT
  rw [kidsP_row 0 h]
def atP : Tr → List Nat → Option Tr
  | t, [] => some t
  | .nd _ _ ps, n :: p => match (below ps)[n]? with
    | some k => atP k p
    | none => none
  | _, _ :: _ => none
theorem atP_nil (t : Tr) : atP t [] = some t := by simp [atP]
theorem atP_nd (lk : Bool) (f : Str) (ps : List Tr) (n : Nat) (p : List Nat) : atP (.nd lk f ps) (n :: p) = match (below ps)[n]? with
    | some k => atP k p
    | none => none := by rw [atP]
theorem mem_rowP {n : Nat} {p : List Nat} : ∀ {ts : List Tr} {m : Nat}, (n :: p) ∈ rowP m ts ↔ ∃ i k, ts[i]? = some k ∧ n = m + i ∧ p ∈ pathsT k
  | [], m => by simp [rowP]
  | t :: ts, m => by
    rw [rowP_cons, List.mem_append, mem_rowP (ts := ts) (m := m + 1)]
    constructor
    · rintro (h | ⟨i, k, h1, h2, h3⟩)
      · obtain ⟨q, hq, e⟩ := List.mem_map.mp h
        cases e
        exact ⟨0, t, rfl, rfl, hq⟩
      · exact ⟨i + 1, k, by simpa using h1, by omega, h3⟩
    · rintro ⟨i, k, h1, h2, h3⟩
      match i, h1, h2 with
      | 0, h1, h2 =>
        have h1 : some t = some k := by simpa using h1
        cases h1
        exact .inl (List.mem_map.mpr ⟨p, h3, by rw [h2]; rfl⟩)
      | i + 1, h1, h2 => exact .inr ⟨i, k, by simpa using h1, by omega, h3⟩
theorem nil_rowP : ∀ {ts : List Tr} {m : Nat}, [] ∉ rowP m ts
  | [], m => by simp [rowP]
  | t :: ts, m => by
    rw [rowP_cons, List.mem_append, not_or]
    exact ⟨(fun h => by
      obtain ⟨q, _, e⟩ := List.mem_map.mp h
      cases e), nil_rowP⟩
theorem mem_paths : ∀ {p : List Nat} {t : Tr}, genT t → isT t = true → (p ∈ pathsT t ↔ (atP t p).isSome = true)
  | [], t, hg, ht => by
    obtain ⟨f, ps, rfl⟩ := isT_nd ht
    rw [paths_nd hg.2.2.2.2]
    exact ⟨fun _ => by rw [atP_nil]; rfl, fun _ => List.mem_cons_self ..⟩
  | n :: p, t, hg, ht => by
    obtain ⟨f, ps, rfl⟩ := isT_nd ht
    obtain ⟨g1, g2⟩ := gens_below hg.2.2.2.2
    rw [paths_nd hg.2.2.2.2]
    have e : (n :: p) ∈ ([] :: rowP 0 (below ps)) ↔ (n :: p) ∈ rowP 0 (below ps) := by
      rw [List.mem_cons]
      exact ⟨fun h => h.elim (fun e => by cases e) id, .inr⟩
    rw [e, mem_rowP, atP_nd]
    constructor
    · rintro ⟨i, k, h1, h2, h3⟩
      rw [Nat.zero_add] at h2
      rw [h2, h1]
      have m := List.mem_of_getElem? h1
      exact (mem_paths (gens_mem g1 m) (g2 k m)).mp h3
    · intro h
      cases hk : (below ps)[n]? with
      | none => rw [hk] at h; cases h
      | some k =>
        rw [hk] at h
        have m := List.mem_of_getElem? hk
        exact ⟨n, k, hk, (Nat.zero_add _).symm, (mem_paths (gens_mem g1 m) (g2 k m)).mpr h⟩
theorem atP_gen : ∀ {p : List Nat} {t u : Tr}, genT t → isT t = true → atP t p = some u → genT u ∧ isT u = true ∧ size u ≤ size t ∧ levels u + p.length ≤ levels t ∧ ht u ≤ ht t
  | [], t, u, hg, h1, h => by
    rw [atP_nil] at h
    cases h
    exact ⟨hg, h1, Nat.le_refl _, Nat.le_refl _, Nat.le_refl _⟩
  | n :: p, t, u, hg, h1, h => by
    obtain ⟨f, ps, rfl⟩ := isT_nd h1
    obtain ⟨g1, g2⟩ := gens_below hg.2.2.2.2
    rw [atP_nd] at h
    cases hk : (below ps)[n]? with
    | none => rw [hk] at h; cases h
    | some k =>
      rw [hk] at h
      have m := List.mem_of_getElem? hk
      obtain ⟨a, b, c, d, e⟩ := atP_gen (gens_mem g1 m) (g2 k m) h
      have okp : ∀ p ∈ ps, okP p = true := fun p m => gen_okP (gens_mem hg.2.2.2.2 m)
      obtain ⟨b1, b2, b3⟩ := below_ok okp
      have sz : ∀ {ts : List Tr}, k ∈ ts → size k ≤ sizes ts ∧ levels k ≤ levelss ts := fun {ts} => by
        induction ts with
        | nil => intro h; cases h
        | cons a ts ih =>
          intro h
          show size k ≤ size a + sizes ts ∧ levels k ≤ max (levels a) (levelss ts)
          rcases List.mem_cons.mp h with e | h
          · rw [e]; exact ⟨by omega, Nat.le_max_left _ _⟩
          · have := ih h
            omega
      have q := sz m
      have hb := hts_below hg.2.2.2.2 m
      rw [b1, b2] at q
      simp only [size, levels, ht, List.length_cons]
      exact ⟨a, b, by omega, by omega, by omega⟩
theorem atP_app : ∀ {p q : List Nat} {t : Tr}, atP t (p ++ q) = match atP t p with | some u => atP u q | none => none
  | [], q, t => by rw [atP_nil]; rfl
  | n :: p, q, t => by
    match t with
    | .nd lk f ps =>
      rw [List.cons_append, atP_nd, atP_nd]
      cases (below ps)[n]? with
      | none => rfl
      | some k => exact atP_app (p := p) (q := q) (t := k)
    | .tx _ => simp [atP]
    | .row _ => simp [atP]
    | .vr _ _ => simp [atP]
theorem paths_len : ∀ {t : Tr}, genT t → isT t = true → (pathsT t).length = size t := by
  have go : ∀ (h : Nat) (t : Tr), ht t ≤ h → genT t → isT t = true → (pathsT t).length = size t := fun h => by
    induction h with
    | zero =>
      intro t hh hg h1
      obtain ⟨f, ps, rfl⟩ := isT_nd h1
      simp only [ht] at hh
      omega
    | succ h ih =>
      intro t hh hg h1
      obtain ⟨f, ps, rfl⟩ := isT_nd h1
      obtain ⟨g1, g2⟩ := gens_below hg.2.2.2.2
      have okp : ∀ p ∈ ps, okP p = true := fun p m => gen_okP (gens_mem hg.2.2.2.2 m)
      obtain ⟨b1, b2, b3⟩ := below_ok okp
      rw [paths_nd hg.2.2.2.2]
      simp only [size, List.length_cons]
      rw [← b1]
      have rows : ∀ (ts : List Tr) (n : Nat), (∀ t ∈ ts, (pathsT t).length = size t) → (rowP n ts).length = sizes ts := fun ts => by
        induction ts with
        | nil => intro n _; simp [rowP, sizes]
        | cons a ts ih =>
          intro n hq
          rw [rowP_cons, List.length_append, List.length_map, hq a (List.mem_cons_self ..), ih (n + 1) fun t m => hq t (List.mem_cons_of_mem _ m)]
          rfl
      rw [rows (below ps) 0 fun t m => ih t (by have := hts_below hg.2.2.2.2 m; simp only [ht] at hh; omega) (gens_mem g1 m) (g2 t m)]
      omega
  exact fun {t} => go _ t (Nat.le_refl _)
end K3

namespace K3
open PySem L2 E0
/-! ### another node at a path -/
def rowX (g : Tr → Tr) (n : Int) : List Tr → List Tr
  | [] => []
  | t :: ts => (if n = 0 then g t else t) :: rowX g (n - 1) ts
def partsX (g : Tr → Tr) (n : Int) : List Tr → List Tr
  | [] => []
  | .row ts :: ps => .row (rowX g n ts) :: partsX g (n - ts.length) ps
  | .nd lk f qs :: ps => (if n = 0 then g (.nd lk f qs) else .nd lk f qs) :: partsX g (n - 1) ps
  | t :: ps => t :: partsX g n ps
def placeT : List Nat → Tr → Tr → Tr
  | [], _, u => u
  | n :: p, .nd lk f ps, u => .nd lk f (partsX (fun k => placeT p k u) n ps)
  | _ :: _, t, _ => t
theorem rowX_len (g : Tr → Tr) : ∀ (n : Int) (ts : List Tr), (rowX g n ts).length = ts.length
  | _, [] => rfl
  | n, t :: ts => by rw [rowX, List.length_cons, rowX_len g (n - 1) ts, List.length_cons]
theorem rowX_get (g : Tr → Tr) : ∀ (ts : List Tr) (n : Int) (i : Nat), (rowX g n ts)[i]? = ts[i]?.map fun t => if n = (i : Int) then g t else t
  | [], n, i => by simp [rowX]
  | t :: ts, n, 0 => by simp [rowX]
  | t :: ts, n, i + 1 => by
    rw [rowX, List.getElem?_cons_succ, rowX_get g ts (n - 1) i, List.getElem?_cons_succ]
    cases ts[i]? with
    | none => rfl
    | some a =>
      simp only [Option.map_some]
      by_cases h : n = ((i + 1 : Nat) : Int)
      · rw [if_pos h, if_pos (by omega)]
      · rw [if_neg h, if_neg (by omega)]
theorem rowX_app (g : Tr → Tr) : ∀ (n : Int) (a b : List Tr), rowX g n (a ++ b) = rowX g n a ++ rowX g (n - a.length) b
  | n, [], b => by simp [rowX]
  | n, t :: a, b => by
    rw [List.cons_append, rowX, rowX_app g (n - 1) a b, rowX, List.length_cons, show n - 1 - (a.length : Int) = n - ((a.length + 1 : Nat) : Int) by omega]
    rfl
theorem rowX_off (g : Tr → Tr) : ∀ (ts : List Tr) (n : Int), n < 0 → rowX g n ts = ts
  | [], _, _ => rfl
  | t :: ts, n, h => by rw [rowX, if_neg (by omega), rowX_off g ts (n - 1) (by omega)]
theorem partsX_len (g : Tr → Tr) : ∀ (n : Int) (ps : List Tr), (partsX g n ps).length = ps.length
  | _, [] => rfl
  | n, .row ts :: ps => by rw [partsX, List.length_cons, partsX_len g _ ps, List.length_cons]
  | n, .nd lk f qs :: ps => by rw [partsX, List.length_cons, partsX_len g _ ps, List.length_cons]
  | n, .tx s :: ps => by rw [partsX, List.length_cons, partsX_len g _ ps, List.length_cons] <;> nofun
  | n, .vr k s :: ps => by rw [partsX, List.length_cons, partsX_len g _ ps, List.length_cons] <;> nofun
/-- it is only looked at where the number points -/
theorem partsX_at (g g' : Tr → Tr) (k : Tr) : ∀ {ps : List Tr} (n : Int), gensT ps → (∀ j : Nat, n = (j : Int) → (below ps)[j]? = some k) → g k = g' k → partsX g n ps = partsX g' n ps
  | [], _, _, _, _ => rfl
  | .tx s :: ps, n, hg, h, e => by
    rw [partsX, partsX, partsX_at g g' k n hg.2 h e] <;> nofun
  | .row ts :: ps, n, hg, h, e => by
    rw [below_row hg.1.2.2] at h
    have h1 : rowX g n ts = rowX g' n ts := by
      refine List.ext_getElem? fun i => ?_
      rw [rowX_get, rowX_get]
      cases hi : ts[i]? with
      | none => rfl
      | some a =>
        simp only [Option.map_some]
        by_cases q : n = (i : Int)
        · have := h i q
          rw [List.getElem?_append_left (List.getElem?_eq_some_iff.mp hi).1, hi] at this
          cases this
          rw [if_pos q, if_pos q, e]
        · rw [if_neg q, if_neg q]
    have h2 := partsX_at g g' k (n - ts.length) hg.2 (fun j q => by
      have := h (ts.length + j) (by omega)
      rw [List.getElem?_append_right (by omega), show ts.length + j - ts.length = j by omega] at this
      exact this) e
    rw [partsX, partsX, h1, h2]
  | .nd lk f qs :: ps, n, hg, h, e => by
    obtain ⟨rfl, _⟩ := id hg.1
    have h : ∀ j : Nat, n = (j : Int) → (Tr.nd false f qs :: below ps)[j]? = some k := h
    have h2 := partsX_at g g' k (n - 1) hg.2 (fun j q => by
      have := h (j + 1) (by omega)
      rw [List.getElem?_cons_succ] at this
      exact this) e
    rw [partsX, partsX, h2]
    by_cases q : n = 0
    · have := h 0 q
      rw [List.getElem?_cons_zero] at this
      cases this
      rw [if_pos q, if_pos q, e]
    · rw [if_neg q, if_neg q]
  | .vr .. :: ps, _, hg, _, _ => False.elim hg.1
theorem rowX_gen {g : Tr → Tr} (hh : ∀ t, genT t → isT t = true → genT (g t) ∧ isT (g t) = true) : ∀ {ts : List Tr} (n : Int), gensT ts → (∀ t ∈ ts, isT t = true) → gensT (rowX g n ts) ∧ ∀ t ∈ rowX g n ts, isT t = true
  | [], _, _, _ => ⟨True.intro, fun _ h => nomatch h⟩
  | t :: ts, n, hg, h => by
    obtain ⟨a, b⟩ := rowX_gen hh (n - 1) hg.2 fun u m => h u (List.mem_cons_of_mem _ m)
    have h1 : genT (if n = 0 then g t else t) ∧ isT (if n = 0 then g t else t) = true := by
      by_cases q : n = 0
      · rw [if_pos q]
        exact hh t hg.1 (h t (List.mem_cons_self ..))
      · rw [if_neg q]
        exact ⟨hg.1, h t (List.mem_cons_self ..)⟩
    rw [rowX]
    exact ⟨⟨h1.1, a⟩, fun u m => (List.mem_cons.mp m).elim (fun e => by rw [e]; exact h1.2) (b u)⟩
theorem partsX_gen {g : Tr → Tr} (hh : ∀ t, genT t → isT t = true → genT (g t) ∧ isT (g t) = true) : ∀ {ps : List Tr} (n : Int), gensT ps → gensT (partsX g n ps) ∧ below (partsX g n ps) = rowX g n (below ps)
  | [], _, _ => ⟨True.intro, rfl⟩
  | .tx s :: ps, n, hg => by
    obtain ⟨a, b⟩ := partsX_gen hh n hg.2
    have e : partsX g n (.tx s :: ps) = .tx s :: partsX g n ps := by rw [partsX] <;> nofun
    rw [e]
    exact ⟨⟨hg.1, a⟩, b⟩
  | .row ts :: ps, n, hg => by
    obtain ⟨a, b⟩ := partsX_gen hh (n - ts.length) hg.2
    obtain ⟨c, d⟩ := rowX_gen hh n hg.1.2.1 hg.1.2.2
    rw [partsX, below_row d, below_row hg.1.2.2, rowX_app, b]
    exact ⟨⟨⟨by rw [rowX_len]; exact hg.1.1, c, d⟩, a⟩, rfl⟩
  | .nd lk f qs :: ps, n, hg => by
    obtain ⟨a, b⟩ := partsX_gen hh (n - 1) hg.2
    obtain ⟨rfl, _⟩ := id hg.1
    have h1 : genT (if n = 0 then g (.nd false f qs) else .nd false f qs) ∧ isT (if n = 0 then g (.nd false f qs) else .nd false f qs) = true := by
      by_cases q : n = 0
      · rw [if_pos q]
        exact hh _ hg.1 rfl
      · rw [if_neg q]
        exact ⟨hg.1, rfl⟩
    rw [partsX]
    refine ⟨⟨h1.1, a⟩, ?_⟩
    show below ((if n = 0 then g (.nd false f qs) else .nd false f qs) :: partsX g (n - 1) ps) = rowX g n (.nd false f qs :: below ps)
    rw [rowX, ← b]
    generalize (if n = 0 then g (.nd false f qs) else .nd false f qs) = z at h1 ⊢
    obtain ⟨f2, ps2, rfl⟩ := isT_nd h1.2
    rfl
  | .vr .. :: ps, _, hg => False.elim hg.1
theorem place_gen : ∀ {p : List Nat} {t u : Tr}, genT t → isT t = true → genT u → isT u = true → genT (placeT p t u) ∧ isT (placeT p t u) = true
  | [], t, u, _, _, h3, h4 => ⟨h3, h4⟩
  | n :: p, t, u, hg, h1, h3, h4 => by
    obtain ⟨f, ps, rfl⟩ := isT_nd h1
    obtain ⟨a, b⟩ := partsX_gen (g := fun k => placeT p k u) (fun t q1 q2 => place_gen q1 q2 h3 h4) n hg.2.2.2.2
    exact ⟨⟨rfl, hg.2.1, hg.2.2.1, by rw [partsX_len]; exact hg.2.2.2.1, a⟩, rfl⟩
/-! size, levels and height -/
theorem rowX_sz {g : Tr → Tr} {k : Tr} : ∀ {ts : List Tr} {n : Nat}, ts[n]? = some k → sizes (rowX g n ts) + size k = sizes ts + size (g k)
  | t :: ts, 0, h => by
    rw [List.getElem?_cons_zero] at h
    cases h
    rw [rowX, if_pos (show ((0 : Nat) : Int) = 0 from rfl), rowX_off g ts _ (by omega)]
    show size (g k) + sizes ts + size k = size k + sizes ts + size (g k)
    omega
  | t :: ts, n + 1, h => by
    rw [List.getElem?_cons_succ] at h
    have := rowX_sz (g := g) h
    rw [rowX, if_neg (by omega), show ((n + 1 : Nat) : Int) - 1 = (n : Int) by omega]
    show size t + sizes (rowX g n ts) + size k = size t + sizes ts + size (g k)
    omega
theorem rowX_lev {g : Tr → Tr} {k : Tr} : ∀ {ts : List Tr} {n : Nat}, ts[n]? = some k → levelss (rowX g n ts) ≤ max (levelss ts) (levels (g k)) ∧ levels (g k) ≤ levelss (rowX g n ts)
  | t :: ts, 0, h => by
    rw [List.getElem?_cons_zero] at h
    cases h
    rw [rowX, if_pos (show ((0 : Nat) : Int) = 0 from rfl), rowX_off g ts _ (by omega)]
    show max (levels (g k)) (levelss ts) ≤ max (max (levels k) (levelss ts)) (levels (g k)) ∧ levels (g k) ≤ max (levels (g k)) (levelss ts)
    omega
  | t :: ts, n + 1, h => by
    rw [List.getElem?_cons_succ] at h
    have := rowX_lev (g := g) h
    rw [rowX, if_neg (by omega), show ((n + 1 : Nat) : Int) - 1 = (n : Int) by omega]
    show max (levels t) (levelss (rowX g n ts)) ≤ max (max (levels t) (levelss ts)) (levels (g k)) ∧ levels (g k) ≤ max (levels t) (levelss (rowX g n ts))
    omega
theorem place_sz : ∀ {p : List Nat} {t u k : Tr}, genT t → isT t = true → genT u → isT u = true → atP t p = some k → size (placeT p t u) + size k = size t + size u ∧ levels (placeT p t u) ≤ levels t + levels u ∧ levels u ≤ levels (placeT p t u) ∧ size u ≤ size (placeT p t u)
  | [], t, u, k, _, _, _, _, h => by
    rw [atP_nil] at h
    cases h
    show size u + size t = size t + size u ∧ levels u ≤ levels t + levels u ∧ levels u ≤ levels u ∧ size u ≤ size u
    omega
  | n :: p, t, u, k, hg, h1, h3, h4, h => by
    obtain ⟨f, ps, rfl⟩ := isT_nd h1
    rw [atP_nd] at h
    cases hk : (below ps)[n]? with
    | none => rw [hk] at h; cases h
    | some c =>
      rw [hk] at h
      obtain ⟨g1, g2⟩ := gens_below hg.2.2.2.2
      have m := List.mem_of_getElem? hk
      obtain ⟨i1, i2, i3, i4⟩ := place_sz (gens_mem g1 m) (g2 c m) h3 h4 h
      obtain ⟨a, b⟩ := partsX_gen (g := fun k => placeT p k u) (fun t q1 q2 => place_gen q1 q2 h3 h4) n hg.2.2.2.2
      have okp : ∀ p ∈ ps, okP p = true := fun p m => gen_okP (gens_mem hg.2.2.2.2 m)
      obtain ⟨b1, b2, _⟩ := below_ok okp
      have okx : ∀ q ∈ partsX (fun k => placeT p k u) n ps, okP q = true := fun q m => gen_okP (gens_mem a m)
      obtain ⟨c1, c2, _⟩ := below_ok okx
      have z1 := rowX_sz (g := fun k => placeT p k u) hk
      have z2 := rowX_lev (g := fun k => placeT p k u) hk
      rw [← b, c1, b1] at z1
      rw [← b, c2, b2] at z2
      have sz : ∀ {ts : List Tr}, c ∈ ts → size c ≤ sizes ts ∧ levels c ≤ levelss ts := fun {ts} => by
        induction ts with
        | nil => intro h; cases h
        | cons a ts ih =>
          intro h
          show size c ≤ size a + sizes ts ∧ levels c ≤ max (levels a) (levelss ts)
          rcases List.mem_cons.mp h with e | h
          · rw [e]; exact ⟨by omega, Nat.le_max_left _ _⟩
          · have := ih h
            omega
      have q := sz m
      rw [b1, b2] at q
      have ka := (atP_gen (gens_mem g1 m) (g2 c m) h).2.2.1
      show size (.nd false f (partsX (fun k => placeT p k u) n ps)) + size k = size (.nd false f ps) + size u ∧ levels (.nd false f (partsX (fun k => placeT p k u) n ps)) ≤ levels (.nd false f ps) + levels u ∧ levels u ≤ levels (.nd false f (partsX (fun k => placeT p k u) n ps)) ∧ size u ≤ size (.nd false f (partsX (fun k => placeT p k u) n ps))
      simp only [size, levels]
      generalize sizes (partsX (fun k => placeT p k u) n ps) = SX at *
      generalize levelss (partsX (fun k => placeT p k u) n ps) = LX at *
      omega
theorem place_ht : ∀ {p : List Nat} {t u : Tr}, ht (placeT p t u) ≤ ht t + ht u
  | [], t, u => by
    show ht u ≤ _
    omega
  | n :: p, .nd lk f ps, u => by
    have rows : ∀ (ts : List Tr) (i : Int), hts (rowX (fun k => placeT p k u) i ts) ≤ hts ts + ht u := fun ts => by
      induction ts with
      | nil => intro i; exact Nat.zero_le _
      | cons a ts ih =>
        intro i
        have h1 := ih (i - 1)
        have h2 := place_ht (p := p) (t := a) (u := u)
        rw [rowX]
        show max (ht (if i = 0 then placeT p a u else a)) (hts (rowX (fun k => placeT p k u) (i - 1) ts)) ≤ max (ht a) (hts ts) + ht u
        by_cases q : i = 0
        · rw [if_pos q]; omega
        · rw [if_neg q]; omega
    have parts : ∀ (ps : List Tr) (i : Int), hts (partsX (fun k => placeT p k u) i ps) ≤ hts ps + ht u := fun ps => by
      induction ps with
      | nil => intro i; exact Nat.zero_le _
      | cons a ps ih =>
        intro i
        match a with
        | .row ts =>
          have h1 := ih (i - ts.length)
          have h2 := rows ts i
          rw [partsX]
          show max (hts (rowX (fun k => placeT p k u) i ts) + 1) (hts (partsX (fun k => placeT p k u) (i - ts.length) ps)) ≤ max (hts ts + 1) (hts ps) + ht u
          omega
        | .nd lk f qs =>
          have h1 := ih (i - 1)
          have h2 := place_ht (p := p) (t := .nd lk f qs) (u := u)
          rw [partsX]
          show max (ht (if i = 0 then placeT p (.nd lk f qs) u else .nd lk f qs)) (hts (partsX (fun k => placeT p k u) (i - 1) ps)) ≤ max (ht (.nd lk f qs)) (hts ps) + ht u
          by_cases q : i = 0
          · rw [if_pos q]; omega
          · rw [if_neg q]; omega
        | .tx s =>
          have h1 := ih i
          have e : partsX (fun k => placeT p k u) i (.tx s :: ps) = .tx s :: partsX (fun k => placeT p k u) i ps := by rw [partsX] <;> nofun
          rw [e]
          show max 0 (hts (partsX (fun k => placeT p k u) i ps)) ≤ max 0 (hts ps) + ht u
          omega
        | .vr k s =>
          have h1 := ih i
          have e : partsX (fun k => placeT p k u) i (.vr k s :: ps) = .vr k s :: partsX (fun k => placeT p k u) i ps := by rw [partsX] <;> nofun
          rw [e]
          show max 0 (hts (partsX (fun k => placeT p k u) i ps)) ≤ max 0 (hts ps) + ht u
          omega
    have := parts ps n
    show hts (partsX (fun k => placeT p k u) n ps) + 1 ≤ hts ps + 1 + ht u
    omega
  | n :: p, .tx s, u => Nat.zero_le _
  | n :: p, .row ts, u => by
    show hts ts + 1 ≤ hts ts + 1 + ht u
    omega
  | n :: p, .vr k s, u => Nat.zero_le _
/-- what stands at the path then -/
theorem place_at : ∀ {p : List Nat} {t u k : Tr}, genT t → isT t = true → genT u → isT u = true → atP t p = some k → atP (placeT p t u) p = some u
  | [], t, u, k, _, _, _, _, _ => atP_nil u
  | n :: p, t, u, k, hg, h1, h3, h4, h => by
    obtain ⟨f, ps, rfl⟩ := isT_nd h1
    rw [atP_nd] at h
    cases hk : (below ps)[n]? with
    | none => rw [hk] at h; cases h
    | some c =>
      rw [hk] at h
      obtain ⟨g1, g2⟩ := gens_below hg.2.2.2.2
      have m := List.mem_of_getElem? hk
      obtain ⟨a, b⟩ := partsX_gen (g := fun k => placeT p k u) (fun t q1 q2 => place_gen q1 q2 h3 h4) n hg.2.2.2.2
      show atP (.nd false f (partsX (fun k => placeT p k u) n ps)) (n :: p) = some u
      rw [atP_nd, b, rowX_get, hk]
      show (match some (if (n : Int) = n then placeT p c u else c) with | some k => atP k p | none => none) = some u
      rw [if_pos rfl]
      exact place_at (gens_mem g1 m) (g2 c m) h3 h4 h
/-- the node itself changes nothing -/
theorem place_id : ∀ {p : List Nat} {t k : Tr}, genT t → isT t = true → atP t p = some k → placeT p t k = t
  | [], t, k, _, _, h => by
    rw [atP_nil] at h
    cases h
    rfl
  | n :: p, t, k, hg, h1, h => by
    obtain ⟨f, ps, rfl⟩ := isT_nd h1
    rw [atP_nd] at h
    cases hk : (below ps)[n]? with
    | none => rw [hk] at h; cases h
    | some c =>
      rw [hk] at h
      obtain ⟨g1, g2⟩ := gens_below hg.2.2.2.2
      have m := List.mem_of_getElem? hk
      have e := place_id (gens_mem g1 m) (g2 c m) h
      show Tr.nd false f (partsX (fun c => placeT p c k) n ps) = .nd false f ps
      have idX : ∀ (ts : List Tr) (i : Int), rowX id i ts = ts := fun ts => by
        induction ts with
        | nil => intro i; rfl
        | cons a ts ih => intro i; rw [rowX, ih]; simp
      have idP : ∀ (ps : List Tr) (i : Int), partsX id i ps = ps := fun ps => by
        induction ps with
        | nil => intro i; rfl
        | cons a ps ih =>
          intro i
          match a with
          | .row ts => rw [partsX, ih, idX]
          | .nd lk f qs => rw [partsX, ih]; simp
          | .tx s => rw [partsX, ih] <;> nofun
          | .vr k s => rw [partsX, ih] <;> nofun
      rw [partsX_at (fun c => placeT p c k) id c n hg.2.2.2.2 (fun j q => by rw [show j = n by omega]; exact hk) e, idP]
/-- one step of putting: the node above the rest of the path -/
theorem place_step {n : Nat} {p : List Nat} {f : Str} {ps : List Tr} {u c : Tr} (hg : gensT ps) (hk : (below ps)[n]? = some c) : placeT (n :: p) (.nd false f ps) u = .nd false f (partsX (fun _ => placeT p c u) n ps) := by
  show Tr.nd false f (partsX (fun k => placeT p k u) n ps) = _
  rw [partsX_at (fun k => placeT p k u) (fun _ => placeT p c u) c n hg (fun j q => by rw [show j = n by omega]; exact hk) rfl]
end K3

namespace K3
open PySem PySem.Spec PyProof.Rows PySem.SeqAt L2 E0
section
variable {prog : Program} {w : World} {A : Around} {E : Value → Shared → Prop} {s : Shared} {K : PySem.W.Frag} {x y C : Addr} {ox oy : Obj} {od oe : Option Obj} {u : Value}
theorem ifB_ne {M : Model} {args : List Value} {Q : Option Value → Shared → Prop} (X : K.In s.heap) (I : PySem.W.InstAt s.heap x ox C od) (hs : PySem.W.findIn K (.ref C) "__ne__" = some (some (.builtin "object.__ne__")))
    (h : wpAny M A (call (.builtin "object.__ne__") (.ref x :: args)) (fun v => Q (some v)) E s) : wpAny M A (callSpecialIfBound? (.ref x) "__ne__" args) Q E s := by
  simp only [callSpecialIfBound?, bindSpecialIfBound?]
  refine wpAny_holding (wpAny_bind (wpAny_bind (wpAny_bind (I.type.here ((PySem.W.looks_findIn X hs).here ?_)))))
  refine wpAny_bind (wpAny_askSetting (wpAny_ite ?_))
  have fin : wpAny M A (call (.builtin "object.__ne__") ([.ref x] ++ args) >>= fun v => pure (some v)) Q E s := wpAny_bind (wpAny_mono h (fun v s' h' => wpAny_pure h') fun _ _ h' => h')
  split
  · exact wpAny_bind (wpAny_of_eq (F.cmp_object.ne.bind _) (wpAny_pure (by exact fin)))
  · exact wpAny_tryCatch (wpAny_bind (wpAny_of_eq (F.cmp_object.ne.bind _) (wpAny_pure (by exact fin))))
end
/-! ### own ==, != (by the own ==), in, [ ] of an instance -/
structure OwnC (K : PySem.W.Frag) (C : Addr) (m : Str) (f : Addr) : Prop where
  fi : PySem.W.findIn K (.ref C) m = some (some (.ref f))
  fn : PySem.W.isFn K (.ref f) = true
  ff : PySem.W.fnIn K f = true
def rEqO (K : PySem.W.Frag) (C : Addr) (sp : Sp) (E : XK) : R2 := fun x y H Q => ∃ a dx fs t, x = .ref a ∧ H a = some (.ins C dx fs) ∧ TyX K H y t ∧ PySem.W.notFirst K C t = true ∧ sp [x, y] H (fun v H' => ∃ b, v = .bl b ∧ Q (.bl b) H') E
def rNeO (K : PySem.W.Frag) (C : Addr) (sp : Sp) (E : XK) : R2 := fun x y H Q => ∃ a dx fs t, x = .ref a ∧ H a = some (.ins C dx fs) ∧ TyX K H y t ∧ PySem.W.notFirst K C t = true ∧ sp [x, y] H (fun v H' => ∃ b, v = .bl b ∧ Q (.bl (!b)) H') E
def rInO (C : Addr) (sp : Sp) (E : XK) : R2 := fun x y H Q => ∃ a dx fs, y = .ref a ∧ H a = some (.ins C dx fs) ∧ sp [y, x] H (fun v H' => ∃ b, v = .bl b ∧ Q (.bl b) H') E
def rNinO (C : Addr) (sp : Sp) (E : XK) : R2 := fun x y H Q => ∃ a dx fs, y = .ref a ∧ H a = some (.ins C dx fs) ∧ sp [y, x] H (fun v H' => ∃ b, v = .bl b ∧ Q (.bl (!b)) H') E
def rIxO (C : Addr) (sp : Sp) (E : XK) : R2 := fun x y H Q => ∃ a dx fs, x = .ref a ∧ H a = some (.ins C dx fs) ∧ sp [x, y] H Q E
section
variable {X : Cx} {CX : CXT} {k : Nat} {f C : Addr} {sp : Sp} {E : XK}
theorem own_call {A : Around} {pins : List (Addr × Obj)} {s : Shared} {σ : L2.St} {H : Hp} {vs : List V} {us : List Value} {Q : VK} (F : FnR X.prog X.w X.K X.mg X.base CX k f sp) (hr : Room k A) (hfr : A.frames = X.A.frames) (hx : Passes CX X E) (I : L2.Inv X pins σ H s) (r : Vals vs us) (h : sp vs H Q E) :
    wpAny (model X.prog X.w) A (call (.ref f) us) (EP X pins σ Q) X.xe s := by
  have e0 : Env0 X.prog X.w X.K X.mg X.base A X.stack s H := by
    have e := I.env0
    exact ⟨by rw [hfr]; exact e.frames, e.mod, e.bs, e.bsz, e.funs, e.frf, e.hok, e.bare⟩
  refine wpAny_call (codeAny_mono (F A X.stack s H us vs Q E hr e0 r h) fun r s' hq => ?_)
  cases r with
  | error e => exact hx pins σ H s e s' I hq
  | ok fl =>
    cases fl with
    | ret u => exact I.after hq
    | next => exact False.elim hq
    | brk => exact False.elim hq
    | cont => exact False.elim hq
theorem op_eqO (O : OwnC X.K C "__eq__" f) (F : FnR X.prog X.w X.K X.mg X.base CX k f sp) (hr : Room k X.A) (hx : Passes CX X E) : OpR X (compareOp .Eq) (rEqO X.K C sp E) := by
  intro pins s σ H x y v u Q I rx ry h
  obtain ⟨a, dx, fs, t, rfl, ha, ht, hn, q⟩ := h
  obtain rfl : v = Value.ref a := rx
  obtain ⟨mA, J, _⟩ := ins_get I.hok ha
  obtain ⟨od, J, _⟩ := J.look
  obtain ⟨m, hF⟩ := I.fr
  obtain ⟨Pk, Z, hP, _⟩ := kit_of I ry ht
  show wpAny (model X.prog X.w) X.A (richCompare .Eq (.ref a) u) (EP X pins σ Q) X.xe s
  refine PySem.W.cmp_K (op := .Eq) (tb := t) hr.units0 hF I.ok.mod.kin J (Z.ty _ _ I.kIn hP) hn O.fi O.fn ?_
  refine wpAny_mono (own_call (vs := [V.ref a, y]) F hr rfl hx I (.cons rfl (.cons ry .nil)) q) (fun r s' hq => ?_) fun _ _ x => x
  obtain ⟨z, H', I', rz, b, ez, qq⟩ := hq
  subst ez
  obtain rfl : r = Value.bool b := rz
  exact ⟨.bl b, H', I', rfl, qq⟩
theorem entry_neO {A : Around} {M : Model} {E : Value → Shared → Prop} {s : Shared} {K : PySem.W.Frag} {x : Addr} {ox : Obj} {od : Option Obj} {u : Value} {Q : Fin → Shared → Prop} (X : K.In s.heap) (I : PySem.W.InstAt s.heap x ox C od) (O : OwnC K C "__eq__" f) (hu : A.units < cLine)
    (h : wpAny M A (call (.ref f) [.ref x, u]) (fun v s' => ∃ b, v = .bool b ∧ Q (.done (.ret (.bool (!b)))) s') E s) : wpAny M A (Builtin.«object.__ne__» ⟨[.ref x, u], []⟩) Q E s := by
  have h' : wpAny M A (callSpecialIfBound? (.ref x) "__eq__" [u]) (fun r s' => ∃ b, r = some (.bool b) ∧ Q (.done (.ret (.bool (!b)))) s') E s := PySem.W.ifBound_K X I O.fi O.fn (wpAny_mono h (fun v s' hv => by
    obtain ⟨b, rfl, q⟩ := hv
    exact ⟨b, rfl, q⟩) fun _ _ x => x)
  unfold Builtin.«object.__ne__»
  repeat (first | with_reducible refine wpAny_cRoomFor hu ?_ | (with_reducible refine wpAny_mono h' (fun r s' hv => ?fin) fun _ _ x => x) | wp_step)
  case fin =>
    obtain ⟨b, rfl, q⟩ := hv
    repeat (first | exact q | with_reducible refine wpAny_truthy_bool ?_ | wp_step)
structure NeObj (K : PySem.W.Frag) (C : Addr) : Prop where
  mo : PySem.W.mroIn K C (.type "object") = some true
  ne : PySem.W.findIn K (.ref C) "__ne__" = some (some (.builtin "object.__ne__"))
theorem op_neO (O : OwnC X.K C "__eq__" f) (N : NeObj X.K C) (FF : FnR X.prog X.w X.K X.mg X.base CX k f sp) (hr : Room (k + 2) X.A) (hx : Passes CX X E) : OpR X (compareOp .NotEq) (rNeO X.K C sp E) := by
  intro pins s σ H x y v u Q I rx ry h
  obtain ⟨a, dx, fs, t, rfl, ha, ht, hn, q⟩ := h
  obtain rfl : v = Value.ref a := rx
  obtain ⟨mA, J, _⟩ := ins_get I.hok ha
  obtain ⟨od, J, _⟩ := J.look
  obtain ⟨m, hF⟩ := I.fr
  obtain ⟨Pk, Z, hP, _⟩ := kit_of I ry ht
  have hb := Z.ty (model X.prog X.w) _ I.kIn hP
  have one : wpAny (model X.prog X.w) X.A (tryCompare (.ref a) "__ne__" u) (fun r s' => ∃ v, r = some v ∧ EP X pins σ Q v s') X.xe s := by
    unfold tryCompare
    refine wpAny_bind (ifB_ne I.kIn J N.ne (wpAny_call (codeAny_call_builtin F.cmp_object.ne.plain F.cmpEntry_ne (PySem.W.check_slot F.cmpKind_ne F.cmpSplit_ne (J.type.andThen (PySem.W.looks_mroIn I.kIn N.mo)) (F.cmpArgs_ne _ _) (entry_neO (A := X.A.in1) I.kIn J O (Nat.lt_of_le_of_lt (show X.A.units + 1 ≤ X.A.units + 64 by omega) hr.units) ?_)))))
    refine wpAny_mono (own_call (vs := [V.ref a, y]) FF (A := X.A.in1) ((hr.mono (by omega) : Room (k + 1) X.A).in1) rfl hx I (.cons rfl (.cons ry .nil)) q) (fun r s' hq => ?_) fun _ _ x => x
    obtain ⟨z, H', I', rz, b, ez, qq⟩ := hq
    subst ez
    obtain rfl : r = Value.bool b := rz
    exact ⟨b, rfl, wpAny_pure ⟨_, rfl, .bl (!b), H', I', rfl, qq⟩⟩
  show wpAny (model X.prog X.w) X.A (richCompare .NotEq (.ref a) u) (EP X pins σ Q) X.xe s
  unfold richCompare
  simp only [oneThing_ref]
  refine wpAny_holding (wpAny_bind (wpAny_cRoomFor hr.units0 ?_))
  refine wpAny_bind (J.type.here (wpAny_bind (hb.here ?_)))
  split
  · rename_i q
    have e : PySem.W.subIn X.K t (.ref C) = some false := by
      rcases Bool.or_eq_true_iff.mp hn with e | e
      · rw [beq_iff_eq.mp e] at q; simp at q
      · exact beq_iff_eq.mp e
    refine wpAny_bind ((PySem.W.looks_subIn I.kIn e).here ?_)
    simp only [Bool.false_eq_true, if_false]
    refine wpAny_bind (wpAny_mono one (fun r s' z => ?_) fun _ _ e => e)
    obtain ⟨v, rfl, hq⟩ := z
    exact wpAny_pure hq
  · refine wpAny_bind (wpAny_pure ?_)
    simp only [Bool.false_eq_true, if_false]
    refine wpAny_bind (wpAny_mono one (fun r s' z => ?_) fun _ _ e => e)
    obtain ⟨v, rfl, hq⟩ := z
    exact wpAny_pure hq
theorem op_inO (O : OwnC X.K C "__contains__" f) (F : FnR X.prog X.w X.K X.mg X.base CX k f sp) (hr : Room k X.A) (hx : Passes CX X E) : OpR X (compareOp .In) (rInO C sp E) := by
  intro pins s σ H x y v u Q I rx ry h
  obtain ⟨a, dx, fs, rfl, ha, q⟩ := h
  obtain rfl : u = Value.ref a := ry
  obtain ⟨mA, J, _⟩ := ins_get I.hok ha
  obtain ⟨od, J, _⟩ := J.look
  obtain ⟨m, hF⟩ := I.fr
  refine PySem.W.in_K hF I.ok.mod.kin J O.fi O.fn ?_
  refine wpAny_mono (own_call (vs := [V.ref a, x]) F hr rfl hx I (.cons rfl (.cons rx .nil)) q) (fun r s' hq => ?_) fun _ _ x => x
  obtain ⟨z, H', I', rz, b, ez, qq⟩ := hq
  subst ez
  obtain rfl : r = Value.bool b := rz
  exact wpAny_truthy_bool ⟨.bl b, H', I', rfl, qq⟩
theorem op_notInO (O : OwnC X.K C "__contains__" f) (F : FnR X.prog X.w X.K X.mg X.base CX k f sp) (hr : Room k X.A) (hx : Passes CX X E) : OpR X (compareOp .NotIn) (rNinO C sp E) := by
  intro pins s σ H x y v u Q I rx ry h
  obtain ⟨a, dx, fs, rfl, ha, q⟩ := h
  obtain rfl : u = Value.ref a := ry
  obtain ⟨mA, J, _⟩ := ins_get I.hok ha
  obtain ⟨od, J, _⟩ := J.look
  obtain ⟨m, hF⟩ := I.fr
  refine PySem.W.notIn_K hF I.ok.mod.kin J O.fi O.fn ?_
  refine wpAny_mono (own_call (vs := [V.ref a, x]) F hr rfl hx I (.cons rfl (.cons rx .nil)) q) (fun r s' hq => ?_) fun _ _ x => x
  obtain ⟨z, H', I', rz, b, ez, qq⟩ := hq
  subst ez
  obtain rfl : r = Value.bool b := rz
  exact wpAny_truthy_bool ⟨.bl (!b), H', I', rfl, qq⟩
theorem pe_ixO {a b : Expr} {ta tb : TE} {pos : Pos} (O : OwnC X.K C "__getitem__" f) (F : FnR X.prog X.w X.K X.mg X.base CX k f sp) (hr : Room (k + 1) X.A) (hx : Passes CX X E) (ha : PE X a ta) (hb : PE X b tb)
    (hsl : ∀ x i, subscripted b true (.ref x) i = runValue (.builtin "lifetime.subscript" ⟨[.ref x, i], []⟩) := by intro _ _; with_unfolding_all rfl) : PE X (.Subscript a b pos) (tOp (rIxO C sp E) ta tb) := by
  refine ⟨fun pins s σ H Q I h => ?_⟩
  refine Subscript_ (binT ha hb I h fun v u s2 x y H2 I2 rx ry q => ?_)
  obtain ⟨a', dx, fs, rfl, ha', q⟩ := q
  obtain rfl : v = Value.ref a' := rx
  obtain ⟨mA, J, _⟩ := ins_get I2.hok ha'
  obtain ⟨od, J, _⟩ := J.look
  obtain ⟨m, hF⟩ := I2.fr
  refine PySem.W.sub_K hF I2.ok.mod.kin J O.fi O.ff O.fn ?_ (hsl _ _)
  exact own_call (vs := [V.ref a', y]) F (A := X.A.in1) hr.in1 rfl hx I2 (.cons rfl (.cons ry .nil)) q
/-- len(o) of an own __len__ -/
theorem call_lenO (O : OwnC X.K C "__len__" f) (F : FnR X.prog X.w X.K X.mg X.base CX k f sp) (hr : Room (k + 1) X.A) (hx : Passes CX X E) :
    CallR X (.builtin "len") (fun xs H Q => ∃ a dx fs, xs = [V.ref a] ∧ H a = some (.ins C dx fs) ∧ sp [.ref a] H (fun v H' => ∃ n : Int, v = .int n ∧ 0 ≤ n ∧ n < 2 ^ 63 ∧ Q (.int n) H') E) := by
  intro pins s σ H xs us Q I r h
  obtain ⟨a, dx, fs, rfl, ha, q⟩ := h
  obtain ⟨u, rfl, rx⟩ := vals1 r
  obtain rfl : u = Value.ref a := rx
  obtain ⟨mA, J, _⟩ := ins_get I.hok ha
  obtain ⟨od, J, _⟩ := J.look
  obtain ⟨m, hF⟩ := I.fr
  refine PySem.W.len_K hF I.ok.mod.kin J O.fi O.fn ?_
  refine wpAny_mono (own_call (vs := [V.ref a]) (A := X.A.in1) F hr.in1 rfl hx I (.cons rfl .nil) q) (fun r s' hq => ?_) fun _ _ x => x
  obtain ⟨z, H', I', rz, n, ez, n0, n1, qq⟩ := hq
  subst ez
  obtain ⟨t, rfl⟩ := rz
  exact ⟨⟨n0, n1⟩, .int n, H', I'.tok _, ⟨_, rfl⟩, qq⟩
end
/-! ### range(n) as a value, and its length -/
section
variable {X : Cx}
theorem cr_range1 : CallR X (.type "range") (fun vs H Q => ∃ j, vs = [V.int j] ∧ ∀ p, H p = none → Q (.ref p) (upd H p (.rng 0 j))) := by
  intro pins s σ H vs us Q I r h
  obtain ⟨j, rfl, q⟩ := h
  obtain ⟨u1, rfl, ri⟩ := vals1 r
  obtain ⟨t, rfl⟩ := ri
  refine call_range_1 ⟨.ref s.heap.objs.size, upd H s.heap.objs.size (.rng 0 j), I.laid (t' := s.toks + 1 + 1) (fun b o e => Heap.get?_push_of_some _ e) (Nat.le_refl _) ?_, rfl, q _ (I.hok.fresh (Nat.le_refl _))⟩
  exact ⟨s.toks, t, s.toks + 1, Heap.get?_push_size _ rfl⟩
theorem call_lenRng : CallR X (.builtin "len") (fun xs H Q => ∃ (p : Addr) (n : Nat), xs = [.ref p] ∧ H p = some (.rng 0 (n : Int)) ∧ n < 2 ^ 40 ∧ Q (.int n) H) := by
  intro pins s σ H xs us Q I r h
  obtain ⟨p, n, rfl, hp, hn, q⟩ := h
  obtain ⟨u, rfl, rx⟩ := vals1 r
  obtain rfl : u = Value.ref p := rx
  obtain ⟨t1, t2, t3, ho⟩ := I.hok p _ hp
  refine call_len_range (n := n) ho ?_ (by omega) ⟨.int n, H, I.tok _, ⟨_, rfl⟩, q⟩
  unfold Builtin.Range.rangeSize
  rw [if_pos (by decide)]
  by_cases h : (0 : Int) < n
  · rw [if_pos h]
    simp
  · rw [if_neg h]
    omega
end
section
variable {P : Program} {w : World} {K : PySem.W.Frag} {mg : Str → Option Value} {base : Heap}
def spTreeLen (C : Cl5) : Sp := fun vs H Q _ => ∃ (v : V) (t : Tr), vs = [v] ∧ PtAt C H v t ∧ isT t = true ∧ size t < 2 ^ 40 ∧ ∀ H', Same H H' → Q (.int ((size t : Nat) : Int)) H'
theorem scTreeLen : FnScope ["self"] ["self"] (defScope sTreeLen) := ⟨rfl, rfl, rfl, by decide +kernel, rfl, by decide +kernel, by decide +kernel⟩
theorem ok_treeLen {C : Cl5} {f : Addr} {fd : FuncData} (F : Fun K "__len__" "Tree.__len__" sTreeLen f fd) (gR : mg "range" = none) (gL : mg "len" = none) (T5 : Ty5 K C) (N5 : Na5 K C) : FnOk P w K mg base CX0 1 f fd ["self"] (spTreeLen C) := by
  refine F.ok scTreeLen (fun vs H Q E h => ?_) (fun cdv A outer s H vs Q E hr h => ?_)
  · obtain ⟨v, t, rfl, _⟩ := h
    rfl
  · obtain ⟨v, t, rfl, hv, ht, hs, k⟩ := h
    refine ⟨_, pss_one (ps_ret (pe_callB call_lenRng (by rfl) gL PySem.boot_len (pa_cons (pe_callTy cr_range1 (by rfl) gR boot_range (pa_cons (pe_fld (pv 0) rfl) pa_nil)) pa_nil))), ?_⟩
    obtain ⟨x, A1, dx, fs, rfl, e2, e3, e4, _⟩ := meas_of hv (isT_isN ht)
    refine ⟨_, rfl, x, A1, dx, fs, _, rfl, e2, (T5.own _ e3).cl, N5.na _ e3 _ (by decide +kernel), e4, _, rfl, fun p np => ?_⟩
    exact ⟨p, size t, rfl, upd_same, hs, k _ (same_upd (Same.refl H) np)⟩
end
end K3

namespace K3
open PySem L2
section
variable {P : Program} {w : World} {K : PySem.W.Frag} {mg : Str → Option Value} {base : Heap}
open PySem.W PySem.Calls in
/-- the __init__ of such a class, as the text has it: super().__init__('..'); self.fld = part -/
theorem ok_errInitP {C fI cda cc : Addr} (T : ErrC P K mg C fI cda cc "value" "InvalidPath.__init__" sPathErr)
    {kV doc pm ct oc : Value} {od an : Option Addr} {osl : Array (Option Value)}
    (lk : K.lookup fI = some ⟨oc, od, .func (PySem.W.ksFn "__init__" "InvalidPath.__init__" (defArgs sPathErr) (defBody sPathErr) (defScope sPathErr) .none kV doc pm an (.ref cda) ct cc), osl⟩) :
    FnOk P w K mg base (L2.CX P w) 1 fI (PySem.W.ksFn "__init__" "InvalidPath.__init__" (defArgs sPathErr) (defBody sPathErr) (defScope sPathErr) .none kV doc pm an (.ref cda) ct cc) ["self", "value"] (spErr C "value") := by
  refine ⟨fun vs H Q E h => ?_, fun A outer s H args us vs Q E hr e0 hbd r h => ?_⟩
  · obtain ⟨a, y, rfl, _⟩ := h
    rfl
  · obtain ⟨a, y, rfl, ha, k⟩ := h
    obtain ⟨u0, u, rfl, r1, r2⟩ := vals2 r
    obtain rfl : u0 = Value.ref a := r1
    have KX : K.In s.heap := e0.mod.kin.keeps fun b o e => (e0.bs b o e).1
    have lim : s.heap.NoLimit := e0.mod.nolimit.keeps fun b o e => (e0.bs b o e).1
    obtain ⟨t1, hx⟩ := exo_at e0.hok ha
    obtain ⟨nm, q, N, bs, bm, sn, sub, ab, col, dd, k0, k1, k2, k3, k5, hC, hbm⟩ := T.ox.cls
    have hcl : clsIn K C = some { name := nm, bases := bs, mro := .ref C :: bm, ns := N, qualname := q, hasDict := true, slotNames := sn, subclasses := sub, abstract := ab, collection := col, hasDel := false } := by unfold clsIn; rw [hC] <;> rfl
    have hal := T.al _ hcl
    obtain ⟨ccl, cdd, cvs, ccs, file, tf, hcda, hvs, hfile⟩ := T.cod
    obtain ⟨cl, cld, csl, hcel⟩ := T.cel
    refine ks_codeAny_call_defAt (fd := ksFn "__init__" "InvalidPath.__init__" (defArgs sPathErr) (defBody sPathErr) (defScope sPathErr) .none kV doc pm an (.ref cda) ct cc) (body := defBody sPathErr) hr.depth (KX _ _ lk) rfl lim (codeRec_of KX T.cd) rfl hbd (show ∀ x ∈ (defScope sPathErr).names, x.2 ≠ .cell by decide +kernel) ?_ (fun h0 hns hk => ?_)
    · intro z hz
      rcases List.mem_cons.mp hz with e | hz
      · rw [e]; rfl
      · rcases List.mem_cons.mp hz with e | hz
        · rw [e]; rfl
        · cases hz
    · generalize eL : s.heap.objs.size = L at hns
      rw [show (callEnv (ksFn "__init__" "InvalidPath.__init__" (defArgs sPathErr) (defBody sPathErr) (defScope sPathErr) .none kV doc pm an (.ref cda) ct cc) L fI) = ksEnv "InvalidPath.__init__" (defScope sPathErr) L fI (.ref cda) cc from rfl]
      have up : ∀ {b o}, K.lookup b = some o → h0.get? b = some o := fun {b o} e => hk b o (KX b o e)
      have KX0 : K.In h0 := fun b o e => up e
      have hx0 := hk _ _ hx
      obtain ⟨mb, hmb, hbl⟩ := e0.mod.blt
      have hbk : ∀ b o, base.get? b = some o → h0.get? b = some o := fun b o e => hk b o (e0.bs b o e).1
      refine ks_wpAt_execs_cons (ks_wpAt_Expr_any (ks_wpAt_MethodCall (ks_wpAt_super_base (fd := ksFn "__init__" "InvalidPath.__init__" (defArgs sPathErr) (defBody sPathErr) (defScope sPathErr) .none kV doc pm an (.ref cda) ct cc) rfl rfl (by decide +kernel) rfl (up lk) rfl rfl rfl (up hcda) rfl hvs hfile T.top ?_)))
      refine ks_loadName_global rfl rfl (loadGlobal_builtin (env := ksEnv "InvalidPath.__init__" (defScope sPathErr) L fI (.ref cda) cc) (e0.mod.glob.keeps hbk) (mg_none_of e0.mod.kin e0.mod.glob T.sup) (hmb.keeps hbk) ((hbl _ (by decide +kernel)).trans PyProof.Rows.Boot.«super») ⟨rfl, ?_⟩)
      refine wpAny_loadName_free rfl rfl rfl ⟨_, up hcel, rfl⟩ ?_
      refine wpAny_loadName_local rfl rfl hns rfl ?_
      refine ks_wpAny_isType_cls (up hC) rfl ⟨rfl, ?_⟩
      refine ks_wpAny_call_super (up hC) rfl hx0 rfl (fun c e => by cases e) (looks_mroIn KX0 T.mr) (fun h1 so1 up1 => ?_)
      have KX1 : K.In h1 := fun b o e => up1 _ _ (up e)
      have hI1 : InstAt h1 a { cls := Value.ref C, data := Data.fields #[Value.ref t1, Value.none, Value.none, Value.none, Value.bool false, Value.none] } C none := ⟨up1 _ _ hx0, rfl, rfl, trivial⟩
      refine kxs_getMethod kxs_ValueError so1 (looks_opaque KX1 T.opq) (fun A Q E s k q => wpAny_bind ((looks_clsIn KX1 hcl) A _ E s k (wpAny_pure q))) rfl KX1 hal (hI1.type.andThen (looks_subIn KX1 T.ve)) (ks_ne KX1 hI1 hcl) (by decide +kernel) ?_
      generalize hu : h1.objs.size = z
      have lt1 : ∀ {b o}, h1.get? b = some o → b ≠ z := fun {b o} e q => by
        have w1 := Heap.lt_size e
        rw [q, ← hu] at w1
        exact Nat.lt_irrefl _ w1
      have up2 : ∀ b o, h1.get? b = some o → (h1.push (kxs_mw "ValueError.__init__" a)).get? b = some o := fun b o e => Heap.get?_push_of_some _ e
      have hmw : (h1.push (kxs_mw "ValueError.__init__" a)).get? z = some (kxs_mw "ValueError.__init__" a) := by
        rw [← hu]
        exact Heap.get?_push_size _ rfl
      generalize h1.push (kxs_mw "ValueError.__init__" a) = h2 at up2 hmw
      have all2 : ∀ b o, h0.get? b = some o → h2.get? b = some o := fun b o e => up2 b o (up1 b o e)
      refine kxs_callWith (i := "ValueError.__init__") (u := z) (x := a) (by rfl) (evalArgs_plain ?_)
      refine Calls.spliced_cons ?_
      refine Calls.Constant_str (pos := ⟨7, 25, 7, 39⟩) (k := 0) ?_
      refine Calls.spliced_nil ⟨hmw, ?_⟩
      have hbn : ∀ {b o}, h0.get? b = some o → H b ≠ none ∨ b = L → base.get? b = none := fun {b o} _ q => by
        cases e : base.get? b with
        | none => rfl
        | some v =>
          have w1 := e0.bs b v e
          rcases q with q | q
          · exact absurd w1.2 q
          · have w2 := Heap.lt_size w1.1
            rw [q, ← eL] at w2
            exact absurd w2 (Nat.lt_irrefl _)
      have aL : a ≠ L := fun q => by
        have w2 := Heap.lt_size hx
        rw [q, ← eL] at w2
        exact Nat.lt_irrefl _ w2
      have ba : base.get? a = none := hbn hx0 (.inl (by rw [ha]; exact fun q => nomatch q))
      have bz : base.get? z = none := by
        cases e : base.get? z with
        | none => rfl
        | some v => exact absurd rfl (lt1 (up1 _ _ (hbk _ _ e)))
      obtain ⟨oL, eL1, eL2, hoL, rL⟩ := id hns
      have F2 : PyProof.Rows.Fr base L h2 (fun x => List.lookup x ([("self" : Str), "value"].zip [Value.ref a, u]).reverse) := ⟨⟨oL, eL1, eL2, all2 _ _ hoL, rL⟩, fun b o e => all2 b o (hbk b o e), by rw [← eL]; exact e0.bsz⟩
      have za : z ≠ a := fun q => lt1 (up1 _ _ hx0) q.symm
      have zL : z ≠ L := fun q => lt1 (up1 _ _ hoL) q.symm
      refine kxs_call (t := t1) (dv := none) (c2 := .none) (s := ⟨h2, _, _, _, _⟩) F2 e0.mod.kin (news_at aL ba (all2 _ _ hx0)) F.excBase_ValueError T.ei (List.mem_cons_of_mem _ (mem_rest zL bz hmw za)) (.head rest_ne) (by show 1 ≤ sizeLine; decide) (fun t3 h3 F3 N3 _ => ?_)
      have k3 : ∀ b o, b ≠ L → b ≠ a → h2.get? b = some o → h3.get? b = some o := kept_of_news (fun b o e => all2 b o (hbk b o e)) F3 (fun p hp => N3 p (List.mem_cons_of_mem _ (List.mem_cons_of_mem _ hp)))
      have hx3 : h3.get? a = some ({ cls := .ref C, dict := none, data := .fields #[.ref t3, .none, .none, .none, .bool false, .none] } : Obj) := (N3 _ (List.mem_cons_of_mem _ (List.mem_cons_self ..))).1
      have all3 : ∀ b o, b ≠ a → s.heap.get? b = some o → h3.get? b = some o := fun b o hb e => k3 b o (fun q => by
        have w2 := Heap.lt_size e
        rw [q, ← eL] at w2
        exact Nat.lt_irrefl _ w2) hb (all2 b o (hk b o e))
      have KX3 : K.In h3 := e0.mod.kin.keeps F3.keep
      show wpAt _ _ _ (execs _ _) _ _ _
      refine ks_wpAt_execs_cons (ks_wpAt_Assign_Attr (wpAt_of_wpAny ?_))
      refine wpAny_Name (wpAny_loadName_local rfl rfl F3.ns rfl ?_) (by decide)
      refine wpAny_Name (wpAny_loadName_local rfl rfl F3.ns rfl ?_) (by decide)
      refine set_plain KX3 (ox := { cls := .ref C, dict := none, data := .fields #[.ref t3, .none, .none, .none, .bool false, .none] }) (od := none) ⟨hx3, rfl, rfl, trivial⟩ T.ox.sa ?_
      refine HandSPX.exc_osa KX3 hx3 hcl (show HandSPX.refsVE (.ref C :: bm) = true from hbm) rfl T.nf (fun hF tkF dx kF dn dne hxF hnF => ?_)
      have Ldx : s.heap.objs.size ≤ dx := by
        obtain ⟨o3, _, _, e3, _⟩ := F3.ns
        have w2 := Heap.lt_size e3
        rw [eL]
        exact Nat.le_trans (Nat.le_of_lt w2) dn
      have Hdx : H dx = none := e0.hok.fresh Ldx
      have keepF : ∀ b o, b ≠ a → s.heap.get? b = some o → hF.get? b = some o := fun b o nb e => kF b o nb (all3 b o nb e)
      have na : ∀ {b : Addr}, H b = none → b ≠ a := fun {b} n q => by
        rw [q, ha] at n
        cases n
      have nd : ∀ {b : Addr} {o : Obj}, s.heap.get? b = some o → b ≠ dx := fun {b o} e q => by
        have w2 := Heap.lt_size e
        rw [q] at w2
        exact absurd (Nat.lt_of_lt_of_le w2 Ldx) (Nat.lt_irrefl _)
      have same : ∀ b o, H b = some o → o ≠ exo a C none → (upd (upd H dx (exd dx [("value", y)])) a (exo a C (some dx))) b = some o := fun b o e ne => by
        rw [upd_ne (fun q => ne (by rw [q, ha] at e; exact (Option.some.inj e).symm)), upd_ne (ne_of_none e Hdx)]
        exact e
      have un : Un (frs outer) [] H (upd (upd H dx (exd dx [("value", y)])) a (exo a C (some dx))) s.heap hF := {
        keep := fun b o e n _ _ => keepF b o (na n) e
        slot := fun b o e n _ _ => ⟨o.slots, keepF b o (na n) e⟩
        free := fun b o e n _ => by
          rw [upd_ne (na n), upd_ne (nd e)]
          exact n
        there := fun b o e _ => by
          by_cases q : b = a
          · rw [q]
            exact ⟨_, hxF⟩
          · exact ⟨o, keepF b o q e⟩
        tups := fun b xs e => same b _ e (fun q => exo_tup q.symm)
        frzs := fun b o v e => same b _ e (fun q => exo_frz q.symm)
        tbls := fun b ps e => ⟨#[], by rw [same b _ e (fun q => exo_tbl q.symm)]; simp⟩ }
      have okF : HOk P w (upd (upd H dx (exd dx [("value", y)])) a (exo a C (some dx))) hF := fun b o e => by
        by_cases q : b = a
        · subst q
          rw [upd_same] at e
          cases e
          exact exo_ok hxF
        · rw [upd_ne q] at e
          by_cases q2 : b = dx
          · subst q2
            rw [upd_same] at e
            cases e
            exact exd_ok hnF (relO_put (fs := []) r2 fun g => True.intro)
          · rw [upd_ne q2] at e
            exact (e0.hok b o e).stay (fun c v hc z => keepF c v (by
                rcases hc with hc | hc
                · rw [hc]
                  exact q
                · exact at_ne ha hc exo_own) z) (fun c hc => same c _ hc (fun q => exo_own q.symm)) (fun c xs hc => same c _ hc (fun q => exo_tup q.symm))
      show wpAt _ _ _ (execs [] _) _ _ _
      refine wpAt_of_wpAny (wpAny_pure ?_)
      exact ⟨.non, _, rfl, e0.bare, un, okF, rfl, k dx Hdx dne⟩
end
open PySem L2
section
variable {X : Cx} {C fI cda cc : Addr}
/-- the facts that a raise of InvalidPath asks -/
structure ErrP (P : Program) (K : PySem.W.Frag) (mg : Str → Option Value) (C : Addr) : Prop where
  ex : ∃ fI cda cc, ErrC P K mg C fI cda cc "value" "InvalidPath.__init__" sPathErr
  mgC : mg "InvalidPath" = some (.ref C)
theorem pmk_value {e : Expr} {te : TE} {p pos : Pos} (T : ErrP X.prog X.K X.mg C) (hr : Room 2 X.A) (hg : Gl X "InvalidPath") (he : PE X e te)
    (hs : starEach [e] X.env = (false, eval e X.env) :: starEach [] X.env := by rfl) :
    PMk X (.Call (.Name "InvalidPath" p) [e] [] pos) (tMkO C (spErr C "value") [] (tCons te tNil)) := by
  obtain ⟨fI, cda, cc, TC⟩ := T.ex
  obtain ⟨oc, od, kV, doc, pm, an, ct, osl, lk⟩ := TC.fn
  exact pmk_oex TC.ox TC.fi TC.ti (ok_errInitP TC lk) hr (.all fun us hl => match us, hl with | [_, _], _ => rfl) .nil passL hg T.mgC (pa_cons he pa_nil (by exact hs)) (by decide) hs (by rfl)
end
end K3

namespace K3
open PySem PySem.Spec PyProof.Rows PySem.SeqAt L2 E0
/-! ### lists whose items are the same things, or tuples of the same things -/
def plainV : V → Bool
  | .flt _ => false
  | .byt _ => false
  | _ => true
theorem eqat_self {A : Around} {s : Shared} {x : V} {v u : Value} (h : plainV x = true) (r : RelV x v) (r2 : RelV x u) : EqAt A s v u true := by
  cases x with
  | non => cases r; cases r2; exact EqAt.same _
  | bl b => cases r; cases r2; exact EqAt.same _
  | int i =>
    obtain ⟨t, rfl⟩ := r
    obtain ⟨t2, rfl⟩ := r2
    have e := (MeetsSeq.EqGives.int i i t t2).at A s
    rw [beq_self_eq_true] at e
    exact e
  | str z =>
    obtain ⟨t, rfl⟩ := r
    obtain ⟨t2, rfl⟩ := r2
    have e := (SeqRoads2.EqGives.str z z t t2).at A s
    rw [beq_self_eq_true] at e
    exact e
  | ref a => cases r; cases r2; exact EqAt.same _
  | ty n => cases r; cases r2; exact EqAt.same _
  | flt _ => cases h
  | byt _ => cases h
def SmV (K : PySem.W.Frag) (H : Hp) (x y : V) : Prop := (x = y ∧ plainV x = true) ∨ ∃ a b vs, x = .ref a ∧ y = .ref b ∧ SqT K H a vs ∧ SqT K H b vs ∧ ∀ z ∈ vs, plainV z = true
theorem vals_at {xs : List V} {us : List Value} (r : Vals xs us) {j : Nat} (h : j < us.length) : ∃ x, xs[j]? = some x ∧ RelV x us[j] := by
  have hx : j < xs.length := by rw [r.length]; exact h
  refine ⟨xs[j], List.getElem?_eq_getElem hx, ?_⟩
  obtain ⟨u, e, q⟩ := r.get (List.getElem?_eq_getElem hx)
  rw [List.getElem?_eq_getElem h] at e
  cases e
  exact q
section
variable {X : Cx}
def rNeSm (K : PySem.W.Frag) : R2 := fun x y H Q => ∃ a b xs ys, x = .ref a ∧ y = .ref b ∧ SqL K H a xs ∧ SqL K H b ys ∧ Paired (SmV K H) xs ys ∧ Q (.bl false) H
theorem op_neSm (hu : X.A.units + 8 < cLine) : OpR X (compareOp .NotEq) (rNeSm X.K) := by
  intro pins s σ H x y v u Q I rx ry h
  obtain ⟨a, b, xs, ys, rfl, rfl, ha, hb, hp, q⟩ := h
  obtain rfl : v = Value.ref a := rx
  obtain rfl : u = Value.ref b := ry
  obtain ⟨its, r, pl, _⟩ := I.list ha
  obtain ⟨its2, r2, pl2, _⟩ := I.list hb
  have hu0 : X.A.units < cLine := by omega
  show wpAny (model X.prog X.w) X.A (richCompare .NotEq (.ref a) (.ref b)) (EP X pins σ Q) X.xe s
  have hsz : its.length = its2.length := by rw [← r.length, ← r2.length, hp.length]
  refine RcNeAt.lists (e := fun _ => true) pl.isList pl2.isList (by simpa using hsz) hu0 (fun j h1 h2 => ?_) _ _ _ _ ⟨.bl false, H, I, ?_, q⟩
  · have h1' : j < its.length := by simpa using h1
    have h2' : j < its2.length := by simpa using h2
    obtain ⟨x, ex, rx⟩ := vals_at r h1'
    obtain ⟨y, ey, ry⟩ := vals_at r2 h2'
    obtain ⟨y', ey', sm⟩ := LiI.paired_get hp ex
    rw [ey] at ey'
    cases ey'
    have g1 : its.toArray[j] = its[j] := by simp
    have g2 : its2.toArray[j] = its2[j] := by simp
    rw [g1, g2]
    rcases sm with ⟨rfl, pv⟩ | ⟨c, d, vs, rfl, rfl, hc, hd, hv⟩
    · exact eqat_self pv rx ry
    · have e1 : its[j] = Value.ref c := rx
      have e2 : its2[j] = Value.ref d := ry
      rw [e1, e2]
      by_cases hcd : c = d
      · rw [hcd]
        exact EqAt.same _
      · refine EqAt.of_refs hcd ?_
        obtain ⟨jt, r3, pl3, _⟩ := I.tuple hc
        obtain ⟨jt2, r4, pl4, _⟩ := I.tuple hd
        have hl : jt.length = jt2.length := by rw [← r3.length, ← r4.length]
        have rc := RcAt.tuples (A := X.A.in1) (e := fun _ => true) pl3 pl4 (by show X.A.units + 1 < cLine; omega) fun i i1 i2 => by
          have i1' : i < jt.length := by simpa using i1
          have i2' : i < jt2.length := by simpa using i2
          obtain ⟨z, ez, rz⟩ := vals_at r3 i1'
          obtain ⟨z2, ez2, rz2⟩ := vals_at r4 i2'
          rw [ez] at ez2
          cases ez2
          have g1 : jt.toArray[i] = jt[i] := by simp
          have g2 : jt2.toArray[i] = jt2[i] := by simp
          rw [g1, g2]
          exact eqat_self (hv z (List.mem_of_getElem? ez)) rz rz2
        have eb : ((List.range (min jt.toArray.size jt2.toArray.size)).all (fun _ => true) && jt.toArray.size == jt2.toArray.size) = true := by
          simp [hl]
        rw [eb] at rc
        exact rc
  · show Value.bool _ = Value.bool false
    simp
/-! ### repr of data, where no repr is under way -/
theorem call_reprD (hg : X.A.guards = some []) (hu : X.A.units + 80 < cLine) : CallR X (.builtin "repr") (fun xs H Q => ∃ (a : Addr) (d : PyData), xs = [.ref a] ∧ Dp X.K H (.ref a) d ∧ d.showable = true ∧ d.hasDict = false ∧ d.depth ≤ 64 ∧ d.shown.length ≤ sizeLine ∧ Q (.str d.shown) H) := by
  intro pins s σ H xs us Q I r h
  obtain ⟨a, d, rfl, hd, h1, h2, h3, h4, q⟩ := h
  obtain ⟨u, rfl, rx⟩ := vals1 r
  obtain rfl : u = Value.ref a := rx
  obtain ⟨as, rd⟩ := Dp.reads I d (.ref a) (.ref a) hd rfl
  refine repr_of_reads' rd h1 (fun z => by rw [h2] at z; cases z) hg (by omega) (fun _ _ e => e) (fun h' u tk hk => ?_) h4
  exact ⟨.str d.shown, H, I.kept (t' := tk) hk, ⟨u, rfl⟩, q⟩
end
end K3

namespace K3
open PySem PySem.Spec PyProof.Rows L2 E0
section
variable {C : Addr}
theorem raise_ansV {H1 : Hp} {v : V} {Q : XK} (k : ∀ d, H1 d = none → Q (.ref C) (some d) (upd H1 d (.xd [("value", v)]))) :
    ([v] : List V).length ≤ 1000 ∧ ∀ a, H1 a = none → spErr C "value" (.ref a :: ([v] ++ [])) (upd H1 a (exo a C none))
      (fun u H2 => u = .non ∧ ∃ (d : Addr) (fs : List (Str × V)), H2 a = some (exo a C (some d)) ∧ H2 d = some (exd d fs) ∧ H1 d = none ∧ Q (.ref C) (some d) (upd (del H2 a) d (.xd fs))) (fun _ _ _ => False) := by
  refine ⟨by show 1 ≤ 1000; decide, fun a na => ⟨a, v, rfl, upd_same, fun dx ndx ne => ?_⟩⟩
  rw [upd_ne ne] at ndx
  refine ⟨rfl, dx, [("value", v)], upd_same, by rw [upd_ne ne, upd_same], ndx, ?_⟩
  have e : upd (del (upd (upd (upd H1 a (exo a C none)) dx (exd dx [("value", v)])) a (exo a C (some dx))) a) dx (.xd [("value", v)]) = upd H1 dx (.xd [("value", v)]) := by
    funext b
    by_cases q : b = dx
    · rw [q, upd_same, upd_same]
    · rw [upd_ne q, upd_ne q]
      by_cases q2 : b = a
      · rw [q2, del_same, na]
      · rw [del_ne q2, upd_ne q2, upd_ne q, upd_ne q2]
  rw [e]
  exact k dx ndx
end

/-- a def, where it stands and how it is called -/
structure DefA (K : PySem.W.Frag) (mg : Str → Option Value) (x : Str) (ps : List Str) (f : Addr) (fd : FuncData) : Prop where
  g : mg x = some (.ref f)
  k : PySem.W.keepIn K (.ref f) = true
  b : Binds K fd ps []
theorem kids_pts {C : Cl5} {H : Hp} : ∀ {xs : List V} {ps : List Tr} {cs : List V}, KidsAt H xs ps cs → PtsAt C H xs ps → PtsAt C H cs (below ps)
  | [], [], cs, h, _ => by
    rw [show cs = [] from h]
    exact True.intro
  | x :: xs, .row ts :: ps, cs, h, hp => by
    obtain ⟨a, ys, r, h1, h2, h3, h4, h5⟩ := h
    obtain ⟨⟨a', xs', e1, e2, e3⟩, hp⟩ := hp
    rw [e1] at h1
    cases h1
    rw [h2] at e2
    cases e2
    rw [h4]
    exact pts_app (pts_picked e3) (kids_pts h5 hp)
  | x :: xs, .tx s :: ps, cs, h, hp => by
    obtain ⟨r, h1, h2⟩ := h
    rw [show cs = r from h1]
    exact kids_pts (ps := ps) h2 hp.2
  | x :: xs, .vr k n :: ps, cs, h, hp => by
    obtain ⟨r, h1, h2⟩ := h
    rw [h1]
    refine pts_app ?_ (kids_pts h2 hp.2)
    split
    · rename_i q
      exact ⟨hp.1, True.intro⟩
    · exact True.intro
  | x :: xs, .nd lk f qs :: ps, cs, h, hp => by
    obtain ⟨r, h1, h2⟩ := h
    rw [h1]
    exact pts_app (xs := [x]) (ts := [Tr.nd lk f qs]) ⟨hp.1, True.intro⟩ (kids_pts h2 hp.2)
  | [], _ :: _, _, h, _ => False.elim (by cases ‹Tr› <;> exact h)
  | _ :: _, [], _, h, _ => False.elim h
theorem pts_get {C : Cl5} {H : Hp} : ∀ {xs : List V} {ts : List Tr} {i : Nat} {t : Tr}, PtsAt C H xs ts → ts[i]? = some t → ∃ x, xs[i]? = some x ∧ PtAt C H x t
  | [], [], i, x, _, h => by simp at h
  | y :: ys, t :: ts, 0, x, h, e => by
    simp at e
    subst e
    exact ⟨y, rfl, h.1⟩
  | y :: ys, t :: ts, i + 1, x, h, e => by
    obtain ⟨u, e1, e2⟩ := pts_get (i := i) h.2 (by simpa using e)
    exact ⟨u, by simpa using e1, e2⟩
  | [], _ :: _, _, _, h, _ => False.elim h
  | _ :: _, [], _, _, h, _ => False.elim h
/-! ### numbers, and values that are none -/
def NumAt (K : PySem.W.Frag) (H : Hp) (v : V) : Option Int → Prop
  | some i => v = .int i
  | none => (∃ b, v = .bl b) ∨ ∃ t, TyX K H v t ∧ PySem.W.kitOne K t (.type "int") = some false
theorem TyX.same {K : PySem.W.Frag} {H H' : Hp} {v : V} {t : Value} (h : TyX K H v t) (s : Same H H') : TyX K H' v t := TyX.keep h fun a o _ q => s a o q
theorem NumAt.same {K : PySem.W.Frag} {H H' : Hp} {v : V} (s : Same H H') : ∀ {n : Option Int}, NumAt K H v n → NumAt K H' v n
  | some _, h => h
  | none, h => h.elim .inl fun ⟨t, h1, h2⟩ => .inr ⟨t, TyX.same h1 s, h2⟩
section
variable {P : Program} {w : World} {K : PySem.W.Frag} {mg : Str → Option Value} {base : Heap}
def spNumber (K : PySem.W.Frag) : Sp := fun vs H Q _ => ∃ v n, vs = [v] ∧ NumAt K H v n ∧ Q (.bl n.isSome) H
theorem scNumber : FnScope ["value"] ["value"] (defScope sNumber) := ⟨rfl, rfl, rfl, by decide +kernel, rfl, by decide +kernel, by decide +kernel⟩
theorem ok_number {f : Addr} {fd : FuncData} (F : Fun K "is_number" "is_number" sNumber f fd) (gI : mg "isinstance" = none) (gInt : mg "int" = none) (gBool : mg "bool" = none) : FnOk P w K mg base CX0 1 f fd ["value"] (spNumber K) := by
  refine F.ok scNumber (fun vs H Q E h => ?_) (fun cdv A outer s H vs Q E hr h => ?_)
  · obtain ⟨v, n, rfl, _⟩ := h
    rfl
  · obtain ⟨v, n, rfl, hv, k⟩ := h
    refine ⟨_, pss_one (ps_ret (pe_and (pe_callB call_isi (by rfl) gI PyProof.Rows.boot_isinstance (pa_cons (pv 0) (pa_cons (pe_bltn (v := .ty "int") rfl gInt PyProof.Rows.boot_int rfl) pa_nil)))
      (pe_one (pe_not (pe_callB call_isi (by rfl) gI PyProof.Rows.boot_isinstance (pa_cons (pv 0) (pa_cons (pe_bltn (v := .ty "bool") rfl gBool PyProof.Rows.boot_bool rfl) pa_nil))))))), ?_⟩
    match n, hv, k with
    | some i, hv, k =>
      cases (show v = .int i from hv)
      refine ⟨_, rfl, _, _, _, _, true, rfl, .ty "int", .base (.int i), kit_ty (by decide +kernel), _, rfl, ?_⟩
      refine iteT ?_
      exact ⟨_, rfl, _, _, _, _, false, rfl, .ty "bool", .base (.int i), kit_ty (by decide +kernel), _, rfl, k⟩
    | none, .inl ⟨b, e⟩, k =>
      cases e
      refine ⟨_, rfl, _, _, _, _, true, rfl, .ty "int", .base (.bl b), kit_ty (by decide +kernel), _, rfl, ?_⟩
      refine iteT ?_
      exact ⟨_, rfl, _, _, _, _, true, rfl, .ty "bool", .base (.bl b), kit_ty (by decide +kernel), _, rfl, k⟩
    | none, .inr ⟨t, h1, h2⟩, k =>
      refine ⟨_, rfl, _, _, _, _, false, rfl, .ty "int", h1, h2, _, rfl, ?_⟩
      exact iteF k
/-! ### the node at a path -/
def kidsT : Tr → List Tr
  | .nd _ _ ps => below ps
  | _ => []
def walkV : Tr → List (Option Int) → Option Tr
  | t, [] => some t
  | _, none :: _ => none
  | t, some i :: p => if 0 ≤ i then match (kidsT t)[i.toNat]? with
    | some k => walkV k p
    | none => none
    else none
theorem walkV_at : ∀ {p : List Nat} {t : Tr}, walkV t (p.map fun n : Nat => some (n : Int)) = atP t p := fun {p} {t} => by
  induction p generalizing t with
  | nil => rw [atP_nil]; rfl
  | cons n p ih =>
    rw [List.map_cons, walkV, if_pos (by omega), show ((n : Int)).toNat = n by omega]
    match t with
    | .nd lk f ps =>
      rw [atP_nd]
      show (match (below ps)[n]? with | some k => walkV k _ | none => none) = _
      cases (below ps)[n]? with
      | none => rfl
      | some k => exact ih
    | .tx _ => simp [kidsT, atP]
    | .row _ => simp [kidsT, atP]
    | .vr _ _ => simp [kidsT, atP]
def PathV (K : PySem.W.Frag) (H : Hp) (v : V) : Option (List (Option Int)) → Prop
  | some ns => ∃ a xs, v = .ref a ∧ H a = some (.tup xs) ∧ Paired (NumAt K H) xs ns
  | none => ∃ t, TyX K H v t ∧ PySem.W.kitOne K t (.type "tuple") = some false
theorem PathV.same {K : PySem.W.Frag} {H H' : Hp} {v : V} (s : Same H H') : ∀ {n : Option (List (Option Int))}, PathV K H v n → PathV K H' v n
  | some _, ⟨a, xs, e, h, p⟩ => ⟨a, xs, e, s _ _ h, Paired.mapP p fun _ _ z => z.same s⟩
  | none, ⟨t, h1, h2⟩ => ⟨t, TyX.same h1 s, h2⟩
def foundV (t : Tr) : Option (List (Option Int)) → Option Tr
  | none => none
  | some ns => walkV t ns
def spNodeAt (K : PySem.W.Frag) (C : Cl5) : Sp := fun vs H Q _ => ∃ (v pv : V) (t : Tr) (ns : Option (List (Option Int))), vs = [v, pv] ∧ PtAt C H v t ∧ genT t ∧ isT t = true ∧ PathV K H pv ns ∧
  (match foundV t ns with
   | none => Q .non H
   | some u => ∀ v', PtAt C H v' u → (ns = some [] → v' = v) → Q v' H)
def NNO : List Str := ["tree", "path", "node", "number"]
theorem scNodeAt : FnScope NNO ["tree", "path"] (defScope sNodeAt) := ⟨rfl, rfl, rfl, by decide +kernel, rfl, by decide +kernel, by decide +kernel⟩
/-- the children of a node that stands -/
theorem kids_at {C : Cl5} {H : Hp} {v : V} {t : Tr} (h : PtAt C H v t) (ht : isT t = true) (hg : genT t) : ∃ x dx fs ca cs, v = .ref x ∧ H x = some (.ins C.T dx fs) ∧ fs.lookup ("children" : Str) = some (.ref ca) ∧ H ca = some (.tup cs) ∧ PtsAt C H cs (kidsT t) ∧ cs.length = (kidsT t).length := by
  obtain ⟨f, ps, rfl⟩ := isT_nd ht
  obtain ⟨x, dx, fs, pa, xs, rfl, h2, h3, h4, h5, h6, h7, h8, h9, h10⟩ := h
  obtain ⟨ca, cs, c1, c2, c3⟩ := h10 rfl
  have ck := kids_pts c3 h6
  exact ⟨x, dx, fs, ca, cs, rfl, h2, c1, c2, ck, pts_len ck⟩
theorem kid_gen {t k : Tr} {n : Nat} (ht : isT t = true) (hg : genT t) (h : (kidsT t)[n]? = some k) : isT k = true ∧ genT k := by
  obtain ⟨f, ps, rfl⟩ := isT_nd ht
  obtain ⟨g1, g2⟩ := gens_below hg.2.2.2.2
  have m := List.mem_of_getElem? (show (below ps)[n]? = some k from h)
  exact ⟨g2 k m, gens_mem g1 m⟩
theorem ok_nodeAt {C : Cl5} {f fN : Addr} {fd fdN : FuncData} (F : Fun K "_node_at" "_node_at" sNodeAt f fd) (T : TxtT mg C) (T5 : Ty5 K C) (N5 : Na5 K C) (GN : FnOk P w K mg base CX0 1 fN fdN ["value"] (spNumber K)) (AN : DefA K mg "is_number" ["value"] fN fdN) : FnOk P w K mg base CX0 2 f fd ["tree", "path"] (spNodeAt K C) := by
  refine F.ok scNodeAt (fun vs H Q E h => ?_) (fun cdv A outer s H vs Q E hr h => ?_)
  · obtain ⟨v, pv, t, ns, rfl, _⟩ := h
    rfl
  · obtain ⟨v, pv, t, ns, rfl, hv, hg, ht, hp, k⟩ := h
    refine ⟨_, pss_cons (ps_if (pt_not (pt_val (pe_callB call_isi (by rfl) T.isi PyProof.Rows.boot_isinstance (pa_cons (L2.pv 1) (pa_cons (pe_bltn (v := .ty "tuple") rfl T.tup PyProof.Rows.boot_tuple rfl) pa_nil))))) (pss_one (ps_ret pe_non)) pss_nil)
      (pss_cons (ps_set (i := 2) scNodeAt.nd rfl (.inl rfl) (L2.pv 0))
      (pss_cons (ps_for PassesOwn.never rfl (pi_tup (L2.pv 1)) (pg_name (i := 3) scNodeAt.nd rfl (.inl rfl))
        (pss_cons (ps_if (PW.pt (pw_or (pt_not (pt_val (pe_call GN hr rfl AN.g AN.k AN.b .nil pass0 (pa_cons (L2.pv 3) pa_nil)))) (pw_or1 (pt_not (pt_chain op_le op_lt pe_int (L2.pv 3) (pe_callB call_len_seq (by rfl) T.len PySem.boot_len (pa_cons (pe_fld (L2.pv 2) rfl) pa_nil))))))) (pss_one (ps_ret pe_non)) pss_nil)
        (pss_one (ps_set (i := 2) scNodeAt.nd rfl (.inl rfl) (pe_ix ix_tup (pe_fld (L2.pv 2) rfl) (L2.pv 3) (fun _ _ => rfl))))))
      (pss_one (ps_ret (L2.pv 2))))), ?_⟩
    have mT : C.T ∈ C.all := C.n_mem false
    have cl := (T5.own _ mT).cl
    have na := N5.na _ mT "children" (by decide +kernel)
    match ns, hp, k with
    | none, ⟨ty, h1, h2⟩, k =>
      refine ⟨_, rfl, _, _, _, _, false, rfl, .ty "tuple", h1, h2, _, rfl, ?_⟩
      exact iteT k
    | some ns, ⟨pa, xs, e, hpa, pn⟩, k =>
      subst e
      refine ⟨_, rfl, _, _, _, _, true, rfl, .ty "tuple", .base (.tup hpa), kit_ty (by decide +kernel), _, rfl, ?_⟩
      refine iteF ?_
      have k : (match walkV t ns with | none => Q .non H | some u => ∀ v', PtAt C H v' u → (some ns = some [] → v' = v) → Q v' H) := k
      have nl := pn.length
      refine ⟨_, rfl, _, rfl, pa, rfl, ⟨_, SqT.of hpa⟩, for_tup (K := K) (a := pa) (xs := xs) (fun i σ H' => H' = H ∧ ∃ (nv : V) (u : Tr) (w3 : Option V), σ = [some v, some (.ref pa), some nv, w3] ∧ PtAt C H nv u ∧ genT u ∧ isT u = true ∧ walkV t ns = walkV u (ns.drop i) ∧ (i = 0 → nv = v)) ⟨rfl, v, t, _, rfl, hv, hg, ht, rfl, fun _ => rfl⟩ (fun i σ H' _ ⟨e, _⟩ => by rw [e]; exact SqT.of hpa) ?_ (fun σ H2 ⟨e1, nv, u, w3, e2, hu, _, _, e3, e4⟩ => ?_)⟩
      · rintro i x σ H1 hx ⟨rfl, nv, u, w3, rfl, hu, gu, tu, e3, _⟩
        obtain ⟨n, en, hn⟩ := LiI.paired_get pn hx
        have il := (List.getElem?_eq_some_iff.mp en).1
        rw [List.drop_eq_getElem_cons il, show ns[i] = n from (List.getElem?_eq_some_iff.mp en).2] at e3
        match n, hn, e3 with
        | none, hn, e3 =>
          refine ⟨_, rfl, x, none, rfl, hn, false, rfl, ?_⟩
          refine iteT ?_
          rw [e3] at k
          exact k
        | some j, hn, e3 =>
          refine ⟨_, rfl, x, some j, rfl, hn, true, rfl, ?_⟩
          refine iteF ?_
          cases (show x = .int j from hn)
          obtain ⟨nx, dn, fs, ca, cs, rfl, h2, c1, c2, ck, cl2⟩ := kids_at hu tu gu
          rw [walkV] at e3
          refine ⟨_, rfl, _, _, rfl, rfl, _, rfl, ?_⟩
          by_cases j0 : 0 ≤ j
          · rw [if_pos j0] at e3
            rw [show decide ((0 : Int) ≤ j) = true from decide_eq_true j0]
            refine iteT ?_
            refine ⟨_, rfl, nx, C.T, dn, fs, _, rfl, h2, cl, na, c1, ca, cs, rfl, .inr (SqT.of c2), _, _, rfl, rfl, _, rfl, ?_⟩
            cases hk : (kidsT u)[j.toNat]? with
            | none =>
              rw [hk] at e3
              have := List.getElem?_eq_none_iff.mp hk
              rw [show decide (j < (cs.length : Int)) = false from decide_eq_false (by omega)]
              refine iteT ?_
              rw [e3] at k
              exact k
            | some kd =>
              rw [hk] at e3
              have jl := (List.getElem?_eq_some_iff.mp hk).1
              rw [show decide (j < (cs.length : Int)) = true from decide_eq_true (by omega)]
              refine iteF ?_
              obtain ⟨z, ez, hz⟩ := pts_get ck hk
              obtain ⟨tk, gk⟩ := kid_gen tu gu hk
              refine ⟨_, rfl, nx, C.T, dn, fs, _, rfl, h2, cl, na, c1, _, rfl, ca, cs, j, z, rfl, rfl, SqT.of c2, by rw [show j = ((j.toNat : Nat) : Int) by omega]; exact atI_nat ez, ?_⟩
              exact ⟨rfl, z, kd, _, rfl, hz, gk, tk, e3, fun h => absurd h (Nat.succ_ne_zero i)⟩
          · rw [if_neg j0] at e3
            rw [show decide ((0 : Int) ≤ j) = false from decide_eq_false j0]
            refine iteF ?_
            refine ⟨_, rfl, ?_⟩
            refine iteT ?_
            rw [e3] at k
            exact k
      · subst e1 e2
        rw [e3, nl, List.drop_length] at k
        exact ⟨_, rfl, k _ hu fun e => e4 (by rw [nl, Option.some.inj e]; rfl)⟩
end
end K3

namespace K3
open PySem PySem.Spec PyProof.Rows L2 E0
theorem parts_good : ∀ ts : List Tr, partsOf (ts.map PI.good) = ts
  | [] => rfl
  | t :: ts => by
    show t :: partsOf (ts.map PI.good) = _
    rw [parts_good ts]
theorem first_good : ∀ (ts : List Tr) (n : Nat), firstBad n (ts.map PI.good) = none
  | [], _ => rfl
  | _ :: ts, n => first_good ts (n + 1)
def fitsS (ts : List Tr) : Bool := decide (1 + sizes ts ≤ 400) && decide (levelss ts + 1 ≤ 100)
theorem due_gen {z : Str} {ts : List Tr} (hz : nameS z = true) : treeDue (.str z) (ts.map PI.good) = if fitsS ts = true then none else some (.str "size") := by
  unfold treeDue
  rw [if_neg (by show ¬ nameS z = false; rw [hz]; exact Bool.noConfusion), first_good, parts_good]
  unfold fitsS
  by_cases h : 400 < 1 + sizes ts ∨ 100 < levelss ts + 1
  · show (if 400 < 1 + sizes ts ∨ 100 < levelss ts + 1 then _ else _) = _
    rw [if_pos h, if_neg (by simp only [Bool.and_eq_true, decide_eq_true_eq]; omega)]
  · show (if 400 < 1 + sizes ts ∨ 100 < levelss ts + 1 then _ else _) = _
    rw [if_neg h, if_pos (by simp only [Bool.and_eq_true, decide_eq_true_eq]; omega)]
theorem val_nm {K : PySem.W.Frag} {H : Hp} {z : Str} (h : nameS z = true) (ho : PyData.strOk z = true) : Val K H (.str z) := .inl ⟨z, rfl, Nat.le_trans (nameS_len h) (by decide), ho⟩
def MkT (K : PySem.W.Frag) (C : Cl5) (CI : Addr) (vs : List V) (H : Hp) (Q : VK) (E : XK) : Prop := ∃ (n : V) (xs : List V) (pis : List PI), vs = n :: xs ∧ Val K H n ∧ Paired (PIAt K C H) xs pis ∧ pis.length ≤ 1000 ∧ joinB (partsOf pis) ≤ 16000000 ∧ TreeRes C CI n xs pis E H Q
def tMkT (K : PySem.W.Frag) (C : Cl5) (CI : Addr) (E : XK) (t : TA) : TE := fun σ H Q => t σ H fun vs H1 => MkT K C CI vs H1 Q E
section
variable {X : Cx} {CX : CXT} {k : Nat} {f CI : Addr} {C : Cl5} {E : XK} {x : Str} {e : Expr} {es : List Expr} {t : TA} {p pos : Pos}
theorem pe_mkT (M : Mk X.K C.T f) (F : FnR X.prog X.w X.K X.mg X.base CX k f (spTreeNew X.K C CI)) (hr : Room (k + 1) X.A) (hg : Gl X x) (hm : X.mg x = some (.ref C.T)) (hx : Passes CX X E) (ha : PA X (e :: es) t) (hdb : (x == ("__debug__" : Str)) = false := by decide)
    (he : starEach (e :: es) X.env = (false, eval e X.env) :: starEach es X.env := by rfl) (hpl : (backTo pos (starEach es X.env)).any (·.1) = false := by rfl) : PE X (.Call (.Name x p) (e :: es) [] pos) (tMkT X.K C CI E t) := by
  refine ⟨fun pins s σ H Q I h => ?_⟩
  refine wpAny_Call_Name_kw (ld_glob I hg hm ?_ hdb)
  refine PySem.W.callWith_K (h₀ := X.base) I.ok.mod.kin M.kp (thn (ha.run pos pins s σ H _ I h) fun us s1 ⟨vs, H1, I1, r, q⟩ => ⟨I1.kIn, ?_⟩) he hpl
  obtain ⟨n, xs, pis, rfl, q1, q2, q3, q4, q5⟩ := q
  exact StX.run_makeR M F hr hx I1 r fun y dx ny ndy ne => tree_made q1 q2 q3 q4 q5 ny ndy ne
/-- Tree(e, .., *y) -/
theorem pe_mkTS (M : Mk X.K C.T f) (F : FnR X.prog X.w X.K X.mg X.base CX k f (spTreeNew X.K C CI)) (hr : Room (k + 1) X.A) (hg : Gl X x) (hm : X.mg x = some (.ref C.T)) (hx : Passes CX X E) (ha : PA X (e :: es) t) (hdb : (x == ("__debug__" : Str)) = false := by decide)
    (he : starEach (e :: es) X.env = (false, eval e X.env) :: starEach es X.env := by rfl) (hst : (backTo pos (starEach es X.env)).any (·.1) = true := by rfl) : PE X (.Call (.Name x p) (e :: es) [] pos) (tMkT X.K C CI E t) := by
  refine ⟨fun pins s σ H Q I h => ?_⟩
  refine wpAny_Call_Name_kw (ld_glob I hg hm ?_ hdb)
  refine PySem.W.callWith_S2 (h₀ := X.base) I.ok.mod.kin M.kp (thn (ha.run pos pins s σ H _ I h) fun us s1 ⟨vs, H1, I1, r, q⟩ => ⟨I1.kIn, ?_⟩) he hst
  obtain ⟨n, xs, pis, rfl, q1, q2, q3, q4, q5⟩ := q
  exact StX.run_makeR M F hr hx I1 r fun y dx ny ndy ne => tree_made q1 q2 q3 q4 q5 ny ndy ne
end
theorem pi_good {K : PySem.W.Frag} {C : Cl5} {H : Hp} : ∀ {xs : List V} {ts : List Tr}, PtsAt C H xs ts → (∀ t ∈ ts, okP t = true ∧ rowB t ≤ 1000 ∧ okTx t) → Paired (PIAt K C H) xs (ts.map PI.good)
  | [], [], _, _ => .nil
  | x :: xs, t :: ts, h, g => .cons ⟨h.1, g t (List.mem_cons_self ..)⟩ (pi_good h.2 fun u m => g u (List.mem_cons_of_mem _ m))
  | [], _ :: _, h, _ => False.elim h
  | _ :: _, [], h, _ => False.elim h
theorem size_mem : ∀ {ts : List Tr} {t : Tr}, t ∈ ts → size t ≤ sizes ts
  | a :: ts, t, m => by
    show size t ≤ size a + sizes ts
    rcases List.mem_cons.mp m with e | m
    · rw [e]; omega
    · have := size_mem m
      omega
/-- a tree whose methods are those of its class -/
def NoF (C : Cl5) (H : Hp) (v : V) : Prop := ∃ x dx fs, v = .ref x ∧ H x = some (.ins C.T dx fs) ∧ fs.lookup ("each_path" : Str) = none ∧ fs.lookup ("put" : Str) = none
theorem NoF.same {C : Cl5} {H H' : Hp} {v : V} (s : Same H H') (h : NoF C H v) : NoF C H' v := by
  obtain ⟨x, dx, fs, h1, h2, h3⟩ := h
  exact ⟨x, dx, fs, h1, s _ _ h2, h3⟩
theorem NoF.kpo {C : Cl5} {H H' : Hp} {v : V} (s : KpO H H') (h : NoF C H v) : NoF C H' v := by
  obtain ⟨x, dx, fs, h1, h2, h3⟩ := h
  exact ⟨x, dx, fs, h1, s _ _ rfl h2, h3⟩
theorem noF_of {C : Cl5} {H : Hp} {x : Addr} {f : Str} {ps : List Tr} {xs : List V} (p : PtAt C H (.ref x) (.nd false f ps)) (q : HasP H x xs) : NoF C H (.ref x) := by
  obtain ⟨b, dx, fs, pa, ys, h1, h2, _⟩ := p
  cases h1
  obtain ⟨A, dx2, fs2, pa2, g1, g2, g3, g4, g5⟩ := q
  rw [h2] at g1
  cases g1
  exact ⟨_, _, _, rfl, h2, g4, g5⟩
/-- what Tree makes of a right name and right parts -/
theorem mkT_gen {K : PySem.W.Frag} {C : Cl5} {CI : Addr} {z : Str} {xs : List V} {ts : List Tr} {H : Hp} {Q : VK} {E : XK} (hz : nameS z = true) (ho : PyData.strOk z = true) (hp : PtsAt C H xs ts) (hg : gensT ts) (hl : ts.length ≤ 9) (hs : sizes ts ≤ 10000)
    (k : if fitsS ts = true then ∀ H' x, Same H H' → H x = none → PtAt C H' (.ref x) (.nd false z ts) → HasP H' x xs → Q (.ref x) H' else ∀ H' dd, Same H H' → H dd = none → H' dd = some (.xd [("part", .str "size")]) → E (.ref CI) (some dd) H') : MkT K C CI (.str z :: xs) H Q E := by
  have hj := joinB_sz hg
  refine ⟨.str z, xs, ts.map PI.good, rfl, val_nm hz ho, pi_good hp (fun t m => ⟨gen_okP (gens_mem hg m), (gen_row (gens_mem hg m)).2, gen_okTx (gens_mem hg m) (Nat.le_trans (size_mem m) hs)⟩), by rw [List.length_map]; omega, by rw [parts_good]; omega, ?_⟩
  unfold TreeRes
  rw [due_gen hz, parts_good]
  cases h : fitsS ts with
  | true =>
    rw [h] at k
    intro H' x z' e s n p hpp
    cases e
    exact k H' x s n p hpp
  | false =>
    rw [h] at k
    exact k
theorem mkT_ok {K : PySem.W.Frag} {C : Cl5} {CI : Addr} {z : Str} {xs : List V} {ts : List Tr} {H : Hp} {Q : VK} {E : XK} (hz : nameS z = true) (ho : PyData.strOk z = true) (hp : PtsAt C H xs ts) (hg : gensT ts) (hl : ts.length ≤ 9) (h1 : 1 + sizes ts ≤ 400) (h2 : levelss ts + 1 ≤ 100)
    (k : ∀ H' x, Same H H' → H x = none → PtAt C H' (.ref x) (.nd false z ts) → HasP H' x xs → Q (.ref x) H') : MkT K C CI (.str z :: xs) H Q E := by
  refine mkT_gen hz ho hp hg hl (by omega) ?_
  rw [if_pos (show fitsS ts = true by unfold fitsS; simp only [Bool.and_eq_true, decide_eq_true_eq]; exact ⟨h1, h2⟩)]
  exact k
/-! ### in and [ ] of a tree -/
section
variable {P : Program} {w : World} {K : PySem.W.Frag} {mg : Str → Option Value} {base : Heap}
def spHas (K : PySem.W.Frag) (C : Cl5) : Sp := fun vs H Q _ => ∃ (v pv : V) (t : Tr) (ns : Option (List (Option Int))), vs = [v, pv] ∧ PtAt C H v t ∧ genT t ∧ isT t = true ∧ PathV K H pv ns ∧ Q (.bl (foundV t ns).isSome) H
theorem scTreeHas : FnScope ["self", "x"] ["self", "x"] (defScope sTreeHas) := ⟨rfl, rfl, rfl, by decide +kernel, rfl, by decide +kernel, by decide +kernel⟩
theorem walk_gen : ∀ {ns : List (Option Int)} {t u : Tr}, genT t → isT t = true → walkV t ns = some u → genT u ∧ isT u = true
  | [], t, u, hg, h1, h => by
    cases (show some t = some u from h)
    exact ⟨hg, h1⟩
  | none :: ns, t, u, hg, h1, h => by
    rw [walkV] at h
    cases h
  | some i :: ns, t, u, hg, h1, h => by
    rw [walkV] at h
    by_cases q : 0 ≤ i
    · rw [if_pos q] at h
      cases hk : (kidsT t)[i.toNat]? with
      | none => rw [hk] at h; cases h
      | some k =>
        rw [hk] at h
        obtain ⟨a, b⟩ := kid_gen h1 hg hk
        exact walk_gen b a h
    · rw [if_neg q] at h
      cases h
theorem found_gen {ns : Option (List (Option Int))} {t u : Tr} (hg : genT t) (h1 : isT t = true) (h : foundV t ns = some u) : genT u ∧ isT u = true := by
  match ns, h with
  | some ns, h => exact walk_gen hg h1 h
theorem ok_treeHas {C : Cl5} {f fN : Addr} {fd fdN : FuncData} (F : Fun K "__contains__" "Tree.__contains__" sTreeHas f fd) (GN : FnOk P w K mg base CX0 2 fN fdN ["tree", "path"] (spNodeAt K C)) (AN : DefA K mg "_node_at" ["tree", "path"] fN fdN) : FnOk P w K mg base CX0 3 f fd ["self", "x"] (spHas K C) := by
  refine F.ok scTreeHas (fun vs H Q E h => ?_) (fun cdv A outer s H vs Q E hr h => ?_)
  · obtain ⟨v, pv, t, ns, rfl, _⟩ := h
    rfl
  · obtain ⟨v, pv, t, ns, rfl, hv, hg, ht, hp, k⟩ := h
    refine ⟨_, pss_one (ps_ret (pe_cmpR op_notN (pe_call GN hr rfl AN.g AN.k AN.b .nil pass0 (pa_cons (L2.pv 0) (pa_cons (L2.pv 1) pa_nil))) pe_non (nomark _))), ?_⟩
    refine ⟨_, rfl, _, rfl, v, pv, t, ns, rfl, hv, hg, ht, hp, ?_⟩
    cases e : foundV t ns with
    | none =>
      rw [e] at k
      exact ⟨rfl, k⟩
    | some u =>
      rw [e] at k
      intro v' hv' hv0
      obtain ⟨gu, tu⟩ := found_gen hg ht e
      obtain ⟨f1, ps1, rfl⟩ := isT_nd tu
      obtain ⟨x, _, _, _, _, rfl, _⟩ := hv'
      exact ⟨rfl, k⟩
def spGet (K : PySem.W.Frag) (C : Cl5) (CP : Addr) : Sp := fun vs H Q E => ∃ (v pv : V) (t : Tr) (ns : Option (List (Option Int))), vs = [v, pv] ∧ PtAt C H v t ∧ genT t ∧ isT t = true ∧ PathV K H pv ns ∧
  (match foundV t ns with
   | none => ∀ H' dd, Same H H' → H dd = none → H' dd = some (.xd [("value", pv)]) → E (.ref CP) (some dd) H'
   | some u => ∀ v', PtAt C H v' u → (ns = some [] → v' = v) → Q v' H)
def NGE : List Str := ["self", "at", "node"]
theorem scTreeGet : FnScope NGE ["self", "at"] (defScope sTreeGet) := ⟨rfl, rfl, rfl, by decide +kernel, rfl, by decide +kernel, by decide +kernel⟩
theorem ok_treeGet {C : Cl5} {CP f fN : Addr} {fd fdN : FuncData} (F : Fun K "__getitem__" "Tree.__getitem__" sTreeGet f fd) (er : ErrP P K mg CP) (GN : FnOk P w K mg base CX0 2 fN fdN ["tree", "path"] (spNodeAt K C)) (AN : DefA K mg "_node_at" ["tree", "path"] fN fdN) : FnOk P w K mg base (L2.CX P w) 3 f fd ["self", "at"] (spGet K C CP) := by
  refine F.okX scTreeGet (fun vs H Q E h => ?_) (fun cdv A outer s H vs Q E hr h => ?_)
  · obtain ⟨v, pv, t, ns, rfl, _⟩ := h
    rfl
  · obtain ⟨v, pv, t, ns, rfl, hv, hg, ht, hp, k⟩ := h
    have tkE : Takes (cxOf (L2.CX P w) P w K mg base NGE "Tree.__getitem__" (defScope sTreeGet) f cdv A outer s H E) (fun cls dd _ H => E cls dd H) := takes_of rfl rfl rfl rfl
    refine ⟨_, pss_cons (ps_set (i := 2) scTreeGet.nd rfl (.inl rfl) (pe_call GN hr (by rfl) AN.g AN.k AN.b .nil pass0 (pa_cons (L2.pv 0) (pa_cons (L2.pv 1) pa_nil))))
      (pss_cons (ps_if (pt_cmpR op_isN (L2.pv 2) pe_non (nomark _)) (pss_one (ps_raise rfl tkE (pmk_value er hr rfl (L2.pv 1)))) pss_nil)
      (pss_one (ps_ret (L2.pv 2)))), ?_⟩
    refine ⟨_, rfl, _, rfl, v, pv, t, ns, rfl, hv, hg, ht, hp, ?_⟩
    cases e : foundV t ns with
    | none =>
      rw [e] at k
      refine ⟨_, rfl, rfl, _, rfl, ?_⟩
      refine iteT ?_
      refine ⟨_, rfl, ?_⟩
      exact raise_ansV fun dd hdd => k _ dd (same_upd (Same.refl H) hdd) hdd upd_same
    | some u =>
      rw [e] at k
      intro v' hv' hv0
      obtain ⟨gu, tu⟩ := found_gen hg ht e
      obtain ⟨f1, ps1, rfl⟩ := isT_nd tu
      obtain ⟨x, _, _, _, _, rfl, _⟩ := id hv'
      refine ⟨_, rfl, rfl, _, rfl, ?_⟩
      refine iteF ?_
      exact ⟨_, rfl, k _ hv' hv0⟩
end
end K3

namespace ZipL
open PySem PySem.Spec
section
variable {prog : Program} {w : World} {A : Around} {E : Value → Shared → Prop} {s : Shared} {z TI TO T i1 i2 : Addr} {f : Bool} {oT : Obj} {fp1 fp2 : List Addr} {n1 n2 i : Nat} {P1 P2 : Nat → Value → Prop} {St1 St2 : Nat → Heap → Prop}
/-- the next pair of a zip whose last pair is still held -/
theorem held_item {Q : Value → Shared → Prop} (S : ZipSep2 z TI TO i1 i2 fp1 fp2) (D1 : Draws prog w A i1 fp1 n1 P1 St1) (D2 : Draws prog w A i2 fp2 n2 P2 St2)
    (gz : IsZipHeld s.heap z TI TO T f) (gT : s.heap.get? T = some oT) (gI : IsTupOf2 s.heap TI (.ref i1) (.ref i2)) (t1 : St1 i s.heap) (t2 : St2 i s.heap) (l1 : i < n1) (l2 : i < n2)
    (k : ∀ x y h' tk, P1 i x → P2 i y → IsZipHeld h' z TI TO T true → St1 (i + 1) h' → St2 (i + 1) h' → IsTupOf2 h' s.heap.objs.size x y → h'.objs.size = s.heap.objs.size + 1 →
      (∀ c o, c ≠ z → c ≠ i1 → c ≠ i2 → s.heap.get? c = some o → h'.get? c = some o) → Q (.ref s.heap.objs.size) { s with heap := h', toks := tk }) :
    wpAny (model prog w) A (Builtin.«zip.__next__» ⟨[.ref z], []⟩) (fun fin s' => ∃ v, fin = .done (.ret v) ∧ Q v s') E s := by
  obtain ⟨hp, g, d, tk0, os⟩ := s
  show wpAny _ _ (field (.ref z) 2 >>= _) _ _ _
  refine wpAny_bind (wpAny_field gz rfl (x := .bool false) rfl ?_)
  show wpAny _ _ (field (.ref z) 3 >>= _) _ _ _
  refine wpAny_bind (wpAny_field gz rfl (x := .ref TI) rfl ?_)
  refine wpAny_bind (wpAny_seqItems gI rfl ?_)
  show wpAny _ _ (Builtin.SmallTypes.ownedTupleIsFree (.ref z) >>= _) _ _ _
  refine wpAny_bind (wpAny_tupleHeld_zip gz gT fun u0 gz0 e0 => ?_)
  replace e0 : Heap.SameBut z hp u0 := e0
  simp only [Bool.false_eq_true, if_false]
  refine wpAny_bind ?_
  rw [← Array.forIn_toList]
  simp only [List.forIn_cons, List.forIn_nil]
  refine wpAny_bind (wpAny_bind (wpAny_holding ?_))
  show wpAny _ _ (Builtin.SmallTypes.nextOf (.ref i1) >>= _) _ _ ⟨u0, g, d, tk0, os⟩
  refine wpAny_bind (D1.item i _ _ _ l1 (D1.over t1 e0 S.zf1) fun x u1 k1 hx n1' e1 => wpAny_pure ?_)
  replace e1 : Heap.SameBut i1 u0 u1 := e1
  refine wpAny_pure ?_
  refine wpAny_bind (wpAny_bind (wpAny_holding ?_))
  show wpAny _ _ (Builtin.SmallTypes.nextOf (.ref i2) >>= _) _ _ ⟨u1, g, d, k1, os⟩
  refine wpAny_bind (D2.item i _ _ _ l2 (D2.over (D2.over t2 e0 S.zf2) e1 S.sep1_2) fun y u2 k2 hy n2' e2 => wpAny_pure ?_)
  replace e2 : Heap.SameBut i2 u1 u2 := e2
  refine wpAny_pure (wpAny_pure ?_)
  show wpAny _ _ (newTuple [x, y] >>= _) _ _ ⟨u2, g, d, k2, os⟩
  refine wpAny_bind (wpAny_newTuple ?_)
  have sz : u2.objs.size = hp.objs.size := by rw [e2.1, e1.1, e0.1]
  have gz2 : IsZipHeld u2 z TI TO T true := e2.extBut _ _ S.zi2 (e1.extBut _ _ S.zi1 gz0)
  have kk : ∀ c o, c ≠ z → c ≠ i1 → c ≠ i2 → hp.get? c = some o → u2.get? c = some o := fun c o a b b' q => e2.extBut _ _ b' (e1.extBut _ _ b (e0.extBut _ _ a q))
  have m1 : St1 (i + 1) u2 := D1.over n1' e2 S.sep2_1
  have pr : IsTupOf2 (u2.push { cls := .type "tuple", data := .seq #[x, y] }) u2.objs.size x y := Heap.get?_push_size _ rfl
  have sz2 : (u2.push { cls := .type "tuple", data := .seq #[x, y] }).objs.size = u2.objs.size + 1 := Heap.size_push ..
  refine wpAny_pure ⟨_, rfl, ?_⟩
  show Q (.ref u2.objs.size) ⟨u2.push { cls := .type "tuple", data := .seq #[x, y] }, g, d, k2, os⟩
  rw [sz] at pr sz2 ⊢
  exact k x y _ k2 hx hy (Heap.get?_push_of_some _ gz2) (D1.frame _ _ _ m1 fun b _ o q => Heap.get?_push_of_some _ q) (D2.frame _ _ _ n2' fun b _ o q => Heap.get?_push_of_some _ q) pr sz2 fun c o a b b' q => Heap.get?_push_of_some _ (kk c o a b b' q)
theorem held_end {Q : Fin → Shared → Prop} (S : ZipSep2 z TI TO i1 i2 fp1 fp2) (D1 : Draws prog w A i1 fp1 n1 P1 St1)
    (gz : IsZipHeld s.heap z TI TO T f) (gT : s.heap.get? T = some oT) (gI : IsTupOf2 s.heap TI (.ref i1) (.ref i2)) (t1 : St1 n1 s.heap)
    (k : ∀ h' e, (∀ c o, c ≠ z → c ≠ i1 → s.heap.get? c = some o → h'.get? c = some o) → (∃ o, h'.get? e = some o ∧ o.cls = .type "StopIteration") → E (.ref e) { s with heap := h' }) :
    wpAny (model prog w) A (Builtin.«zip.__next__» ⟨[.ref z], []⟩) Q E s := by
  obtain ⟨hp, g, d, tk0, os⟩ := s
  show wpAny _ _ (field (.ref z) 2 >>= _) _ _ _
  refine wpAny_bind (wpAny_field gz rfl (x := .bool false) rfl ?_)
  show wpAny _ _ (field (.ref z) 3 >>= _) _ _ _
  refine wpAny_bind (wpAny_field gz rfl (x := .ref TI) rfl ?_)
  refine wpAny_bind (wpAny_seqItems gI rfl ?_)
  show wpAny _ _ (Builtin.SmallTypes.ownedTupleIsFree (.ref z) >>= _) _ _ _
  refine wpAny_bind (wpAny_tupleHeld_zip gz gT fun u0 gz0 e0 => ?_)
  replace e0 : Heap.SameBut z hp u0 := e0
  simp only [Bool.false_eq_true, if_false]
  refine wpAny_bind ?_
  rw [← Array.forIn_toList]
  simp only [List.forIn_cons, List.forIn_nil]
  refine wpAny_bind (wpAny_bind (wpAny_holding ?_))
  show wpAny _ _ (Builtin.SmallTypes.nextOf (.ref i1) >>= _) _ _ ⟨u0, g, d, tk0, os⟩
  refine wpAny_bind (D1.done ⟨u0, g, d, tk0, os⟩ _ _ (D1.over t1 e0 S.zf1) fun u1 e e1 he => ?_)
  exact k u1 e (fun c o a b q => e1 _ _ b (e0.extBut _ _ a q)) he
theorem next_item {Q : Option Value → Shared → Prop} (S : ZipSep2 z TI TO i1 i2 fp1 fp2) (D1 : Draws prog w A.in1 i1 fp1 n1 P1 St1) (D2 : Draws prog w A.in1 i2 fp2 n2 P2 St2)
    (gz : IsZipHeld s.heap z TI TO T f) (gT : s.heap.get? T = some oT) (gI : IsTupOf2 s.heap TI (.ref i1) (.ref i2)) (t1 : St1 i s.heap) (t2 : St2 i s.heap) (l1 : i < n1) (l2 : i < n2)
    (k : ∀ x y h' tk, P1 i x → P2 i y → IsZipHeld h' z TI TO T true → St1 (i + 1) h' → St2 (i + 1) h' → IsTupOf2 h' s.heap.objs.size x y → h'.objs.size = s.heap.objs.size + 1 →
      (∀ c o, c ≠ z → c ≠ i1 → c ≠ i2 → s.heap.get? c = some o → h'.get? c = some o) → Q (some (.ref s.heap.objs.size)) { s with heap := h', toks := tk }) :
    wpAny (model prog w) A (pyNext (.ref z)) Q E s := by
  have ty : s.TypeIs (.ref z) "zip" := ⟨_, gz, rfl⟩
  unfold pyNext
  exact wpAny_bind (wpAny_attempt (wpAny_callSpecial?_slot (name := Str.ofString "__next__") ty F.slot_zip_next
    (wpAny_call_entry F.slot_zip_next ty F.entry_zip_next (held_item S D1 D2 gz gT gI t1 t2 l1 l2 fun x y h' tk a b c d e q r m => wpAny_pure (k x y h' tk a b c d e q r m)) (F.args_zip_next_1 _))))
theorem next_end {Q : Option Value → Shared → Prop} (S : ZipSep2 z TI TO i1 i2 fp1 fp2) (D1 : Draws prog w A.in1 i1 fp1 n1 P1 St1)
    (gz : IsZipHeld s.heap z TI TO T f) (gT : s.heap.get? T = some oT) (gI : IsTupOf2 s.heap TI (.ref i1) (.ref i2)) (t1 : St1 n1 s.heap)
    (k : ∀ h', (∀ c o, c ≠ z → c ≠ i1 → s.heap.get? c = some o → h'.get? c = some o) → Q none { s with heap := h' }) : wpAny (model prog w) A (pyNext (.ref z)) Q E s := by
  have ty : s.TypeIs (.ref z) "zip" := ⟨_, gz, rfl⟩
  unfold pyNext
  refine wpAny_bind (wpAny_attempt (wpAny_callSpecial?_slot (name := Str.ofString "__next__") ty F.slot_zip_next
    (wpAny_call_entry F.slot_zip_next ty F.entry_zip_next (held_end S D1 gz gT gI t1 fun h' e hk he => ?_) (F.args_zip_next_1 _))))
  obtain ⟨o, ho, hc⟩ := he
  refine wpAny_bind (wpAny_isInstance (T := "StopIteration") (b := true) ⟨o, ho, hc⟩ isSubtype_stop ?_)
  exact wpAny_pure (k _ hk)
end
theorem zip_no_len : typeLookup (.type "zip") "__len__" = pure none := by rw [typeLookup_type, builtinLookup_eq_fast]; kernel_rfl
theorem zip_no_hint : typeLookup (.type "zip") "__length_hint__" = pure none := by rw [typeLookup_type, builtinLookup_eq_fast]; kernel_rfl
end ZipL

namespace ZipL
open PySem PySem.Spec
/-- how the zip stands after i pairs -/
def ZL (h : Heap) (z TI TO i1 i2 S : Addr) (i : Nat) : Prop :=
  (i = 0 ∧ IsZip h z TI TO .none ∧ ∃ a b, IsTupOf2 h TO a b) ∨ ∃ T f oT, IsZipHeld h z TI TO T f ∧ h.get? T = some oT ∧ T ≠ z ∧ T ≠ i1 ∧ T ≠ i2 ∧ T ≠ S
/-- the pairs made so far -/
structure ZG (P1 P2 : Nat → Value → Prop) (lo : Addr) (h : Heap) (as : List Addr) : Prop where
  rise : as.Pairwise (· < ·)
  above : ∀ a ∈ as, lo < a
  pairs : ∀ (j : Nat) (a : Addr), as[j]? = some a → ∃ x y, P1 j x ∧ P2 j y ∧ IsTupOf2 h a x y
theorem ZG.there {P1 P2 : Nat → Value → Prop} {lo : Addr} {h : Heap} {as : List Addr} (g : ZG P1 P2 lo h as) {a : Addr} (ha : a ∈ as) : a < h.objs.size := by
  obtain ⟨j, hj⟩ := List.mem_iff_getElem?.mp ha
  obtain ⟨_, _, _, _, e⟩ := g.pairs j a hj
  exact Heap.lt_size e
theorem ZL.keep {h h' : Heap} {z TI TO i1 i2 S : Addr} {i : Nat} (x : ZL h z TI TO i1 i2 S i) (k : ∀ b o, b ≠ S → h.get? b = some o → h'.get? b = some o) (hz : z ≠ S) (hT : TO ≠ S) : ZL h' z TI TO i1 i2 S i := by
  rcases x with ⟨e, a, b, c, d⟩ | ⟨T, f, oT, a, b, c⟩
  · exact .inl ⟨e, k _ _ hz a, b, c, k _ _ hT d⟩
  · exact .inr ⟨T, f, oT, k _ _ hz a, k _ _ c.2.2.2 b, c⟩
section
variable {prog : Program} {w : World} {A : Around} {s : Shared} {R : Result → Shared → Prop} {z TI TO i1 i2 : Addr} {fp1 fp2 : List Addr} {n : Nat} {P1 P2 : Nat → Value → Prop} {St1 St2 : Nat → Heap → Prop}
/-- one pair from either state -/
theorem zl_item {A : Around} {E : Value → Shared → Prop} {S : Addr} {i : Nat} {Q : Option Value → Shared → Prop} (Sp : ZipSep2 z TI TO i1 i2 fp1 fp2) (D1 : Draws prog w A.in1 i1 fp1 n P1 St1) (D2 : Draws prog w A.in1 i2 fp2 n P2 St2)
    (x : ZL s.heap z TI TO i1 i2 S i) (gI : IsTupOf2 s.heap TI (.ref i1) (.ref i2)) (t1 : St1 i s.heap) (t2 : St2 i s.heap) (l : i < n) (hS : S < s.heap.objs.size)
    (k : ∀ a b h' tk, P1 i a → P2 i b → ZL h' z TI TO i1 i2 S (i + 1) → IsTupOf2 h' TI (.ref i1) (.ref i2) → St1 (i + 1) h' → St2 (i + 1) h' → IsTupOf2 h' s.heap.objs.size a b → h'.objs.size = s.heap.objs.size + 1 →
      (∀ c o, c ≠ z → c ≠ TO → c ≠ i1 → c ≠ i2 → s.heap.get? c = some o → h'.get? c = some o) → Q (some (.ref s.heap.objs.size)) { s with heap := h', toks := tk }) :
    wpAny (model prog w) A (pyNext (.ref z)) Q E s := by
  have lt : ∀ {c o}, s.heap.get? c = some o → s.heap.objs.size ≠ c := fun e => Nat.ne_of_gt (Heap.lt_size e)
  have q1 : s.heap.objs.size ≠ i1 := by obtain ⟨_, e⟩ := D1.live _ _ t1; exact lt e
  have q2 : s.heap.objs.size ≠ i2 := by obtain ⟨_, e⟩ := D2.live _ _ t2; exact lt e
  rcases x with ⟨rfl, gz, a0, b0, gO⟩ | ⟨T, f, oT, gz, gT, c1, c2, c3, c4⟩
  · refine wpAny_pyNext_zipD2_item Sp D1 D2 gz gI gO t1 t2 l l fun a b h' tk p1 p2 g1 g2 m1 m2 g3 sz kk => ?_
    exact k a b h' tk p1 p2 (.inr ⟨_, false, _, g1, g3, lt gz, q1, q2, Nat.ne_of_gt hS⟩) (kk _ _ Sp.TIz Sp.TITO Sp.TIi1 Sp.TIi2 gI) m1 m2 g3 sz kk
  · refine next_item Sp D1 D2 gz gT gI t1 t2 l l fun a b h' tk p1 p2 g1 m1 m2 g3 sz kk => ?_
    exact k a b h' tk p1 p2 (.inr ⟨T, true, oT, g1, kk _ _ c1 c2 c3 gT, c1, c2, c3, c4⟩) (kk _ _ Sp.TIz Sp.TIi1 Sp.TIi2 gI) m1 m2 g3 sz fun c o a _ b d => kk c o a b d
theorem zl_done {A : Around} {E : Value → Shared → Prop} {S : Addr} {Q : Option Value → Shared → Prop} (Sp : ZipSep2 z TI TO i1 i2 fp1 fp2) (D1 : Draws prog w A.in1 i1 fp1 n P1 St1) (D2 : Draws prog w A.in1 i2 fp2 n P2 St2)
    (x : ZL s.heap z TI TO i1 i2 S n) (gI : IsTupOf2 s.heap TI (.ref i1) (.ref i2)) (t1 : St1 n s.heap) (t2 : St2 n s.heap)
    (k : ∀ h' tk, (∀ c o, c ≠ z → c ≠ TO → c ≠ i1 → c ≠ i2 → s.heap.get? c = some o → h'.get? c = some o) → Q none { s with heap := h', toks := tk }) : wpAny (model prog w) A (pyNext (.ref z)) Q E s := by
  rcases x with ⟨e, gz, a0, b0, gO⟩ | ⟨T, f, oT, gz, gT, c1, c2, c3, c4⟩
  · exact wpAny_pyNext_zipD2_end Sp D1 D2 gz gI gO t1 t2 (Nat.le_refl _) (Nat.le_refl _) (.inl rfl) k
  · exact next_end Sp D1 gz gT gI t1 fun h' kk => k h' s.toks fun c o a _ b _ => kk c o a b
/-- all five cells and what is drawn from lie off the new list -/
structure Off (z TI TO i1 i2 S : Addr) (fp1 fp2 : List Addr) : Prop where
  z : z ≠ S
  TI : TI ≠ S
  TO : TO ≠ S
  i1 : i1 ≠ S
  i2 : i2 ≠ S
  f1 : S ∉ fp1
  f2 : S ∉ fp2
theorem zl_loop {S : Addr} (Sp : ZipSep2 z TI TO i1 i2 fp1 fp2) (D1 : Draws prog w A.in1.in1 i1 fp1 n P1 St1) (D2 : Draws prog w A.in1.in1 i2 fp2 n P2 St2) (O : Off z TI TO i1 i2 S fp1 fp2) (low : z < S ∧ TO < S ∧ i1 < S ∧ i2 < S) (hn : n ≤ sizeLine) (res : Value) {h₁ : Heap}
    (hR : ∀ h' tk acc c as, (∀ b o, b ≠ S → b ≠ z → b ≠ TO → b ≠ i1 → b ≠ i2 → h₁.get? b = some o → h'.get? b = some o) → h'.get? S = some { cls := .type "list", dict := none, data := .seq acc c, slots := #[] } → as.length = n → ZG P1 P2 S h' as →
      acc.toList = as.map Value.ref → R (.ok (.ret res)) { s with heap := h', toks := tk }) :
    ∀ (k i : Nat) (h : Heap) (tk c : Nat) (acc : Array Value) (as : List Addr), n - i = k → i ≤ n → ZL h z TI TO i1 i2 S i → IsTupOf2 h TI (.ref i1) (.ref i2) → St1 i h → St2 i h → (∀ b o, b ≠ S → b ≠ z → b ≠ TO → b ≠ i1 → b ≠ i2 → h₁.get? b = some o → h.get? b = some o) →
      h.get? S = some { cls := .type "list", dict := none, data := .seq acc c, slots := #[] } → acc.toList = as.map Value.ref → as.length = i → ZG P1 P2 S h as →
      codeAny (model prog w) A (.builtin "list.extend.loop" ⟨[.ref S, .ref z, res], []⟩) R { s with heap := h, toks := tk } := by
  intro k
  induction k with
  | zero =>
    intro i h tk c acc as hk hi x gI t1 t2 kp gS ea el G
    have en : i = n := by omega
    subst en
    refine codeAny_builtin PySem.F.entry_extend_loop ?_
    rw [Around.under_plainId PySem.F.plain_extend_loop _]
    show wpAny _ A.in1 (pyNext (.ref z) >>= _) _ _ _
    refine wpAny_bind (zl_done (s := { s with heap := h, toks := tk }) (A := A.in1) Sp D1 D2 x gI t1 t2 fun h' tk' he => ?_)
    refine wpAny_pure (hR h' tk' acc c as (fun b o a1 a2 a3 a4 a5 e => he b o a2 a3 a4 a5 (kp b o a1 a2 a3 a4 a5 e)) (he S _ O.z.symm O.TO.symm O.i1.symm O.i2.symm gS) el ⟨G.rise, G.above, fun j a hj => ?_⟩ ea)
    obtain ⟨u, v, e1, e2, e3⟩ := G.pairs j a hj
    have ab := G.above a (List.mem_of_getElem? hj)
    obtain ⟨w1, w2, w3, w4⟩ := low
    exact ⟨u, v, e1, e2, he a _ (Nat.ne_of_gt (Nat.lt_trans w1 ab)) (Nat.ne_of_gt (Nat.lt_trans w2 ab)) (Nat.ne_of_gt (Nat.lt_trans w3 ab)) (Nat.ne_of_gt (Nat.lt_trans w4 ab)) e3⟩
  | succ k ih =>
    intro i h tk c acc as hk hi x gI t1 t2 kp gS ea el G
    have l : i < n := by omega
    have hsz : acc.size = i := by rw [← Array.length_toList, ea, List.length_map, el]
    have lS : S < h.objs.size := Heap.lt_size gS
    refine codeAny_builtin PySem.F.entry_extend_loop ?_
    rw [Around.under_plainId PySem.F.plain_extend_loop _]
    show wpAny _ A.in1 (pyNext (.ref z) >>= _) _ _ _
    refine wpAny_bind (zl_item (s := { s with heap := h, toks := tk }) (A := A.in1) Sp D1 D2 x gI t1 t2 l lS fun a b h' tk' p1 p2 x' gI' m1 m2 g3 sz kk => ?_)
    dsimp only at g3 sz kk ⊢
    have gS' := kk S _ O.z.symm O.TO.symm O.i1.symm O.i2.symm gS
    have up : ∀ b o, b ≠ S → h'.get? b = some o → (h'.update S (Obj.mapSeq (·.push (Value.ref h.objs.size)))).get? b = some o := fun b o hb e => (Heap.get?_update_other _ _ (Ne.symm hb)).trans e
    show wpAny _ A.in1 (updateSeq S (·.push (Value.ref h.objs.size)) >>= _) _ _ _
    refine wpAny_bind ?_
    obtain ⟨w1, w2, w3, w4⟩ := low
    refine wpAny_updateSeq gS' rfl (wpAny_pure ⟨plainId_quiet PySem.F.plain_extend_loop _, ih (i + 1) _ tk' _ (acc.push (Value.ref h.objs.size)) (as ++ [h.objs.size]) (by omega) l (x'.keep up O.z O.TO) (up _ _ O.TI gI')
      (D1.frame _ _ _ m1 fun b hb o e => up b o (fun q => O.f1 (q ▸ hb)) e) (D2.frame _ _ _ m2 fun b hb o e => up b o (fun q => O.f2 (q ▸ hb)) e)
      (fun b o a1 a2 a3 a4 a5 e => up b o a1 (kk b o a2 a3 a4 a5 (kp b o a1 a2 a3 a4 a5 e))) (Heap.get?_update_self _ gS' rfl) (by rw [Array.toList_push, ea, List.map_append]; rfl) (by rw [List.length_append, el]; rfl) ⟨?_, ?_, ?_⟩⟩) (by rw [hsz]; omega) (by show (acc.push (Value.ref h.objs.size)).size ≤ sizeLine + 1; rw [Array.size_push, hsz]; omega)
    · refine List.pairwise_append.mpr ⟨G.rise, List.pairwise_singleton _ _, fun a ha b hb => ?_⟩
      rw [List.mem_singleton.mp hb]
      exact G.there ha
    · intro a ha
      rcases List.mem_append.mp ha with ha | ha
      · exact G.above a ha
      · rw [List.mem_singleton.mp ha]; exact lS
    · intro j b' hj
      rcases Nat.lt_trichotomy j as.length with q | q | q
      · rw [List.getElem?_append_left q] at hj
        obtain ⟨u, v, e1, e2, e3⟩ := G.pairs j b' hj
        have ab := G.above b' (List.mem_of_getElem? hj)
        exact ⟨u, v, e1, e2, up _ _ (Nat.ne_of_gt ab) (kk _ _ (Nat.ne_of_gt (Nat.lt_trans w1 ab)) (Nat.ne_of_gt (Nat.lt_trans w2 ab)) (Nat.ne_of_gt (Nat.lt_trans w3 ab)) (Nat.ne_of_gt (Nat.lt_trans w4 ab)) e3)⟩
      · subst q
        have hb : h.objs.size = b' := by simpa using hj
        subst hb
        rw [el]
        exact ⟨a, b, p1, p2, up _ _ (Nat.ne_of_gt lS) g3⟩
      · rw [List.getElem?_eq_none (by rw [List.length_append, List.length_singleton]; omega)] at hj
        cases hj
theorem ZG.low {lo lo' : Addr} {h : Heap} {as : List Addr} (g : ZG P1 P2 lo h as) (hl : lo' ≤ lo) : ZG P1 P2 lo' h as := ⟨g.rise, fun a ha => Nat.lt_of_le_of_lt hl (g.above a ha), g.pairs⟩
theorem zl_extend {S : Addr} (Sp : ZipSep2 z TI TO i1 i2 fp1 fp2) (D1 : Draws prog w A.in1.in1 i1 fp1 n P1 St1) (D2 : Draws prog w A.in1.in1 i2 fp2 n P2 St2) (O : Off z TI TO i1 i2 S fp1 fp2) (low : z < S ∧ TO < S ∧ i1 < S ∧ i2 < S) (hn : n ≤ sizeLine) (res : Value) (c₀ : Nat)
    {a0 b0 : Value} (gz : IsZip s.heap z TI TO .none) (gO : IsTupOf2 s.heap TO a0 b0) (gI : IsTupOf2 s.heap TI (.ref i1) (.ref i2)) (t1 : St1 0 s.heap) (t2 : St2 0 s.heap) (gS : s.heap.get? S = some { cls := .type "list", data := .seq #[] c₀ })
    (hR : ∀ h' tk acc c as, (∀ b o, b ≠ S → b ≠ z → b ≠ TO → b ≠ i1 → b ≠ i2 → s.heap.get? b = some o → h'.get? b = some o) → h'.get? S = some { cls := .type "list", dict := none, data := .seq acc c, slots := #[] } → as.length = n → ZG P1 P2 S h' as →
      acc.toList = as.map Value.ref → R (.ok (.ret res)) { s with heap := h', toks := tk }) :
    wpAny (model prog w) A.in1 (Builtin.List.listExtendWith (.ref S) (.ref z) res)
      (fun fin s' => match fin with | .done f => R (.ok f) s' | .again c' => c'.quiet = true ∧ codeAny (model prog w) A c' R s') (fun e s' => R (.error e) s') s := by
  unfold Builtin.List.listExtendWith
  have gZ : s.TypeIs (.ref z) "zip" := ⟨_, gz, rfl⟩
  refine wpAny_bind (wpAny_typeOf (T := "zip") gZ ?_)
  have q1 : Builtin.List.listSameRef (.ref S) (.ref z) = false := by simp [Builtin.List.listSameRef, O.z.symm]
  have q2 : (Value.type "zip" == Value.type "list") = false := by decide
  have q3 : (Value.type "zip" == Value.type "tuple") = false := by decide
  simp only [q1, q2, q3, Bool.or_false, Bool.false_eq_true, if_false]
  refine wpAny_bind (wpAny_pyIter_zip gz ?_)
  refine wpAny_bind (wpAny_holding ?_)
  unfold Builtin.List.listLengthHint
  refine wpAny_bind (wpAny_specialOf gZ zip_no_len ?_)
  show wpAny _ A.in1 (specialOf (Value.ref z) (Str.ofString "__length_hint__") >>= _) _ _ s
  refine wpAny_bind (wpAny_specialOf gZ zip_no_hint ?_)
  refine wpAny_pure ?_
  show wpAny _ A.in1 (rule "list.extend.makes-room" >>= fun _ => Builtin.List.listTouch (.ref S) >>= fun _ => again (.builtin "list.extend.loop" ⟨[.ref S, .ref z, res], []⟩)) _ _ s
  refine wpAny_bind (wpAny_rule ?_)
  refine wpAny_bind ?_
  show wpAny _ A.in1 (updateSeq S (·.push .none) >>= fun _ => updateSeq S (·.pop)) _ _ s
  refine wpAny_bind (wpAny_updateSeq gS rfl ?_)
  have gS2 := Heap.get?_update_self (Obj.mapSeq (·.push Value.none)) gS rfl
  refine wpAny_updateSeq (hz := by seq_fits) gS2 rfl ?_
  have gS3 := Heap.get?_update_self (Obj.mapSeq (·.pop)) gS2 rfl
  have oth : ∀ b o, b ≠ S → s.heap.get? b = some o → ((s.heap.update S (Obj.mapSeq (·.push Value.none))).update S (Obj.mapSeq (·.pop))).get? b = some o :=
    fun b o hb e => (Heap.get?_update_other _ _ (Ne.symm hb)).trans ((Heap.get?_update_other _ _ (Ne.symm hb)).trans e)
  refine wpAny_pure ⟨plainId_quiet F.plain_extend_loop _, zl_loop (s := s) (h₁ := s.heap) Sp D1 D2 O low hn res hR n 0 _ _ _ _ [] (Nat.sub_zero _) (Nat.zero_le _) (.inl ⟨rfl, oth _ _ O.z gz, _, _, oth _ _ O.TO gO⟩) (oth _ _ O.TI gI)
    (D1.frame _ _ _ t1 fun b hb o e => oth b o (fun q => O.f1 (q ▸ hb)) e) (D2.frame _ _ _ t2 fun b hb o e => oth b o (fun q => O.f2 (q ▸ hb)) e) (fun b o a1 _ _ _ _ e => oth b o a1 e) gS3 rfl rfl ⟨List.Pairwise.nil, (fun _ ha => nomatch ha), fun j a hj => by simp at hj⟩⟩
theorem zl_init {S : Addr} (Sp : ZipSep2 z TI TO i1 i2 fp1 fp2) (D1 : Draws prog w A.in1.in1 i1 fp1 n P1 St1) (D2 : Draws prog w A.in1.in1 i2 fp2 n P2 St2) (O : Off z TI TO i1 i2 S fp1 fp2) (low : z < S ∧ TO < S ∧ i1 < S ∧ i2 < S) (hn : n ≤ sizeLine)
    {a0 b0 : Value} (gz : IsZip s.heap z TI TO .none) (gO : IsTupOf2 s.heap TO a0 b0) (gI : IsTupOf2 s.heap TI (.ref i1) (.ref i2)) (t1 : St1 0 s.heap) (t2 : St2 0 s.heap) (gS : s.heap.get? S = some { cls := .type "list", data := .seq #[] })
    (hR : ∀ h' tk acc c as, (∀ b o, b ≠ S → b ≠ z → b ≠ TO → b ≠ i1 → b ≠ i2 → s.heap.get? b = some o → h'.get? b = some o) → h'.get? S = some { cls := .type "list", dict := none, data := .seq acc c, slots := #[] } → as.length = n → ZG P1 P2 S h' as →
      acc.toList = as.map Value.ref → R (.ok (.ret .none)) { s with heap := h', toks := tk }) :
    wpAny (model prog w) A.in1 (Builtin.«list.__init__» ⟨[.ref S, .ref z], []⟩)
      (fun fin s' => match fin with | .done f => R (.ok f) s' | .again c' => c'.quiet = true ∧ codeAny (model prog w) A c' R s') (fun e s' => R (.error e) s') s := by
  show wpAny _ A.in1 (do let old ← Builtin.List.listItems (.ref S); Builtin.List.listUpdate (.ref S) (fun _ => #[]); letGo old.toList.reverse; Builtin.List.listExtendWith (.ref S) (.ref z) .none) _ _ s
  refine wpAny_bind ?_
  unfold Builtin.List.listItems
  refine wpAny_bind (wpAny_seqItems gS rfl (wpAny_pure ?_))
  show wpAny _ A.in1 (updateSeq S (fun _ => #[]) >>= fun _ => letGo (#[] : Array Value).toList.reverse >>= fun _ => Builtin.List.listExtendWith (.ref S) (.ref z) .none) _ _ s
  refine wpAny_bind (wpAny_updateSeq gS rfl ?_)
  have gS2 := Heap.get?_update_self (Obj.mapSeq (fun _ => (#[] : Array Value))) gS rfl
  have oth : ∀ b o, b ≠ S → s.heap.get? b = some o → (s.heap.update S (Obj.mapSeq (fun _ => (#[] : Array Value)))).get? b = some o := fun b o hb e => (Heap.get?_update_other _ _ (Ne.symm hb)).trans e
  refine wpAny_bind (wpAny_letGo ?_)
  refine zl_extend Sp D1 D2 O low hn .none _ (oth _ _ O.z gz) (oth _ _ O.TO gO) (oth _ _ O.TI gI) (D1.frame _ _ _ t1 fun b hb o e => oth b o (fun q => O.f1 (q ▸ hb)) e) (D2.frame _ _ _ t2 fun b hb o e => oth b o (fun q => O.f2 (q ▸ hb)) e) gS2 fun h' tk acc c as hk q1 q2 q3 q4 => ?_
  exact hR h' tk acc c as (fun b o a1 a2 a3 a4 a5 e => hk b o a1 a2 a3 a4 a5 (oth b o a1 e)) q1 q2 q3 q4
end
section
variable {prog : Program} {w : World} {A : Around} {E : Value → Shared → Prop} {s : Shared} {z TI TO i1 i2 : Addr} {fp1 fp2 : List Addr} {n : Nat} {P1 P2 : Nat → Value → Prop} {St1 St2 : Nat → Heap → Prop}
/-- list(a zip that has just been made) -/
theorem call_list_zip {Q : Value → Shared → Prop} (Sp : ZipSep2 z TI TO i1 i2 fp1 fp2) (D1 : Draws prog w A.in1.in1.in1 i1 fp1 n P1 St1) (D2 : Draws prog w A.in1.in1.in1 i2 fp2 n P2 St2) (hn : n ≤ sizeLine) (b1 : ∀ b ∈ fp1, b < s.heap.objs.size) (b2 : ∀ b ∈ fp2, b < s.heap.objs.size)
    {a0 b0 : Value} (gz : IsZip s.heap z TI TO .none) (gO : IsTupOf2 s.heap TO a0 b0) (gI : IsTupOf2 s.heap TI (.ref i1) (.ref i2)) (t1 : St1 0 s.heap) (t2 : St2 0 s.heap)
    (k : ∀ h' tk acc c as, (∀ b o, b ≠ z → b ≠ TO → b ≠ i1 → b ≠ i2 → s.heap.get? b = some o → h'.get? b = some o) → h'.get? s.heap.objs.size = some { cls := .type "list", dict := none, data := .seq acc c, slots := #[] } → as.length = n → ZG P1 P2 s.heap.objs.size h' as →
      acc.toList = as.map Value.ref → Q (.ref s.heap.objs.size) { s with heap := h', toks := tk }) :
    wpAny (model prog w) A (call (.type "list") [.ref z]) Q E s := by
  have lz := Heap.lt_size gz
  have lO := Heap.lt_size gO
  have lI := Heap.lt_size gI
  have li1 := b1 _ Sp.mem1
  have li2 := b2 _ Sp.mem2
  refine callType_codes (Q₁ := fun obj s₁ => obj = .ref s.heap.objs.size ∧ s₁ = { s with heap := s.heap.push { cls := .type "list", data := .seq #[] } }) F.called_list (F.typeCall_list_1 _) F.entry_list_init (code_list_new _ ⟨rfl, rfl⟩) fun obj s₁ h₁ => ?_
  obtain ⟨rfl, rfl⟩ := h₁
  have gS : (s.heap.push { cls := .type "list", data := .seq #[] }).get? s.heap.objs.size = some { cls := .type "list", data := .seq #[] } := Heap.get?_push_size _ rfl
  have up : ∀ b o, s.heap.get? b = some o → (s.heap.push { cls := .type "list", data := .seq #[] }).get? b = some o := fun b o e => Heap.get?_push_of_some _ e
  refine ⟨⟨_, gS, rfl⟩, F.args_list_init_2 _ _, zl_init (s := { s with heap := s.heap.push { cls := .type "list", data := .seq #[] } }) Sp D1 D2 ⟨Nat.ne_of_lt lz, Nat.ne_of_lt lI, Nat.ne_of_lt lO, Nat.ne_of_lt li1, Nat.ne_of_lt li2, fun q => Nat.lt_irrefl _ (b1 _ q), fun q => Nat.lt_irrefl _ (b2 _ q)⟩ ⟨lz, lO, li1, li2⟩ hn
    (up _ _ gz) (up _ _ gO) (up _ _ gI) (D1.frame _ _ _ t1 fun b _ o e => up b o e) (D2.frame _ _ _ t2 fun b _ o e => up b o e) gS fun h' tk acc c as hk q1 q2 q3 q4 => ?_⟩
  exact ⟨rfl, k h' tk acc c as (fun b o a2 a3 a4 a5 e => hk b o (Nat.ne_of_lt (Heap.lt_size e)) a2 a3 a4 a5 (up b o e)) q1 q2 q3 q4⟩
end
end ZipL

namespace ZipL
open PySem PySem.Spec PyProof.Rows L2
/-- the pairs put at their places -/
def putP : Hp → List Addr → List (V × V) → Hp
  | H, t :: ts, q :: qs => putP (upd H t (.tup [q.1, q.2])) ts qs
  | H, _, _ => H
theorem putP_off {b : Addr} : ∀ (ts : List Addr) (qs : List (V × V)) (H : Hp), b ∉ ts → putP H ts qs b = H b
  | [], _, _, _ => rfl
  | _ :: _, [], _, _ => rfl
  | t :: ts, q :: qs, H, h => by
    show putP (upd H t (.tup [q.1, q.2])) ts qs b = H b
    rw [putP_off ts qs _ (fun z => h (List.mem_cons_of_mem _ z)), upd_ne (fun z => h (by rw [z]; exact List.mem_cons_self))]
theorem putP_at : ∀ (ts : List Addr) (qs : List (V × V)) (H : Hp), ts.length = qs.length → ts.Nodup → Paired (fun (t : Addr) (q : V × V) => putP H ts qs t = some (.tup [q.1, q.2])) ts qs
  | [], [], _, _, _ => .nil
  | [], _ :: _, _, h, _ => by cases h
  | _ :: _, [], _, h, _ => by cases h
  | t :: ts, q :: qs, H, h, hn => by
    have hn' := List.nodup_cons.mp hn
    refine .cons ?_ (putP_at ts qs (upd H t (.tup [q.1, q.2])) (Nat.succ.inj h) hn'.2)
    show putP (upd H t (.tup [q.1, q.2])) ts qs t = some (.tup [q.1, q.2])
    rw [putP_off ts qs _ hn'.1, upd_same]
def tListZip (K : PySem.W.Frag) (ta : TA) : TE := fun σ H Q => ta σ H fun vs H1 => ∃ (a b : Addr) (xs ys : List V), vs = [.ref a, .ref b] ∧ SqL K H1 a xs ∧ SqT K H1 b ys ∧ xs.length = ys.length ∧
  ∀ (H' : Hp) (p : Addr) (ts : List Addr), Same H1 H' → H1 p = none → (∀ t ∈ ts, H1 t = none) → p ∉ ts → H' p = some (.lst (ts.map V.ref)) → Paired (fun (t : Addr) (q : V × V) => H' t = some (.tup [q.1, q.2])) ts (xs.zip ys) → Q (.ref p) H'
section
variable {X : Cx} {e1 e2 : Expr} {ta : TA} {p p2 pos pos2 : Pos}
theorem zip_laid {pins : List (Addr × Obj)} {σ : L2.St} {H : Hp} {s : Shared} {h' : Heap} {tk : Nat} {xs ys : List V} {us vs : List Value} {acc : Array Value} {c : Nat} {as : List Addr} (I : Inv X pins σ H s) (hz : xs.length ≤ sizeLine) (el : xs.length = ys.length) (rx : Vals xs us) (ry : Vals ys vs)
    {L : Addr} (hL : s.heap.objs.size ≤ L) (hk : ∀ b o, s.heap.get? b = some o → h'.get? b = some o) (gS : h'.get? L = some { cls := .type "list", dict := none, data := .seq acc c, slots := #[] }) (hl : as.length = xs.length)
    (G : ZG (fun i v => us.toArray[i]? = some v) (fun i v => vs.toArray[i]? = some v) L h' as) (ea : acc.toList = as.map Value.ref) :
    ∃ H' : Hp, Same H H' ∧ H L = none ∧ (∀ t ∈ as, H t = none) ∧ L ∉ as ∧ H' L = some (.lst (as.map V.ref)) ∧ Paired (fun (t : Addr) (q : V × V) => H' t = some (.tup [q.1, q.2])) as (xs.zip ys) ∧ Inv X pins σ H' { s with heap := h', toks := tk } := by
  have zl : (xs.zip ys).length = xs.length := by rw [List.length_zip, ← el, Nat.min_self]
  have sn : L ∉ as := fun z => Nat.lt_irrefl _ (G.above _ z)
  have nd : as.Nodup := List.Pairwise.imp (fun {a b} (h : a < b) => Nat.ne_of_lt h) G.rise
  have new : ∀ t ∈ as, H t = none := fun t ht => I.hok.fresh (Nat.le_trans hL (Nat.le_of_lt (G.above t ht)))
  have newS : H L = none := I.hok.fresh hL
  have atP := putP_at as (xs.zip ys) (upd H L (.lst (as.map V.ref))) (by omega) nd
  have off : ∀ b, b ∉ as → b ≠ L → putP (upd H L (.lst (as.map V.ref))) as (xs.zip ys) b = H b := fun b h1 h2 => by rw [putP_off as _ _ h1, upd_ne h2]
  have low : ∀ b o, s.heap.get? b = some o → b ∉ as ∧ b ≠ L := fun b o e => ⟨fun z => absurd (Heap.lt_size e) (Nat.not_lt.mpr (Nat.le_trans hL (Nat.le_of_lt (G.above b z)))), Nat.ne_of_lt (Nat.lt_of_lt_of_le (Heap.lt_size e) hL)⟩
  have kp : ∀ b u, H b = some u → (putP (upd H L (.lst (as.map V.ref))) as (xs.zip ys)) b = some u := fun b u e => by
    rw [off b (fun z => by rw [new b z] at e; cases e) (fun z => by rw [z, newS] at e; cases e)]
    exact e
  have eS : putP (upd H L (.lst (as.map V.ref))) as (xs.zip ys) L = some (.lst (as.map V.ref)) := by rw [putP_off as _ _ sn, upd_same]
  refine ⟨putP (upd H L (.lst (as.map V.ref))) as (xs.zip ys), kp, newS, new, sn, eS, atP, ?_⟩
  refine I.call' (ch := []) rfl ⟨fun b o q _ _ _ => hk b o q, fun b o q _ _ _ => ⟨o.slots, hk b o q⟩, fun b o q n _ => ?_, fun b o q _ => ⟨o, hk b o q⟩, fun b xs q => kp b _ q, fun b o u q => kp b _ q, fun b ps q => ⟨#[], by rw [kp b _ q]; simp⟩⟩ (fun b u q => ?_) I.bare fun b z => by simp at z
  · obtain ⟨z1, z2⟩ := low b o q
    rw [off b z1 z2]
    exact n
  · by_cases hb : b ∈ as
    · obtain ⟨j, pk, e1, e2, e3⟩ := LiI.paired_ix atP hb
      rw [e3] at q
      cases q
      obtain ⟨x, y, f1, f2, f3⟩ := G.pairs j b e1
      obtain ⟨g1, g2⟩ := List.getElem?_zip_eq_some.mp e2
      obtain ⟨x', hx', r1⟩ := rx.get g1
      obtain ⟨y', hy', r2⟩ := ry.get g2
      have f1 : us.toArray[j]? = some x := f1
      have f2 : vs.toArray[j]? = some y := f2
      rw [List.getElem?_toArray, hx'] at f1
      rw [List.getElem?_toArray, hy'] at f2
      cases f1
      cases f2
      exact ⟨by show 2 ≤ sizeLine; decide, [x, y], .cons r1 (.cons r2 .nil), ⟨_, f3, rfl, _, rfl⟩⟩
    · by_cases hb2 : b = L
      · rw [hb2] at q ⊢
        rw [eS] at q
        cases q
        refine ⟨by rw [List.length_map]; omega, acc.toList, c, by rw [ea]; exact LiI.vals_refs as, ?_⟩
        rw [Array.toArray_toList]
        exact gS
      · rw [off b hb hb2] at q
        exact (I.hok b u q).stay (fun d v _ y => hk d v y) (fun d y => kp d _ y) fun d xs y => kp d _ y
/-- list(zip(a list, a tuple)) -/
theorem pe_listZip (hc : X.calm = true) (ha : PA X [e1, e2] ta) (hg : Gl X "list") (hm : X.mg "list" = none) (hv : bootBuiltins "list" = some (.type "list")) (hg2 : Gl X "zip") (hm2 : X.mg "zip" = none)
    (hs : starEach [.Call (.Name "zip" p2) [e1, e2] [] pos2] X.env = (false, eval (.Call (.Name "zip" p2) [e1, e2] [] pos2) X.env) :: starEach [] X.env := by rfl)
    (hs2 : starEach [e1, e2] X.env = (false, eval e1 X.env) :: starEach [e2] X.env := by rfl) (hpl : (backTo pos2 (starEach [e2] X.env)).any (·.1) = false := by rfl) :
    PE X (.Call (.Name "list" p) [.Call (.Name "zip" p2) [e1, e2] [] pos2] [] pos) (tListZip X.K ta) := by
  refine ⟨fun pins s σ H Q I hq => ?_⟩
  refine wpAny_Call_Name_kw (ld_blt I hg hm hv ?_)
  refine PyProof.Rows.callWith_type1 ?_ hs rfl
  rw [hs]
  show wpAny _ _ (spliced ((false, eval (.Call (.Name "zip" p2) [e1, e2] [] pos2) X.env) :: backTo pos (starEach [] X.env))) _ _ s
  refine Calls.spliced_cons ?_
  refine Call_ (ld_blt I hg2 hm2 PyProof.Rows.boot_zip (PyProof.Rows.callWith_type1 (thn (ha.run pos2 pins s σ H _ I hq) fun us s1 ⟨vs, H1, I1, r1, q1⟩ => ?_) hs2 hpl))
  obtain ⟨a, b, xs, ys, ex, hx, hy, el, q⟩ := q1
  subst ex
  cases r1 with
  | cons r rr =>
    cases rr with
    | cons r' rr =>
      cases rr
      cases r
      cases r'
      obtain ⟨its, rv, p1, z1⟩ := I1.list hx
      obtain ⟨its2, rv2, p2', z2⟩ := I1.tuple hy
      have L1 : s1.heap.IsList a its.toArray := p1.isList
      have L2' : s1.heap.IsTuple b its2.toArray := p2'
      refine zip_begins2 (begins_list a its.toArray) (begins_tuple b its2.toArray) L1 L2' fun h1 gz gI gO g1 g2 sz kk => ?_
      have I2 : Inv X pins σ H1 { s1 with heap := h1 } := I1.kept (t' := s1.toks) kk
      have hh := I1.ok.hd hc
      have la : a < s1.heap.objs.size := p1.lt
      have lb : b < s1.heap.objs.size := let ⟨_, e, _⟩ := L2'; Heap.lt_size e
      refine Calls.spliced_nil ?_
      have D1 := Draws.list (prog := X.prog) (w := X.w) (A := X.A.in1.in1.in1) hh s1.heap.objs.size a (Nat.ne_of_lt la) its.toArray
      have D2 := Draws.tuple (prog := X.prog) (w := X.w) (A := X.A.in1.in1.in1) hh (s1.heap.objs.size + 1) b (Nat.ne_of_lt (Nat.lt_succ_of_lt lb)) its2.toArray
      have lxs := rv.length
      have lys := rv2.length
      have e12 : its2.toArray.size = its.toArray.size := by rw [List.size_toArray, List.size_toArray]; omega
      rw [e12] at D2
      have lt5 : ∀ c, c < s1.heap.objs.size + 5 → c < h1.objs.size := fun c hc => by rw [sz]; exact hc
      refine call_list_zip (s := { s1 with heap := h1 }) (zip_sep2 (N := s1.heap.objs.size) (fp1 := [a]) (fp2 := [b]) (fun c hc => by rw [List.mem_singleton.mp hc]; exact la) (fun c hc => by rw [List.mem_singleton.mp hc]; exact lb)) D1 D2 (by rw [List.size_toArray]; omega) (fun c hc => ?_) (fun c hc => ?_) gz gO gI ⟨⟨_, g1, rfl, rfl⟩, L1.at fun o e => kk a o e⟩ ⟨⟨_, g2, rfl, rfl⟩, ?_⟩ fun h2 tk acc c as kk2 gS el2 G ea => ?_
      · rcases List.mem_cons.mp hc with z | z
        · rw [z]; exact lt5 _ (Nat.lt_add_of_pos_right (by decide))
        · rw [List.mem_singleton.mp z]; exact lt5 _ (Nat.lt_of_lt_of_le la (Nat.le_add_right _ _))
      · rcases List.mem_cons.mp hc with z | z
        · rw [z]; exact lt5 _ (Nat.add_lt_add_left (by decide) _)
        · rw [List.mem_singleton.mp z]; exact lt5 _ (Nat.lt_of_lt_of_le lb (Nat.le_add_right _ _))
      · obtain ⟨o, w1, w2, w3⟩ := L2'
        exact ⟨o, kk b o w1, w2, w3⟩
      · have low : ∀ {c o} (k : Nat), s1.heap.get? c = some o → c ≠ s1.heap.objs.size + k := fun k e => Nat.ne_of_lt (Nat.lt_of_lt_of_le (Heap.lt_size e) (Nat.le_add_right _ _))
        obtain ⟨H', q1, q2, q3, q4, q5, q6, J⟩ := zip_laid (tk := tk) (L := h1.objs.size) I1 z1 el rv rv2 (by rw [sz]; exact Nat.le_add_right _ _) (fun c o e => kk2 c o (low 4 e) (low 3 e) (low 0 e) (low 1 e) (kk c o e)) gS (by rw [el2, List.size_toArray]; omega) G ea
        exact ⟨.ref _, H', J, rfl, q H' _ as q1 q2 q3 q4 q5 q6⟩
end
end ZipL

namespace K3
open PySem PySem.Spec PyProof.Rows L2 E0
theorem ps_dd {X : Cx} {st : Stmt} : PS X st (fun _ _ _ => False) := ⟨fun _ _ _ _ _ _ h => h.elim⟩
def isRs : Tr → Bool
  | .vr (_ + 2) _ => true
  | _ => false
theorem kit_Rs {K : PySem.W.Frag} {C : Cl5} (T : Ty5 K C) (t : Tr) : PySem.W.kitOne K (tyT C t) (.ref C.R) = some (isRs t) := by
  have mR : C.R ∈ C.all := C.v_mem 2
  have nd := T.nd
  simp only [Cl5.all, List.nodup_cons, List.mem_cons, List.not_mem_nil, or_false, not_or] at nd
  obtain ⟨⟨_, _, _, a4⟩, ⟨_, _, b4⟩, ⟨_, c4⟩, d4, _⟩ := nd
  match t with
  | .tx _ => exact T.bs _ mR
  | .row _ => exact T.bt _ mR
  | .vr 0 _ => exact (T.kit _ (C.v_mem 0) _ mR).trans (congrArg some (decide_eq_false c4))
  | .vr 1 _ => exact (T.kit _ (C.v_mem 1) _ mR).trans (congrArg some (decide_eq_false d4))
  | .vr (n + 2) _ => exact (T.kit _ (C.v_mem (n + 2)) _ mR).trans (by show some (decide (C.R = C.R)) = some true; rw [decide_eq_true rfl])
  | .nd false _ _ => exact (T.kit _ (C.n_mem false) _ mR).trans (congrArg some (decide_eq_false a4))
  | .nd true _ _ => exact (T.kit _ (C.n_mem true) _ mR).trans (congrArg some (decide_eq_false b4))
theorem isT_noRs {t : Tr} (h : isT t = true) : isRs t = false := by
  obtain ⟨f, ps, rfl⟩ := isT_nd h
  rfl
theorem pts_last {C : Cl5} {H : Hp} : ∀ {xs : List V} {ts : List Tr}, PtsAt C H xs ts → xs ≠ [] → ∃ x t, xs[xs.length - 1]? = some x ∧ t ∈ ts ∧ PtAt C H x t
  | [], _, _, h => absurd rfl h
  | _ :: _, [], h, _ => False.elim h
  | [x], [t], h, _ => ⟨x, t, rfl, List.mem_cons_self .., h.1⟩
  | [_], _ :: _ :: _, h, _ => False.elim h.2
  | x :: y :: xs, t :: ts, h, _ => by
    obtain ⟨z, u, e, m, p⟩ := pts_last (xs := y :: xs) h.2 (List.cons_ne_nil _ _)
    refine ⟨z, u, ?_, List.mem_cons_of_mem _ m, p⟩
    rw [← e]
    show (x :: y :: xs)[(y :: xs).length]? = (y :: xs)[(y :: xs).length - 1]?
    rw [show (y :: xs).length = ((y :: xs).length - 1) + 1 from rfl, List.getElem?_cons_succ]
    rfl
section
variable {P : Program} {w : World} {K : PySem.W.Frag} {mg : Str → Option Value} {base : Heap}
/-- row_items of a row of trees: the row itself -/
def spRowG (C : Cl5) : Sp := fun vs H Q _ => ∃ (a : Addr) (xs : List V) (ts : List Tr), vs = [.ref a] ∧ H a = some (.tup xs) ∧ PtsAt C H xs ts ∧ (∀ t ∈ ts, isT t = true) ∧ Q (.ref a) H
theorem scRowG : FnScope ["row"] ["row"] (defScope sRowItems) := ⟨rfl, rfl, rfl, by decide +kernel, rfl, by decide +kernel, by decide +kernel⟩
theorem ok_rowG {C : Cl5} {f : Addr} {fd : FuncData} (F : Fun K "row_items" "row_items" sRowItems f fd) (T : TxtT mg C) (T5 : Ty5 K C) : FnOk P w K mg base CX0 1 f fd ["row"] (spRowG C) := by
  refine F.ok scRowG (fun vs H Q E h => ?_) (fun cdv A outer s H vs Q E hr h => ?_)
  · obtain ⟨a, xs, ts, rfl, _⟩ := h
    rfl
  · obtain ⟨a, xs, ts, rfl, ha, hp, hT, k⟩ := h
    refine ⟨_, pss_cons (ps_if (PW.pt (pw_and (pt_cmpR op_gt (pe_callB call_len_seq (by rfl) T.len PySem.boot_len (pa_cons (L2.pv 0) pa_nil)) pe_int (nomark _)) (pw_and1 (pt_val (pe_callB call_isi (by rfl) T.isi PyProof.Rows.boot_isinstance (pa_cons (pe_ix ix_tup (L2.pv 0) (pe_un un_neg pe_int) (fun _ _ => rfl)) (pa_cons (pe_glob (v := .ref C.R) rfl T.gR rfl) pa_nil)))))))
        (pss_one ps_dd) pss_nil)
      (pss_one (ps_ret (L2.pv 0))), ?_⟩
    refine ⟨_, rfl, a, _, rfl, .inr (SqT.of ha), _, _, rfl, rfl, _, rfl, ?_⟩
    by_cases z : xs = []
    · subst z
      refine iteF ?_
      refine iteF ?_
      exact ⟨_, rfl, k⟩
    · have l0 : 0 < xs.length := List.length_pos_iff.mpr z
      obtain ⟨x, t, ex, m, px⟩ := pts_last hp z
      rw [decide_eq_true (show (0 : Int) < ((xs.length : Nat) : Int) by omega)]
      refine iteT ?_
      have at1 : atI xs (-1) = some x := by
        unfold atI ixN
        rw [if_neg (by decide), if_pos (by omega)]
        show xs[((-1 : Int) + ((xs.length : Nat) : Int)).toNat]? = some x
        rw [show ((-1 : Int) + ((xs.length : Nat) : Int)).toNat = xs.length - 1 by omega]
        exact ex
      refine ⟨_, rfl, _, rfl, a, _, _, x, rfl, rfl, SqT.of ha, at1, _, _, _, _, isRs t, rfl, .own _, PtAt.ty T5 px, kit_Rs T5 t, _, rfl, ?_⟩
      rw [isT_noRs (hT t m)]
      refine iteF ?_
      exact ⟨_, rfl, k⟩
end
end K3

namespace K3
open PySem PySem.Spec PyProof.Rows L2 E0
theorem kpO_upd {H : Hp} {D : Addr} {o : HO} {xs : List V} (h : H D = some (.lst xs)) : KpO H (upd H D o) := fun b u hb q => by
  have ne : b ≠ D := fun z => by rw [z, h] at q; cases q; cases hb
  rw [upd_ne ne]
  exact q
/-! ### _exchanged -/
def cntT : Tr → Nat
  | .row ts => ts.length
  | .nd .. => 1
  | _ => 0
def cntTs : List Tr → Nat
  | [] => 0
  | t :: ts => cntT t + cntTs ts
theorem cntTs_snoc : ∀ (ps : List Tr) (p : Tr), cntTs (ps ++ [p]) = cntTs ps + cntT p
  | [], p => by show cntT p + 0 = 0 + cntT p; omega
  | a :: ps, p => by
    show cntT a + cntTs (ps ++ [p]) = cntT a + cntTs ps + cntT p
    rw [cntTs_snoc ps p]
    omega
def partX (g : Tr → Tr) (n : Int) : Tr → Tr
  | .row ts => .row (rowX g n ts)
  | .nd lk f qs => if n = 0 then g (.nd lk f qs) else .nd lk f qs
  | t => t
theorem partsX_cons (g : Tr → Tr) (n : Int) (p : Tr) (ps : List Tr) : partsX g n (p :: ps) = partX g n p :: partsX g (n - cntT p) ps := by
  match p with
  | .row ts => rw [partsX]; rfl
  | .nd lk f qs => rw [partsX]; rfl
  | .tx s => rw [partsX, show n - (cntT (.tx s) : Int) = n by show n - ((0 : Nat) : Int) = n; omega] <;> first | rfl | nofun
  | .vr k s => rw [partsX, show n - (cntT (.vr k s) : Int) = n by show n - ((0 : Nat) : Int) = n; omega] <;> first | rfl | nofun
theorem partsX_snoc (g : Tr → Tr) : ∀ (ps : List Tr) (n : Int) (p : Tr), partsX g n (ps ++ [p]) = partsX g n ps ++ [partX g (n - cntTs ps) p]
  | [], n, p => by
    show partsX g n [p] = [partX g (n - ((0 : Nat) : Int)) p]
    rw [partsX_cons, show n - ((0 : Nat) : Int) = n by omega]
    rfl
  | a :: ps, n, p => by
    rw [List.cons_append, partsX_cons, partsX_snoc g ps, partsX_cons, List.cons_append, show n - (cntT a : Int) - (cntTs ps : Int) = n - (cntTs (a :: ps) : Int) by show _ = n - ((cntT a + cntTs ps : Nat) : Int); omega]
theorem rowX_snoc (g : Tr → Tr) (ts : List Tr) (n : Int) (t : Tr) : rowX g n (ts ++ [t]) = rowX g n ts ++ [if n = (ts.length : Int) then g t else t] := by
  rw [rowX_app, rowX, rowX]
  by_cases h : n = (ts.length : Int)
  · rw [if_pos h, if_pos (by omega)]
  · rw [if_neg h, if_neg (by omega)]
section
variable {P : Program} {w : World} {K : PySem.W.Frag} {mg : Str → Option Value} {base : Heap}
/-- the items of the first part, a row, are the same objects but for the one exchanged -/
def Kept0 (H H' : Hp) (xs ys : List V) (n : Int) : Prop := ∀ ra zs, xs[0]? = some (V.ref ra) → H ra = some (.tup zs) → ∃ rb ws, ys[0]? = some (V.ref rb) ∧ H' rb = some (.tup ws) ∧ ∀ j : Nat, (j : Int) ≠ n → ws[j]? = zs[j]?
def spWith (K : PySem.W.Frag) (C : Cl5) : Sp := fun vs H Q _ => ∃ (pa nl : Addr) (n : Nat) (nv : V) (xs cs : List V) (ps : List Tr) (u : Tr), vs = [.ref pa, .ref nl] ∧ H pa = some (.tup xs) ∧ H nl = some (.lst (cs.set n nv)) ∧ PtsAt C H xs ps ∧ gensT ps ∧ ps.length ≤ 9 ∧ KidsAt H xs ps cs ∧ cs.length ≤ 10000 ∧ PtAt C H nv u ∧
  ∀ H' p ys, Same H H' → H p = none → H' p = some (.lst ys) → PtsAt C H' ys (partsX (fun _ => u) n ps) → Kept0 H H' xs ys n → Q (.ref p) H'
def NEX : List Str := ["parts", "nodes", "changed", "passed", "part", "many"]
theorem scEx : FnScope NEX ["parts", "nodes"] (defScope sExchanged) := ⟨rfl, rfl, rfl, by decide +kernel, rfl, by decide +kernel, by decide +kernel⟩
theorem paired_get_of {A B : Type} {R : A → B → Prop} : ∀ {xs : List A} {ys : List B}, xs.length = ys.length → (∀ (j : Nat) x y, xs[j]? = some x → ys[j]? = some y → R x y) → Paired R xs ys
  | [], [], _, _ => .nil
  | _ :: _, [], h, _ => by cases h
  | [], _ :: _, h, _ => by cases h
  | x :: xs, y :: ys, h, k => .cons (k 0 x y rfl rfl) (paired_get_of (Nat.succ.inj h) fun j a b e1 e2 => k (j + 1) a b e1 e2)
theorem ok_with {C : Cl5} {f fN fR : Addr} {fd fdN fdR : FuncData} (F : Fun K "parts_with" "parts_with" sExchanged f fd) (T : TxtT mg C) (T5 : Ty5 K C) (GN : FnOk P w K mg base CX0 1 fN fdN ["value"] (spIsNode C)) (AN : DefA K mg "is_node" ["value"] fN fdN)
    (GR : FnOk P w K mg base CX0 1 fR fdR ["row"] (spRowG C)) (AR : DefA K mg "row_items" ["row"] fR fdR) : FnOk P w K mg base CX0 2 f fd ["parts", "nodes"] (spWith K C) := by
  refine F.ok scEx (fun vs H Q E h => ?_) (fun cdv A outer s H vs Q E hr h => ?_)
  · obtain ⟨pa, nl, n, nv, xs, cs, ps, u, rfl, _⟩ := h
    rfl
  · obtain ⟨pa, nl, n, nv, xs, cs, ps, u, rfl, hpa, hnl, hp, hg, hl, hk, hcl, hu, k⟩ := h
    have hr1 : Room 1 _ := hr
    refine ⟨_, pss_cons (ps_set (i := 2) scEx.nd rfl (Or.inl rfl) (pe_lst pa_nil)) (pss_cons (ps_set (i := 3) scEx.nd rfl (Or.inl rfl) pe_int)
      (pss_cons (ps_for PassesOwn.never rfl (pi_tup (L2.pv 0)) (pg_name (i := 4) scEx.nd rfl (Or.inl rfl))
        (pss_one (ps_if (pt_val (pe_callB call_isi (by rfl) T.isi PyProof.Rows.boot_isinstance (pa_cons (L2.pv 4) (pa_cons (pe_bltn (v := .ty "tuple") rfl T.tup PyProof.Rows.boot_tuple rfl) pa_nil))))
          (pss_cons (ps_set (i := 5) scEx.nd rfl (Or.inl rfl) (pe_callB call_len_seq (by rfl) T.len PySem.boot_len (pa_cons (pe_call GR hr1 (by rfl) AR.g AR.k AR.b .nil pass0 (pa_cons (L2.pv 4) pa_nil)) pa_nil)))
          (pss_cons (ps_expr (pe_bm PySem.F.plainAttrs_list PySem.F.slot_list_append PySem.F.type_list_append mt_append (L2.pv 2) (pa_cons (pe_op L2.op_catA (pe_callTy call_tuple_of (by rfl) T.tup PyProof.Rows.boot_tuple (pa_cons (pe_slice sl_list (L2.pv 1) (po_some (L2.pv 3)) (po_some (pe_op op_add (L2.pv 3) (L2.pv 5)))) pa_nil)) (pe_slice L2.sl_tupA (L2.pv 4) (po_some (L2.pv 5)) po_none)) pa_nil)))
          (pss_one (ps_set (i := 3) scEx.nd rfl (Or.inl rfl) (pe_op op_add (L2.pv 3) (L2.pv 5))))))
          (pss_one (ps_if (pt_val (pe_call GN hr1 (by rfl) AN.g AN.k AN.b .nil pass0 (pa_cons (L2.pv 4) pa_nil)))
            (pss_cons (ps_expr (pe_bm PySem.F.plainAttrs_list PySem.F.slot_list_append PySem.F.type_list_append mt_append (L2.pv 2) (pa_cons (pe_ix ix_list (L2.pv 1) (L2.pv 3) (fun _ _ => rfl)) pa_nil)))
            (pss_one (ps_aug (i := 3) scEx.nd rfl (Or.inl rfl) pe_int iop_add)))
            (pss_one (ps_expr (pe_bm PySem.F.plainAttrs_list PySem.F.slot_list_append PySem.F.type_list_append mt_append (L2.pv 2) (pa_cons (L2.pv 4) pa_nil)))))))))
      (pss_one (ps_ret (L2.pv 2))))), ?_⟩
    have big : sizeLine ≥ 16777216 := by decide
    have xl := pts_len hp
    have pp := ptsAt_iff.mp hp
    refine ⟨Nat.zero_le _, fun nd hnd => ?_⟩
    have s0 : Same H (upd H nd (.lst [])) := same_upd (Same.refl H) hnd
    have v0 : (upd H nd (.lst [])) nd = some (.lst []) := upd_same
    generalize upd H nd (.lst []) = H0 at s0 v0 ⊢
    refine ⟨_, rfl, pa, rfl, ⟨_, SqT.of (s0 _ _ hpa)⟩, for_tup (K := K) (a := pa) (xs := xs) (fun i σ H' => ∃ (v4 v5 : Option V) (acc csA r : List V), σ = [some (.ref pa), some (.ref nl), some (.ref nd), some (.int (cntTs (ps.take i) : Nat)), v4, v5] ∧ Same H H' ∧ H' nd = some (.lst acc) ∧ acc.length = i ∧ PtsAt C H' acc (partsX (fun _ => u) n (ps.take i)) ∧ (0 < i → Kept0 H H' xs acc n) ∧ cs = csA ++ r ∧ csA.length = cntTs (ps.take i) ∧ KidsAt H (xs.drop i) (ps.drop i) r)
      ⟨_, _, [], [], cs, rfl, s0, v0, rfl, True.intro, fun h => absurd h (by decide), rfl, rfl, hk⟩ (fun i σ H' _ ⟨_, _, _, _, _, _, s', _⟩ => SqT.of (s' _ _ hpa)) ?_ ?_⟩
    · rintro i x σ H1 hx ⟨v4, v5, acc, csA, r, rfl, s1, hN1, al, pacc, hk0, ecs, lcs, kr⟩
      obtain ⟨p, ep, hi⟩ := LiI.paired_get pp hx
      have il : i < xs.length := (List.getElem?_eq_some_iff.mp hx).1
      have hi1 := PtAt.kpo (KpO.same s1) p hi
      have gp := gens_mem hg (List.mem_of_getElem? ep)
      have ty := PtAt.ty T5 hi1
      have eps : ps.take (i + 1) = ps.take i ++ [p] := by rw [List.take_add_one, ep]; rfl
      have il2 : i < ps.length := (List.getElem?_eq_some_iff.mp ep).1
      have exd : xs.drop i = x :: xs.drop (i + 1) := by rw [List.drop_eq_getElem_cons il, (List.getElem?_eq_some_iff.mp hx).2]
      have epd : ps.drop i = p :: ps.drop (i + 1) := by rw [List.drop_eq_getElem_cons il2, (List.getElem?_eq_some_iff.mp ep).2]
      rw [exd, epd] at kr
      have fin : ∀ (H2 : Hp) (z : V) (q : Tr), Same H1 H2 → PtAt C H2 z q → q = partX (fun _ => u) (n - cntTs (ps.take i)) p → H2 nd = some (.lst acc) → (i = 0 → ∀ ra zs, x = .ref ra → H ra = some (.tup zs) → ∃ rb ws, z = .ref rb ∧ H2 rb = some (.tup ws) ∧ ∀ j : Nat, (j : Int) ≠ n → ws[j]? = zs[j]?) → acc.length < sizeLine ∧ Same H (upd H2 nd (.lst (acc ++ [z]))) ∧ (upd H2 nd (.lst (acc ++ [z]))) nd = some (.lst (acc ++ [z])) ∧ (acc ++ [z]).length = i + 1 ∧ PtsAt C (upd H2 nd (.lst (acc ++ [z]))) (acc ++ [z]) (partsX (fun _ => u) n (ps.take (i + 1))) ∧ (0 < i + 1 → Kept0 H (upd H2 nd (.lst (acc ++ [z]))) xs (acc ++ [z]) n) := fun H2 z q s2 hz eq h2 hz0 => by
        have kk := kpO_upd (o := .lst (acc ++ [z])) h2
        refine ⟨by omega, same_upd (s1.trans s2) hnd, upd_same, by rw [List.length_append, al]; rfl, ?_, fun _ ra zs hx0 hra0 => ?_⟩
        rotate_left
        · by_cases i0 : i = 0
          · have hx' := hx
            rw [i0, hx0] at hx'
            obtain ⟨rb, ws, e1, e2, e3⟩ := hz0 i0 ra zs (Option.some.inj hx').symm hra0
            have an : acc = [] := List.length_eq_zero_iff.mp (by omega)
            refine ⟨rb, ws, by rw [an, e1]; rfl, ?_, e3⟩
            rw [upd_ne (fun e => by rw [e, h2] at e2; cases e2)]
            exact e2
          · obtain ⟨rb, ws, e1, e2, e3⟩ := hk0 (by omega) ra zs hx0 hra0
            refine ⟨rb, ws, by rw [List.getElem?_append_left (by omega)]; exact e1, ?_, e3⟩
            have e4 := s2 _ _ e2
            rw [upd_ne (fun e => by rw [e, h2] at e4; cases e4)]
            exact e4
        rw [eps, partsX_snoc, ← eq]
        have hz' : PtsAt C (upd H2 nd (.lst (acc ++ [z]))) [z] [q] := ⟨PtAt.kpo kk _ hz, True.intro⟩
        exact pts_app (PtsAt.kpo kk _ (PtsAt.kpo (KpO.same s2) _ pacc)) hz'
      refine ⟨_, rfl, _, _, _, _, isRow p, rfl, .ty "tuple", ty, kit_tup T5 p, _, rfl, ?_⟩
      match p, hi1, gp, ty, eps, kr, fin with
      | .row us, hi1, gp, ty, eps, kr, fin =>
        refine iteT ?_
        obtain ⟨ra, ys, erx, hra, hys⟩ := id hi1
        subst erx
        refine ⟨_, rfl, ra, ys, us, rfl, hra, hys, gp.2.2, ra, ys, rfl, .inr (SqT.of hra), ?_⟩
        obtain ⟨ra', ys', r', e1, e2, e3, e4, e5⟩ := kr
        cases e1
        have e6 := s1 _ _ e2
        rw [hra] at e6
        cases e6
        have ef : ((ys.zip us).filter fun p => isN p.2).map Prod.fst = ys := by
          rw [List.filter_eq_self.mpr fun q hq => isT_isN (gp.2.2 q.2 (List.of_mem_zip hq).2)]
          exact List.map_fst_zip (Nat.le_of_eq e3)
        rw [ef] at e4
        refine ⟨_, rfl, .inl ⟨rfl, _, SqL.of hN1⟩, _, rfl, _, rfl, _, rfl, _, rfl, _, rfl, _, _, rfl, rfl, _, rfl, nl, cs.set n nv, rfl, SqL.of (s1 _ _ hnl), fun sl hsl => ?_⟩
        have yl : ys.length = us.length := e3
        have clen : cs.length = csA.length + (ys.length + r'.length) := by rw [ecs, e4, List.length_append, List.length_append]
        obtain ⟨seg, hseg⟩ : ∃ seg, seg = cutV (cs.set n nv) (some ((cntTs (ps.take i) : Nat) : Int)) (some (((cntTs (ps.take i) : Nat) : Int) + ((ys.length : Nat) : Int))) := ⟨_, rfl⟩
        have eseg : seg = ((cs.set n nv).drop (cntTs (ps.take i))).take ys.length := by
          rw [hseg]
          unfold cutV
          rw [show ((cntTs (ps.take i) : Nat) : Int) + ((ys.length : Nat) : Int) = ((cntTs (ps.take i) + ys.length : Nat) : Int) by omega, HT.sIx_nat, HT.sIx_nat, List.length_set, Nat.min_eq_left (by omega), Nat.min_eq_left (by omega), Nat.add_sub_cancel_left]
        have lseg : seg.length = ys.length := by
          rw [eseg, List.length_take, List.length_drop, List.length_set]
          omega
        have gseg : ∀ j : Nat, j < ys.length → seg[j]? = if n = cntTs (ps.take i) + j then some nv else ys[j]? := fun j hj => by
          rw [eseg, List.getElem?_take_of_lt hj, List.getElem?_drop, List.getElem?_set]
          by_cases q : n = cntTs (ps.take i) + j
          · rw [if_pos q, if_pos q, if_pos (by omega)]
          · rw [if_neg q, if_neg q, ecs, e4, List.getElem?_append_right (by omega), ← lcs, Nat.add_sub_cancel_left, List.getElem?_append_left hj]
        rw [← hseg]
        have s2 : Same H1 (upd H1 sl (.lst seg)) := same_upd (Same.refl H1) hsl
        have v2 : (upd H1 sl (.lst seg)) sl = some (.lst seg) := upd_same
        generalize upd H1 sl (.lst seg) = H2 at s2 v2 ⊢
        refine ⟨sl, seg, rfl, .inl ⟨SqL.of v2, fun r0 hr0 => ?_⟩⟩
        have s3 : Same H2 (upd H2 r0 (.tup seg)) := same_upd (Same.refl H2) hr0
        have v3 : (upd H2 r0 (.tup seg)) r0 = some (.tup seg) := upd_same
        generalize upd H2 r0 (.tup seg) = H3 at s3 v3 ⊢
        have s13 := s2.trans s3
        have last : ∀ (H4 : Hp) (z : Addr), Same H3 H4 → H4 z = some (.tup seg) → acc.length < sizeLine ∧ Same H (upd H4 nd (.lst (acc ++ [.ref z]))) ∧ (upd H4 nd (.lst (acc ++ [.ref z]))) nd = some (.lst (acc ++ [.ref z])) ∧ (acc ++ [V.ref z]).length = i + 1 ∧ PtsAt C (upd H4 nd (.lst (acc ++ [.ref z]))) (acc ++ [.ref z]) (partsX (fun _ => u) n (ps.take (i + 1))) ∧ (0 < i + 1 → Kept0 H (upd H4 nd (.lst (acc ++ [.ref z]))) xs (acc ++ [.ref z]) n) := fun H4 z s4 hz => by
          have s14 := s13.trans s4
          refine fin H4 (.ref z) (.row (rowX (fun _ => u) (n - cntTs (ps.take i)) us)) s14 ⟨z, seg, rfl, hz, ptsAt_iff.mpr (paired_get_of (by rw [rowX_len, lseg, yl]) fun j a b h1 h2 => ?_)⟩ rfl (s14 _ _ hN1) fun i0 ra2 zs er hr2 => ?_
          · rw [rowX_get] at h2
            cases hu : us[j]? with
            | none => rw [hu] at h2; cases h2
            | some t0 =>
              rw [hu] at h2
              have jl : j < ys.length := by rw [yl]; exact (List.getElem?_eq_some_iff.mp hu).1
              have g := gseg j jl
              have h2 : (if (n : Int) - (cntTs (ps.take i) : Nat) = (j : Int) then u else t0) = b := Option.some.inj h2
              rw [h1] at g
              by_cases q : n = cntTs (ps.take i) + j
              · rw [if_pos q] at g
                rw [if_pos (by omega)] at h2
                rw [Option.some.inj g, ← h2]
                exact PtAt.kpo (KpO.same (s1.trans s14)) _ ‹PtAt C H nv u›
              · rw [if_neg q] at g
                rw [if_neg (by omega)] at h2
                obtain ⟨t1, et, ht1⟩ := LiI.paired_get (ptsAt_iff.mp hys) g.symm
                rw [hu] at et
                cases et
                rw [← h2]
                exact PtAt.kpo (KpO.same s14) _ ht1
          · cases er
            have hr3 := s1 _ _ hr2
            rw [hra] at hr3
            cases hr3
            refine ⟨z, seg, rfl, hz, fun j hne => ?_⟩
            by_cases hj : j < ys.length
            · rw [gseg j hj, if_neg]
              rw [i0]
              show ¬ n = 0 + j
              omega
            · rw [List.getElem?_eq_none (by omega), List.getElem?_eq_none (by omega)]
        have hra3 := s13 _ _ hra
        have clk : cs = (csA ++ ys) ++ r' := by rw [ecs, e4, List.append_assoc]
        have cll : (csA ++ ys).length = cntTs (ps.take (i + 1)) := by
          rw [eps, cntTs_snoc, List.length_append, lcs, yl]
          rfl
        have sz : seg.length ≤ 10000 := by omega
        have eps3 : ((cntTs (ps.take i) : Nat) : Int) + ((ys.length : Nat) : Int) = ((cntTs (ps.take (i + 1)) : Nat) : Int) := by
          rw [eps, cntTs_snoc, show cntT (.row us) = us.length from rfl, ← yl]
          omega
        refine ⟨_, rfl, _, rfl, _, rfl, ra, ys, rfl, SqT.of hra3, fun hw => ?_, fun hnw p np => ?_⟩
        · have y0 : ys.length = 0 := by
            have q := hw.1
            rw [HT.sIx_nat, Nat.min_self] at q
            exact q
          have g0 : seg = [] := List.eq_nil_of_length_eq_zero (by omega)
          have yn : ys = [] := List.eq_nil_of_length_eq_zero y0
          refine ⟨r0, ra, seg, ys, rfl, rfl, SqT.of v3, SqT.of hra3, by omega, fun _ => ?_, fun e => absurd g0 e, fun e => absurd g0 e⟩
          obtain ⟨q1, q2, q3, q4, q5, q6⟩ := last H3 ra (Same.refl H3) (by rw [g0, ← yn]; exact hra3)
          refine ⟨nd, acc, _, rfl, rfl, s13 _ _ hN1, q1, ?_⟩
          refine ⟨_, rfl, _, rfl, _, _, rfl, rfl, ?_⟩
          refine ⟨some (.ref ra), some (.int ((ys.length : Nat) : Int)), _, csA ++ ys, r', ?_, q2, q3, q4, q5, q6, clk, cll, e5⟩
          rw [← eps3]
          rfl
        · have yp : ys.length ≠ 0 := fun q => hnw ⟨by rw [HT.sIx_nat, q]; rfl, rfl⟩
          have g0 : seg ≠ [] := fun q => yp (by rw [← lseg, q]; rfl)
          have ec : cutV ys (some ((ys.length : Nat) : Int)) none = [] := by
            unfold cutV
            rw [HT.sIx_nat, Nat.min_self, List.drop_length, List.take_nil]
          rw [ec]
          have s4 : Same H3 (upd H3 p (.tup [])) := same_upd (Same.refl H3) np
          have v4' : (upd H3 p (.tup [])) p = some (.tup []) := upd_same
          generalize upd H3 p (.tup []) = H4 at s4 v4' ⊢
          refine ⟨r0, p, seg, [], rfl, rfl, SqT.of (s4 _ _ v3), SqT.of v4', by show seg.length + 0 ≤ sizeLine; omega, fun e => absurd e g0, fun _ _ => ?_, fun _ e => absurd rfl e⟩
          obtain ⟨q1, q2, q3, q4, q5, q6⟩ := last H4 r0 s4 (s4 _ _ v3)
          refine ⟨nd, acc, _, rfl, rfl, (s13.trans s4) _ _ hN1, q1, ?_⟩
          refine ⟨_, rfl, _, rfl, _, _, rfl, rfl, ?_⟩
          refine ⟨some (.ref ra), some (.int ((ys.length : Nat) : Int)), _, csA ++ ys, r', ?_, q2, q3, q4, q5, q6, clk, cll, e5⟩
          rw [← eps3]
          rfl
      | .nd lk f1 qs, hi1, gp, ty, eps, kr, fin =>
        refine iteF ?_
        obtain ⟨rfl, _⟩ := id gp
        obtain ⟨r', e4, e5⟩ := kr
        rw [show isN (.nd false f1 qs) = true from rfl, if_pos rfl] at e4
        have nr : ∀ {z : V} {H2 : Hp}, (i = 0 → ∀ ra zs, x = .ref ra → H ra = some (.tup zs) → ∃ rb ws, z = V.ref rb ∧ H2 rb = some (.tup ws) ∧ ∀ j : Nat, (j : Int) ≠ n → ws[j]? = zs[j]?) := fun _ ra zs er hr' => by
          obtain ⟨xx, _, _, _, _, e1, e2, _⟩ := id hi
          rw [e1] at er
          cases er
          rw [e2] at hr'
          cases hr'
        refine ⟨_, rfl, x, .nd false f1 qs, rfl, hi1, fun H2 s2 => ?_⟩
        refine ⟨_, rfl, ?_⟩
        rw [show isN (.nd false f1 qs) = true from rfl]
        refine iteT ?_
        have clen : cs.length = csA.length + (1 + r'.length) := by rw [ecs, e4, List.length_append, List.length_append]; rfl
        have gx : (cs.set n nv)[cntTs (ps.take i)]? = some (if n = cntTs (ps.take i) then nv else x) := by
          rw [List.getElem?_set]
          by_cases q : n = cntTs (ps.take i)
          · rw [if_pos q, if_pos q, if_pos (by omega)]
          · rw [if_neg q, if_neg q, ecs, e4, List.getElem?_append_right (by omega), ← lcs, Nat.sub_self]
            rfl
        refine ⟨_, rfl, .inl ⟨rfl, _, SqL.of (s2 _ _ hN1)⟩, _, rfl, _, rfl, nl, _, _, _, rfl, rfl, SqL.of ((s1.trans s2) _ _ hnl), atI_nat gx, ?_⟩
        obtain ⟨q1, q2, q3, q4, q5, q6⟩ := fin H2 (if n = cntTs (ps.take i) then nv else x) (if n = cntTs (ps.take i) then u else .nd false f1 qs) s2 (by
          by_cases q : n = cntTs (ps.take i)
          · rw [if_pos q, if_pos q]; exact PtAt.kpo (KpO.same (s1.trans s2)) _ hu
          · rw [if_neg q, if_neg q]; exact PtAt.kpo (KpO.same s2) _ hi1) (by
          show _ = if (n : Int) - (cntTs (ps.take i) : Nat) = 0 then u else Tr.nd false f1 qs
          by_cases q : n = cntTs (ps.take i)
          · rw [if_pos q, if_pos (by omega)]
          · rw [if_neg q, if_neg (by omega)]) (s2 _ _ hN1) nr
        refine ⟨nd, acc, _, rfl, rfl, s2 _ _ hN1, q1, ?_⟩
        refine ⟨_, rfl, _, _, rfl, rfl, ?_⟩
        refine ⟨some x, v5, _, csA ++ [x], r', ?_, q2, q3, q4, q5, q6, by rw [ecs, e4, List.append_assoc], by rw [eps, cntTs_snoc, List.length_append, lcs]; rfl, e5⟩
        rw [eps, cntTs_snoc]
        rfl
      | .tx z, hi1, gp, ty, eps, kr, fin =>
        refine iteF ?_
        obtain ⟨r', e4, e5⟩ := kr
        rw [show isN (.tx z) = false from rfl, if_neg Bool.noConfusion, List.nil_append] at e4
        refine ⟨_, rfl, x, .tx z, rfl, hi1, fun H2 s2 => ?_⟩
        refine ⟨_, rfl, ?_⟩
        rw [show isN (.tx z) = false from rfl]
        refine iteF ?_
        obtain ⟨q1, q2, q3, q4, q5, q6⟩ := fin H2 x (.tx z) s2 (PtAt.kpo (KpO.same s2) _ hi1) rfl (s2 _ _ hN1) fun _ ra zs er hr' => by
          rw [show x = V.str z from hi] at er
          cases er
        refine ⟨_, rfl, .inl ⟨rfl, _, SqL.of (s2 _ _ hN1)⟩, _, rfl, nd, acc, _, rfl, rfl, s2 _ _ hN1, q1, ?_⟩
        refine ⟨some x, v5, _, csA, r, ?_, q2, q3, q4, q5, q6, ecs, by rw [eps, cntTs_snoc, lcs]; rfl, by rw [e4]; exact e5⟩
        rw [eps, cntTs_snoc]
        rfl
      | .vr k s, hi1, gp, ty, eps, kr, fin => exact False.elim gp
    · rintro σ H1 ⟨v4, v5, acc, csA, r, rfl, s1, hN1, al, pacc, hk0, ecs, lcs, kr⟩
      rw [xl, List.take_length] at pacc
      refine ⟨_, rfl, k H1 nd acc s1 hnd hN1 pacc ?_⟩
      by_cases z : 0 < xs.length
      · exact hk0 z
      · intro ra zs h
        rw [List.getElem?_eq_none (by omega)] at h
        cases h
end
end K3

namespace K3
open PySem PySem.Spec PyProof.Rows L2 E0
/-! ### put -/
theorem place_split : ∀ {p q : List Nat} {t c u : Tr}, genT t → isT t = true → atP t p = some c → placeT (p ++ q) t u = placeT p t (placeT q c u)
  | [], q, t, c, u, _, _, h => by
    rw [atP_nil] at h
    cases h
    rfl
  | n :: p, q, t, c, u, hg, h1, h => by
    obtain ⟨f, ps, rfl⟩ := isT_nd h1
    rw [atP_nd] at h
    cases hk : (below ps)[n]? with
    | none => rw [hk] at h; cases h
    | some k =>
      rw [hk] at h
      obtain ⟨g1, g2⟩ := gens_below hg.2.2.2.2
      have m := List.mem_of_getElem? hk
      have e := place_split (q := q) (u := u) (gens_mem g1 m) (g2 k m) h
      show Tr.nd false f (partsX (fun k => placeT (p ++ q) k u) n ps) = .nd false f (partsX (fun k => placeT p k (placeT q c u)) n ps)
      rw [partsX_at (fun k => placeT (p ++ q) k u) (fun k => placeT p k (placeT q c u)) k n hg.2.2.2.2 (fun j z => by rw [show j = n by omega]; exact hk) e]
mutual
theorem lev_size : ∀ t : Tr, levels t ≤ size t
  | .tx _ => by simp [levels]
  | .vr 0 _ => by simp [levels, size]
  | .vr (_ + 1) _ => by simp [levels]
  | .row ts => by
    simp only [levels, size]
    exact levs_size ts
  | .nd _ _ ps => by
    have := levs_size ps
    simp only [levels, size]
    omega
theorem levs_size : ∀ ts : List Tr, levelss ts ≤ sizes ts
  | [] => Nat.le_refl _
  | t :: ts => by
    have q1 := lev_size t
    have q2 := levs_size ts
    show max (levels t) (levelss ts) ≤ size t + sizes ts
    omega
end
def fitsT (t : Tr) : Bool := decide (size t ≤ 400) && decide (levels t ≤ 100)
theorem fitsT_nd {f : Str} {ps : List Tr} : fitsT (.nd false f ps) = fitsS ps := by
  unfold fitsT fitsS
  rw [show size (.nd false f ps) = 1 + sizes ps by simp only [size], show levels (.nd false f ps) = levelss ps + 1 by simp only [levels]]
def okPut (p : List Nat) (t u : Tr) : Bool := p.isEmpty || fitsT (placeT p t u)
def natV (p : List Nat) : List V := p.map fun n : Nat => V.int (n : Int)
def natN (p : List Nat) : List (Option Int) := p.map fun n : Nat => some (n : Int)
theorem path_vals {K : PySem.W.Frag} {H : Hp} : ∀ {xs : List V} {p : List Nat}, Paired (NumAt K H) xs (natN p) → xs = natV p
  | [], [], _ => rfl
  | x :: xs, n :: p, h => by
    cases h with
    | cons a b =>
      rw [path_vals b, show x = V.int (n : Int) from a]
      rfl
  | [], _ :: _, h => nomatch h
  | _ :: _, [], h => nomatch h
theorem vals_path {K : PySem.W.Frag} {H : Hp} : ∀ (p : List Nat), Paired (NumAt K H) (natV p) (natN p)
  | [] => .nil
  | n :: p => .cons rfl (vals_path p)
theorem pathV_of {K : PySem.W.Frag} {H : Hp} {a : Addr} {p : List Nat} (h : H a = some (.tup (natV p))) : PathV K H (.ref a) (some (natN p)) := ⟨a, _, rfl, h, vals_path p⟩
theorem natV_len (p : List Nat) : (natV p).length = p.length := by unfold natV; rw [List.length_map]
theorem cut_to {l : List V} {i : Nat} (h : i ≤ l.length) : cutV l none (some (i : Int)) = l.take i := by
  unfold cutV
  rw [HT.sIx_none, HT.sIx_nat, Nat.min_eq_left h]
  rfl
section
variable {P : Program} {w : World} {K : PySem.W.Frag} {mg : Str → Option Value} {base : Heap}
/-- put at a path of one number: the other items of the first part are the same objects -/
def Kept1 (H H' : Hp) (v v' : V) (n : Int) : Prop := ∀ x xs, v = .ref x → HasP H x xs → ∃ y ys, v' = .ref y ∧ HasP H' y ys ∧ Kept0 H H' xs ys n
theorem len_sizes : ∀ {ts : List Tr}, (∀ t ∈ ts, isT t = true) → ts.length ≤ sizes ts
  | [], _ => Nat.zero_le _
  | t :: ts, h => by
    obtain ⟨f, ps, rfl⟩ := isT_nd (h t (List.mem_cons_self ..))
    have q := len_sizes fun t' m => h t' (List.mem_cons_of_mem _ m)
    show ts.length + 1 ≤ size (.nd false f ps) + sizes ts
    simp only [size]
    omega
theorem below_le : ∀ {ps : List Tr}, gensT ps → (below ps).length ≤ sizes ps
  | [], _ => Nat.zero_le _
  | .row ts :: ps, h => by
    rw [below_row h.1.2.2, List.length_append]
    have q := below_le h.2
    have q2 := len_sizes h.1.2.2
    show ts.length + (below ps).length ≤ size (.row ts) + sizes ps
    simp only [size]
    omega
  | .nd lk f qs :: ps, h => by
    have q := below_le h.2
    show (below ps).length + 1 ≤ size (.nd lk f qs) + sizes ps
    simp only [size]
    omega
  | .tx s :: ps, h => by
    have q := below_le h.2
    show (below ps).length ≤ size (.tx s) + sizes ps
    omega
  | .vr k s :: ps, h => False.elim h.1
def spPut (K : PySem.W.Frag) (C : Cl5) (CI CP : Addr) : Sp := fun vs H Q E => ∃ (v pv ov : V) (t u : Tr), vs = [v, pv, ov] ∧ PtAt C H v t ∧ genT t ∧ isT t = true ∧ size t ≤ 1000 ∧ PtAt C H ov u ∧ genT u ∧ isT u = true ∧ size u ≤ 1000 ∧
  ((∃ ns, PathV K H pv ns ∧ foundV t ns = none ∧ ∀ H' dd, Same H H' → H dd = none → H' dd = some (.xd [("value", pv)]) → E (.ref CP) (some dd) H') ∨
   (∃ p, PathV K H pv (some (natN p)) ∧ (atP t p).isSome = true ∧ (okPut p t u = true → ∀ H' v', Same H H' → PtAt C H' v' (placeT p t u) → ((p ≠ [] ∨ NoF C H ov) → NoF C H' v') → (∀ n : Nat, p = [n] → Kept1 H H' v v' (n : Int)) → Q v' H') ∧
      (okPut p t u = false → ∀ H' dd, Same H H' → H dd = none → H' dd = some (.xd [("part", .str "size")]) → E (.ref CI) (some dd) H')))
def NPUT : List Str := ["self", "path", "other", "uppers", "node", "number", "upper", "children", "parts", "at", "child"]
theorem scPut : FnScope NPUT ["self", "path", "other"] (defScope sPut) := ⟨rfl, rfl, rfl, by decide +kernel, rfl, by decide +kernel, by decide +kernel⟩
structure TxtPut (P : Program) (w : World) (K : PySem.W.Frag) (mg : Str → Option Value) (base : Heap) (C : Cl5) (CI CP fH fX fT : Addr) (fdX : FuncData) : Prop where
  T : TxtT mg C
  T5 : Ty5 K C
  N5 : Na5 K C
  er : ErrP P K mg CP
  OH : OwnC K C.T "__contains__" fH
  GH : FnR P w K mg base CX0 3 fH (spHas K C)
  GX : FnOk P w K mg base CX0 2 fX fdX ["parts", "nodes"] (spWith K C)
  AX : DefA K mg "parts_with" ["parts", "nodes"] fX fdX
  MT : Mk K C.T fT
  GT : FnR P w K mg base (L2.CX P w) 4 fT (spTreeNew K C CI)
  rev : mg "reversed" = none
  li : mg "list" = none
  zp : mg "zip" = none
  en : mg "enumerate" = none
theorem body_put {C : Cl5} {CI CP fH fX fT : Addr} {fdX : FuncData} (T : TxtPut P w K mg base C CI CP fH fX fT fdX) {f : Addr} {cdv : Value} {A : Around} {outer : List Env} {s : Shared} {H : Hp} {vs : List V} {Q : VK} {E : XK} (hr : Room 5 (A.deeper (PyProof.Rows.envOfC "Tree.put" (defScope sPut) s.heap.objs.size f cdv))) (h : spPut K C CI CP vs H Q E) :
    ∃ t, PSs (cxOf (L2.CX P w) P w K mg base NPUT "Tree.put" (defScope sPut) f cdv A outer s H E) (defBody sPut) t ∧ t { nx := fun _ H' => Q .non H', rt := Q } (L2.start NPUT vs) H := by
  obtain ⟨v, pv, ov, t, u, rfl, hv, hg, h1, hsz, hov, gu, tu, usz, h⟩ := h
  have hr4 : Room 4 _ := hr.mono (by decide)
  have hr3 : Room 3 _ := hr.mono (by decide)
  have hr2 : Room 2 _ := hr.mono (by decide)
  have hr1 : Room 1 _ := hr.mono (by decide)
  have tkE : Takes (cxOf (L2.CX P w) P w K mg base NPUT "Tree.put" (defScope sPut) f cdv A outer s H E) (fun cls dd _ H => E cls dd H) := takes_of rfl rfl rfl rfl
  have hx := passes_call tkE (E := E) (fun _ _ _ _ q => q)
  refine ⟨_, pss_cons (ps_if (pt_cmpR (op_notInO (E := E0) T.OH T.GH hr3 pass0) (L2.pv 1) (L2.pv 0) (by with_unfolding_all rfl)) (pss_one (ps_raise rfl tkE (pmk_value T.er hr2 rfl (L2.pv 1)))) pss_nil)
      (pss_cons (ps_set (i := 3) scPut.nd rfl (.inl rfl) (pe_lst pa_nil))
      (pss_cons (ps_set (i := 4) scPut.nd rfl (.inr rfl) (L2.pv 0))
      (pss_cons (ps_for (passes_of rfl) rfl (pi_tup (L2.pv 1)) (pg_name (i := 5) scPut.nd rfl (.inr rfl))
        (pss_cons (ps_expr (pe_bm PySem.F.plainAttrs_list PySem.F.slot_list_append PySem.F.type_list_append mt_append (L2.pv 3) (pa_cons (L2.pv 4) pa_nil)))
        (pss_one (ps_set (i := 4) scPut.nd rfl (.inr rfl) (pe_ix ix_tup (pe_fld (L2.pv 4) rfl) (L2.pv 5) (fun _ _ => rfl))))))
      (pss_cons (ps_set (i := 4) scPut.nd rfl (.inr rfl) (L2.pv 2))
      (pss_cons (ps_for (passes_of rfl) rfl (RT.pi_revA rfl T.rev (ZipL.pe_listZip rfl (pa_cons (L2.pv 3) (pa_cons (L2.pv 1) pa_nil)) rfl T.li (by decide +kernel) rfl T.zp)) (pg_tup (by rfl) (pgs_cons (pg_name (i := 6) scPut.nd rfl (.inl rfl)) (pgs_cons (pg_name (i := 5) scPut.nd rfl (.inr rfl)) pgs_nil)))
        (pss_cons (ps_setLc (i := 7) (own := [("at", 9), ("child", 10)]) (g := gTup K 2 (gCons (gName 9) (gCons (gName 10) gNil))) (tt := tYes) (te := tIf (tTest (tOp rEq (tVar 9) (tVar 5))) (tVar 4) (tVar 10)) rfl scPut.nd rfl rfl (sw_true rfl rfl rfl (by decide +kernel)) (pi_enumT rfl T.en (pa_cons (pe_fld (L2.pv 6) rfl) pa_nil))
              (blkOk_by (N := NPUT) (sc := defScope sPut) (by decide +kernel)) (fun _ _ _ _ _ => pg_tup (by rfl) (pgs_cons (pg_name (i := 9) scPut.nd rfl (.inl rfl)) (pgs_cons (pg_name (i := 10) scPut.nd rfl (.inl rfl)) pgs_nil))) (fun _ _ _ _ _ => pts_nil)
              (fun _ _ _ _ _ => pe_ifExp (pt_cmpR op_eq (L2.pv 9) (L2.pv 5) (nomark _)) (L2.pv 4) (L2.pv 10)))
        (pss_cons (ps_set (i := 8) scPut.nd rfl (.inl rfl) (pe_call T.GX hr2 (by rfl) T.AX.g T.AX.k T.AX.b .nil pass0 (pa_cons (pe_fld (L2.pv 6) rfl) (pa_cons (L2.pv 7) pa_nil))))
        (pss_one (ps_set (i := 4) scPut.nd rfl (.inr rfl) (pe_mkTS (E := E) T.MT T.GT hr rfl T.T.gT hx (pa_cons (pe_fld (L2.pv 6) rfl) (StX.pa_star (L2.pv 8) pa_nil))))))))
      (pss_one (ps_ret (L2.pv 4)))))))), ?_⟩
  have mT : C.T ∈ C.all := C.n_mem false
  have cl := (T.T5.own _ mT).cl
  have na := T.N5.na _ mT
  obtain ⟨f0, ps0, rfl⟩ := isT_nd h1
  obtain ⟨x0, dx0, fs0, _, _, rfl, hx0, _⟩ := id hv
  rcases h with ⟨ns, hp, fn, k⟩ | ⟨p, hp, hat, k1, k2⟩
  · refine ⟨_, rfl, _, rfl, x0, dx0, fs0, rfl, hx0, .ref x0, pv, _, ns, rfl, hv, hg, h1, hp, false, by rw [fn]; rfl, _, rfl, ?_⟩
    refine iteT ?_
    refine ⟨_, rfl, ?_⟩
    exact raise_ansV fun dd hdd => k _ dd (same_upd (Same.refl H) hdd) hdd upd_same
  · generalize ht0 : Tr.nd false f0 ps0 = t at hv hg h1 hsz hat k1 k2
    clear ht0
    have fe : foundV t (some (natN p)) = atP t p := walkV_at
    refine ⟨_, rfl, _, rfl, x0, dx0, fs0, rfl, hx0, .ref x0, pv, t, _, rfl, hv, hg, h1, hp, true, by rw [fe, hat], _, rfl, ?_⟩
    refine iteF ?_
    obtain ⟨pa, xs, rfl, hpa, hxs⟩ := hp
    have exs := path_vals hxs
    subst exs
    have pl := natV_len p
    have big_ : sizeLine ≥ 16777216 := by decide
    have p60 : p.length ≤ 1000 := by
      obtain ⟨kk, hk⟩ := Option.isSome_iff_exists.mp hat
      have q := (atP_gen hg h1 hk).2.2.2.1
      have := lev_size t
      omega
    refine ⟨Nat.zero_le _, fun ul hul => ?_⟩
    have sa : Same H (upd H ul (.lst [])) := same_upd (Same.refl H) hul
    have va : (upd H ul (.lst [])) ul = some (.lst []) := upd_same
    generalize upd H ul (.lst []) = Ha at sa va ⊢
    refine ⟨_, rfl, _, rfl, pa, rfl, ⟨_, SqT.of (sa _ _ hpa)⟩, for_tup (K := K) (a := pa) (xs := natV p) (fun i σ H' => ∃ (v5 : Option V) (us : List V) (nv : V) (c : Tr), σ = [some (.ref x0), some (.ref pa), some ov, some (.ref ul), some nv, v5, none, none, none, none, none] ∧ Same H H' ∧ H' ul = some (.lst us) ∧ us.length = i ∧
        (∀ j, j < i → ∃ uv c0, us[j]? = some uv ∧ atP t (p.take j) = some c0 ∧ PtAt C H uv c0 ∧ (j = 0 → uv = .ref x0)) ∧ atP t (p.take i) = some c ∧ PtAt C H nv c ∧ (i = 0 → nv = .ref x0))
      ⟨_, [], .ref x0, t, rfl, sa, va, rfl, fun j h => absurd h (Nat.not_lt_zero _), by rw [List.take_zero, atP_nil], hv, fun _ => rfl⟩ (fun i σ H' _ ⟨_, _, _, _, _, s', _⟩ => SqT.of (s' _ _ hpa)) ?_ ?_⟩
    · rintro i x σ H1 hx ⟨v5, us, nv, c, rfl, s1, hus, lus, prev, hc, hnv, h0⟩
      have il : i < p.length := by rw [← pl]; exact (List.getElem?_eq_some_iff.mp hx).1
      obtain ⟨n, hn⟩ : ∃ n, p[i]? = some n := ⟨p[i], List.getElem?_eq_getElem il⟩
      have ex : V.int (n : Int) = x := by
        unfold natV at hx
        rw [List.getElem?_map, hn] at hx
        exact Option.some.inj hx
      subst ex
      have etk : p.take (i + 1) = p.take i ++ [n] := by rw [List.take_add_one, hn]; rfl
      obtain ⟨c2, hc2⟩ : ∃ c2, atP t (p.take (i + 1)) = some c2 := by
        obtain ⟨kk, hkk⟩ := Option.isSome_iff_exists.mp hat
        have e := atP_app (p := p.take (i + 1)) (q := p.drop (i + 1)) (t := t)
        rw [List.take_append_drop, hkk] at e
        cases h : atP t (p.take (i + 1)) with
        | none => rw [h] at e; cases e
        | some z => exact ⟨z, rfl⟩
      have hc3 := hc2
      rw [etk, atP_app, hc] at hc3
      have hc3 : atP c [n] = some c2 := hc3
      obtain ⟨gc, tc, _⟩ := atP_gen hg h1 hc
      obtain ⟨f1, ps1, rfl⟩ := isT_nd tc
      rw [atP_nd] at hc3
      cases hk : (below ps1)[n]? with
      | none => rw [hk] at hc3; cases hc3
      | some c1 =>
        rw [hk] at hc3
        have hc3 : atP c1 [] = some c2 := hc3
        rw [atP_nil] at hc3
        cases hc3
        obtain ⟨ux, udx, ufs, upa, uxs, rfl, i2, i3, i4, i5, i6, _, _, _, ik⟩ := id hnv
        obtain ⟨ca, cs, k1', k2', k3'⟩ := ik rfl
        obtain ⟨cv, ecv, pcv⟩ : ∃ cv, cs[n]? = some cv ∧ PtAt C H cv c2 := by
          have ps := ptsAt_iff.mp (kids_pts k3' i6)
          have ln := ps.length
          have nl : n < cs.length := by rw [ln]; exact (List.getElem?_eq_some_iff.mp hk).1
          obtain ⟨y, ey, py⟩ := LiI.paired_get ps (List.getElem?_eq_getElem nl)
          rw [hk] at ey
          cases ey
          exact ⟨_, List.getElem?_eq_getElem nl, py⟩
        refine ⟨_, rfl, .inl ⟨rfl, _, SqL.of hus⟩, _, rfl, ul, us, _, rfl, rfl, hus, by have := big_; omega, ?_⟩
        have e2 : Same H (upd H1 ul (.lst (us ++ [.ref ux]))) := same_upd s1 hul
        refine ⟨_, rfl, ux, C.T, udx, ufs, _, rfl, e2 _ _ i2, cl, na _ (by decide +kernel), k1', _, rfl, ca, cs, (n : Int), cv, rfl, rfl, SqT.of (e2 _ _ k2'), atI_nat ecv, ?_⟩
        refine ⟨some (.int (n : Int)), us ++ [.ref ux], cv, c2, rfl, e2, upd_same, by rw [List.length_append, lus]; rfl, fun j hj => ?_, hc2, pcv, fun q => absurd q (Nat.succ_ne_zero _)⟩
        by_cases q : j = i
        · subst q
          exact ⟨_, _, by rw [List.getElem?_append_right (by omega), lus, Nat.sub_self]; rfl, hc, hnv, h0⟩
        · obtain ⟨uv, c0, a1, a2, a3, a4⟩ := prev j (by omega)
          exact ⟨uv, c0, by rw [List.getElem?_append_left (by omega)]; exact a1, a2, a3, a4⟩
    · rintro σ H1 ⟨v5, us, nv, c, rfl, s1, hus, lus, prev, _⟩
      rw [pl] at lus prev
      refine ⟨_, rfl, _, rfl, _, rfl, ul, pa, us, natV p, rfl, SqL.of hus, SqT.of (s1 _ _ hpa), by rw [lus, pl], fun H2 lp ts s2 n1 n2 n3 hl hpr => ?_⟩
      have lts : ts.length = p.length := by rw [hpr.length, List.length_zip, lus, pl, Nat.min_self]
      have s12 := s1.trans s2
      have ltm : (ts.map V.ref).length = p.length := by rw [List.length_map, lts]
      refine ⟨lp, ts.map V.ref, rfl, .inl ⟨SqL.of hl, for_it walk_rev (fun i σ H' => ∃ (nv : V) (c : Tr) (v5 v6 v7 v8 : Option V), σ = [some (.ref x0), some (.ref pa), some ov, some (.ref ul), some nv, v5, v6, v7, v8, none, none] ∧ Same H2 H' ∧ atP t (p.take (p.length - i)) = some c ∧ PtAt C H' nv (placeT (p.drop (p.length - i)) c u) ∧ ((i = 0 ∧ nv = ov) ∨ (fitsT (placeT (p.drop (p.length - i)) c u) = true ∧ NoF C H' nv ∧ ∀ n : Nat, p = [n] → Kept1 H H' (.ref x0) nv (n : Int))))
        ?_ (fun i σ H' _ ⟨_, _, _, _, _, _, _, s', _⟩ => SqL.of (s' _ _ hl)) ?_ ?_⟩⟩
      · obtain ⟨c, hc⟩ := Option.isSome_iff_exists.mp hat
        refine ⟨ov, c, _, _, _, _, rfl, Same.refl H2, ?_, ?_, .inl ⟨rfl, rfl⟩⟩
        · rw [Nat.sub_zero, List.take_length, hc]
        · rw [Nat.sub_zero, List.drop_length]
          exact PtAt.kpo (KpO.same s12) _ hov
      · rintro i x σ H9 H3 hi ⟨nv, c, v5, v6, v7, v8, rfl, s3, hc, hnv, _⟩ ⟨rfl, ex⟩
        rw [ltm] at hi ex
        have s13 := s12.trans s3
        obtain ⟨d, hd⟩ : ∃ d, d = p.length - 1 - i := ⟨_, rfl⟩
        rw [← hd] at ex
        have hdl : d < p.length := by omega
        rw [show p.length - i = d + 1 by omega] at hc hnv
        obtain ⟨Tq, eT, rfl⟩ : ∃ Tq, ts[d]? = some Tq ∧ V.ref Tq = x := by
          rw [List.getElem?_map] at ex
          cases h : ts[d]? with
          | none => rw [h] at ex; cases ex
          | some z => rw [h] at ex; exact ⟨z, rfl, Option.some.inj ex⟩
        obtain ⟨q, eq, hTq⟩ := LiI.paired_get hpr eT
        obtain ⟨eu, en⟩ := List.getElem?_zip_eq_some.mp eq
        obtain ⟨n, hn⟩ : ∃ n, p[d]? = some n := ⟨p[d], List.getElem?_eq_getElem hdl⟩
        have en2 : V.int (n : Int) = q.2 := by
          unfold natV at en
          rw [List.getElem?_map, hn] at en
          exact Option.some.inj en
        obtain ⟨uv, c0, b1, hc0, huvH, huv0⟩ := prev d hdl
        rw [eu] at b1
        have eq1 : q.1 = uv := Option.some.inj b1
        rw [eq1, ← en2] at hTq
        have etk : p.take (d + 1) = p.take d ++ [n] := by rw [List.take_add_one, hn]; rfl
        have edr : p.drop d = n :: p.drop (d + 1) := by rw [List.drop_eq_getElem_cons hdl, (List.getElem?_eq_some_iff.mp hn).2]
        rw [etk, atP_app, hc0] at hc
        have hc : atP c0 [n] = some c := hc
        obtain ⟨gc0, tc0, zc0, _, _⟩ := atP_gen hg h1 hc0
        obtain ⟨f1, ps1, rfl⟩ := isT_nd tc0
        rw [atP_nd] at hc
        cases hk : (below ps1)[n]? with
        | none => rw [hk] at hc; cases hc
        | some c1 =>
          rw [hk] at hc
          have hc : atP c1 [] = some c := hc
          rw [atP_nil] at hc
          have hcc : c1 = c := Option.some.inj hc
          subst hcc
          obtain ⟨g1, g2⟩ := gens_below gc0.2.2.2.2
          have m := List.mem_of_getElem? hk
          have gc := gens_mem g1 m
          have tc := g2 c1 m
          obtain ⟨ux, udx, ufs, upa, uxs, rfl, i2, i3, i4, i5, i6, _, _, _, ik⟩ := id (PtAt.kpo (KpO.same s13) _ huvH)
          obtain ⟨ca, cs, k1', k2', k3'⟩ := ik rfl
          have csl : cs.length = (below ps1).length := pts_len (kids_pts k3' i6)
          refine ⟨Tq, _, rfl, .inl (.inl (s3 _ _ hTq)), rfl, _, _, rfl, ?_⟩
          have bl := below_le gc0.2.2.2.2
          have zc1 := zc0
          simp only [size] at zc1
          refine ⟨_, _, rfl, rfl, ?_⟩
          refine ⟨_, rfl, ux, C.T, udx, ufs, _, rfl, i2, cl, na _ (by decide +kernel), k1', ca, cs, rfl, SqT.of k2', fun D hD => lc_it walk_enumT (fun j H' => Same H3 H' ∧ H' D = some (.lst ((cs.set n nv).take j)))
            ⟨same_upd (Same.refl H3) hD, upd_same⟩ (fun j H' _ ⟨s', _⟩ => SqT.of (s' _ _ k2')) ?_ ?_⟩
          · rintro j vv H5 H6 hj ⟨s5, e5⟩ ⟨Tp, y, z, rfl, hT, rfl, ey, ez⟩
            have ey : some (V.int (j : Nat)) = some y := ey
            cases ey
            have ez : cs[j]? = some z := ez
            have s7 : Same H5 (upd H5 Tp (.tup [.int (j : Nat), z])) := same_upd (Same.refl H5) hT
            have v7' : (upd H5 Tp (.tup [.int (j : Nat), z])) Tp = some (.tup [.int (j : Nat), z]) := upd_same
            generalize upd H5 Tp (.tup [.int (j : Nat), z]) = H7 at s7 v7' ⊢
            refine ⟨Tp, _, rfl, .inl (.inl v7'), rfl, _, _, rfl, ?_⟩
            refine ⟨_, _, rfl, rfl, rfl, ?_⟩
            dsimp only [tYes]
            rw [if_pos rfl]
            have jl := (List.getElem?_eq_some_iff.mp ez).1
            have e7 := s7 _ _ e5
            have fin2 : ∀ (v : V), (cs.set n nv)[j]? = some v → ∃ xs, H7 D = some (.lst xs) ∧ xs.length < sizeLine ∧ Same H3 (upd H7 D (.lst (xs ++ [v]))) ∧ (upd H7 D (.lst (xs ++ [v]))) D = some (.lst ((cs.set n nv).take (j + 1))) := fun v hv => by
              refine ⟨_, e7, ?_, same_upd (s5.trans s7) hD, ?_⟩
              · rw [List.length_take, List.length_set]
                omega
              · rw [upd_same, List.take_add_one, hv]
                rfl
            refine ⟨_, rfl, _, rfl, rfl, _, rfl, ?_⟩
            by_cases q : n = j
            · rw [show decide (V.int ((j : Nat) : Int) = V.int (n : Int)) = true from decide_eq_true (by rw [q])]
              refine iteT ?_
              exact ⟨_, rfl, fin2 _ (by rw [List.getElem?_set, if_pos q, if_pos (by omega)])⟩
            · rw [show decide (V.int ((j : Nat) : Int) = V.int (n : Int)) = false from decide_eq_false (fun e => q (by cases e; rfl))]
              refine iteF ?_
              exact ⟨_, rfl, fin2 _ (by rw [List.getElem?_set, if_neg q, ez])⟩
          · rintro H5 ⟨s5, e5⟩
            rw [show cs.length = (cs.set n nv).length by rw [List.length_set], List.take_length] at e5
            have s15 := s13.trans s5
            refine ⟨_, rfl, ux, C.T, udx, ufs, _, rfl, s5 _ _ i2, cl, na _ (by decide +kernel), i4, _, rfl, ?_⟩
            have gsp := partsX_gen (g := fun _ => placeT (p.drop (d + 1)) c1 u) (fun t _ _ => place_gen gc tc gu tu) n gc0.2.2.2.2
            refine ⟨upa, D, n, nv, uxs, cs, ps1, placeT (p.drop (d + 1)) c1 u, rfl, s5 _ _ i5, e5, PtsAt.kpo (KpO.same s5) _ i6, gc0.2.2.2.2, gc0.2.2.2.1, KidsAt.kpo (KpO.same s5) k3', by omega, PtAt.kpo (KpO.same s5) _ hnv, fun H6 lp2 ys s6 nlp v3 hys kept => ?_⟩
            have st := place_step (f := f1) (p := p.drop (d + 1)) (u := u) gc0.2.2.2.2 hk
            obtain ⟨kk, hkk⟩ : ∃ kk, atP (.nd false f1 ps1) (p.drop d) = some kk := by
              obtain ⟨kk, hkk⟩ := Option.isSome_iff_exists.mp hat
              refine ⟨kk, ?_⟩
              have e := atP_app (p := p.take d) (q := p.drop d) (t := t)
              rw [List.take_append_drop, hc0, hkk] at e
              exact e.symm
            have psz := place_sz gc0 rfl gu tu hkk
            rw [edr, st] at psz
            have psz1 := psz.1
            simp only [size] at psz1 zc0
            -- the node made anew
            have e3 := s6 _ _ (s5 _ _ i2)
            refine ⟨_, rfl, ux, C.T, udx, ufs, _, rfl, e3, cl, na _ (by decide +kernel), i3, _, rfl, lp2, ys, rfl, .inr (SqL.of v3), ?_⟩
            unfold tNil
            dsimp only
            rw [List.append_nil]
            refine mkT_gen gc0.2.1 gc0.2.2.1 hys gsp.1 (by rw [partsX_len]; exact gc0.2.2.2.1) (by omega) ?_
            cases hf : fitsS (partsX (fun _ => placeT (p.drop (d + 1)) c1 u) n ps1) with
            | true =>
              rw [if_pos rfl]
              intro H4 y s4 _ py hpy
              refine ⟨.ref y, .nd false f1 ps1, _, _, _, _, rfl, (s3.trans (s5.trans (s6.trans s4))), ?_, ?_, .inr ⟨?_, noF_of py hpy, fun n' ep => ?_⟩⟩
              · rw [show p.length - (i + 1) = d by omega]
                exact hc0
              · rw [show p.length - (i + 1) = d by omega, edr, st]
                exact py
              · rw [show p.length - (i + 1) = d by omega, edr, st, fitsT_nd]
                exact hf
              · subst ep
                have d0 : d = 0 := by have : d < 1 := hdl; omega
                subst d0
                have en : n' = n := Option.some.inj hn
                subst en
                have eu : V.ref ux = .ref x0 := huv0 rfl
                cases eu
                intro xx xs ex hP
                cases ex
                obtain ⟨A1, dx1, fs1, pa1, h1', h2', h3', _⟩ := hP
                have j1 := s13 _ _ h1'
                rw [i2] at j1
                cases j1
                rw [i4] at h2'
                cases h2'
                have j3 := s13 _ _ h3'
                rw [i5] at j3
                cases j3
                refine ⟨y, ys, rfl, hpy, fun ra zs e1 e2 => ?_⟩
                obtain ⟨rb, ws, g1', g2', g3'⟩ := kept ra zs e1 (s15 _ _ e2)
                exact ⟨rb, ws, g1', s4 _ _ g2', g3'⟩
            | false =>
              rw [if_neg Bool.noConfusion]
              intro H4 dd s4 nd hd4
              refine k2 ?_ H4 dd (s15.trans (s6.trans s4)) ((s15.trans s6).free nd) hd4
              have hne : p.isEmpty = false := by
                cases p with
                | nil => exact absurd hdl (by show ¬ d < 0; omega)
                | cons _ _ => rfl
              unfold okPut
              rw [hne, Bool.false_or]
              have sp2 := place_split (p := p.take d) (q := p.drop d) (u := u) hg h1 hc0
              rw [List.take_append_drop, edr, st] at sp2
              rw [sp2]
              have gx : genT (.nd false f1 (partsX (fun _ => placeT (p.drop (d + 1)) c1 u) n ps1)) := ⟨rfl, gc0.2.1, gc0.2.2.1, by rw [partsX_len]; exact gc0.2.2.2.1, gsp.1⟩
              have q := place_sz hg h1 gx rfl hc0
              rw [← fitsT_nd (f := f1)] at hf
              unfold fitsT at hf ⊢
              simp only [Bool.and_eq_false_iff, decide_eq_false_iff_not] at hf ⊢
              omega
      · rintro σ H3 ⟨nv, c, v5, v6, v7, v8, rfl, s3, hc, hnv, hf⟩
        have s13 := s12.trans s3
        rw [ltm, Nat.sub_self] at hc hnv hf
        rw [List.take_zero, atP_nil] at hc
        cases hc
        rw [List.drop_zero] at hnv hf
        refine ⟨_, rfl, k1 ?_ H3 nv s13 hnv (fun q => ?_) ?_⟩
        · unfold okPut
          rcases hf with ⟨e, _⟩ | ⟨e, _⟩
          · rw [List.eq_nil_of_length_eq_zero e]
            rfl
          · rw [e, Bool.or_true]
        rotate_left
        · intro n ep
          rcases hf with ⟨e, _⟩ | ⟨_, _, e⟩
          · rw [ep] at e; cases e
          · exact e n ep
        · rcases hf with ⟨e, e2⟩ | ⟨_, e, _⟩
          · rcases q with q | q
            · exact absurd (List.eq_nil_of_length_eq_zero e) q
            · rw [e2]
              exact q.same s13
          · exact e
theorem ok_put {C : Cl5} {CI CP f fH fX fT : Addr} {fd fdX : FuncData} (F : Fun K "put" "Tree.put" sPut f fd) (T : TxtPut P w K mg base C CI CP fH fX fT fdX) : FnOk P w K mg base (L2.CX P w) 6 f fd ["self", "path", "other"] (spPut K C CI CP) := by
  refine F.okX scPut (fun vs H Q E h => ?_) (fun cdv A outer s H vs Q E hr h => body_put T hr h)
  obtain ⟨v, pv, ov, t, u, rfl, _⟩ := h
  rfl
end
end K3

namespace K3
open PySem L2 E0
/-! ### each_path: the paths of all nodes -/
def PAt (H : Hp) (y : V) (p : List Nat) : Prop := ∃ a, y = .ref a ∧ H a = some (.tup (natV p))
theorem PAt.same {H H' : Hp} {y : V} {p : List Nat} (s : Same H H') (h : PAt H y p) : PAt H' y p := by
  obtain ⟨a, e, q⟩ := h
  exact ⟨a, e, s _ _ q⟩
theorem PAt.kpo {H H' : Hp} {y : V} {p : List Nat} (s : KpO H H') (h : PAt H y p) : PAt H' y p := by
  obtain ⟨a, e, q⟩ := h
  exact ⟨a, e, s _ _ rfl q⟩
def EntAt (C : Cl5) (H : Hp) (v : V) (z : Tr × List Nat) : Prop := ∃ b pa node, v = .ref b ∧ H b = some (.tup [.ref pa, node]) ∧ H pa = some (.tup (natV z.2)) ∧ PtAt C H node z.1 ∧ genT z.1 ∧ isT z.1 = true ∧ z.2.length + levels z.1 ≤ 200
theorem EntAt.kpo {C : Cl5} {H H' : Hp} (e : KpO H H') {v : V} {z : Tr × List Nat} (h : EntAt C H v z) : EntAt C H' v z := by
  obtain ⟨b, pa, node, h1, h2, h3, h5, h6⟩ := h
  exact ⟨b, pa, node, h1, e _ _ rfl h2, e _ _ rfl h3, PtAt.kpo e _ h5, h6⟩
def tot (zs : List (Tr × List Nat)) : Nat := sizes (zs.map Prod.fst)
theorem tot_app (a b : List (Tr × List Nat)) : tot (a ++ b) = tot a + tot b := by
  unfold tot
  rw [List.map_append, sizes_app]
theorem tot_rev : ∀ a : List (Tr × List Nat), tot a.reverse = tot a
  | [] => rfl
  | x :: a => by
    rw [List.reverse_cons, tot_app, tot_rev a]
    show tot a + (size x.1 + 0) = size x.1 + tot a
    omega
def ents (d : List Nat) : Nat → List Tr → List (Tr × List Nat)
  | _, [] => []
  | n, t :: ts => (t, d ++ [n]) :: ents d (n + 1) ts
theorem ents_snoc (d : List Nat) : ∀ (n : Nat) (ts : List Tr) (t : Tr), ents d n (ts ++ [t]) = ents d n ts ++ [(t, d ++ [n + ts.length])]
  | n, [], t => rfl
  | n, a :: ts, t => by
    show (a, d ++ [n]) :: ents d (n + 1) (ts ++ [t]) = _
    rw [ents_snoc d (n + 1) ts t, List.length_cons, show n + 1 + ts.length = n + (ts.length + 1) by omega]
    rfl
theorem tot_ents (d : List Nat) : ∀ (n : Nat) (ts : List Tr), tot (ents d n ts) = sizes ts
  | n, [] => rfl
  | n, t :: ts => by
    show size t + tot (ents d (n + 1) ts) = size t + sizes ts
    rw [tot_ents d (n + 1) ts]
def outsR : List (Tr × List Nat) → List (List Nat)
  | [] => []
  | z :: zs => (pathsT z.1).map (z.2 ++ ·) ++ outsR zs
theorem outsR_app : ∀ a b : List (Tr × List Nat), outsR (a ++ b) = outsR a ++ outsR b
  | [], b => rfl
  | z :: a, b => by
    show _ ++ outsR (a ++ b) = _ ++ outsR a ++ outsR b
    rw [outsR_app a b, List.append_assoc]
theorem outs_ents (d : List Nat) : ∀ (n : Nat) (ts : List Tr), outsR (ents d n ts) = (rowP n ts).map (d ++ ·)
  | n, [] => by simp [ents, outsR, rowP]
  | n, t :: ts => by
    show (pathsT t).map ((d ++ [n]) ++ ·) ++ outsR (ents d (n + 1) ts) = _
    rw [outs_ents d (n + 1) ts, rowP_cons, List.map_append, List.map_map]
    congr 1
    refine List.map_congr_left fun q _ => ?_
    show d ++ [n] ++ q = d ++ (n :: q)
    simp
theorem Paired.rev {A B : Type} {R : A → B → Prop} : ∀ {xs : List A} {ys : List B}, Paired R xs ys → Paired R xs.reverse ys.reverse
  | _, _, .nil => .nil
  | _, _, .cons a t => by
    rw [List.reverse_cons, List.reverse_cons]
    exact Paired.snoc (Paired.rev t) a
theorem Paired.app {A B : Type} {R : A → B → Prop} : ∀ {xs xs' : List A} {ys ys' : List B}, Paired R xs ys → Paired R xs' ys' → Paired R (xs ++ xs') (ys ++ ys')
  | _, _, _, _, .nil, h => h
  | _, _, _, _, .cons a t, h => .cons a (Paired.app t h)
theorem Paired.last {A B : Type} {R : A → B → Prop} : ∀ {xs : List A} {x : A} {ys : List B}, Paired R (xs ++ [x]) ys → ∃ yi y, ys = yi ++ [y] ∧ Paired R xs yi ∧ R x y
  | [], _, _, .cons a t => by
    cases t
    exact ⟨[], _, rfl, .nil, a⟩
  | _ :: _, _, _, .cons a t => by
    obtain ⟨yi, y, e, p, r⟩ := Paired.last t
    exact ⟨_ :: yi, y, by rw [e]; rfl, .cons a p, r⟩
theorem levels_below {ps : List Tr} {t : Tr} (hg : gensT ps) (m : t ∈ below ps) : levels t ≤ levelss ps := by
  have okp : ∀ p ∈ ps, okP p = true := fun p m => gen_okP (gens_mem hg m)
  obtain ⟨b1, b2, b3⟩ := below_ok okp
  rw [← b2]
  have go : ∀ {ts : List Tr} {t : Tr}, t ∈ ts → levels t ≤ levelss ts := fun {ts} => by
    induction ts with
    | nil => intro t h; cases h
    | cons a ts ih =>
      intro t h
      show levels t ≤ max (levels a) (levelss ts)
      rcases List.mem_cons.mp h with e | h
      · rw [e]; exact Nat.le_max_left _ _
      · exact Nat.le_trans (ih h) (Nat.le_max_right _ _)
  exact go m
section
variable {P : Program} {w : World} {K : PySem.W.Frag} {mg : Str → Option Value} {base : Heap}
def spEach (C : Cl5) : SpG := fun vs H Q _ => ∃ v t, vs = [v] ∧ PtAt C H v t ∧ genT t ∧ isT t = true ∧ size t ≤ 10000 ∧ levels t ≤ 200 ∧ ∀ H' ys, Same H H' → Paired (PAt H') ys (pathsT t) → Q ys H'
def NEP : List Str := ["self", "waiting", "path", "node", "below", "number", "child"]
theorem scEach : GScope NEP ["self"] (defScope sEachPath) := ⟨rfl, rfl, rfl, by decide +kernel, rfl, by decide +kernel, by decide +kernel⟩
theorem gfn_each {C : Cl5} {f : Addr} {fd : FuncData} (F : Fun K "each_path" "Tree.each_path" sEachPath f fd) (gE : mg "enumerate" = none) (T5 : Ty5 K C) (N5 : Na5 K C) : GFn P w K mg base 2 f fd ["self"] (spEach C) := by
  obtain ⟨oc, od, kV, doc, pm, an, cdv, ct, osl, rfl, lk, hcd⟩ := F.ex
  refine gfn_of (N := NEP) lk hcd scEach (fun vs H Q E h => ?_) fun A outer s H vs Q E pn hr h => ?_
  · obtain ⟨v, t, rfl, _⟩ := h
    rfl
  · obtain ⟨v, t, rfl, hv, hg, ht, hs, hl, k⟩ := h
    refine ⟨_, gss_cons (gs_ps (ps_set (i := 1) scEach.nd rfl (Or.inl rfl) (pe_lst (pa_cons (pe_tup (pa_cons (pe_tup pa_nil) (pa_cons (L2.pv 0) pa_nil))) pa_nil))))
      (gss_cons (gs_while owns_gcx (pt_truth (L2.pv 1) (by intro _; rfl))
        (gss_cons (gs_ps (ps_asg (pe_bm0 PySem.F.plainAttrs_list PySem.F.slot_list_pop PySem.F.type_list_pop mt_pop (L2.pv 1)) (pg_tup (by rfl) (pgs_cons (pg_name (i := 2) scEach.nd rfl (.inr rfl)) (pgs_cons (pg_name (i := 3) scEach.nd rfl (.inl rfl)) pgs_nil)))))
        (gss_cons (gs_yield (L2.pv 2))
        (gss_cons (gs_ps (ps_setLc (i := 4) (own := [("number", 5), ("child", 6)]) (g := gTup K 2 (gCons (gName 5) (gCons (gName 6) gNil))) (tt := tYes) (te := tTup (tCons (tOp (rCatA K) (tVar 2) (tTup (tCons (tVar 5) tNil))) (tCons (tVar 6) tNil))) rfl scEach.nd rfl rfl (sw_true rfl rfl rfl (by decide +kernel)) (pi_enumT rfl gE (pa_cons (pe_fld (L2.pv 3) rfl) pa_nil))
            (blkOk_by (N := NEP) (sc := defScope sEachPath) (by decide +kernel)) (fun _ _ _ _ _ => pg_tup (by rfl) (pgs_cons (pg_name (i := 5) scEach.nd rfl (.inl rfl)) (pgs_cons (pg_name (i := 6) scEach.nd rfl (.inl rfl)) pgs_nil))) (fun _ _ _ _ _ => pts_nil)
            (fun _ _ _ _ _ => pe_tup (pa_cons (pe_op op_catA (L2.pv 2) (pe_tup (pa_cons (L2.pv 5) pa_nil))) (pa_cons (L2.pv 6) pa_nil)))))
          (gss_pss (pss_one (ps_expr (pe_bm PySem.F.plainAttrs_list PySem.F.slot_list_extend PySem.F.type_list_extend mt_extend (L2.pv 1) (pa_cons (pe_revL (L2.pv 4)) pa_nil)))))))))
      gss_nil), ?_⟩
    obtain ⟨x, A0, dx, fs0, rfl, hx, _⟩ := text_of (K := K) hv (isT_text ht)
    have big : (1000000 : Nat) < sizeLine := by decide
    refine ⟨by decide, fun e0 he0 => ?_⟩
    have s0 : Same H (upd H e0 (.tup [])) := same_upd (Same.refl H) he0
    have v0 : (upd H e0 (.tup [])) e0 = some (.tup []) := upd_same
    generalize upd H e0 (.tup []) = H0 at s0 v0 ⊢
    refine ⟨_, rfl, by show 2 ≤ sizeLine; omega, fun b0 hb0 => ?_⟩
    have s1 : Same H0 (upd H0 b0 (.tup [.ref e0, .ref x])) := same_upd (Same.refl H0) hb0
    have v1 : (upd H0 b0 (.tup [.ref e0, .ref x])) b0 = some (.tup [.ref e0, .ref x]) := upd_same
    generalize upd H0 b0 (.tup [.ref e0, .ref x]) = H1 at s1 v1 ⊢
    refine ⟨by show 1 ≤ sizeLine; omega, fun wl hwl => ?_⟩
    have s2 : Same H1 (upd H1 wl (.lst [.ref b0])) := same_upd (Same.refl H1) hwl
    have v2 : (upd H1 wl (.lst [.ref b0])) wl = some (.lst [.ref b0]) := upd_same
    generalize upd H1 wl (.lst [.ref b0]) = H2 at s2 v2 ⊢
    have s02 := s0.trans (s1.trans s2)
    have nwl : H wl = none := (s0.trans s1).free hwl
    refine ⟨fun m ys σ H' => ∃ (es : List V) (zs : List (Tr × List Nat)) (v2 v3 v4 : Option V), σ = [some (.ref x), some (.ref wl), v2, v3, v4, none, none] ∧ Same H H' ∧ H' wl = some (.lst es) ∧ Paired (EntAt C H') es zs ∧ m = tot zs ∧ (∃ qs, Paired (PAt H') ys qs ∧ qs ++ outsR zs.reverse = pathsT t) ∧ tot zs ≤ size t ∧ es.length ≤ size t + 1,
      ⟨_, [.ref b0], [(t, [])], none, none, none, rfl, s02, v2, .cons ⟨b0, e0, .ref x, rfl, s2 _ _ v1, (s1.trans s2) _ _ v0, PtAt.kpo (KpO.same s02) _ hv, hg, ht, by show 0 + levels t ≤ 200; omega⟩ .nil, rfl, ⟨[], .nil, by show [] ++ ((pathsT t).map ([] ++ ·) ++ []) = pathsT t; simp⟩, by show size t + 0 ≤ size t; omega, by show 1 ≤ _; omega⟩, ?_⟩
    rintro m ys σ H3 ⟨es, zs, w2, w3, w4, rfl, s3, hw, pz, rfl, ⟨qs, hqs, hc⟩, htz, hel⟩
    refine ⟨_, rfl, !es.isEmpty, .inl ⟨es, SqL.of hw, ?_⟩, ?_⟩
    · cases es <;> rfl
    rcases List.eq_nil_or_concat es with rfl | ⟨ei, ey, rfl⟩
    · refine iteF ?_
      cases pz
      have hc : qs ++ [] = pathsT t := hc
      rw [List.append_nil] at hc
      rw [hc] at hqs
      exact k H3 ys s3 hqs
    · rw [show (!(ei.concat ey).isEmpty) = true by simp]
      refine iteT ?_
      refine ⟨fun ys' σ' H' => ∃ m', m' < tot zs ∧ ∃ (es : List V) (zs : List (Tr × List Nat)) (v2 v3 v4 : Option V), σ' = [some (.ref x), some (.ref wl), v2, v3, v4, none, none] ∧ Same H H' ∧ H' wl = some (.lst es) ∧ Paired (EntAt C H') es zs ∧ m' = tot zs ∧ (∃ qs, Paired (PAt H') ys' qs ∧ qs ++ outsR zs.reverse = pathsT t) ∧ tot zs ≤ size t ∧ es.length ≤ size t + 1, fun _ _ _ q => q, ?_⟩
      rw [List.concat_eq_append] at hw pz hel
      obtain ⟨zi, ⟨t1, d⟩, rfl, pi, hz⟩ := Paired.last pz
      obtain ⟨b, pa, node, rfl, hb, hpa, hnode, hgn, htn, hdl⟩ := hz
      have hpa : H3 pa = some (.tup (natV d)) := hpa
      have hdl : d.length + levels t1 ≤ 200 := hdl
      obtain ⟨f1, ps, rfl⟩ : ∃ f1 ps, t1 = .nd false f1 ps := by
        match t1, htn with
        | .nd false f1 ps, _ => exact ⟨f1, ps, rfl⟩
      have ets : tot (zi ++ [(Tr.nd false f1 ps, d)]) = tot zi + (1 + sizes ps) := by
        rw [tot_app]
        show tot zi + (size (.nd false f1 ps) + 0) = _
        simp only [size]
        omega
      rw [ets] at htz ⊢
      have gps0 : gensT ps := hgn.2.2.2.2
      rw [List.reverse_append] at hc
      have hc : qs ++ ((pathsT (.nd false f1 ps)).map (d ++ ·) ++ outsR zi.reverse) = pathsT t := hc
      rw [paths_nd gps0] at hc
      have hc : qs ++ ((d ++ []) :: (rowP 0 (below ps)).map (d ++ ·) ++ outsR zi.reverse) = pathsT t := hc
      rw [List.append_nil] at hc
      have yl : ys.length ≤ size t := by rw [hqs.length, ← paths_len hg ht, ← hc, List.length_append]; omega
      refine ⟨_, rfl, .inl ⟨rfl, _, SqL.of hw⟩, wl, _, .ref b, rfl, rfl, hw, by simp, ?_⟩
      rw [List.dropLast_concat]
      have hnode : PtAt C H3 node (.nd false f1 ps) := hnode
      have k4 : KpO H3 (upd H3 wl (.lst ei)) := kpO_upd hw
      have w4 : (upd H3 wl (.lst ei)) wl = some (.lst ei) := upd_same
      have s4 : Same H (upd H3 wl (.lst ei)) := fun b o e => by
        rw [upd_ne (ne_of_none e nwl)]
        exact s3 b o e
      generalize upd H3 wl (.lst ei) = H4 at k4 w4 s4 ⊢
      refine ⟨b, _, rfl, .inl (.inl (k4 _ _ rfl hb)), rfl, _, _, rfl, ?_⟩
      refine ⟨_, _, rfl, rfl, ?_⟩
      refine ⟨by omega, _, rfl, ?_⟩
      obtain ⟨nx, dn, fn, pn2, xs, rfl, n2, n3, n4, n5, n6, n7, n8, n9, n10⟩ := PtAt.kpo k4 _ hnode
      obtain ⟨ca, cs, c1, c2, c3⟩ := n10 rfl
      have gps : gensT ps := hgn.2.2.2.2
      have gpl : ps.length ≤ 9 := hgn.2.2.2.1
      obtain ⟨g1, g2⟩ := gens_below gps
      have okp : ∀ p ∈ ps, okP p = true := fun p m => gen_okP (gens_mem gps m)
      obtain ⟨b1, b2, b3⟩ := below_ok okp
      have ck := kids_pts c3 n6
      have cl := pts_len ck
      have mT : C.T ∈ C.all := C.n_mem false
      have sz1 : ∀ ts : List Tr, (∀ t ∈ ts, isN t = true) → ts.length ≤ sizes ts := fun ts => by
        induction ts with
        | nil => intro _; exact Nat.le_refl _
        | cons a ts ih =>
          intro h
          have h1 := ih fun u m => h u (List.mem_cons_of_mem _ m)
          have h2 : 1 ≤ size a := by
            have := h a (List.mem_cons_self ..)
            match a, this with
            | .nd _ _ _, _ => simp only [size]; omega
            | .vr 0 _, _ => simp only [size]; omega
          show ts.length + 1 ≤ size a + sizes ts
          omega
      have bl := sz1 _ b3
      have lvt : levels (.nd false f1 ps) = levelss ps + 1 := by simp only [levels]
      refine ⟨_, rfl, nx, C.T, dn, fn, _, rfl, n2, (T5.own _ mT).cl, N5.na _ mT _ (by decide +kernel), c1, ca, cs, rfl, SqT.of c2, fun D hD => lc_it walk_enumT (fun i H' => Same H4 H' ∧ ∃ acc, H' D = some (.lst acc) ∧ acc.length = i ∧ Paired (EntAt C H') acc (ents d 0 ((below ps).take i)))
        ⟨same_upd (Same.refl H4) hD, [], upd_same, rfl, .nil⟩ (fun i H' _ ⟨s', _⟩ => SqT.of (s' _ _ c2)) ?_ ?_⟩
      · rintro i vv H5 H6 hi ⟨s5, acc, e5, al, pa5⟩ ⟨Tp, y, u, rfl, hT, rfl, ey, ez⟩
        have ey : some (V.int (i : Nat)) = some y := ey
        cases ey
        have ez : cs[i]? = some u := ez
        obtain ⟨ti, et, hti⟩ := LiI.paired_get (ptsAt_iff.mp ck) ez
        have tm := List.mem_of_getElem? et
        have s7 : Same H5 (upd H5 Tp (.tup [.int (i : Nat), u])) := same_upd (Same.refl H5) hT
        have v7 : (upd H5 Tp (.tup [.int (i : Nat), u])) Tp = some (.tup [.int (i : Nat), u]) := upd_same
        generalize upd H5 Tp (.tup [.int (i : Nat), u]) = H7 at s7 v7 ⊢
        refine ⟨Tp, _, rfl, .inl (.inl v7), rfl, _, _, rfl, ?_⟩
        refine ⟨_, _, rfl, rfl, rfl, ?_⟩
        dsimp only [tYes]
        rw [if_pos rfl]
        refine ⟨_, rfl, _, rfl, by show 1 ≤ sizeLine; omega, fun q hq => ?_⟩
        have s8 : Same H7 (upd H7 q (.tup [.int (i : Nat)])) := same_upd (Same.refl H7) hq
        have v8 : (upd H7 q (.tup [.int (i : Nat)])) q = some (.tup [.int (i : Nat)]) := upd_same
        generalize upd H7 q (.tup [.int (i : Nat)]) = H8 at s8 v8 ⊢
        have s48 := s5.trans (s7.trans s8)
        have lvi := levels_below gps tm
        refine ⟨pa, q, natV d, [.int (i : Nat)], rfl, rfl, SqT.of (s48 _ _ (k4 _ _ rfl hpa)), SqT.of v8, by rw [natV_len]; show d.length + 1 ≤ sizeLine; omega, fun ep => ?ca, fun _ h => absurd h (by simp), fun _ _ r hr0 => ?cb⟩
        case' ca =>
          obtain ⟨H9, rfl⟩ : ∃ z, z = H8 := ⟨_, rfl⟩
          have s9 : Same H9 H9 := Same.refl H9
          obtain ⟨r, er⟩ : ∃ r, r = q := ⟨_, rfl⟩
          rw [← er] at v8 ⊢
          have v9 : H9 r = some (.tup (natV d ++ [.int (i : Nat)])) := by rw [ep]; exact v8
        case' cb =>
          have s9 : Same H8 (upd H8 r (.tup (natV d ++ [.int (i : Nat)]))) := same_upd (Same.refl H8) hr0
          have v9 : (upd H8 r (.tup (natV d ++ [.int (i : Nat)]))) r = some (.tup (natV d ++ [.int (i : Nat)])) := upd_same
          generalize upd H8 r (.tup (natV d ++ [.int (i : Nat)])) = H9 at s9 v9 ⊢
        all_goals
          refine ⟨_, rfl, by show 2 ≤ sizeLine; omega, fun bb hbb => ?_⟩
          have s10 : Same H9 (upd H9 bb (.tup [.ref r, u])) := same_upd (Same.refl H9) hbb
          have v10 : (upd H9 bb (.tup [.ref r, u])) bb = some (.tup [.ref r, u]) := upd_same
          generalize upd H9 bb (.tup [.ref r, u]) = H10 at s10 v10 ⊢
          have s510 := s7.trans (s8.trans (s9.trans s10))
          have e10 := s510 _ _ e5
          have kk := kpO_upd (o := .lst (acc ++ [.ref bb])) e10
          have s410 := s5.trans s510
          refine ⟨acc, e10, by omega, ?_, acc ++ [.ref bb], upd_same, by rw [List.length_append, al]; rfl, ?_⟩
          · intro c o hc0
            rw [upd_ne (ne_of_none hc0 hD)]
            exact s410 c o hc0
          · rw [List.take_add_one, et]
            rw [show (some ti).toList = [ti] from rfl, ents_snoc, List.length_take, Nat.min_eq_left (Nat.le_of_lt (List.getElem?_eq_some_iff.mp et).1), Nat.zero_add]
            exact Paired.snoc (Paired.mapP pa5 fun a b z => (z.kpo (KpO.same s510)).kpo kk) ⟨bb, r, u, rfl, kk _ _ rfl v10, by rw [show natV (ti, d ++ [i]).2 = natV d ++ [.int (i : Nat)] by unfold natV; rw [List.map_append]; rfl]; exact kk _ _ rfl (s10 _ _ v9), PtAt.kpo kk _ (PtAt.kpo (KpO.same s410) _ hti), gens_mem g1 tm, g2 ti tm, by show (d ++ [i]).length + levels ti ≤ 200; rw [List.length_append]; show d.length + 1 + levels ti ≤ 200; omega⟩
      · rintro H5 ⟨s5, acc, e5, al, pa5⟩
        rw [cl, List.take_length] at pa5
        rw [cl] at al
        refine ⟨_, rfl, .inl ⟨rfl, _, SqL.of (s5 _ _ w4)⟩, _, rfl, D, acc, rfl, SqL.of e5, fun rv hrv => ?_⟩
        have s6 : Same H5 (upd H5 rv (.lst acc.reverse)) := same_upd (Same.refl H5) hrv
        have v6 : (upd H5 rv (.lst acc.reverse)) rv = some (.lst acc.reverse) := upd_same
        generalize upd H5 rv (.lst acc.reverse) = H6 at s6 v6 ⊢
        have w6 := s6 _ _ (s5 _ _ w4)
        have hei : ei.length + 1 ≤ size t + 1 := by rw [List.length_append] at hel; exact hel
        have eil : ei.length ≤ tot zi := by
          rw [pi.length]
          have go : ∀ (zs : List (Tr × List Nat)) (es : List V), Paired (EntAt C H3) es zs → zs.length ≤ tot zs := fun zs => by
            induction zs with
            | nil => intro _ _; exact Nat.le_refl _
            | cons a zs ih =>
              intro es h
              cases h with
              | cons h1 h2 =>
                have := ih _ h2
                obtain ⟨_, _, _, _, _, _, _, _, h3, _⟩ := h1
                have h4 : 1 ≤ size a.1 := by
                  obtain ⟨a1, a2⟩ := a
                  match a1, h3 with
                  | .nd false _ _, _ => show 1 ≤ size (.nd false _ _); simp only [size]; omega
                show zs.length + 1 ≤ size a.1 + tot zs
                omega
          exact go _ _ pi
        refine ⟨wl, rv, ei, acc.reverse, rfl, rfl, w6, v6, by rw [List.length_reverse]; omega, ?_⟩
        have k6 : KpO H4 H6 := KpO.same (s5.trans s6)
        have k7 := kpO_upd (o := .lst (ei ++ acc.reverse)) w6
        have tb : tot (zi ++ (ents d 0 (below ps)).reverse) = tot zi + sizes ps := by rw [tot_app, tot_rev, tot_ents, b1]
        refine ⟨tot zi + sizes ps, by omega, ei ++ acc.reverse, zi ++ (ents d 0 (below ps)).reverse, _, _, _, rfl, ?_, upd_same, ?_, tb.symm, ?_, by rw [tb]; omega, ?_⟩
        · intro c o hc0
          rw [upd_ne (ne_of_none hc0 nwl)]
          exact s6 c o (s5 c o (s4 c o hc0))
        · exact Paired.app (Paired.mapP pi fun a b z => ((z.kpo k4).kpo k6).kpo k7) (Paired.rev (Paired.mapP pa5 fun a b z => (z.kpo (KpO.same s6)).kpo k7))
        · refine ⟨qs ++ [d], Paired.snoc (Paired.mapP hqs fun a b z => ((z.kpo k4).kpo k6).kpo k7) ⟨pa, rfl, k7 _ _ rfl (k6 _ _ rfl (k4 _ _ rfl hpa))⟩, ?_⟩
          rw [List.reverse_append, List.reverse_reverse, outsR_app, outs_ents]
          rw [← hc]
          simp
        · rw [List.length_append, List.length_reverse, al]
          omega
end
end K3

namespace K3
open PySem L2 E0
/-! ### what the law itself knows of a tree: texts, lists for rows, tuples for nodes -/
mutual
def PlAt (N : Addr → Prop) (H : Hp) : V → Tr → Prop
  | v, .tx s => v = .str s
  | v, .row ts => ∃ l xs, v = .ref l ∧ H l = some (.lst xs) ∧ N l ∧ PlsAt N H xs ts
  | v, .nd _ f ps => ∃ a xs, v = .ref a ∧ H a = some (.tup (.str f :: xs)) ∧ N a ∧ PlsAt N H xs ps
  | _, .vr .. => False
def PlsAt (N : Addr → Prop) (H : Hp) : List V → List Tr → Prop
  | [], [] => True
  | x :: xs, t :: ts => PlAt N H x t ∧ PlsAt N H xs ts
  | _, _ => False
end
/-- what N names stands -/
def KpN (N : Addr → Prop) (H H' : Hp) : Prop := ∀ b o, N b → H b = some o → (∀ ps, o ≠ .tbl ps) → H' b = some o
theorem KpN.same {N : Addr → Prop} {H H' : Hp} (e : Same H H') : KpN N H H' := fun b o _ q _ => e b o q
mutual
theorem PlAt.kp {N : Addr → Prop} {H H' : Hp} (e : KpN N H H') : ∀ {v : V} (t : Tr), PlAt N H v t → PlAt N H' v t
  | _, .tx _, h => h
  | _, .row ts, h => by
    obtain ⟨l, xs, h1, h2, h3, h4⟩ := h
    exact ⟨l, xs, h1, e _ _ h3 h2 (fun _ => nofun), h3, PlsAt.kp e ts h4⟩
  | _, .nd _ f ps, h => by
    obtain ⟨l, xs, h1, h2, h3, h4⟩ := h
    exact ⟨l, xs, h1, e _ _ h3 h2 (fun _ => nofun), h3, PlsAt.kp e ps h4⟩
  | _, .vr _ _, h => False.elim h
theorem PlsAt.kp {N : Addr → Prop} {H H' : Hp} (e : KpN N H H') : ∀ {xs : List V} (ts : List Tr), PlsAt N H xs ts → PlsAt N H' xs ts
  | [], [], h => h
  | x :: xs, t :: ts, h => ⟨PlAt.kp e t h.1, PlsAt.kp e ts h.2⟩
  | [], _ :: _, h => False.elim h
  | _ :: _, [], h => False.elim h
end
theorem plsAt_iff {N : Addr → Prop} {H : Hp} : ∀ {xs : List V} {ts : List Tr}, PlsAt N H xs ts ↔ Paired (PlAt N H) xs ts
  | [], [] => ⟨fun _ => .nil, fun _ => True.intro⟩
  | x :: xs, t :: ts => ⟨fun h => .cons h.1 (plsAt_iff.mp h.2), fun h => by cases h with | cons a b => exact ⟨a, plsAt_iff.mpr b⟩⟩
  | [], _ :: _ => ⟨fun h => False.elim h, fun h => nomatch h⟩
  | _ :: _, [] => ⟨fun h => False.elim h, fun h => nomatch h⟩
theorem pls_app {N : Addr → Prop} {H : Hp} : ∀ {xs ys : List V} {ts us : List Tr}, PlsAt N H xs ts → PlsAt N H ys us → PlsAt N H (xs ++ ys) (ts ++ us)
  | [], _, [], _, _, h => h
  | _ :: _, _, _ :: _, _, h, h2 => ⟨h.1, pls_app h.2 h2⟩
  | [], _, _ :: _, _, h, _ => False.elim h
  | _ :: _, _, [], _, h, _ => False.elim h
theorem pls_len {N : Addr → Prop} {H : Hp} : ∀ {xs : List V} {ts : List Tr}, PlsAt N H xs ts → xs.length = ts.length
  | [], [], _ => rfl
  | x :: xs, t :: ts, h => by rw [List.length_cons, List.length_cons, pls_len h.2]
  | [], _ :: _, h => False.elim h
  | _ :: _, [], h => False.elim h
def tyP : Tr → String
  | .tx _ => "str"
  | .row _ => "list"
  | _ => "tuple"
theorem PlAt.ty {K : PySem.W.Frag} {N : Addr → Prop} {H : Hp} : ∀ {v : V} {t : Tr}, PlAt N H v t → TyX K H v (.type (tyP t))
  | _, .tx s, h => by
    rw [show _ = V.str s from h]
    exact .base (.str _)
  | _, .row ts, h => by
    obtain ⟨l, xs, h1, h2, _⟩ := h
    rw [h1]
    exact .base (.lst h2)
  | _, .nd _ f ps, h => by
    obtain ⟨l, xs, h1, h2, _⟩ := h
    rw [h1]
    exact .base (.tup h2)
  | _, .vr _ _, h => False.elim h
def isRw : Tr → Bool
  | .row _ => true
  | _ => false
theorem kit_lst {K : PySem.W.Frag} (t : Tr) : PySem.W.kitOne K (.type (tyP t)) (.type "list") = some (isRw t) := by
  match t with
  | .tx _ => exact kit_ty (a := "str") (b := "list") (r := false) (by decide +kernel)
  | .row _ => exact kit_ty (a := "list") (b := "list") (r := true) (by decide +kernel)
  | .vr _ _ => exact kit_ty (a := "tuple") (b := "list") (r := false) (by decide +kernel)
  | .nd _ _ _ => exact kit_ty (a := "tuple") (b := "list") (r := false) (by decide +kernel)
theorem kit_st {K : PySem.W.Frag} (t : Tr) : PySem.W.kitOne K (.type (tyP t)) (.type "str") = some (isTx t) := by
  match t with
  | .tx _ => exact kit_ty (a := "str") (b := "str") (r := true) (by decide +kernel)
  | .row _ => exact kit_ty (a := "list") (b := "str") (r := false) (by decide +kernel)
  | .vr _ _ => exact kit_ty (a := "tuple") (b := "str") (r := false) (by decide +kernel)
  | .nd _ _ _ => exact kit_ty (a := "tuple") (b := "str") (r := false) (by decide +kernel)
theorem cut_from {l : List V} {i : Nat} : cutV l (some (i : Int)) none = l.drop i := by
  unfold cutV
  rw [HT.sIx_none, HT.sIx_nat]
  by_cases h : i ≤ l.length
  · rw [Nat.min_eq_left h, List.take_of_length_le (by rw [List.length_drop]; omega)]
  · rw [Nat.min_eq_right (by omega), List.drop_eq_nil_of_le (Nat.le_refl _), List.drop_eq_nil_of_le (by omega), List.take_nil]
theorem below_len : ∀ (ps : List Tr) (p : Tr), (∀ q ∈ [p], okP q = true) → below [p] = (match p with | .row ts => ts | .nd lk f qs => [.nd lk f qs] | _ => [])
  | _, .tx _, _ => rfl
  | _, .row ts, h => by
    have h := h _ (List.mem_cons_self ..)
    show ts.filter isN ++ [] = ts
    rw [List.append_nil, List.filter_eq_self.mpr fun t ht => isT_isN (List.all_eq_true.mp h t ht)]
  | _, .vr 0 _, h => nomatch h _ (List.mem_cons_self ..)
  | _, .vr (_ + 1) _, h => nomatch h _ (List.mem_cons_self ..)
  | _, .nd _ _ _, _ => rfl
section
variable {P : Program} {w : World} {K : PySem.W.Frag} {mg : Str → Option Value} {base : Heap}
def spBelow : Sp := fun vs H Q _ => ∃ (N : Addr → Prop) (a : Addr) (f : Str) (xs : List V) (ps : List Tr), vs = [.ref a] ∧ H a = some (.tup (.str f :: xs)) ∧ PlsAt N H xs ps ∧ (∀ p ∈ ps, okP p = true) ∧ ps.length ≤ 1000 ∧ (∀ p ∈ ps, rowLen p ≤ 1000) ∧
  ∀ H' p ks, Same H H' → H p = none → H' p = some (.lst ks) → PlsAt N H' ks (below ps) → Q (.ref p) H'
def NBE : List Str := ["_law_plant", "_law_found", "_law_own"]
theorem scBelow : FnScope NBE ["_law_plant"] (defScope sBelow) := ⟨rfl, rfl, rfl, by decide +kernel, rfl, by decide +kernel, by decide +kernel⟩
theorem ok_below {f : Addr} {fd : FuncData} (F : Fun K "_law_below" "_law_below" sBelow f fd) (gI : mg "isinstance" = none) (gList : mg "list" = none) (gStr : mg "str" = none) : FnOk P w K mg base CX0 1 f fd ["_law_plant"] spBelow := by
  refine F.ok scBelow (fun vs H Q E h => ?_) (fun cdv A outer s H vs Q E hr h => ?_)
  · obtain ⟨N, a, g, xs, ps, rfl, _⟩ := h
    rfl
  · obtain ⟨N, a, g, xs, ps, rfl, ha, hp, hok, hl, hb, k⟩ := h
    refine ⟨_, pss_cons (ps_set (i := 1) scBelow.nd rfl (Or.inl rfl) (pe_lst pa_nil))
      (pss_cons (ps_for PassesOwn.never rfl (pi_tup (pe_slice sl_tup (pv 0) (po_some pe_int) po_none)) (pg_name (i := 2) scBelow.nd rfl (Or.inl rfl))
        (pss_one (ps_if (pt_val (pe_callB call_isi (by rfl) gI PyProof.Rows.boot_isinstance (pa_cons (pv 2) (pa_cons (pe_bltn (v := .ty "list") rfl gList (by decide +kernel) rfl) pa_nil)))) (pss_one (ps_set (i := 1) scBelow.nd rfl (Or.inl rfl) (pe_op op_cat (pv 1) (pv 2))))
          (pss_one (ps_if (pt_not (pt_val (pe_callB call_isi (by rfl) gI PyProof.Rows.boot_isinstance (pa_cons (pv 2) (pa_cons (pe_bltn (v := .ty "str") rfl gStr PyProof.Rows.boot_str rfl) pa_nil))))) (pss_one (ps_expr (pe_bm PySem.F.plainAttrs_list PySem.F.slot_list_append PySem.F.type_list_append mt_append (pv 1) (pa_cons (pv 2) pa_nil)))) pss_nil)))))
      (pss_one (ps_ret (pv 1)))), ?_⟩
    have big : sizeLine ≥ 16777216 := by decide
    have xl := pls_len hp
    refine ⟨Nat.zero_le _, fun nd hnd => ?_⟩
    have s1 : Same H (upd H nd (.lst [])) := same_upd (Same.refl H) hnd
    have n1 : (upd H nd (.lst [])) nd = some (.lst []) := upd_same
    generalize upd H nd (.lst []) = H1 at s1 n1 ⊢
    refine ⟨_, rfl, 1, rfl, a, _, rfl, SqT.of (s1 _ _ ha), ?_, fun tp htp => ?_⟩
    · rw [show (some (1 : Int)) = some ((1 : Nat) : Int) from rfl, HT.sIx_nat]
      intro q
      have q := q.1
      rw [List.length_cons] at q
      omega
    have hpp := plsAt_iff.mp hp
    rw [show (some (1 : Int)) = some ((1 : Nat) : Int) from rfl, cut_from]
    have s2 : Same H1 (upd H1 tp (.tup ((V.str g :: xs).drop 1))) := same_upd (Same.refl H1) htp
    have v2 : (upd H1 tp (.tup ((V.str g :: xs).drop 1))) tp = some (.tup xs) := upd_same
    generalize upd H1 tp (.tup ((V.str g :: xs).drop 1)) = H2 at s2 v2 ⊢
    refine ⟨tp, rfl, ⟨_, SqT.of v2⟩, for_tup (K := K) (a := tp) (xs := xs) (fun i σ H' => ∃ (w2 : Option V) (d : Addr) (acc : List V), σ = [some (.ref a), some (.ref d), w2] ∧ Same H H' ∧ H d = none ∧ H' d = some (.lst acc) ∧ PlsAt N H acc (below (ps.take i)) ∧ acc.length ≤ 1000 * i ∧ H' tp = some (.tup xs))
      ⟨_, nd, [], rfl, s1.trans s2, hnd, s2 _ _ n1, True.intro, Nat.zero_le _, v2⟩ (fun i σ H' _ ⟨_, _, _, _, _, _, _, _, _, e⟩ => SqT.of e) ?_ ?_⟩
    · rintro i x σ H3 hx ⟨w2, d, acc, rfl, s3, nd0, hd, pa, al, ht⟩
      obtain ⟨p, ep, hi⟩ := LiI.paired_get hpp hx
      have pm := List.mem_of_getElem? ep
      have hokp := hok p pm
      have hbp := hb p pm
      have hi3 := PlAt.kp (KpN.same s3) p hi
      have ty : TyX K H3 x (.type (tyP p)) := PlAt.ty hi3
      have eps : below (ps.take (i + 1)) = below (ps.take i) ++ below [p] := by rw [List.take_add_one, ep]; exact below_snoc _ _
      have il : i < ps.length := (List.getElem?_eq_some_iff.mp ep).1
      have one := below_len [] p fun q hq => by rw [List.mem_singleton.mp hq]; exact hokp
      refine ⟨_, rfl, _, _, _, _, isRw p, rfl, .ty "list", ty, kit_lst p, _, rfl, ?_⟩
      match p, hi, hi3, hokp, hbp, one, eps, ty with
      | .row ts, hi, hi3, hokp, hbp, one, eps, _ =>
        refine iteT ?_
        obtain ⟨l, ys, ev, hl0, hN, hys⟩ := hi
        subst ev
        have yl := pls_len hys
        have hbp : ts.length ≤ 1000 := hbp
        refine ⟨_, rfl, _, rfl, d, l, acc, ys, rfl, rfl, hd, s3 _ _ hl0, by omega, fun c hc => ?_⟩
        exact ⟨_, c, acc ++ ys, rfl, same_upd s3 (s3.free hc), s3.free hc, upd_same, by rw [eps, one]; exact pls_app pa hys, by rw [List.length_append]; omega, by rw [upd_ne (ne_of_none ht hc)]; exact ht⟩
      | .tx z, hi, hi3, hokp, hbp, one, eps, ty =>
        refine iteF ?_
        refine ⟨_, rfl, _, _, _, _, true, rfl, .ty "str", ty, kit_st (.tx z), _, rfl, ?_⟩
        refine iteF ?_
        exact ⟨_, d, acc, rfl, s3, nd0, hd, by rw [eps, one, List.append_nil]; exact pa, by omega, ht⟩
      | .nd lk f qs, hi, hi3, hokp, hbp, one, eps, ty =>
        refine iteF ?_
        refine ⟨_, rfl, _, _, _, _, false, rfl, .ty "str", ty, kit_st (.nd lk f qs), _, rfl, ?_⟩
        refine iteT ?_
        refine ⟨_, rfl, .inl ⟨rfl, _, SqL.of hd⟩, _, rfl, d, acc, _, rfl, rfl, hd, by omega, ?_⟩
        have nt : tp ≠ d := fun q => by rw [q, hd] at ht; cases ht
        exact ⟨_, d, acc ++ [x], rfl, same_upd s3 nd0, nd0, upd_same, by rw [eps, one]; exact pls_app pa ⟨hi, True.intro⟩, by rw [List.length_append]; show acc.length + 1 ≤ _; omega, by rw [upd_ne nt]; exact ht⟩
    · rintro σ H3 ⟨w2, d, acc, rfl, s3, nd0, hd, pa, al, ht⟩
      rw [xl, List.take_length] at pa
      exact ⟨_, rfl, k _ d acc s3 nd0 hd (PlsAt.kp (KpN.same s3) _ pa)⟩
end
end K3

namespace K3
open PySem PySem.Spec PyProof.Rows L2 E0
def DD (m lg : Addr) (H H' : Hp) : Prop := ∀ b o, b ≠ m → b ≠ lg → H b = some o → H' b = some o
theorem DD.refl {m lg : Addr} (H : Hp) : DD m lg H H := fun _ _ _ _ e => e
theorem DD.trans {m lg : Addr} {H H1 H2 : Hp} (a : DD m lg H H1) (b : DD m lg H1 H2) : DD m lg H H2 := fun c o h1 h2 e => b c o h1 h2 (a c o h1 h2 e)
theorem DD.same {m lg : Addr} {H H' : Hp} (e : Same H H') : DD m lg H H' := fun b o _ _ q => e b o q
theorem MA.noti {m lc lg : Addr} {n : Int} {H : Hp} (M : MA m lc lg n H) {b : Addr} {o : HO} (h : tiO o = true) (e : H b = some o) : b ≠ m ∧ b ≠ lg := by
  obtain ⟨hm, _, _, ⟨gs, hg, _⟩, _⟩ := M
  exact ⟨fun q => (by rw [q, hm] at e; cases e; cases h), fun q => (by rw [q, hg] at e; cases e; cases h)⟩
theorem DD.kpo {m lc lg : Addr} {n : Int} {H H' : Hp} (e : DD m lg H H') (M : MA m lc lg n H) : KpO H H' := fun b o h q => let z := M.noti h q; e b o z.1 z.2 q
theorem DD.free {m lc lg : Addr} {n : Int} {H H' : Hp} (e : DD m lg H H') (M : MA m lc lg n H') {p : Addr} (h : H' p = none) : H p = none := by
  obtain ⟨hm, _, _, ⟨gs, hg, _⟩, _⟩ := M
  cases q : H p with
  | none => rfl
  | some o =>
    have := e p o (fun z => by rw [z, hm] at h; cases h) (fun z => by rw [z, hg] at h; cases h) q
    rw [h] at this
    cases this
theorem MA.nm {m lc lg : Addr} {n : Int} {H : Hp} (M : MA m lc lg n H) {p : Addr} (h : H p = none) : p ≠ m ∧ p ≠ lg := by
  obtain ⟨hm, _, _, ⟨gs, hg, _⟩, _⟩ := M
  exact ⟨fun z => (by rw [z, hm] at h; cases h), fun z => (by rw [z, hg] at h; cases h)⟩
mutual
theorem PlAt.mono {N N' : Addr → Prop} {H : Hp} (e : ∀ b, N b → N' b) : ∀ {v : V} (t : Tr), PlAt N H v t → PlAt N' H v t
  | _, .tx _, h => h
  | _, .row ts, h => by
    obtain ⟨l, xs, h1, h2, h3, h4⟩ := h
    exact ⟨l, xs, h1, h2, e _ h3, PlsAt.mono e ts h4⟩
  | _, .nd _ f ps, h => by
    obtain ⟨l, xs, h1, h2, h3, h4⟩ := h
    exact ⟨l, xs, h1, h2, e _ h3, PlsAt.mono e ps h4⟩
  | _, .vr _ _, h => False.elim h
theorem PlsAt.mono {N N' : Addr → Prop} {H : Hp} (e : ∀ b, N b → N' b) : ∀ {xs : List V} (ts : List Tr), PlsAt N H xs ts → PlsAt N' H xs ts
  | [], [], h => h
  | x :: xs, t :: ts, h => ⟨PlAt.mono e t h.1, PlsAt.mono e ts h.2⟩
  | [], _ :: _, h => False.elim h
  | _ :: _, [], h => False.elim h
end
/-- a pair: what the law knows of a part, and the part -/
def New (H : Hp) : Addr → Prop := fun b => H b = none
theorem DD.kpN {m lc lg : Addr} {n : Int} {H0 H H' : Hp} (M : MA m lc lg n H0) (e : DD m lg H H') : KpN (New H0) H H' := fun b o nb q _ => let z := M.nm nb; e b o z.1 z.2 q
theorem kpN_upd {N : Addr → Prop} {H : Hp} {D : Addr} {o : HO} (h : ¬ N D) : KpN N H (upd H D o) := fun b u nb q _ => by
  rw [upd_ne (fun z => h (by rw [← z]; exact nb))]
  exact q

theorem fn_vac {P : Program} {w : World} {K : PySem.W.Frag} {mg : Str → Option Value} {base : Heap} {CX : CXT} {k : Nat} {f : Addr} {fd : FuncData} {ps : List Str} {sp : Sp} (h : ∀ vs H Q E, ¬ sp vs H Q E) : FnOk P w K mg base CX k f fd ps sp :=
  ⟨fun vs H Q E z => absurd z (h vs H Q E), fun A outer s H args us vs Q E hr e0 hb r z => absurd z (h vs H Q E)⟩
theorem ps_dead {X : Cx} {st : Stmt} : PS X st (fun _ _ _ => False) := ⟨fun _ _ _ _ _ _ h => h.elim⟩
theorem pe_dead {X : Cx} {e : Expr} : PE X e (fun _ _ _ => False) := ⟨fun _ _ _ _ _ _ h => h.elim⟩
theorem pls_get {N : Addr → Prop} {H : Hp} : ∀ {xs : List V} {ts : List Tr} {i : Nat} {t : Tr}, PlsAt N H xs ts → ts[i]? = some t → ∃ x, xs[i]? = some x ∧ PlAt N H x t
  | [], [], i, x, _, h => by simp at h
  | y :: ys, t :: ts, 0, x, h, e => by
    simp at e
    subst e
    exact ⟨y, rfl, h.1⟩
  | y :: ys, t :: ts, i + 1, x, h, e => by
    obtain ⟨u, e1, e2⟩ := pls_get (i := i) h.2 (by simpa using e)
    exact ⟨u, by simpa using e1, e2⟩
  | [], _ :: _, _, _, h, _ => False.elim h
  | _ :: _, [], _, _, h, _ => False.elim h
/-! ### _law_at -/
section
variable {P : Program} {w : World} {K : PySem.W.Frag} {mg : Str → Option Value} {base : Heap}
theorem gens_rl {ps : List Tr} (h : gensT ps) : ∀ p ∈ ps, rowLen p ≤ 1000 := fun p m => (gen_row (gens_mem h m)).1
theorem gens_okP {ps : List Tr} (h : gensT ps) : ∀ p ∈ ps, okP p = true := fun p m => gen_okP (gens_mem h m)
def spAt : Sp := fun vs H Q _ => ∃ (N : Addr → Prop) (v : V) (a : Addr) (t k : Tr) (p : List Nat), vs = [v, .ref a] ∧ PlAt N H v t ∧ genT t ∧ isT t = true ∧ H a = some (.tup (natV p)) ∧ atP t p = some k ∧ ∀ H' v', Same H H' → PlAt N H' v' k → Q v' H'
def NAT : List Str := ["_law_plant", "_law_path_so", "_law_n"]
theorem scAt : FnScope NAT ["_law_plant", "_law_path_so"] (defScope sAt) := ⟨rfl, rfl, rfl, by decide +kernel, rfl, by decide +kernel, by decide +kernel⟩
theorem ok_at {f fB : Addr} {fd fdB : FuncData} (F : Fun K "_law_at" "_law_at" sAt f fd) (GB : FnOk P w K mg base CX0 1 fB fdB ["_law_plant"] spBelow) (AB : DefA K mg "_law_below" ["_law_plant"] fB fdB) : FnOk P w K mg base CX0 2 f fd ["_law_plant", "_law_path_so"] spAt := by
  refine F.ok scAt (fun vs H Q E h => ?_) (fun cdv A outer s H vs Q E hr h => ?_)
  · obtain ⟨N, v, a, t, k, p, rfl, _⟩ := h
    rfl
  · obtain ⟨N, v, a, t, kt, p, rfl, hv, hg, h1, ha, hat, k⟩ := h
    refine ⟨_, pss_cons (ps_for PassesOwn.never rfl (pi_tup (L2.pv 1)) (pg_name (i := 2) scAt.nd rfl (.inl rfl))
        (pss_one (ps_set (i := 0) scAt.nd rfl (.inl rfl) (pe_ix ix_list (pe_call GB hr rfl AB.g AB.k AB.b .nil pass0 (pa_cons (L2.pv 0) pa_nil)) (L2.pv 2) (fun _ _ => rfl)))))
      (pss_one (ps_ret (L2.pv 0))), ?_⟩
    have pl := natV_len p
    refine ⟨_, rfl, a, rfl, ⟨_, SqT.of ha⟩, for_tup (K := K) (a := a) (xs := natV p) (fun i σ H' => ∃ (nv : V) (u : Tr) (w2 : Option V), σ = [some nv, some (.ref a), w2] ∧ Same H H' ∧ PlAt N H' nv u ∧ genT u ∧ isT u = true ∧ atP u (p.drop i) = some kt) ⟨v, t, _, rfl, Same.refl H, hv, hg, h1, hat⟩ (fun i σ H' _ ⟨_, _, _, _, s', _⟩ => SqT.of (s' _ _ ha)) ?_ (fun σ H2 ⟨nv, u, w2, e, s2, hu, _, _, hk⟩ => ?_)⟩
    · rintro i x σ H1 hx ⟨nv, u, w2, rfl, s1, hu, gu, tu, hk⟩
      unfold natV at hx
      rw [List.getElem?_map] at hx
      cases hn : p[i]? with
      | none => rw [hn] at hx; cases hx
      | some n =>
        rw [hn] at hx
        have hx : V.int (n : Int) = x := Option.some.inj hx
        subst hx
        have il := (List.getElem?_eq_some_iff.mp hn).1
        rw [List.drop_eq_getElem_cons il, (List.getElem?_eq_some_iff.mp hn).2] at hk
        obtain ⟨f1, ps1, rfl⟩ := isT_nd tu
        rw [atP_nd] at hk
        cases hc : (below ps1)[n]? with
        | none => rw [hc] at hk; cases hk
        | some c =>
          rw [hc] at hk
          obtain ⟨g1, g2⟩ := gens_below gu.2.2.2.2
          have m := List.mem_of_getElem? hc
          obtain ⟨b, xs, rfl, hb, hN, hps⟩ := id hu
          refine ⟨_, rfl, N, b, f1, xs, ps1, rfl, hb, hps, gens_okP gu.2.2.2.2, by have := gu.2.2.2.1; omega, gens_rl gu.2.2.2.2, fun H2 L ks s2 nL hL hks => ?_⟩
          obtain ⟨z, ez, hz⟩ := pls_get hks hc
          exact ⟨_, rfl, L, ks, (n : Int), z, rfl, rfl, SqL.of hL, atI_nat ez, z, c, _, rfl, s1.trans s2, hz, gens_mem g1 m, g2 c m, hk⟩
    · subst e
      rw [pl, show p.drop p.length = [] from List.drop_length, atP_nil] at hk
      cases hk
      exact ⟨_, rfl, k H2 nv s2 hu⟩
end
end K3

namespace K3
open PySem PySem.Spec PyProof.Rows L2 E0
/-! ### _law_paths -/
section
variable {P : Program} {w : World} {K : PySem.W.Frag} {mg : Str → Option Value} {base : Heap}
def spPaths (d : Nat) : Sp := fun vs H Q _ => ∃ (N : Addr → Prop) (v : V) (t : Tr), vs = [v] ∧ PlAt N H v t ∧ genT t ∧ isT t = true ∧ ht t < d ∧ size t ≤ 10000 ∧
  ∀ H' L ys, Same H H' → H L = none → H' L = some (.lst ys) → Paired (PAt H') ys (pathsT t) → Q (.ref L) H'
def NPA : List Str := ["_law_plant", "_law_found", "_law_n", "_law_own", "_law_rest"]
theorem scPa : FnScope NPA ["_law_plant"] (defScope sPaths) := ⟨rfl, rfl, rfl, by decide +kernel, rfl, by decide +kernel, by decide +kernel⟩
theorem rowP_take {ts : List Tr} {i : Nat} {k : Tr} (h : ts[i]? = some k) : rowP 0 (ts.take (i + 1)) = rowP 0 (ts.take i) ++ (pathsT k).map (i :: ·) := by
  rw [List.take_add_one, h]
  show rowP 0 (ts.take i ++ [k]) = _
  rw [rowP_app, rowP_cons, List.length_take, Nat.min_eq_left (Nat.le_of_lt (List.getElem?_eq_some_iff.mp h).1), Nat.zero_add]
  simp [rowP]
theorem rowP_len : ∀ (ts : List Tr) (n : Nat), gensT ts → (∀ t ∈ ts, isT t = true) → (rowP n ts).length = sizes ts
  | [], n, _, _ => by simp [rowP, sizes]
  | a :: ts, n, hg, h => by
    rw [rowP_cons, List.length_append, List.length_map, paths_len hg.1 (h a (List.mem_cons_self ..)), rowP_len ts (n + 1) hg.2 fun t m => h t (List.mem_cons_of_mem _ m)]
    rfl
theorem gens_take {ts : List Tr} (h : gensT ts) (i : Nat) : gensT (ts.take i) := gens_of fun t m => gens_mem h (List.mem_of_mem_take m)
theorem sizes_take (ts : List Tr) (i : Nat) : sizes (ts.take i) ≤ sizes ts := by
  have := sizes_app (ts.take i) (ts.drop i)
  rw [List.take_append_drop] at this
  omega
theorem ok_paths {f fB : Addr} {fd fdB : FuncData} (F : Fun K "_law_paths" "_law_paths" sPaths f fd) (AS : DefA K mg "_law_paths" ["_law_plant"] f fd) (GB : FnOk P w K mg base CX0 1 fB fdB ["_law_plant"] spBelow) (AB : DefA K mg "_law_below" ["_law_plant"] fB fdB) (gE : mg "enumerate" = none) :
    ∀ d : Nat, FnOk P w K mg base CX0 (d + 1) f fd ["_law_plant"] (spPaths d)
  | 0 => fn_vac fun vs H Q E h => by
    obtain ⟨N, v, t, _, _, _, _, q, _⟩ := h
    exact absurd q (Nat.not_lt_zero _)
  | d + 1 => by
    have GR := ok_paths F AS GB AB gE d
    refine F.ok scPa (fun vs H Q E h => ?_) (fun cdv A outer s H vs Q E hr h => ?_)
    · obtain ⟨N, v, t, rfl, _⟩ := h
      rfl
    · obtain ⟨N, v, t, rfl, hv, hg, h1, hd, hsz, k⟩ := h
      have hr1 : Room 1 _ := hr.mono (by omega)
      refine ⟨_, pss_cons (ps_set (i := 1) scPa.nd rfl (.inl rfl) (pe_lst (pa_cons (pe_tup pa_nil) pa_nil)))
        (pss_cons (ps_for PassesOwn.never rfl (pi_enum rfl gE (pa_cons (pe_call GB hr1 rfl AB.g AB.k AB.b .nil pass0 (pa_cons (L2.pv 0) pa_nil)) pa_nil)) (pg_tup (by rfl) (pgs_cons (pg_name (i := 2) scPa.nd rfl (.inr rfl)) (pgs_cons (pg_name (i := 3) scPa.nd rfl (.inl rfl)) pgs_nil)))
          (pss_one (ps_set (i := 1) scPa.nd rfl (.inl rfl) (pe_op op_cat (L2.pv 1) (pe_lc (own := [("_law_rest", 4)]) (g := gName 4) (tt := tYes) (te := tOp (rCatT K) (tTup (tCons (tVar 2) tNil)) (tVar 4)) rfl scPa.nd (pi_list (pe_call GR hr rfl AS.g AS.k AS.b .nil pass0 (pa_cons (L2.pv 3) pa_nil)))
            (blkOk_by (N := NPA) (sc := defScope sPaths) (by decide +kernel)) (fun _ _ _ _ _ => pg_name (i := 4) scPa.nd rfl (Or.inl rfl)) (fun _ _ _ _ _ => pts_nil) (fun _ _ _ _ _ => pe_op op_catT (pe_tup (pa_cons (L2.pv 2) pa_nil)) (L2.pv 4)))))))
        (pss_one (ps_ret (L2.pv 1)))), ?_⟩
      have big : sizeLine ≥ 16777216 := by decide
      obtain ⟨f1, ps1, rfl⟩ := isT_nd h1
      obtain ⟨g1, g2⟩ := gens_below hg.2.2.2.2
      have okp := gens_okP hg.2.2.2.2
      obtain ⟨b1, b2, b3⟩ := below_ok okp
      obtain ⟨b, xs, rfl, hb, hN, hps⟩ := id hv
      simp only [size] at hsz
      simp only [ht] at hd
      -- [()]
      refine ⟨by decide, fun e0 he0 => ?_⟩
      have s0 : Same H (upd H e0 (.tup [])) := same_upd (Same.refl H) he0
      have v0 : (upd H e0 (.tup [])) e0 = some (.tup (natV [])) := upd_same
      generalize upd H e0 (.tup []) = H0 at s0 v0 ⊢
      refine ⟨by show 1 ≤ sizeLine; omega, fun f0 hf0 => ?_⟩
      have s1 : Same H0 (upd H0 f0 (.lst [.ref e0])) := same_upd (Same.refl H0) hf0
      have v1 : (upd H0 f0 (.lst [.ref e0])) f0 = some (.lst [.ref e0]) := upd_same
      generalize upd H0 f0 (.lst [.ref e0]) = H1 at s1 v1 ⊢
      have s01 := s0.trans s1
      have nf0 : H f0 = none := s0.free hf0
      refine ⟨_, rfl, N, b, f1, xs, ps1, rfl, s01 _ _ hb, PlsAt.kp (KpN.same s01) _ hps, okp, by have := hg.2.2.2.1; omega, gens_rl hg.2.2.2.2, fun H2 BL ks s2 nBL hBL hks => ?_⟩
      have s02 := s01.trans s2
      have kl := pls_len hks
      refine ⟨BL, ks, rfl, SqL.of hBL, for_it walk_enum (fun i σ H' => ∃ (fa : Addr) (ys : List V) (v2 v3 : Option V), σ = [some (.ref b), some (.ref fa), v2, v3, none] ∧ Same H2 H' ∧ H fa = none ∧ H' fa = some (.lst ys) ∧ Paired (PAt H') ys ([] :: rowP 0 ((below ps1).take i)))
        ⟨f0, [.ref e0], _, _, rfl, Same.refl _, nf0, s2 _ _ v1, .cons ⟨e0, rfl, (s1.trans s2) _ _ v0⟩ (by rw [List.take_zero]; simp only [rowP]; exact .nil)⟩ (fun i σ H' _ ⟨_, _, _, _, _, s', _⟩ => SqL.of (s' _ _ hBL)) ?_ ?_⟩
      · rintro i x σ H3 H4 hi ⟨fa, ys, v2, v3, rfl, s3, nfa, hfa, pys⟩ ⟨Tp, y, z, rfl, hT, rfl, ey, ez⟩
        have ey : some (V.int (i : Nat)) = some y := ey
        cases ey
        have ez : ks[i]? = some z := ez
        obtain ⟨ti, et, hti⟩ := LiI.paired_get (plsAt_iff.mp hks) ez
        have m := List.mem_of_getElem? et
        have gti := gens_mem g1 m
        have tti := g2 ti m
        have il := (List.getElem?_eq_some_iff.mp et).1
        have s5 : Same H3 (upd H3 Tp (.tup [.int (i : Nat), z])) := same_upd (Same.refl H3) hT
        have v5 : (upd H3 Tp (.tup [.int (i : Nat), z])) Tp = some (.tup [.int (i : Nat), z]) := upd_same
        generalize upd H3 Tp (.tup [.int (i : Nat), z]) = H5 at s5 v5 ⊢
        refine ⟨Tp, _, rfl, .inl (.inl v5), rfl, _, _, rfl, ?_⟩
        refine ⟨_, _, rfl, rfl, ?_⟩
        have s25 := s3.trans s5
        have hh := hts_below hg.2.2.2.2 m
        have sz1 := size_mem m
        refine ⟨_, rfl, _, rfl, N, z, ti, rfl, PlAt.kp (KpN.same s25) ti hti, gti, tti, by omega, by omega, fun H6 PL zs s6 nPL hPL pzs => ?_⟩
        have s26 := s25.trans s6
        have zl := pzs.length
        rw [paths_len gti tti] at zl
        refine ⟨PL, rfl, ⟨_, SqL.of hPL⟩, fun D hD => lc_list (K := K) (a := PL) (xs := zs) (fun j H' => Same H6 H' ∧ ∃ rs, H' D = some (.lst rs) ∧ rs.length = j ∧ Paired (PAt H') rs (((pathsT ti).take j).map (i :: ·)))
          ⟨same_upd (Same.refl H6) hD, [], upd_same, rfl, .nil⟩ (fun j H' _ ⟨s', _⟩ => SqL.of (s' _ _ hPL)) ?_ ?_⟩
        · rintro j x H7 hx ⟨s7, rs, e7, rl, prs⟩
          obtain ⟨q, eq, ⟨qa, rfl, hqa⟩⟩ := LiI.paired_get pzs hx
          have jl := (List.getElem?_eq_some_iff.mp hx).1
          refine ⟨rfl, ?_⟩
          dsimp only [tYes]
          rw [if_pos rfl]
          refine ⟨_, rfl, by show 1 ≤ sizeLine; omega, fun np hnp => ?_⟩
          have s8 : Same H7 (upd H7 np (.tup [.int (i : Nat)])) := same_upd (Same.refl H7) hnp
          have v8 : (upd H7 np (.tup [.int (i : Nat)])) np = some (.tup [.int (i : Nat)]) := upd_same
          generalize upd H7 np (.tup [.int (i : Nat)]) = H8 at s8 v8 ⊢
          have hq8 := (s7.trans s8) _ _ hqa
          have e8 := s8 _ _ e7
          have fin : ∀ (H9 : Hp) (r : Addr), Same H8 H9 → H9 r = some (.tup (natV (i :: q))) → ∃ xs, H9 D = some (.lst xs) ∧ xs.length < sizeLine ∧ Same H6 (upd H9 D (.lst (xs ++ [V.ref r]))) ∧ ∃ rs, (upd H9 D (.lst (xs ++ [V.ref r]))) D = some (.lst rs) ∧ rs.length = j + 1 ∧ Paired (PAt (upd H9 D (.lst (xs ++ [V.ref r])))) rs (((pathsT ti).take (j + 1)).map (i :: ·)) := fun H9 r s9 v9 => by
            have e9 := s9 _ _ e8
            have kk := kpO_upd (o := .lst (rs ++ [.ref r])) e9
            refine ⟨rs, e9, by omega, same_upd (s7.trans (s8.trans s9)) hD, rs ++ [.ref r], upd_same, by rw [List.length_append, rl]; rfl, ?_⟩
            rw [List.take_add_one, eq]
            show Paired _ _ (((pathsT ti).take j ++ [q]).map (i :: ·))
            rw [List.map_append]
            exact Paired.snoc (Paired.mapP prs fun a b z => (z.same (s8.trans s9)).kpo kk) ⟨r, rfl, kk _ _ rfl v9⟩
          have qlen : (natV q).length ≤ 10000 := by
            rw [natV_len]
            have mq := List.mem_of_getElem? eq
            obtain ⟨kk, hk⟩ := Option.isSome_iff_exists.mp ((mem_paths gti tti).mp mq)
            have l1 := (atP_gen gti tti hk).2.2.2.1
            have l2 := lev_size ti
            omega
          refine ⟨_, rfl, np, qa, [.int (i : Nat)], natV q, rfl, rfl, SqT.of v8, SqT.of hq8, by simp, by show 1 + (natV q).length ≤ sizeLine; omega, fun en => ?_, fun ne r hr0 => ?_⟩
          · have eq0 : q = [] := by cases q with | nil => rfl | cons _ _ => cases en
            exact fin H8 np (Same.refl H8) (by rw [eq0]; exact v8)
          · have s9 : Same H8 (upd H8 r (.tup ([.int (i : Nat)] ++ natV q))) := same_upd (Same.refl H8) hr0
            have v9 : (upd H8 r (.tup ([.int (i : Nat)] ++ natV q))) r = some (.tup (natV (i :: q))) := upd_same
            exact fin _ r s9 v9
        · rintro H7 ⟨s7, rs, e7, rl, prs⟩
          rw [show zs.length = (pathsT ti).length by rw [zl, paths_len gti tti], List.take_length] at prs
          have s27 := s26.trans s7
          have hfa7 := (s5.trans (s6.trans s7)) _ _ hfa
          have yl : ys.length = 1 + sizes ((below ps1).take i) := by
            rw [pys.length, List.length_cons, rowP_len _ _ (gens_take g1 i) (fun t m => g2 t (List.mem_of_mem_take m))]
            omega
          have st := sizes_take (below ps1) i
          refine ⟨fa, D, ys, rs, rfl, rfl, hfa7, e7, by omega, fun fb hfb => ?_⟩
          have s8 : Same H7 (upd H7 fb (.lst (ys ++ rs))) := same_upd (Same.refl H7) hfb
          have v8 : (upd H7 fb (.lst (ys ++ rs))) fb = some (.lst (ys ++ rs)) := upd_same
          generalize upd H7 fb (.lst (ys ++ rs)) = H8 at s8 v8 ⊢
          refine ⟨fb, ys ++ rs, _, _, rfl, s27.trans s8, (s02.trans s27).free hfb, v8, ?_⟩
          rw [rowP_take et]
          exact Paired.app (Paired.mapP pys fun a b z => z.same (s5.trans (s6.trans (s7.trans s8)))) (Paired.mapP prs fun a b z => z.same s8)
      · rintro σ H3 ⟨fa, ys, v2, v3, rfl, s3, nfa, hfa, pys⟩
        rw [kl, List.take_length, ← paths_nd (lk := false) (f := f1) hg.2.2.2.2] at pys
        exact ⟨_, rfl, k H3 fa ys (s02.trans s3) nfa hfa pys⟩
end
end K3

namespace K3
open PySem PySem.Spec PyProof.Rows PySem.SeqAt L2 E0
/-! ### paths as data -/
def natD (p : List Nat) : PyData := .tuple (p.map fun n : Nat => PyData.int (n : Int))
theorem dpNat {K : PySem.W.Frag} {H : Hp} : ∀ p : List Nat, DpAll K H (natV p) (p.map fun n : Nat => PyData.int (n : Int))
  | [] => .nil
  | n :: p => .cons (.int _) (dpNat p)
theorem PAt.dp {K : PySem.W.Frag} {H : Hp} {a : Addr} {p : List Nat} (h : H a = some (.tup (natV p))) : Dp K H (.ref a) (natD p) := .tup (SqT.of h) (dpNat p)
theorem natD_lay (p : List Nat) : PyData.canLayAll0 (p.map fun n : Nat => PyData.int (n : Int)) = true ∧ PyData.depthAll (p.map fun n : Nat => PyData.int (n : Int)) = 0 := by
  induction p with
  | nil => exact ⟨rfl, rfl⟩
  | cons n p ih => simp [PyData.canLayAll0, PyData.canLay0, PyData.depthAll, PyData.depth, ih]
theorem shPath (p : List Nat) : SeqAt.shaped (natD p) = true := by
  obtain ⟨a, b⟩ := natD_lay p
  simp [natD, SeqAt.shaped, PyData.canLay0, PyData.depth, a, b]
theorem eqvAll_nat : ∀ p q : List Nat, PyData.eqvAll (p.map fun n : Nat => PyData.int (n : Int)) (q.map fun n : Nat => PyData.int (n : Int)) = decide (p = q)
  | [], [] => rfl
  | [], n :: q => by simp [PyData.eqvAll]
  | n :: p, [] => by simp [PyData.eqvAll]
  | n :: p, m :: q => by
    have := eqvAll_nat p q
    simp only [List.map_cons, PyData.eqvAll, PyData.eqv, this]
    by_cases h : n = m
    · subst h
      simp
    · have h2 : ¬ (n : Int) = (m : Int) := by omega
      simp [h, h2]
theorem eqv_path (p q : List Nat) : PyData.eqv (natD p) (natD q) = decide (p = q) := by
  unfold natD
  show PyData.eqvAll _ _ = _
  exact eqvAll_nat p q
/-! ### what the parts of a plant name, stands already -/
mutual
theorem PlAt.alive {N : Addr → Prop} {H : Hp} : ∀ {v : V} (t : Tr), PlAt N H v t → PlAt (fun b => N b ∧ H b ≠ none) H v t
  | _, .tx _, h => h
  | _, .row ts, h => by
    obtain ⟨l, xs, h1, h2, h3, h4⟩ := h
    exact ⟨l, xs, h1, h2, ⟨h3, by rw [h2]; nofun⟩, PlsAt.alive ts h4⟩
  | _, .nd _ f ps, h => by
    obtain ⟨l, xs, h1, h2, h3, h4⟩ := h
    exact ⟨l, xs, h1, h2, ⟨h3, by rw [h2]; nofun⟩, PlsAt.alive ps h4⟩
  | _, .vr _ _, h => False.elim h
theorem PlsAt.alive {N : Addr → Prop} {H : Hp} : ∀ {xs : List V} (ts : List Tr), PlsAt N H xs ts → PlsAt (fun b => N b ∧ H b ≠ none) H xs ts
  | [], [], h => h
  | x :: xs, t :: ts, h => ⟨PlAt.alive t h.1, PlsAt.alive ts h.2⟩
  | [], _ :: _, h => False.elim h
  | _ :: _, [], h => False.elim h
end
def But (N : Addr → Prop) (r : Addr) : Addr → Prop := fun b => N b ∧ b ≠ r
theorem PlAt.but {N : Addr → Prop} {H : Hp} {v : V} {t : Tr} {r : Addr} (h : PlAt N H v t) (n : H r = none) : PlAt (But N r) H v t := PlAt.mono (fun b z => ⟨z.1, fun e => z.2 (by rw [e]; exact n)⟩) t (PlAt.alive t h)
theorem PlsAt.but {N : Addr → Prop} {H : Hp} {xs : List V} {ts : List Tr} {r : Addr} (h : PlsAt N H xs ts) (n : H r = none) : PlsAt (But N r) H xs ts := PlsAt.mono (fun b z => ⟨z.1, fun e => z.2 (by rw [e]; exact n)⟩) ts (PlsAt.alive ts h)
/-! ### _law_placed -/
section
variable {P : Program} {w : World} {K : PySem.W.Frag} {mg : Str → Option Value} {base : Heap}
def spPlaced (d : Nat) : Sp := fun vs H Q _ => ∃ (N : Addr → Prop) (v ov : V) (pa : Addr) (t u : Tr) (p : List Nat), vs = [v, .ref pa, ov] ∧ (∀ b, H b = none → N b) ∧ PlAt N H v t ∧ genT t ∧ isT t = true ∧ PlAt N H ov u ∧ genT u ∧ isT u = true ∧ H pa = some (.tup (natV p)) ∧ p.length < d ∧
  ∀ H' v', Same H H' → PlAt N H' v' (placeT p t u) → Q v' H'
def NPL : List Str := ["_law_plant", "_law_path_so", "_law_other_one", "_law_found", "_law_number", "_law_own", "_law_row_here", "_law_item"]
theorem scPl : FnScope NPL ["_law_plant", "_law_path_so", "_law_other_one"] (defScope sPlaced) := ⟨rfl, rfl, rfl, by decide +kernel, rfl, by decide +kernel, by decide +kernel⟩
theorem ok_placed {f : Addr} {fd : FuncData} (F : Fun K "_law_placed" "_law_placed" sPlaced f fd) (AS : DefA K mg "_law_placed" ["_law_plant", "_law_path_so", "_law_other_one"] f fd) (T : TxtT mg C) (gList : mg "list" = none) :
    ∀ d : Nat, FnOk P w K mg base CX0 (d + 1) f fd ["_law_plant", "_law_path_so", "_law_other_one"] (spPlaced d)
  | 0 => fn_vac fun vs H Q E h => by
    obtain ⟨N, v, ov, pa, t, u, p, _, _, _, _, _, _, _, _, _, q, _⟩ := h
    exact absurd q (Nat.not_lt_zero _)
  | d + 1 => by
    have GR := ok_placed F AS T gList d
    refine F.ok scPl (fun vs H Q E h => ?_) (fun cdv A outer s H vs Q E hr h => ?_)
    · obtain ⟨N, v, ov, pa, t, u, p, rfl, _⟩ := h
      rfl
    · obtain ⟨N, v, ov, pa, t, u, p, rfl, hN, hv, hg, h1, hov, gu, tu, hpa, hd, k⟩ := h
      have hu64 : (A.deeper (PyProof.Rows.envOfC "_law_placed" (defScope sPlaced) s.heap.objs.size f cdv)).units + 64 < cLine := by have := hr.un; omega

      refine ⟨_, pss_cons (ps_if (pt_cmpR (op_eqD hu64) (L2.pv 1) (pe_tup pa_nil) (nomark _)) (pss_one (ps_ret (L2.pv 2))) pss_nil)
        (pss_cons (ps_par (i := 3) (j := 4) (by rfl) scPl.nd rfl rfl (by decide) rfl rfl (pa_cons (pe_lst (pa_cons (pe_ix ix_tup (L2.pv 0) pe_int (fun _ _ => rfl)) pa_nil)) (pa_cons (pe_ix ix_tup (L2.pv 1) pe_int (fun _ _ => rfl)) pa_nil)) (by rfl))
        (pss_cons (ps_for PassesOwn.never rfl (pi_tup (pe_slice sl_tup (L2.pv 0) (po_some pe_int) po_none)) (pg_name (i := 5) scPl.nd rfl (.inl rfl))
          (pss_one (ps_if (pt_val (pe_callB call_isi (by rfl) T.isi PyProof.Rows.boot_isinstance (pa_cons (L2.pv 5) (pa_cons (pe_bltn (v := .ty "list") rfl gList (by decide +kernel) rfl) pa_nil))))
            (pss_cons (ps_set (i := 6) scPl.nd rfl (.inl rfl) (pe_lst pa_nil))
            (pss_cons (ps_for PassesOwn.never rfl (pi_list (L2.pv 5)) (pg_name (i := 7) scPl.nd rfl (.inl rfl))
              (pss_cons (ps_expr (pe_bm PySem.F.plainAttrs_list PySem.F.slot_list_append PySem.F.type_list_append mt_append (L2.pv 6) (pa_cons (pe_ifExp (pt_cmpR op_eq (L2.pv 4) pe_int (nomark _)) (pe_call GR hr rfl AS.g AS.k AS.b .nil pass0 (pa_cons (L2.pv 7) (pa_cons (pe_slice sl_tup (L2.pv 1) (po_some pe_int) po_none) (pa_cons (L2.pv 2) pa_nil)))) (L2.pv 7)) pa_nil)))
              (pss_one (ps_set (i := 4) scPl.nd rfl (.inl rfl) (pe_op op_sub (L2.pv 4) pe_int)))))
            (pss_one (ps_expr (pe_bm PySem.F.plainAttrs_list PySem.F.slot_list_append PySem.F.type_list_append mt_append (L2.pv 3) (pa_cons (L2.pv 6) pa_nil))))))
            (pss_one (ps_if (pt_val (pe_callB call_isi (by rfl) T.isi PyProof.Rows.boot_isinstance (pa_cons (L2.pv 5) (pa_cons (pe_bltn (v := .ty "str") rfl T.str PyProof.Rows.boot_str rfl) pa_nil))))
              (pss_one (ps_expr (pe_bm PySem.F.plainAttrs_list PySem.F.slot_list_append PySem.F.type_list_append mt_append (L2.pv 3) (pa_cons (L2.pv 5) pa_nil))))
              (pss_cons (ps_expr (pe_bm PySem.F.plainAttrs_list PySem.F.slot_list_append PySem.F.type_list_append mt_append (L2.pv 3) (pa_cons (pe_ifExp (pt_cmpR op_eq (L2.pv 4) pe_int (nomark _)) (pe_call GR hr rfl AS.g AS.k AS.b .nil pass0 (pa_cons (L2.pv 5) (pa_cons (pe_slice sl_tup (L2.pv 1) (po_some pe_int) po_none) (pa_cons (L2.pv 2) pa_nil)))) (L2.pv 5)) pa_nil)))
              (pss_one (ps_set (i := 4) scPl.nd rfl (.inl rfl) (pe_op op_sub (L2.pv 4) pe_int)))))))))
        (pss_one (ps_ret (pe_callTy call_tuple_of (by rfl) T.tup PyProof.Rows.boot_tuple (pa_cons (L2.pv 3) pa_nil)))))), ?_⟩
      have big : sizeLine ≥ 16777216 := by decide
      have pl := natV_len p
      obtain ⟨f1, ps1, rfl⟩ := isT_nd h1
      obtain ⟨b, xs, rfl, hb, hNb, hps⟩ := id hv
      have gps := hg.2.2.2.2
      -- path == ()
      refine ⟨_, rfl, by decide, fun e0 he0 => ?_⟩
      have s0 : Same H (upd H e0 (.tup [])) := same_upd (Same.refl H) he0
      have v0 : (upd H e0 (.tup [])) e0 = some (.tup (natV [])) := upd_same
      generalize upd H e0 (.tup []) = H0 at s0 v0 ⊢
      refine ⟨natD p, natD [], PAt.dp (s0 _ _ hpa), PAt.dp v0, shPath p, shPath [], _, rfl, ?_⟩
      rw [eqv_path]
      match p, hpa, hd, k, pl with
      | [], hpa, hd, k, pl =>
        refine iteT ?_
        exact ⟨_, rfl, k H0 ov s0 (PlAt.kp (KpN.same s0) _ hov)⟩
      | n :: p', hpa, hd, k, pl =>
        refine iteF ?_
        -- what becomes of one node
        have one : ∀ (N' : Addr → Prop) (σ' : L2.St) (ii : Nat) (H1 : Hp) (x : V) (t1 : Tr) (num : Int) (Qk : VK), (∀ b, H1 b = none → N' b) → PlAt N' H1 x t1 → genT t1 → isT t1 = true → PlAt N' H1 ov u → H1 pa = some (.tup (natV (n :: p'))) →
            σ'[1]? = some (some (.ref pa)) → σ'[2]? = some (some ov) → σ'[4]? = some (some (.int num)) → σ'[ii]? = some (some x) → (∀ H2 z, Same H1 H2 → PlAt N' H2 z (if num = 0 then placeT p' t1 u else t1) → Qk z H2) →
            tIf (tTest (tOp rEq (tVar 4) (tC (.int 0)))) (tCall (spPlaced d) [] E0 (tCons (tVar ii) (tCons (tSl (rSlT K) (tVar 1) (tPart (tC (.int 1))) tNoPart) (tCons (tVar 2) tNil)))) (tVar ii) σ' H1 Qk := by
          intro N' σ' ii H1 x t1 num Qk hN' hx gx tx hov1 hpa1 q1 q2 q4 qi kk
          refine ⟨_, q4, rfl, _, rfl, ?_⟩
          by_cases hz : num = 0
          · rw [show decide (V.int num = V.int 0) = true from decide_eq_true (by rw [hz])]
            refine iteT ?_
            refine ⟨_, qi, _, q1, 1, rfl, pa, _, rfl, SqT.of hpa1, ?_, fun sp hsp => ?_⟩
            · rw [show (some (1 : Int)) = some ((1 : Nat) : Int) from rfl, HT.sIx_nat, pl]
              intro q
              have q := q.1
              rw [List.length_cons] at q
              omega
            rw [show (some (1 : Int)) = some ((1 : Nat) : Int) from rfl, cut_from]
            have s2 : Same H1 (upd H1 sp (.tup ((natV (n :: p')).drop 1))) := same_upd (Same.refl H1) hsp
            have v2 : (upd H1 sp (.tup ((natV (n :: p')).drop 1))) sp = some (.tup (natV p')) := upd_same
            generalize upd H1 sp (.tup ((natV (n :: p')).drop 1)) = H2 at s2 v2 ⊢
            refine ⟨_, q2, N', x, ov, sp, t1, u, p', rfl, fun b h => hN' b (s2.free h), PlAt.kp (KpN.same s2) _ hx, gx, tx, PlAt.kp (KpN.same s2) _ hov1, gu, tu, v2, by rw [List.length_cons] at hd; omega, fun H3 z s3 hz3 => ?_⟩
            refine kk H3 z (s2.trans s3) ?_
            rw [if_pos hz]
            exact hz3
          · rw [show decide (V.int num = V.int 0) = false from decide_eq_false (fun e => hz (by cases e; rfl))]
            refine iteF ?_
            refine ⟨_, qi, kk H1 x (Same.refl H1) ?_⟩
            rw [if_neg hz]
            exact hx
        -- the two names
        refine ⟨_, rfl, b, _, 0, .str f1, rfl, rfl, SqT.of (s0 _ _ hb), atI_nat (j := 0) rfl, by show 1 ≤ sizeLine; omega, fun fa hfa => ?_⟩
        have s1 : Same H0 (upd H0 fa (.lst [.str f1])) := same_upd (Same.refl H0) hfa
        have v1 : (upd H0 fa (.lst [.str f1])) fa = some (.lst [.str f1]) := upd_same
        generalize upd H0 fa (.lst [.str f1]) = H1 at s1 v1 ⊢
        have s01 := s0.trans s1
        have nfa : H fa = none := s0.free hfa
        refine ⟨_, rfl, pa, _, 0, .int (n : Int), rfl, rfl, SqT.of (s01 _ _ hpa), atI_nat (j := 0) rfl, _, _, rfl, ?_⟩
        -- the parts
        refine ⟨_, rfl, 1, rfl, b, _, rfl, SqT.of (s01 _ _ hb), ?_, fun tp htp => ?_⟩
        · rw [show (some (1 : Int)) = some ((1 : Nat) : Int) from rfl, HT.sIx_nat]
          intro q
          have q := q.1
          rw [List.length_cons] at q
          omega
        rw [show (some (1 : Int)) = some ((1 : Nat) : Int) from rfl, cut_from]
        have s2 : Same H1 (upd H1 tp (.tup ((V.str f1 :: xs).drop 1))) := same_upd (Same.refl H1) htp
        have v2 : (upd H1 tp (.tup ((V.str f1 :: xs).drop 1))) tp = some (.tup xs) := upd_same
        generalize upd H1 tp (.tup ((V.str f1 :: xs).drop 1)) = H2 at s2 v2 ⊢
        have s02 := s01.trans s2
        have xl := pls_len hps
        have Nf : ∀ H', Same H H' → (H' fa ≠ none) → ∀ b, H' b = none → But N fa b := fun H' s' hf b h => ⟨hN b (s'.free h), fun e => hf (by rw [← e]; exact h)⟩
        have hpsf : PlsAt (But N fa) H xs ps1 := hps.but nfa
        have hovf : PlAt (But N fa) H ov u := hov.but nfa
        refine ⟨tp, rfl, ⟨_, SqT.of v2⟩, for_tup (K := K) (a := tp) (xs := xs) (fun i σ H' => ∃ (v5 v6 v7 : Option V) (acc : List V), σ = [some (.ref b), some (.ref pa), some ov, some (.ref fa), some (.int ((n : Int) - cntTs (ps1.take i))), v5, v6, v7] ∧ Same H H' ∧ H' fa = some (.lst (.str f1 :: acc)) ∧ H' tp = some (.tup xs) ∧ acc.length = i ∧ PlsAt (But N fa) H' acc (partsX (fun k => placeT p' k u) n (ps1.take i)))
          ⟨none, none, none, [], by rw [List.take_zero, show (n : Int) - ((cntTs [] : Nat) : Int) = (n : Int) by show (n : Int) - ((0 : Nat) : Int) = n; omega]; rfl, s02, s2 _ _ v1, v2, rfl, True.intro⟩ (fun i σ H' _ ⟨_, _, _, _, _, _, _, ht, _⟩ => SqT.of ht) ?_ ?_⟩
        · rintro i x σ H3 hx ⟨v5, v6, v7, acc, rfl, s3, hfa3, htp3, al, pacc⟩
          obtain ⟨p1, ep, hi⟩ := LiI.paired_get (plsAt_iff.mp hpsf) hx
          have il : i < xs.length := (List.getElem?_eq_some_iff.mp hx).1
          have gp := gens_mem gps (List.mem_of_getElem? ep)
          have hi3 := PlAt.kp (KpN.same s3) p1 hi
          have ty : TyX K H3 x (.type (tyP p1)) := PlAt.ty hi3
          have eps : ps1.take (i + 1) = ps1.take i ++ [p1] := by rw [List.take_add_one, ep]; rfl
          have ntp : tp ≠ fa := fun e => by rw [e, hfa3] at htp3; cases htp3
          have fl : ps1.length ≤ 9 := hg.2.2.2.1
          have fin : ∀ (H4 : Hp) (z : V) (q : Tr), Same H3 H4 → PlAt (But N fa) H4 z q → q = partX (fun k => placeT p' k u) ((n : Int) - cntTs (ps1.take i)) p1 → (V.str f1 :: acc).length < sizeLine ∧ Same H (upd H4 fa (.lst ((.str f1 :: acc) ++ [z]))) ∧ (upd H4 fa (.lst ((.str f1 :: acc) ++ [z]))) fa = some (.lst (.str f1 :: (acc ++ [z]))) ∧ (upd H4 fa (.lst ((.str f1 :: acc) ++ [z]))) tp = some (.tup xs) ∧ (acc ++ [z]).length = i + 1 ∧ PlsAt (But N fa) (upd H4 fa (.lst ((.str f1 :: acc) ++ [z]))) (acc ++ [z]) (partsX (fun k => placeT p' k u) n (ps1.take (i + 1))) := fun H4 z q s4 hz eq => by
            have kk : KpN (But N fa) H4 (upd H4 fa (.lst ((.str f1 :: acc) ++ [z]))) := fun c o nc q _ => by rw [upd_ne nc.2]; exact q
            refine ⟨by rw [List.length_cons]; omega, same_upd (s3.trans s4) nfa, upd_same, by rw [upd_ne ntp]; exact s4 _ _ htp3, by rw [List.length_append, al]; rfl, ?_⟩
            rw [eps, partsX_snoc, ← eq]
            have hz' : PlsAt (But N fa) (upd H4 fa (.lst ((.str f1 :: acc) ++ [z]))) [z] [q] := ⟨PlAt.kp kk _ hz, True.intro⟩
            exact pls_app (PlsAt.kp kk _ (PlsAt.kp (KpN.same s4) _ pacc)) hz'
          refine ⟨_, rfl, _, _, _, _, isRw p1, rfl, .ty "list", ty, kit_lst p1, _, rfl, ?_⟩
          match p1, hi3, gp, ty, eps, fin with
          | .row us, hi3, gp, ty, eps, fin =>
            refine iteT ?_
            obtain ⟨l, ys, rfl, hl, hNl, hys⟩ := id hi3
            refine ⟨by decide, fun ra hra => ?_⟩
            have s4 : Same H3 (upd H3 ra (.lst [])) := same_upd (Same.refl H3) hra
            have v4 : (upd H3 ra (.lst [])) ra = some (.lst []) := upd_same
            generalize upd H3 ra (.lst []) = H4 at s4 v4 ⊢
            have yl := pls_len hys
            have nra : ra ≠ fa := fun e => by rw [e, hfa3] at hra; cases hra
            have nHra : H ra = none := s3.free hra
            have hysr : PlsAt (But (But N fa) ra) H3 ys us := hys.but hra
            have paccr : PlsAt (But (But N fa) ra) H3 acc (partsX (fun k => placeT p' k u) n (ps1.take i)) := pacc.but hra
            have hovr : PlAt (But (But N fa) ra) H3 ov u := (PlAt.kp (KpN.same s3) _ hovf).but hra
            refine ⟨_, rfl, l, rfl, ⟨_, SqL.of (s4 _ _ hl)⟩, for_list (K := K) (a := l) (xs := ys) (fun j σ H' => ∃ (v7 : Option V) (rs : List V), σ = [some (.ref b), some (.ref pa), some ov, some (.ref fa), some (.int ((n : Int) - cntTs (ps1.take i) - (j : Int))), some (.ref l), some (.ref ra), v7] ∧ Same H3 H' ∧ H' ra = some (.lst rs) ∧ rs.length = j ∧ PlsAt (But (But N fa) ra) H' rs (rowX (fun k => placeT p' k u) ((n : Int) - cntTs (ps1.take i)) (us.take j)))
              ⟨v7, [], by rw [show (n : Int) - (cntTs (ps1.take i) : Int) - ((0 : Nat) : Int) = (n : Int) - (cntTs (ps1.take i) : Int) by omega]; rfl, s4, v4, rfl, True.intro⟩ (fun j σ H' _ ⟨_, _, _, s', _⟩ => SqL.of (s' _ _ hl)) ?_ ?_⟩
            · rintro j y σ H5 hy ⟨v7, rs, rfl, s5, hra5, rl, prs⟩
              obtain ⟨tj, et, htj⟩ := LiI.paired_get (plsAt_iff.mp hysr) hy
              have jl := (List.getElem?_eq_some_iff.mp et).1
              have gtj := gens_mem gp.2.1 (List.mem_of_getElem? et)
              have ttj := gp.2.2 tj (List.mem_of_getElem? et)
              have ul : us.length ≤ 1000 := gp.1
              refine ⟨_, rfl, .inl ⟨rfl, _, SqL.of hra5⟩, ?_⟩
              refine one (But (But N fa) ra) _ 7 H5 y tj _ _ (fun c h => ⟨Nf H5 (s3.trans s5) (by rw [s5 _ _ hfa3]; nofun) c h, fun e => by rw [e, hra5] at h; cases h⟩) (PlAt.kp (KpN.same s5) _ htj) gtj ttj (PlAt.kp (KpN.same s5) _ hovr) ((s3.trans s5) _ _ hpa) rfl rfl rfl rfl fun H6 z s6 hz => ?_
              have hra6 := s6 _ _ hra5
              refine ⟨ra, rs, _, rfl, rfl, hra6, by omega, ?_⟩
              have kk : KpN (But (But N fa) ra) H6 (upd H6 ra (.lst (rs ++ [z]))) := fun c o nc q _ => by rw [upd_ne nc.2]; exact q
              refine ⟨_, rfl, _, _, rfl, rfl, ?_⟩
              refine ⟨some y, rs ++ [z], ?_, same_upd (s5.trans s6) hra, upd_same, by rw [List.length_append, rl]; rfl, ?_⟩
              · rw [show (n : Int) - (cntTs (ps1.take i) : Int) - ((j + 1 : Nat) : Int) = (n : Int) - (cntTs (ps1.take i) : Int) - (j : Int) - 1 by omega]
                rfl
              · rw [List.take_add_one, et]
                show PlsAt _ _ _ (rowX _ _ (us.take j ++ [tj]))
                rw [rowX_snoc, List.length_take, Nat.min_eq_left (Nat.le_of_lt jl)]
                have hz' : PlsAt (But (But N fa) ra) (upd H6 ra (.lst (rs ++ [z]))) [z] [if (n : Int) - (cntTs (ps1.take i) : Int) = (j : Int) then placeT p' tj u else tj] := by
                  refine ⟨PlAt.kp kk _ ?_, True.intro⟩
                  by_cases q : (n : Int) - (cntTs (ps1.take i) : Int) = (j : Int)
                  · rw [if_pos q]
                    rw [if_pos (by omega)] at hz
                    exact hz
                  · rw [if_neg q]
                    rw [if_neg (by omega)] at hz
                    exact hz
                exact pls_app (PlsAt.kp kk _ (PlsAt.kp (KpN.same s6) _ prs)) hz'
            · rintro σ H5 ⟨v7, rs, rfl, s5, hra5, rl, prs⟩
              rw [yl, List.take_length] at prs
              obtain ⟨q1, q2, q3, q4, q5, q6⟩ := fin H5 (.ref ra) (.row (rowX (fun k => placeT p' k u) ((n : Int) - cntTs (ps1.take i)) us)) s5 ⟨ra, rs, rfl, hra5, ⟨hN ra nHra, nra⟩, PlsAt.mono (fun c z => z.1) _ prs⟩ rfl
              refine ⟨_, rfl, .inl ⟨rfl, _, SqL.of (s5 _ _ hfa3)⟩, _, rfl, fa, _, _, rfl, rfl, s5 _ _ hfa3, q1, ?_⟩
              refine ⟨some (.ref l), some (.ref ra), v7, acc ++ [.ref ra], ?_, q2, q3, q4, q5, q6⟩
              rw [eps, cntTs_snoc, show cntT (.row us) = us.length from rfl, yl, show (n : Int) - ((cntTs (ps1.take i) + us.length : Nat) : Int) = (n : Int) - (cntTs (ps1.take i) : Int) - (us.length : Int) by omega]
          | .tx z, hi3, gp, ty, eps, fin =>
            refine iteF ?_
            refine ⟨_, rfl, _, _, _, _, true, rfl, .ty "str", ty, kit_st (.tx z), _, rfl, ?_⟩
            refine iteT ?_
            obtain ⟨q1, q2, q3, q4, q5, q6⟩ := fin H3 x (.tx z) (Same.refl H3) hi3 rfl
            refine ⟨_, rfl, .inl ⟨rfl, _, SqL.of hfa3⟩, _, rfl, fa, _, _, rfl, rfl, hfa3, q1, ?_⟩
            exact ⟨some x, v6, v7, acc ++ [x], by rw [eps, cntTs_snoc]; rfl, q2, q3, q4, q5, q6⟩
          | .nd lk f2 qs, hi3, gp, ty, eps, fin =>
            refine iteF ?_
            obtain ⟨rfl, _⟩ := id gp
            refine ⟨_, rfl, _, _, _, _, false, rfl, .ty "str", ty, kit_st (.nd false f2 qs), _, rfl, ?_⟩
            refine iteF ?_
            refine ⟨_, rfl, .inl ⟨rfl, _, SqL.of hfa3⟩, ?_⟩
            refine one (But N fa) _ 5 H3 x (.nd false f2 qs) _ _ (Nf H3 s3 (by rw [hfa3]; nofun)) hi3 gp rfl (PlAt.kp (KpN.same s3) _ hovf) (s3 _ _ hpa) rfl rfl rfl rfl fun H4 z s4 hz => ?_
            obtain ⟨q1, q2, q3, q4, q5, q6⟩ := fin H4 z _ s4 hz rfl
            refine ⟨fa, _, _, rfl, rfl, s4 _ _ hfa3, q1, ?_⟩
            refine ⟨_, rfl, _, _, rfl, rfl, ?_⟩
            refine ⟨some x, v6, v7, acc ++ [z], ?_, q2, q3, q4, q5, q6⟩
            rw [eps, cntTs_snoc, show cntT (.nd false f2 qs) = 1 from rfl, show (n : Int) - ((cntTs (ps1.take i) + 1 : Nat) : Int) = (n : Int) - (cntTs (ps1.take i) : Int) - 1 by omega]
            rfl
          | .vr _ _, hi3, gp, ty, eps, fin => exact False.elim gp
        · rintro σ H3 ⟨v5, v6, v7, acc, rfl, s3, hfa3, htp3, al, pacc⟩
          rw [xl, List.take_length] at pacc
          refine ⟨_, rfl, fa, _, rfl, .inl ⟨SqL.of hfa3, fun q hq => ?_⟩⟩
          have s4 : Same H3 (upd H3 q (.tup (.str f1 :: acc))) := same_upd (Same.refl H3) hq
          refine k _ _ (s3.trans s4) ⟨q, acc, rfl, upd_same, hN q (s3.free hq), PlsAt.mono (fun c z => z.1) _ (PlsAt.kp (KpN.same s4) _ pacc)⟩
end
end K3

namespace K3
open PySem PySem.Spec PyProof.Rows PySem.SeqAt L2 E0
/-! ### _law_closed -/
section
variable {P : Program} {w : World} {K : PySem.W.Frag} {mg : Str → Option Value} {base : Heap}
def spClosed (d : Nat) : Sp := fun vs H Q _ => ∃ (N : Addr → Prop) (v : V) (t : Tr), vs = [v] ∧ PlAt N H v t ∧ genT t ∧ ht t < d ∧ ∀ H', Same H H' → Q (.bl true) H'
def NCL : List Str := ["_law_part", "_law_item", "_law_own"]
theorem scCl : FnScope NCL ["_law_part"] (defScope sClosed) := ⟨rfl, rfl, rfl, by decide +kernel, rfl, by decide +kernel, by decide +kernel⟩
theorem name_not {f : Str} (h : nameS f = true) {z : Str} (hz : nameS z = false) : f ≠ z := fun e => by rw [e, hz] at h; cases h
theorem notIn3 {f : Str} (h : nameS f = true) : inV (.str f) [.str "?", .str "$", .str "*"] = false := by
  have h1 := name_not h (z := "?") (by decide +kernel)
  have h2 := name_not h (z := "$") (by decide +kernel)
  have h3 := name_not h (z := "*") (by decide +kernel)
  simp only [inV, List.any_cons, List.any_nil, eqV, Bool.or_false, Bool.or_eq_false_iff, beq_eq_false_iff_ne]
  exact ⟨h1.symm, h2.symm, h3.symm⟩
theorem dpNil {K : PySem.W.Frag} {H : Hp} {a : Addr} (h : H a = some (.lst [])) : Dp K H (.ref a) (.list []) := .lst (SqL.of h) .nil
theorem shNil : SeqAt.shaped (.list []) = true := by decide +kernel
theorem ok_closed {C : Cl5} {f : Addr} {fd : FuncData} (F : Fun K "_law_closed" "_law_closed" sClosed f fd) (AS : DefA K mg "_law_closed" ["_law_part"] f fd) (T : TxtT mg C) (gList : mg "list" = none) :
    ∀ d : Nat, FnOk P w K mg base CX0 (d + 1) f fd ["_law_part"] (spClosed d)
  | 0 => fn_vac fun vs H Q E h => by
    obtain ⟨N, v, t, _, _, _, q, _⟩ := h
    exact absurd q (Nat.not_lt_zero _)
  | d + 1 => by
    have GR := ok_closed F AS T gList d
    refine F.ok scCl (fun vs H Q E h => ?_) (fun cdv A outer s H vs Q E hr h => ?_)
    · obtain ⟨N, v, t, rfl, _⟩ := h
      rfl
    · obtain ⟨N, v, t, rfl, hv, hg, hd, k⟩ := h
      have hu64 : (A.deeper (PyProof.Rows.envOfC "_law_closed" (defScope sClosed) s.heap.objs.size f cdv)).units + 64 < cLine := by have := hr.un; omega
      refine ⟨_, pss_cons (ps_if (pt_val (pe_callB call_isi (by rfl) T.isi PyProof.Rows.boot_isinstance (pa_cons (L2.pv 0) (pa_cons (pe_bltn (v := .ty "str") rfl T.str PyProof.Rows.boot_str rfl) pa_nil)))) (pss_one (ps_ret pe_bl)) pss_nil)
        (pss_cons (ps_if (pt_val (pe_callB call_isi (by rfl) T.isi PyProof.Rows.boot_isinstance (pa_cons (L2.pv 0) (pa_cons (pe_bltn (v := .ty "list") rfl gList (by decide +kernel) rfl) pa_nil))))
          (pss_one (ps_ret (pe_cmpR (op_eqD hu64) (pe_lc (own := [("_law_item", 1)]) (g := gName 1) (tt := tNot (tB (tCall (spClosed d) [] E0 (tCons (tVar 1) tNil)))) (te := tVar 1) rfl scCl.nd (pi_list (L2.pv 0))
            (blkOk_by (N := NCL) (sc := defScope sClosed) (by decide +kernel)) (fun _ _ _ _ _ => pg_name (i := 1) scCl.nd rfl (Or.inl rfl)) (fun _ _ _ _ _ => pts_one (pt_not (pt_val (pe_call GR hr rfl AS.g AS.k AS.b .nil pass0 (pa_cons (L2.pv 1) pa_nil))))) (fun _ _ _ _ _ => L2.pv 1)) (pe_lst pa_nil) (nomark _)))) pss_nil)
        (pss_one (ps_ret (pe_and (pe_cmpR op_notIn_seq (pe_ix ix_tup (L2.pv 0) pe_int (fun _ _ => rfl)) (pe_tup (pa_cons pe_str (pa_cons pe_str (pa_cons pe_str pa_nil)))) (by with_unfolding_all rfl))
          (pe_one (pe_cmpR (op_eqD hu64) (pe_lc (own := [("_law_own", 2)]) (g := gName 2) (tt := tNot (tB (tCall (spClosed d) [] E0 (tCons (tVar 2) tNil)))) (te := tVar 2) rfl scCl.nd (pi_tup (pe_slice sl_tup (L2.pv 0) (po_some pe_int) po_none))
            (blkOk_by (N := NCL) (sc := defScope sClosed) (by decide +kernel)) (fun _ _ _ _ _ => pg_name (i := 2) scCl.nd rfl (Or.inl rfl)) (fun _ _ _ _ _ => pts_one (pt_not (pt_val (pe_call GR hr rfl AS.g AS.k AS.b .nil pass0 (pa_cons (L2.pv 2) pa_nil))))) (fun _ _ _ _ _ => L2.pv 2)) (pe_lst pa_nil) (nomark _))))))), ?_⟩
      have ty : TyX K H v (.type (tyP t)) := PlAt.ty hv
      refine ⟨_, rfl, _, _, _, _, isTx t, rfl, .ty "str", ty, kit_st t, _, rfl, ?_⟩
      match t, hv, hg, hd, ty with
      | .tx z, hv, hg, hd, ty => exact iteT (k H (Same.refl H))
      | .row ts, hv, hg, hd, ty =>
        refine iteF ?_
        refine ⟨_, rfl, _, _, _, _, true, rfl, .ty "list", ty, kit_lst (.row ts), _, rfl, ?_⟩
        refine iteT ?_
        obtain ⟨a, xs, rfl, ha, hN, hp⟩ := hv
        have pp := plsAt_iff.mp hp
        have hd : hts ts + 1 < d + 1 := hd
        refine ⟨_, rfl, a, rfl, ⟨_, SqL.of ha⟩, fun D hD => lc_list (K := K) (a := a) (xs := xs) (fun i H' => Same H H' ∧ H' D = some (.lst [])) ⟨same_upd (Same.refl H) hD, upd_same⟩ (fun i H' _ ⟨s', _⟩ => SqL.of (s' _ _ ha)) ?_ ?_⟩
        · rintro i x H1 hx ⟨s1, e1⟩
          obtain ⟨ti, et, hi⟩ := LiI.paired_get pp hx
          have tm := List.mem_of_getElem? et
          have hm := hts_mem tm
          refine ⟨rfl, ?_⟩
          refine ⟨_, rfl, N, x, ti, rfl, PlAt.kp (KpN.same s1) ti hi, gens_mem hg.2.1 tm, by omega, fun H2 s2 => ⟨_, rfl, ?_⟩⟩
          refine iteF ?_
          exact ⟨s1.trans s2, s2 _ _ e1⟩
        · rintro H1 ⟨s1, e1⟩
          refine ⟨by decide, fun l hl => ?_⟩
          have s2 : Same H1 (upd H1 l (.lst [])) := same_upd (Same.refl H1) hl
          have v2 : (upd H1 l (.lst [])) l = some (.lst []) := upd_same
          generalize upd H1 l (.lst []) = H2 at s2 v2 ⊢
          refine ⟨_, _, dpNil (s2 _ _ e1), dpNil v2, shNil, shNil, ?_⟩
          rw [SeqAt.eqv_refl _ (lay_of shNil)]
          exact k H2 (s1.trans s2)
      | .nd lk f1 ps, hv, hg, hd, ty =>
        refine iteF ?_
        refine ⟨_, rfl, _, _, _, _, false, rfl, .ty "list", ty, kit_lst (.nd lk f1 ps), _, rfl, ?_⟩
        refine iteF ?_
        obtain ⟨a, xs, rfl, ha, hN, hp⟩ := hv
        have pp := plsAt_iff.mp hp
        have hd : hts ps + 1 < d + 1 := hd
        refine ⟨_, rfl, a, _, 0, .str f1, rfl, rfl, SqT.of ha, atI_nat (j := 0) rfl, by decide, fun u hu => ?_⟩
        have s0 : Same H (upd H u (.tup [.str "?", .str "$", .str "*"])) := same_upd (Same.refl H) hu
        have v0 : (upd H u (.tup [.str "?", .str "$", .str "*"])) u = some (.tup [.str "?", .str "$", .str "*"]) := upd_same
        generalize upd H u (.tup [.str "?", .str "$", .str "*"]) = H0 at s0 v0 ⊢
        refine ⟨u, _, rfl, .inr (SqT.of v0), rfl, rfl, _, rfl, ?_⟩
        rw [if_pos rfl, notIn3 hg.2.1]
        refine iteT ?_
        refine ⟨_, rfl, 1, rfl, a, _, rfl, SqT.of (s0 _ _ ha), ?_, fun tp htp => ?_⟩
        · rw [show (some (1 : Int)) = some ((1 : Nat) : Int) from rfl, HT.sIx_nat]
          intro q
          have q := q.1
          rw [List.length_cons] at q
          omega
        rw [show (some (1 : Int)) = some ((1 : Nat) : Int) from rfl, cut_from]
        have s1 : Same H0 (upd H0 tp (.tup ((V.str f1 :: xs).drop 1))) := same_upd (Same.refl H0) htp
        have v1 : (upd H0 tp (.tup ((V.str f1 :: xs).drop 1))) tp = some (.tup xs) := upd_same
        generalize upd H0 tp (.tup ((V.str f1 :: xs).drop 1)) = H1 at s1 v1 ⊢
        have s01 := s0.trans s1
        refine ⟨tp, rfl, ⟨_, SqT.of v1⟩, fun D hD => lc_tup (K := K) (a := tp) (xs := xs) (fun i H' => Same H1 H' ∧ H' D = some (.lst [])) ⟨same_upd (Same.refl H1) hD, upd_same⟩ (fun i H' _ ⟨s', _⟩ => SqT.of (s' _ _ v1)) ?_ ?_⟩
        · rintro i x H2 hx ⟨s2, e2⟩
          obtain ⟨ti, et, hi⟩ := LiI.paired_get pp hx
          have tm := List.mem_of_getElem? et
          have hm := hts_mem tm
          refine ⟨rfl, ?_⟩
          refine ⟨_, rfl, N, x, ti, rfl, PlAt.kp (KpN.same (s01.trans s2)) ti hi, gens_mem hg.2.2.2.2 tm, by omega, fun H3 s3 => ⟨_, rfl, ?_⟩⟩
          refine iteF ?_
          exact ⟨s2.trans s3, s3 _ _ e2⟩
        · rintro H2 ⟨s2, e2⟩
          refine ⟨by decide, fun l hl => ?_⟩
          have s3 : Same H2 (upd H2 l (.lst [])) := same_upd (Same.refl H2) hl
          have v3 : (upd H2 l (.lst [])) l = some (.lst []) := upd_same
          generalize upd H2 l (.lst []) = H3 at s3 v3 ⊢
          refine ⟨_, _, dpNil (s3 _ _ e2), dpNil v3, shNil, shNil, ?_⟩
          rw [SeqAt.eqv_refl _ (lay_of shNil)]
          exact k H3 (s01.trans (s2.trans s3))
      | .vr _ _, hv, hg, hd, ty => exact False.elim hg
end
end K3

namespace K3
open PySem PySem.Spec PyProof.Rows PySem.SeqAt L2 E0
/-! ### _law_made -/
def forms8 : List Str := ["Num", "Add", "Call", "Set", "Seq", "If", "raw_e", "raw_s"]
mutual
/-- a plant: its forms are those of the law's table, with one to three parts -/
def wfT : Tr → Prop
  | .tx _ => True
  | .row ts => wfTs ts
  | .nd _ f ps => f ∈ forms8 ∧ 1 ≤ ps.length ∧ ps.length ≤ 3 ∧ wfTs ps
  | .vr .. => False
def wfTs : List Tr → Prop
  | [] => True
  | t :: ts => wfT t ∧ wfTs ts
end
theorem wfs_mem : ∀ {ts : List Tr} {t : Tr}, wfTs ts → t ∈ ts → wfT t
  | a :: ts, t, h, m => by
    rcases List.mem_cons.mp m with e | m
    · rw [e]; exact h.1
    · exact wfs_mem h.2 m
theorem wfs_of : ∀ {ts : List Tr}, (∀ t ∈ ts, wfT t) → wfTs ts
  | [], _ => True.intro
  | a :: ts, h => ⟨h a (List.mem_cons_self ..), wfs_of fun t m => h t (List.mem_cons_of_mem _ m)⟩
theorem lev_mem : ∀ {ts : List Tr} {t : Tr}, t ∈ ts → levels t ≤ levelss ts
  | a :: ts, t, m => by
    show levels t ≤ max (levels a) (levelss ts)
    rcases List.mem_cons.mp m with e | m
    · rw [e]; exact Nat.le_max_left _ _
    · exact Nat.le_trans (lev_mem m) (Nat.le_max_right _ _)
section
variable {P : Program} {w : World} {K : PySem.W.Frag} {mg : Str → Option Value} {base : Heap}
def spMade (C : Cl5) (d : Nat) : Sp := fun vs H Q _ => ∃ (N : Addr → Prop) (v : V) (t : Tr), vs = [v] ∧ PlAt N H v t ∧ genT t ∧ isT t = true ∧ wfT t ∧ ht t < d ∧ size t ≤ 400 ∧ levels t ≤ 100 ∧ ∀ H' v', Same H H' → PtAt C H' v' t → NoF C H' v' → Q v' H'
def spRow (C : Cl5) (d : Nat) : Sp := fun vs H Q _ => ∃ (N : Addr → Prop) (l : Addr) (xs : List V) (ts : List Tr), vs = [.ref l] ∧ H l = some (.lst xs) ∧ PlsAt N H xs ts ∧ gensT ts ∧ (∀ t ∈ ts, isT t = true) ∧ wfTs ts ∧ hts ts < d ∧ sizes ts ≤ 400 ∧ levelss ts ≤ 100 ∧ ts.length ≤ 1000 ∧ ∀ H' p vs, Same H H' → H' p = some (.tup vs) → PtsAt C H' vs ts → Q (.ref p) H'
def NRO : List Str := ["_law_items", "_law_found", "_law_item"]
theorem scRo : FnScope NRO ["_law_items"] (defScope sRow) := ⟨rfl, rfl, rfl, by decide +kernel, rfl, by decide +kernel, by decide +kernel⟩
def NMA : List Str := ["_law_part", "_law_rows", "_law_own"]
theorem scMa : FnScope NMA ["_law_part"] (defScope sMade) := ⟨rfl, rfl, rfl, by decide +kernel, rfl, by decide +kernel, by decide +kernel⟩
theorem ok_row {C : Cl5} {f fM : Addr} {fd fdM : FuncData} {d k : Nat} (F : Fun K "_law_row" "_law_row" sRow f fd) (T : TxtT mg C) (GM : FnOk P w K mg base (L2.CX P w) k fM fdM ["_law_part"] (spMade C d)) (AM : DefA K mg "_law_made" ["_law_part"] fM fdM) : FnOk P w K mg base (L2.CX P w) (k + 1) f fd ["_law_items"] (spRow C d) := by
  refine F.okX scRo (fun vs H Q E h => ?_) (fun cdv A outer s H vs Q E hr h => ?_)
  · obtain ⟨N, l, xs, ts, rfl, _⟩ := h
    rfl
  · obtain ⟨N, l, xs, ts, rfl, hl, hp, hg, hT, hw, hd, hs, hlv, hle, k⟩ := h
    have tkE : Takes (cxOf (L2.CX P w) P w K mg base NRO "_law_row" (defScope sRow) f cdv A outer s H E) (fun cls dd _ H => E cls dd H) := takes_of rfl rfl rfl rfl
    have hx := passes_call tkE (E := E) (fun _ _ _ _ q => q)
    refine ⟨_, pss_cons (ps_set (i := 1) scRo.nd rfl (.inl rfl) (pe_lst pa_nil))
      (pss_cons (ps_for (passes_of rfl) rfl (pi_list (L2.pv 0)) (pg_name (i := 2) scRo.nd rfl (.inl rfl))
        (pss_one (ps_expr (pe_bm PySem.F.plainAttrs_list PySem.F.slot_list_append PySem.F.type_list_append mt_append (L2.pv 1) (pa_cons (pe_ifExp (pt_cmpR op_eq (pe_ix ix_tup (L2.pv 2) pe_int (fun _ _ => rfl)) pe_str (nomark _)) pe_dead (pe_call GM hr (by rfl) AM.g AM.k AM.b .nil hx (pa_cons (L2.pv 2) pa_nil))) pa_nil)))))
      (pss_one (ps_ret (pe_callTy call_tuple_of (by rfl) T.tup PyProof.Rows.boot_tuple (pa_cons (L2.pv 1) pa_nil))))), ?_⟩
    have big : sizeLine ≥ 16777216 := by decide
    have xl := pls_len hp
    refine ⟨by decide, fun fa hfa => ?_⟩
    have s0 : Same H (upd H fa (.lst [])) := same_upd (Same.refl H) hfa
    have v0 : (upd H fa (.lst [])) fa = some (.lst []) := upd_same
    have hpf : PlsAt (But N fa) H xs ts := hp.but hfa
    generalize upd H fa (.lst []) = H0 at s0 v0 ⊢
    refine ⟨_, rfl, l, rfl, ⟨_, SqL.of (s0 _ _ hl)⟩, for_list (K := K) (a := l) (xs := xs) (fun i σ H' => ∃ (v2 : Option V) (acc : List V), σ = [some (.ref l), some (.ref fa), v2] ∧ Same H H' ∧ H' fa = some (.lst acc) ∧ acc.length = i ∧ PtsAt C H' acc (ts.take i)) ⟨_, [], rfl, s0, v0, rfl, True.intro⟩ (fun i σ H' _ ⟨_, _, _, s', _⟩ => SqL.of (s' _ _ hl)) ?_ ?_⟩
    · rintro i x σ H1 hx ⟨v2, acc, rfl, s1, hfa1, al, pacc⟩
      obtain ⟨ti, et, hi⟩ := LiI.paired_get (plsAt_iff.mp hpf) hx
      have il := (List.getElem?_eq_some_iff.mp et).1
      have tm := List.mem_of_getElem? et
      have gti := gens_mem hg tm
      have tti := hT ti tm
      have q1 := hts_mem tm
      have q2 := size_mem tm
      have q3 := lev_mem tm
      have hi1 := PlAt.kp (KpN.same s1) ti hi
      obtain ⟨f1, ps1, rfl⟩ := isT_nd tti
      obtain ⟨b, ys, rfl, hb, hNb, hys⟩ := id hi1
      refine ⟨_, rfl, .inl ⟨rfl, _, SqL.of hfa1⟩, _, rfl, b, _, 0, .str f1, rfl, rfl, SqT.of hb, atI_nat (j := 0) rfl, rfl, _, rfl, ?_⟩
      rw [show decide (V.str f1 = V.str "*") = false from decide_eq_false (fun e => name_not gti.2.1 (z := "*") (by decide +kernel) (by cases e; rfl))]
      refine iteF ?_
      refine ⟨_, rfl, But N fa, _, _, rfl, hi1, gti, rfl, wfs_mem hw tm, by omega, by omega, by omega, fun H2 z s2 hz _ => ?_⟩
      have hfa2 := s2 _ _ hfa1
      have kk := kpO_upd (o := .lst (acc ++ [z])) hfa2
      refine ⟨fa, acc, _, rfl, rfl, hfa2, by omega, ?_⟩
      refine ⟨_, acc ++ [z], rfl, same_upd (s1.trans s2) hfa, upd_same, by rw [List.length_append, al]; rfl, ?_⟩
      rw [List.take_add_one, et]
      have hz' : PtsAt C (upd H2 fa (.lst (acc ++ [z]))) [z] [.nd false f1 ps1] := ⟨PtAt.kpo kk _ hz, True.intro⟩
      exact pts_app (PtsAt.kpo kk _ (PtsAt.kpo (KpO.same s2) _ pacc)) hz'
    · rintro σ H1 ⟨v2, acc, rfl, s1, hfa1, al, pacc⟩
      rw [xl, List.take_length] at pacc
      refine ⟨_, rfl, fa, acc, rfl, .inl ⟨SqL.of hfa1, fun q hq => ?_⟩⟩
      have s2 : Same H1 (upd H1 q (.tup acc)) := same_upd (Same.refl H1) hq
      exact k _ q acc (s1.trans s2) upd_same (PtsAt.kpo (KpO.same s2) _ pacc)
theorem ok_made {C : Cl5} {CI f fR fC fT : Addr} {fd fdR fdC : FuncData} {d k : Nat} (hk : 6 ≤ k) (F : Fun K "_law_made" "_law_made" sMade f fd) (T : TxtT mg C) (gList : mg "list" = none)
    (GM : FnOk P w K mg base (L2.CX P w) k f fd ["_law_part"] (spMade C d)) (AM : DefA K mg "_law_made" ["_law_part"] f fd) (GR : FnOk P w K mg base (L2.CX P w) (k + 1) fR fdR ["_law_items"] (spRow C d)) (AR : DefA K mg "_law_row" ["_law_items"] fR fdR)
    (GC : FnOk P w K mg base CX0 (k + 1) fC fdC ["_law_part"] (spClosed (d + 1))) (AC : DefA K mg "_law_closed" ["_law_part"] fC fdC) (MT : Mk K C.T fT) (GT : FnR P w K mg base (L2.CX P w) 4 fT (spTreeNew K C CI)) :
    FnOk P w K mg base (L2.CX P w) (k + 2) f fd ["_law_part"] (spMade C (d + 1)) := by
  refine F.okX scMa (fun vs H Q E h => ?_) (fun cdv A outer s H vs Q E hr h => ?_)
  · obtain ⟨N, v, t, rfl, _⟩ := h
    rfl
  · obtain ⟨N, v, t, rfl, hv, hg, h1, hw, hd, hs, hlv, k⟩ := h
    have hrk : Room _ _ := hr.mono (Nat.le_succ _)
    have hr5 : Room 5 _ := hr.mono (by omega)
    have tkE : Takes (cxOf (L2.CX P w) P w K mg base NMA "_law_made" (defScope sMade) f cdv A outer s H E) (fun cls dd _ H => E cls dd H) := takes_of rfl rfl rfl rfl
    have hx := passes_call tkE (E := E) (fun _ _ _ _ q => q)
    refine ⟨_, (pss_cons (ps_if (pt_cmpR op_eq (pe_ix ix_tup (L2.pv 0) pe_int (fun _ _ => rfl)) pe_str (nomark _)) (pss_one ps_dead) pss_nil) (pss_cons (ps_set (i := 1) scMa.nd rfl (.inl rfl) (pe_lst pa_nil)) (pss_cons (ps_for (passes_of rfl) rfl (pi_tup (pe_slice sl_tup (L2.pv 0) (po_some pe_int) po_none)) (pg_name (i := 2) scMa.nd rfl (.inl rfl)) (pss_one (ps_if (pt_val (pe_callB call_isi (by rfl) T.isi PyProof.Rows.boot_isinstance (pa_cons (L2.pv 2) (pa_cons (pe_bltn (v := .ty "list") rfl gList (by decide +kernel) rfl) pa_nil)))) (pss_one (ps_expr (pe_bm PySem.F.plainAttrs_list PySem.F.slot_list_append PySem.F.type_list_append mt_append (L2.pv 1) (pa_cons (pe_call GR hr (by rfl) AR.g AR.k AR.b .nil hx (pa_cons (L2.pv 2) pa_nil)) pa_nil)))) (pss_one (ps_if (pt_val (pe_callB call_isi (by rfl) T.isi PyProof.Rows.boot_isinstance (pa_cons (L2.pv 2) (pa_cons (pe_bltn (v := .ty "str") rfl T.str PyProof.Rows.boot_str rfl) pa_nil)))) (pss_one (ps_expr (pe_bm PySem.F.plainAttrs_list PySem.F.slot_list_append PySem.F.type_list_append mt_append (L2.pv 1) (pa_cons (L2.pv 2) pa_nil)))) (pss_one (ps_expr (pe_bm PySem.F.plainAttrs_list PySem.F.slot_list_append PySem.F.type_list_append mt_append (L2.pv 1) (pa_cons (pe_ifExp (pt_cmpR op_eq (pe_ix ix_tup (L2.pv 2) pe_int (fun _ _ => rfl)) pe_str (nomark _)) pe_dead (pe_call GM hrk (by rfl) AM.g AM.k AM.b .nil hx (pa_cons (L2.pv 2) pa_nil))) pa_nil))))))))) (pss_cons (ps_if (pt_val (pe_call GC hr (by rfl) AC.g AC.k AC.b .nil pass0 (pa_cons (L2.pv 0) pa_nil))) (pss_cons (ps_if (pt_cmpR op_eq (pe_callB call_len_seq (by rfl) T.len PySem.boot_len (pa_cons (L2.pv 1) pa_nil)) pe_int (nomark _)) (pss_one (ps_ret (pe_mkT (E := E) MT GT hr5 rfl T.gT hx (pa_cons (pe_ix ix_tup (L2.pv 0) pe_int (fun _ _ => rfl)) (pa_cons (pe_ix ix_list (L2.pv 1) pe_int (fun _ _ => rfl)) pa_nil))))) pss_nil) (pss_one (ps_ret (pe_ifExp (pt_cmpR op_eq (pe_callB call_len_seq (by rfl) T.len PySem.boot_len (pa_cons (L2.pv 1) pa_nil)) pe_int (nomark _)) (pe_mkT (E := E) MT GT hr5 rfl T.gT hx (pa_cons (pe_ix ix_tup (L2.pv 0) pe_int (fun _ _ => rfl)) (pa_cons (pe_ix ix_list (L2.pv 1) pe_int (fun _ _ => rfl)) (pa_cons (pe_ix ix_list (L2.pv 1) pe_int (fun _ _ => rfl)) pa_nil)))) (pe_mkT (E := E) MT GT hr5 rfl T.gT hx (pa_cons (pe_ix ix_tup (L2.pv 0) pe_int (fun _ _ => rfl)) (pa_cons (pe_ix ix_list (L2.pv 1) pe_int (fun _ _ => rfl)) (pa_cons (pe_ix ix_list (L2.pv 1) pe_int (fun _ _ => rfl)) (pa_cons (pe_ix ix_list (L2.pv 1) pe_int (fun _ _ => rfl)) pa_nil))))))))) pss_nil) (pss_cons ps_dead (pss_one ps_dead)))))), ?_⟩
    have big : sizeLine ≥ 16777216 := by decide
    obtain ⟨f1, ps1, rfl⟩ := isT_nd h1
    obtain ⟨a, xs, rfl, ha, hNa, hp⟩ := id hv
    have xl := pls_len hp
    obtain ⟨w1, w2, w3, w4⟩ := hw
    simp only [size] at hs
    simp only [levels] at hlv
    simp only [ht] at hd
    refine ⟨_, rfl, a, _, 0, .str f1, rfl, rfl, SqT.of ha, atI_nat (j := 0) rfl, rfl, _, rfl, ?_⟩
    rw [show decide (V.str f1 = V.str "?") = false from decide_eq_false (fun e => name_not hg.2.1 (z := "?") (by decide +kernel) (by cases e; rfl))]
    refine iteF ?_
    refine ⟨by decide, fun ra hra => ?_⟩
    have s0 : Same H (upd H ra (.lst [])) := same_upd (Same.refl H) hra
    have v0 : (upd H ra (.lst [])) ra = some (.lst []) := upd_same
    have hpr : PlsAt (But N ra) H xs ps1 := hp.but hra
    generalize upd H ra (.lst []) = H0 at s0 v0 ⊢
    refine ⟨_, rfl, 1, rfl, a, _, rfl, SqT.of (s0 _ _ ha), ?_, fun tp htp => ?_⟩
    · rw [show (some (1 : Int)) = some ((1 : Nat) : Int) from rfl, HT.sIx_nat]
      intro q
      have q := q.1
      rw [List.length_cons] at q
      omega
    rw [show (some (1 : Int)) = some ((1 : Nat) : Int) from rfl, cut_from]
    have s1 : Same H0 (upd H0 tp (.tup ((V.str f1 :: xs).drop 1))) := same_upd (Same.refl H0) htp
    have v1 : (upd H0 tp (.tup ((V.str f1 :: xs).drop 1))) tp = some (.tup xs) := upd_same
    generalize upd H0 tp (.tup ((V.str f1 :: xs).drop 1)) = H1 at s1 v1 ⊢
    have s01 := s0.trans s1
    refine ⟨tp, rfl, ⟨_, SqT.of v1⟩, for_tup (K := K) (a := tp) (xs := xs) (fun i σ H' => ∃ (v2 : Option V) (acc : List V), σ = [some (.ref a), some (.ref ra), v2] ∧ Same H H' ∧ H' tp = some (.tup xs) ∧ H' ra = some (.lst acc) ∧ acc.length = i ∧ PtsAt C H' acc (ps1.take i)) ⟨_, [], rfl, s01, v1, s1 _ _ v0, rfl, True.intro⟩ (fun i σ H' _ ⟨_, _, _, _, ht, _⟩ => SqT.of ht) ?_ ?_⟩
    · rintro i x σ H2 hx ⟨v2, acc, rfl, s2, htp2, hra2, al, pacc⟩
      obtain ⟨p1, ep, hi⟩ := LiI.paired_get (plsAt_iff.mp hpr) hx
      have il := (List.getElem?_eq_some_iff.mp ep).1
      have tm := List.mem_of_getElem? ep
      have gp := gens_mem hg.2.2.2.2 tm
      have wp := wfs_mem w4 tm
      have q1 := hts_mem tm
      have q2 := size_mem tm
      have q3 := lev_mem tm
      have hi2 := PlAt.kp (KpN.same s2) p1 hi
      have ty : TyX K H2 x (.type (tyP p1)) := PlAt.ty hi2
      have ntp : tp ≠ ra := fun e => by rw [e, hra2] at htp2; cases htp2
      have fin : ∀ (H3 : Hp) (z : V), Same H2 H3 → PtAt C H3 z p1 → acc.length < sizeLine ∧ Same H (upd H3 ra (.lst (acc ++ [z]))) ∧ (upd H3 ra (.lst (acc ++ [z]))) tp = some (.tup xs) ∧ (upd H3 ra (.lst (acc ++ [z]))) ra = some (.lst (acc ++ [z])) ∧ (acc ++ [z]).length = i + 1 ∧ PtsAt C (upd H3 ra (.lst (acc ++ [z]))) (acc ++ [z]) (ps1.take (i + 1)) := fun H3 z s3 hz => by
        have hra3 := s3 _ _ hra2
        have kk := kpO_upd (o := .lst (acc ++ [z])) hra3
        refine ⟨by omega, same_upd (s2.trans s3) hra, by rw [upd_ne ntp]; exact s3 _ _ htp2, upd_same, by rw [List.length_append, al]; rfl, ?_⟩
        rw [List.take_add_one, ep]
        have hz' : PtsAt C (upd H3 ra (.lst (acc ++ [z]))) [z] [p1] := ⟨PtAt.kpo kk _ hz, True.intro⟩
        exact pts_app (PtsAt.kpo kk _ (PtsAt.kpo (KpO.same s3) _ pacc)) hz'
      refine ⟨_, rfl, _, _, _, _, isRw p1, rfl, .ty "list", ty, kit_lst p1, _, rfl, ?_⟩
      match p1, hi2, gp, wp, q1, q2, q3, ty, fin with
      | .row us, hi2, gp, wp, q1, q2, q3, ty, fin =>
        refine iteT ?_
        obtain ⟨l, ys, rfl, hl, hNl, hys⟩ := id hi2
        have q1 : hts us + 1 ≤ hts ps1 := q1
        have q2 : sizes us ≤ sizes ps1 := q2
        have q3 : levelss us ≤ levelss ps1 := q3
        refine ⟨_, rfl, .inl ⟨rfl, _, SqL.of hra2⟩, _, rfl, But N ra, l, ys, us, rfl, hl, hys, gp.2.1, gp.2.2, wp, by omega, by omega, by omega, gp.1, fun H3 p vs s3 hpv pv => ?_⟩
        obtain ⟨e1, e2, e3, e4, e5, e6⟩ := fin H3 (.ref p) s3 ⟨p, vs, rfl, hpv, pv⟩
        exact ⟨ra, acc, _, rfl, rfl, s3 _ _ hra2, e1, some (.ref l), acc ++ [.ref p], rfl, e2, e3, e4, e5, e6⟩
      | .tx z, hi2, gp, wp, q1, q2, q3, ty, fin =>
        refine iteF ?_
        refine ⟨_, rfl, _, _, _, _, true, rfl, .ty "str", ty, kit_st (.tx z), _, rfl, ?_⟩
        refine iteT ?_
        obtain ⟨e1, e2, e3, e4, e5, e6⟩ := fin H2 x (Same.refl H2) hi2
        exact ⟨_, rfl, .inl ⟨rfl, _, SqL.of hra2⟩, _, rfl, ra, acc, _, rfl, rfl, hra2, e1, some x, acc ++ [x], rfl, e2, e3, e4, e5, e6⟩
      | .nd lk f2 qs, hi2, gp, wp, q1, q2, q3, ty, fin =>
        refine iteF ?_
        obtain ⟨rfl, _⟩ := id gp
        refine ⟨_, rfl, _, _, _, _, false, rfl, .ty "str", ty, kit_st (.nd false f2 qs), _, rfl, ?_⟩
        refine iteF ?_
        obtain ⟨b, ys, rfl, hb, hNb, hys⟩ := id hi2
        refine ⟨_, rfl, .inl ⟨rfl, _, SqL.of hra2⟩, _, rfl, b, _, 0, .str f2, rfl, rfl, SqT.of hb, atI_nat (j := 0) rfl, rfl, _, rfl, ?_⟩
        rw [show decide (V.str f2 = V.str "$") = false from decide_eq_false (fun e => name_not gp.2.1 (z := "$") (by decide +kernel) (by cases e; rfl))]
        refine iteF ?_
        refine ⟨_, rfl, But N ra, _, _, rfl, hi2, gp, rfl, wp, by omega, by omega, by omega, fun H3 z s3 hz _ => ?_⟩
        obtain ⟨e1, e2, e3, e4, e5, e6⟩ := fin H3 z s3 hz
        exact ⟨ra, acc, _, rfl, rfl, s3 _ _ hra2, e1, some (.ref b), acc ++ [z], rfl, e2, e3, e4, e5, e6⟩
      | .vr _ _, hi2, gp, wp, q1, q2, q3, ty, fin => exact False.elim gp
    · rintro σ H2 ⟨v2, acc, rfl, s2, htp2, hra2, al, pacc⟩
      rw [xl, List.take_length] at pacc
      rw [xl] at al
      refine ⟨_, rfl, N, _, _, rfl, PlAt.kp (KpN.same s2) _ hv, hg, by simp only [ht]; omega, fun H3 s3 => ⟨_, rfl, ?_⟩⟩
      refine iteT ?_
      have hra3 := s3 _ _ hra2
      have ha3 := (s2.trans s3) _ _ ha
      have pacc3 := PtsAt.kpo (KpO.same s3) _ pacc
      have fin : MkT K C CI (.str f1 :: acc) H3 Q E := mkT_ok hg.2.1 hg.2.2.1 pacc3 hg.2.2.2.2 (by omega) hs hlv fun H4 x s4 _ px hpx => k H4 _ ((s2.trans s3).trans s4) px (noF_of px hpx)
      refine ⟨_, rfl, ra, acc, rfl, .inl (SqL.of hra3), rfl, _, rfl, ?_⟩
      match ps1, acc, al, w2, w3, fin, hra3 with
      | [p0], [z0], _, _, _, fin, hra3 =>
        refine iteT ?_
        exact ⟨_, rfl, a, _, 0, .str f1, rfl, rfl, SqT.of ha3, atI_nat (j := 0) rfl, _, rfl, ra, _, 0, z0, rfl, rfl, SqL.of hra3, atI_nat (j := 0) rfl, fin⟩
      | [p0, p1], [z0, z1], _, _, _, fin, hra3 =>
        refine iteF ?_
        refine ⟨_, rfl, ra, _, rfl, .inl (SqL.of hra3), rfl, _, rfl, ?_⟩
        refine iteT ?_
        exact ⟨_, rfl, a, _, 0, .str f1, rfl, rfl, SqT.of ha3, atI_nat (j := 0) rfl, _, rfl, ra, _, 0, z0, rfl, rfl, SqL.of hra3, atI_nat (j := 0) rfl, _, rfl, ra, _, 1, z1, rfl, rfl, SqL.of hra3, atI_nat (j := 1) rfl, fin⟩
      | [p0, p1, p2], [z0, z1, z2], _, _, _, fin, hra3 =>
        refine iteF ?_
        refine ⟨_, rfl, ra, _, rfl, .inl (SqL.of hra3), rfl, _, rfl, ?_⟩
        refine iteF ?_
        exact ⟨_, rfl, a, _, 0, .str f1, rfl, rfl, SqT.of ha3, atI_nat (j := 0) rfl, _, rfl, ra, _, 0, z0, rfl, rfl, SqL.of hra3, atI_nat (j := 0) rfl, _, rfl, ra, _, 1, z1, rfl, rfl, SqL.of hra3, atI_nat (j := 1) rfl, _, rfl, ra, _, 2, z2, rfl, rfl, SqL.of hra3, atI_nat (j := 2) rfl, fin⟩
theorem made_all {C : Cl5} {CI f fR fC fT : Addr} {fd fdR fdC : FuncData} (F : Fun K "_law_made" "_law_made" sMade f fd) (FR : Fun K "_law_row" "_law_row" sRow fR fdR) (FC : Fun K "_law_closed" "_law_closed" sClosed fC fdC) (T : TxtT mg C) (gList : mg "list" = none)
    (AM : DefA K mg "_law_made" ["_law_part"] f fd) (AR : DefA K mg "_law_row" ["_law_items"] fR fdR) (AC : DefA K mg "_law_closed" ["_law_part"] fC fdC) (MT : Mk K C.T fT) (GT : FnR P w K mg base (L2.CX P w) 4 fT (spTreeNew K C CI)) :
    ∀ d, FnOk P w K mg base (L2.CX P w) (2 * d + 6) f fd ["_law_part"] (spMade C d)
  | 0 => fn_vac fun vs H Q E h => by
    obtain ⟨N, v, t, _, _, _, _, _, q, _⟩ := h
    exact absurd q (Nat.not_lt_zero _)
  | d + 1 => by
    have GM := made_all F FR FC T gList AM AR AC MT GT d
    have GC := ok_closed (P := P) (w := w) (base := base) FC AC T gList (d + 1)
    exact ok_made (k := 2 * d + 6) (by omega) F T gList GM AM (ok_row FR T GM AM) AR (GC.mono (by omega)) AC MT GT
end
end K3

namespace K3
open PySem PySem.Spec PyProof.Rows PySem.SeqAt L2 E0
/-! ### _law_table -/
def tabL : List (Str × Str × List (Str × Str)) := [("Num", "e", [("value", "text")]), ("Add", "e", [("left", "e"), ("right", "e")]), ("Call", "e", [("what", "text"), ("args", "e*")]), ("Set", "s", [("who", "text"), ("to", "e")]),
  ("Seq", "s", [("items", "s*")]), ("If", "s", [("test", "e"), ("one", "s"), ("two", "s*")]), ("raw_e", "e", [("text", "text")]), ("raw_s", "s", [("text", "text")])]
def RowAt (H : Hp) (v : V) (r : Str × Str) : Prop := ∃ a, v = .ref a ∧ H a = some (.tup [.str r.1, .str r.2])
def EntT (H : Hp) (v : V) (e : Str × List (Str × Str)) : Prop := ∃ a l vs, v = .ref a ∧ H a = some (.tup [.str e.1, .ref l]) ∧ H l = some (.lst vs) ∧ Paired (RowAt H) vs e.2
theorem RowAt.same {H H' : Hp} {v : V} {r : Str × Str} (s : Same H H') (h : RowAt H v r) : RowAt H' v r := by
  obtain ⟨a, e, q⟩ := h
  exact ⟨a, e, s _ _ q⟩
theorem EntT.same {H H' : Hp} {v : V} {e : Str × List (Str × Str)} (s : Same H H') (h : EntT H v e) : EntT H' v e := by
  obtain ⟨a, l, vs, h1, h2, h3, h4⟩ := h
  exact ⟨a, l, vs, h1, s _ _ h2, s _ _ h3, Paired.mapP h4 fun _ _ z => z.same s⟩
theorem EntT.put {H : Hp} {d : Addr} {o : HO} {kvs : List (Key × V)} {v : V} {e : Str × List (Str × Str)} (hd : H d = some (.dK kvs)) (h : EntT H v e) : EntT (upd H d o) v e := by
  obtain ⟨a, l, vs, h1, h2, h3, h4⟩ := h
  have na : a ≠ d := fun z => by rw [z, hd] at h2; cases h2
  have nl : l ≠ d := fun z => by rw [z, hd] at h3; cases h3
  refine ⟨a, l, vs, h1, by rw [upd_ne na]; exact h2, by rw [upd_ne nl]; exact h3, Paired.mapP h4 fun x r z => ?_⟩
  obtain ⟨b, e1, q⟩ := z
  have nb : b ≠ d := fun z => by rw [z, hd] at q; cases q
  exact ⟨b, e1, by rw [upd_ne nb]; exact q⟩
def rowsT : List (Str × Str) → TA
  | [] => tNil
  | (x, y) :: r => tCons (tTup (tCons (tC (.str x)) (tCons (tC (.str y)) tNil))) (rowsT r)
theorem rows_made {σ : L2.St} : ∀ (rows : List (Str × Str)) {H : Hp} {Qa : List V → Hp → Prop}, (∀ H' vs, Same H H' → Paired (RowAt H') vs rows → Qa vs H') → rowsT rows σ H Qa
  | [], H, Qa, k => k H [] (Same.refl H) .nil
  | (x, y) :: r, H, Qa, k => by
    refine ⟨by show 2 ≤ sizeLine; decide, fun p hp => ?_⟩
    have s1 : Same H (upd H p (.tup [.str x, .str y])) := same_upd (Same.refl H) hp
    have v1 : (upd H p (.tup [.str x, .str y])) p = some (.tup [.str x, .str y]) := upd_same
    generalize upd H p (.tup [.str x, .str y]) = H1 at s1 v1 ⊢
    exact rows_made r fun H' vs s' h => k H' _ (s1.trans s') (.cons ⟨p, rfl, s' _ _ v1⟩ h)
def entT (s : Str) (rows : List (Str × Str)) : TE := tTup (tCons (tC (.str s)) (tCons (tLst (rowsT rows)) tNil))
theorem ent_made {σ : L2.St} (s : Str) (rows : List (Str × Str)) {H : Hp} {Q : VK} (hl : rows.length ≤ 10) (k : ∀ H' v, Same H H' → EntT H' v (s, rows) → Q v H') : entT s rows σ H Q := by
  refine rows_made rows fun H1 vs s1 hv => ?_
  have vl := hv.length
  have big : sizeLine ≥ 16777216 := by decide
  refine ⟨by omega, fun l hl2 => ?_⟩
  have s2 : Same H1 (upd H1 l (.lst vs)) := same_upd (Same.refl H1) hl2
  have v2 : (upd H1 l (.lst vs)) l = some (.lst vs) := upd_same
  generalize upd H1 l (.lst vs) = H2 at s2 v2 ⊢
  refine ⟨by show 2 ≤ sizeLine; omega, fun a ha => ?_⟩
  have s3 : Same H2 (upd H2 a (.tup [.str s, .ref l])) := same_upd (Same.refl H2) ha
  exact k _ _ (s1.trans (s2.trans s3)) ⟨a, l, vs, rfl, upd_same, s3 _ _ v2, Paired.mapP hv fun _ _ z => z.same (s2.trans s3)⟩
/-- the dict, as far as it is filled -/
def LT (n : Nat) (H0 H : Hp) (d : Addr) : Prop := ∃ kvs, Same H0 H ∧ H0 d = none ∧ H d = some (.dK kvs) ∧ kvs.length ≤ n ∧ ∀ f s rows, (f, s, rows) ∈ tabL.take n → ∃ v, valV kvs (Sum.inr f : Key) = some v ∧ EntT H v (s, rows)
theorem putK_le (kvs : List (Key × V)) (k : Key) (v : V) : (putK kvs k v).length ≤ kvs.length + 1 := length_putK kvs k v
theorem key_ne : ∀ n, n < 8 → ∀ f s rows g s' rows', (f, s, rows) ∈ tabL.take n → tabL[n]? = some (g, s', rows') → ¬ ((Sum.inr f : Key) = (Sum.inr g : Key)) := by
  have h : ((List.range 8).all fun n => (tabL.take n).all fun e => match tabL[n]? with | some g => decide (¬ ((Sum.inr e.1 : Key) = (Sum.inr g.1 : Key))) | none => true) = true := by decide +kernel
  intro n hn f s rows g s' rows' m e
  have q := List.all_eq_true.mp (List.all_eq_true.mp h n (List.mem_range.mpr hn)) _ m
  rw [e] at q
  exact of_decide_eq_true q
theorem LT.put {n : Nat} {H0 H H1 : Hp} {d : Addr} {g s' : Str} {rows' : List (Str × Str)} {v : V} (hn : n < 8) (h : LT n H0 H d) (s1 : Same H H1) (e : tabL[n]? = some (g, s', rows')) (hv : EntT H1 v (s', rows')) :
    ∃ H2, DPut H1 d (.str g) v H2 ∧ LT (n + 1) H0 H2 d := by
  obtain ⟨kvs, a, b, c, l, q⟩ := h
  have big : sizeLine ≥ 16777216 := by decide
  refine ⟨_, DPut.k (k := Sum.inr g) (s1 _ _ c) (by omega), putK kvs (Sum.inr g) v, same_upd (a.trans s1) b, b, upd_same, by have := putK_le kvs (Sum.inr g) v; omega, fun f s rows m => ?_⟩
  rw [List.take_add_one, e] at m
  rcases List.mem_append.mp m with m | m
  · obtain ⟨w, h1, h2⟩ := q f s rows m
    refine ⟨w, ?_, (h2.same s1).put (s1 _ _ c)⟩
    rw [valV_put, if_neg (key_ne n hn f s rows g s' rows' m e)]
    exact h1
  · have m : (f, s, rows) = (g, s', rows') := List.mem_singleton.mp m
    cases m
    exact ⟨v, by rw [valV_put, if_pos rfl], hv.put (s1 _ _ c)⟩
section
variable {P : Program} {w : World} {K : PySem.W.Frag} {mg : Str → Option Value} {base : Heap}
def spTable : Sp := fun vs H Q _ => vs = [] ∧ ∀ H' d kvs, Same H H' → H' d = some (.dK kvs) → (∀ f s rows, (f, s, rows) ∈ tabL → ∃ v, valV kvs (Sum.inr f : Key) = some v ∧ EntT H' v (s, rows)) → Q (.ref d) H'
theorem scTable : FnScope ["_law_found"] [] (defScope sTable) := ⟨rfl, rfl, rfl, by decide +kernel, rfl, by decide +kernel, by decide +kernel⟩
theorem ok_table {f : Addr} {fd : FuncData} (F : Fun K "_law_table" "_law_table" sTable f fd) : FnOk P w K mg base CX0 1 f fd [] spTable := by
  refine F.ok scTable (fun vs H Q E h => ?_) (fun cdv A outer s H vs Q E hr h => ?_)
  · obtain ⟨rfl, _⟩ := h
    rfl
  · obtain ⟨rfl, k⟩ := h
    have hu := hu_of hr
    refine ⟨_, (pss_cons (ps_set (i := 0) scTable.nd rfl (.inl rfl) (pe_disp (pps_cons pe_str (pe_tup (pa_cons pe_str (pa_cons (pe_lst (pa_cons (pe_tup (pa_cons pe_str (pa_cons pe_str pa_nil))) pa_nil)) pa_nil))) (pps_cons pe_str (pe_tup (pa_cons pe_str (pa_cons (pe_lst (pa_cons (pe_tup (pa_cons pe_str (pa_cons pe_str pa_nil))) (pa_cons (pe_tup (pa_cons pe_str (pa_cons pe_str pa_nil))) pa_nil))) pa_nil))) pps_nil)) rfl rfl (by intro q; cases q) (by decide))) (pss_cons (ps_dput hu (L2.pv 0) pe_str (pe_tup (pa_cons pe_str (pa_cons (pe_lst (pa_cons (pe_tup (pa_cons pe_str (pa_cons pe_str pa_nil))) (pa_cons (pe_tup (pa_cons pe_str (pa_cons pe_str pa_nil))) pa_nil))) pa_nil))) rfl) (pss_cons (ps_dput hu (L2.pv 0) pe_str (pe_tup (pa_cons pe_str (pa_cons (pe_lst (pa_cons (pe_tup (pa_cons pe_str (pa_cons pe_str pa_nil))) (pa_cons (pe_tup (pa_cons pe_str (pa_cons pe_str pa_nil))) pa_nil))) pa_nil))) rfl) (pss_cons (ps_dput hu (L2.pv 0) pe_str (pe_tup (pa_cons pe_str (pa_cons (pe_lst (pa_cons (pe_tup (pa_cons pe_str (pa_cons pe_str pa_nil))) pa_nil)) pa_nil))) rfl) (pss_cons (ps_dput hu (L2.pv 0) pe_str (pe_tup (pa_cons pe_str (pa_cons (pe_lst (pa_cons (pe_tup (pa_cons pe_str (pa_cons pe_str pa_nil))) (pa_cons (pe_tup (pa_cons pe_str (pa_cons pe_str pa_nil))) (pa_cons (pe_tup (pa_cons pe_str (pa_cons pe_str pa_nil))) pa_nil)))) pa_nil))) rfl) (pss_cons (ps_asg (pe_tup (pa_cons (pe_tup (pa_cons pe_str (pa_cons (pe_lst (pa_cons (pe_tup (pa_cons pe_str (pa_cons pe_str pa_nil))) pa_nil)) pa_nil))) (pa_cons (pe_tup (pa_cons pe_str (pa_cons (pe_lst (pa_cons (pe_tup (pa_cons pe_str (pa_cons pe_str pa_nil))) pa_nil)) pa_nil))) pa_nil))) (pg_tup (by rfl) (pgs_cons (pg_sub (L2.pv 0) pe_str (set_dict hu)) (pgs_cons (pg_sub (L2.pv 0) pe_str (set_dict hu)) pgs_nil)))) (pss_one (ps_ret (L2.pv 0))))))))), ?_⟩
    intro d hd
    have s0 : Same H (upd H d (.dK [])) := same_upd (Same.refl H) hd
    have v0 : (upd H d (.dK [])) d = some (.dK []) := upd_same
    generalize upd H d (.dK []) = H0 at s0 v0 ⊢
    dsimp only [tPairs]
    show entT "e" [("value", "text")] _ H0 _
    refine ent_made "e" [("value", "text")] (by decide) fun H1 a1 s1 e1 => ?_
    show entT "e" [("left", "e"), ("right", "e")] _ H1 _
    refine ent_made "e" [("left", "e"), ("right", "e")] (by decide) fun H2 a2 s2 e2 => ?_
    have v2 := (s1.trans s2) _ _ v0
    refine ⟨v2, [(Sum.inr "Num", a1), (Sum.inr "Add", a2)], rfl, by show 2 ≤ 15; decide, ?_⟩
    have L0 : LT 0 H H0 d := ⟨[], s0, hd, v0, Nat.le_refl _, fun f s rows m => by simp at m⟩
    have L2' : LT 2 H (upd H2 d (.dK (mergeK [] [(Sum.inr "Num", a1), (Sum.inr "Add", a2)]))) d := by
      refine ⟨putK (putK [] (Sum.inr "Num") a1) (Sum.inr "Add") a2, same_upd (s0.trans (s1.trans s2)) hd, hd, upd_same, ?_, fun f s rows m => ?_⟩
      · have q1 := putK_le (putK [] (Sum.inr "Num") a1) (Sum.inr "Add") a2
        have q2 := putK_le [] (Sum.inr "Num") a1
        have q3 : ([] : List (Key × V)).length = 0 := rfl
        omega
      · have m : (f, s, rows) = (("Num" : Str), ("e" : Str), [(("value" : Str), ("text" : Str))]) ∨ (f, s, rows) = (("Add" : Str), ("e" : Str), [(("left" : Str), ("e" : Str)), (("right" : Str), ("e" : Str))]) := by
          rcases List.mem_cons.mp m with m | m
          · exact .inl m
          · rcases List.mem_cons.mp m with m | m
            · exact .inr m
            · cases m
        rcases m with m | m
        · cases m
          refine ⟨a1, ?_, (e1.same s2).put v2⟩
          rw [valV_put, if_neg (by decide +kernel), valV_put, if_pos rfl]
        · cases m
          refine ⟨a2, ?_, e2.put v2⟩
          rw [valV_put, if_pos rfl]
    generalize upd H2 d (.dK (mergeK [] [(Sum.inr "Num", a1), (Sum.inr "Add", a2)])) = G2 at L2' ⊢
    dsimp only [gName, tSeq, sDPut, tAsg]
    show entT "e" [("what", "text"), ("args", "e*")] _ G2 _
    refine ent_made "e" [("what", "text"), ("args", "e*")] (by decide) fun H3 a3 s3 e3 => ?_
    obtain ⟨G3, p3, L3⟩ := L2'.put (by decide) s3 rfl e3
    refine ⟨_, rfl, d, G3, rfl, p3, ?_⟩
    try dsimp only [gName, tSeq, sDPut, tAsg]
    show entT "s" [("who", "text"), ("to", "e")] _ G3 _
    refine ent_made "s" [("who", "text"), ("to", "e")] (by decide) fun H4 a4 s4 e4 => ?_
    obtain ⟨G4, p4, L4⟩ := L3.put (by decide) s4 rfl e4
    refine ⟨_, rfl, d, G4, rfl, p4, ?_⟩
    try dsimp only [gName, tSeq, sDPut, tAsg]
    show entT "s" [("items", "s*")] _ G4 _
    refine ent_made "s" [("items", "s*")] (by decide) fun H5 a5 s5 e5 => ?_
    obtain ⟨G5, p5, L5⟩ := L4.put (by decide) s5 rfl e5
    refine ⟨_, rfl, d, G5, rfl, p5, ?_⟩
    try dsimp only [gName, tSeq, sDPut, tAsg]
    show entT "s" [("test", "e"), ("one", "s"), ("two", "s*")] _ G5 _
    refine ent_made "s" [("test", "e"), ("one", "s"), ("two", "s*")] (by decide) fun H6 a6 s6 e6 => ?_
    obtain ⟨G6, p6, L6⟩ := L5.put (by decide) s6 rfl e6
    refine ⟨_, rfl, d, G6, rfl, p6, ?_⟩
    try dsimp only [gName, tSeq, sDPut, tAsg]
    show tTup (tCons (entT "e" [("text", "text")]) (tCons (entT "s" [("text", "text")]) tNil)) _ G6 _
    dsimp only [tTup, tCons, tNil]
    refine ent_made "e" [("text", "text")] (by decide) fun H7 a7 s7 e7 => ?_
    refine ent_made "s" [("text", "text")] (by decide) fun H8 a8 s8 e8 => ?_
    refine ⟨by show 2 ≤ sizeLine; decide, fun t ht => ?_⟩
    have s9 : Same H8 (upd H8 t (.tup [a7, a8])) := same_upd (Same.refl H8) ht
    have v9 : (upd H8 t (.tup [a7, a8])) t = some (.tup [a7, a8]) := upd_same
    generalize upd H8 t (.tup [a7, a8]) = H9 at s9 v9 ⊢
    refine ⟨t, _, rfl, .inl (.inl v9), rfl, _, _, rfl, ?_⟩
    obtain ⟨G7, p7, L7⟩ := L6.put (by decide) (s7.trans (s8.trans s9)) rfl (e7.same (s8.trans s9))
    refine ⟨_, rfl, d, G7, rfl, p7, ?_⟩
    have e8' : EntT G7 a8 ("s", [("text", "text")]) := by
      obtain ⟨kvs6, _, _, c6, _, _⟩ := L6
      rcases p7 with ⟨kk, kv, c, _, _, eq⟩ | ⟨b, kvs, k', c, _⟩
      · rw [eq]
        exact (e8.same s9).put c
      · rw [(s7.trans (s8.trans s9)) _ _ c6] at c
        cases c
    obtain ⟨G8, p8, L8⟩ := L7.put (by decide) (Same.refl G7) rfl e8'
    refine ⟨_, _, rfl, ?_⟩
    refine ⟨_, rfl, d, G8, rfl, p8, ?_⟩
    refine ⟨rfl, ?_⟩
    obtain ⟨kvs, a, b, c, l, q⟩ := L8
    exact ⟨_, rfl, k G8 d kvs a c q⟩
end
end K3

namespace K3
open PySem PySem.Spec PyProof.Rows PySem.SeqAt L2 E0
/-! ### words and forms that are drawn -/
theorem pick {l : List Str} {j : Nat} (h : j < l.length) : ∃ s, s ∈ l ∧ (l.map V.str)[j]? = some (.str s) := ⟨l[j], List.getElem_mem h, by rw [List.getElem?_map, List.getElem?_eq_getElem h]; rfl⟩
def strT : List Str → TA
  | [] => tNil
  | x :: r => tCons (tC (.str x)) (strT r)
theorem strs_made {σ : L2.St} : ∀ (l : List Str) {H : Hp} {Qa : List V → Hp → Prop}, Qa (l.map V.str) H → strT l σ H Qa
  | [], H, Qa, k => k
  | x :: r, H, Qa, k => strs_made r (Qa := fun xs H2 => Qa (.str x :: xs) H2) k
def pickT (K : PySem.W.Frag) (l : List Str) (k : Int) : TE := tOp (rIxL K) (tLst (strT l)) (tCall spDraw [] E0 (tCons (tVar 0) (tCons (tC (.int k)) tNil)))
theorem pick_made {K : PySem.W.Frag} {σ : L2.St} {m lc lg : Addr} {n : Int} (l : List Str) {k : Int} {H : Hp} {Q : VK} (hk : k = (l.length : Int)) (hl : 0 < l.length) (h60 : l.length ≤ 60) (hm : σ[0]? = some (some (.ref m))) (M : MA m lc lg n H) (hn : n ≤ 1000000) (q : ∀ H' z, z ∈ l → MA m lc lg (n + 1) H' → DD m lg H H' → Q (.str z) H') : pickT K l k σ H Q := by
  refine strs_made l ?_
  have big : sizeLine ≥ 16777216 := by decide
  refine ⟨by rw [List.length_map]; omega, fun L hL => ?_⟩
  have s1 : Same H (upd H L (.lst (l.map V.str))) := same_upd (Same.refl H) hL
  have v1 : (upd H L (.lst (l.map V.str))) L = some (.lst (l.map V.str)) := upd_same
  have nL := M.nm hL
  generalize upd H L (.lst (l.map V.str)) = H1 at s1 v1 ⊢
  have M1 := M.same s1
  refine ⟨_, hm, m, lc, lg, n, k, rfl, M1, hn, by omega, by omega, fun H2 d d0 d1 M2 e2 => ?_⟩
  obtain ⟨j, rfl⟩ : ∃ j : Nat, d = (j : Int) := ⟨d.toNat, by omega⟩
  obtain ⟨z, hz, ez⟩ := pick (l := l) (j := j) (by omega)
  exact ⟨L, _, (j : Int), .str z, rfl, rfl, SqL.of (e2 _ _ nL.1 nL.2 v1), atI_nat ez, q H2 z hz M2 (fun b o b1 b2 h => e2 b o b1 b2 (s1 b o h))⟩
def menuW : List Str := ["a", "b", "", "f", "g", "1"]
theorem menuW_T : ∀ s ∈ menuW, s ∈ menuT := by
  have h : (menuW.all fun s => decide (s ∈ menuT)) = true := by decide +kernel
  exact fun s hs => of_decide_eq_true (List.all_eq_true.mp h s hs)
def allowF : Bool → Bool → List Str
  | true, true => ["Num", "raw_e", "Num", "Call"]
  | true, false => ["raw_s", "Seq"]
  | false, true => ["Num", "Add", "Add", "Call", "Call", "raw_e"]
  | false, false => ["Set", "Set", "Seq", "If", "raw_s"]
def sortS : Bool → Str
  | true => "e"
  | false => "s"
section
variable {P : Program} {w : World} {K : PySem.W.Frag} {mg : Str → Option Value} {base : Heap}
def spWord : Sp := fun vs H Q _ => ∃ (m lc lg : Addr) (n : Int), vs = [.ref m] ∧ MA m lc lg n H ∧ n ≤ 1000000 ∧ ∀ H' z, z ∈ menuT → MA m lc lg (n + 1) H' → DD m lg H H' → Q (.str z) H'
theorem scWord : FnScope ["_law_m"] ["_law_m"] (defScope sWord) := ⟨rfl, rfl, rfl, by decide +kernel, rfl, by decide +kernel, by decide +kernel⟩
theorem ok_word {f fD : Addr} {fd fdD : FuncData} (F : Fun K "_law_word" "_law_word" sWord f fd) (GD : FnOk P w K mg base CX0 2 fD fdD ["_law_m", "_law_top"] spDraw) (AD : DefA K mg "_law_draw" ["_law_m", "_law_top"] fD fdD) : FnOk P w K mg base CX0 3 f fd ["_law_m"] spWord := by
  refine F.ok scWord (fun vs H Q E h => ?_) (fun cdv A outer s H vs Q E hr h => ?_)
  · obtain ⟨m, lc, lg, n, rfl, _⟩ := h
    rfl
  · obtain ⟨m, lc, lg, n, rfl, M, hn, k⟩ := h
    refine ⟨_, (pss_one (ps_ret (pe_ix ix_list (pe_lst (pa_cons pe_str (pa_cons pe_str (pa_cons pe_str (pa_cons pe_str (pa_cons pe_str (pa_cons pe_str pa_nil))))))) (pe_call GD hr (by rfl) AD.g AD.k AD.b .nil pass0 (pa_cons (L2.pv 0) (pa_cons pe_int pa_nil))) (fun _ _ => rfl)))), ?_⟩
    show pickT K menuW 6 _ H _
    exact pick_made menuW rfl (by decide) (by decide) rfl M hn fun H' z hz M' d => k H' z (menuW_T z hz) M' d
def spForm : Sp := fun vs H Q _ => ∃ (m lc lg : Addr) (n : Int) (b : Bool) (d : Nat), vs = [.ref m, .str (sortS b), .int (d : Int)] ∧ MA m lc lg n H ∧ n ≤ 1000000 ∧ ∀ H' z, z ∈ allowF (decide (d = 0)) b → MA m lc lg (n + 1) H' → DD m lg H H' → Q (.str z) H'
def NFO : List Str := ["_law_m", "_law_take", "_law_deep"]
theorem scForm : FnScope NFO ["_law_m", "_law_take", "_law_deep"] (defScope sForm) := ⟨rfl, rfl, rfl, by decide +kernel, rfl, by decide +kernel, by decide +kernel⟩
theorem ok_form {f fD : Addr} {fd fdD : FuncData} (F : Fun K "_law_form" "_law_form" sForm f fd) (GD : FnOk P w K mg base CX0 2 fD fdD ["_law_m", "_law_top"] spDraw) (AD : DefA K mg "_law_draw" ["_law_m", "_law_top"] fD fdD) : FnOk P w K mg base CX0 3 f fd ["_law_m", "_law_take", "_law_deep"] spForm := by
  refine F.ok scForm (fun vs H Q E h => ?_) (fun cdv A outer s H vs Q E hr h => ?_)
  · obtain ⟨m, lc, lg, n, b, d, rfl, _⟩ := h
    rfl
  · obtain ⟨m, lc, lg, n, b, d, rfl, M, hn, k⟩ := h
    refine ⟨_, (pss_cons (ps_if (pt_cmpR op_eq (L2.pv 2) pe_int (nomark _)) (pss_one (ps_ret (pe_ifExp (pt_cmpR op_eq (L2.pv 1) pe_str (nomark _)) (pe_ix ix_list (pe_lst (pa_cons pe_str (pa_cons pe_str (pa_cons pe_str (pa_cons pe_str pa_nil))))) (pe_call GD hr (by rfl) AD.g AD.k AD.b .nil pass0 (pa_cons (L2.pv 0) (pa_cons pe_int pa_nil))) (fun _ _ => rfl)) (pe_ix ix_list (pe_lst (pa_cons pe_str (pa_cons pe_str pa_nil))) (pe_call GD hr (by rfl) AD.g AD.k AD.b .nil pass0 (pa_cons (L2.pv 0) (pa_cons pe_int pa_nil))) (fun _ _ => rfl))))) pss_nil) (pss_cons (ps_if (pt_cmpR op_eq (L2.pv 1) pe_str (nomark _)) (pss_one (ps_ret (pe_ix ix_list (pe_lst (pa_cons pe_str (pa_cons pe_str (pa_cons pe_str (pa_cons pe_str (pa_cons pe_str (pa_cons pe_str pa_nil))))))) (pe_call GD hr (by rfl) AD.g AD.k AD.b .nil pass0 (pa_cons (L2.pv 0) (pa_cons pe_int pa_nil))) (fun _ _ => rfl)))) pss_nil) (pss_one (ps_ret (pe_ix ix_list (pe_lst (pa_cons pe_str (pa_cons pe_str (pa_cons pe_str (pa_cons pe_str (pa_cons pe_str pa_nil)))))) (pe_call GD hr (by rfl) AD.g AD.k AD.b .nil pass0 (pa_cons (L2.pv 0) (pa_cons pe_int pa_nil))) (fun _ _ => rfl)))))), ?_⟩
    have se : decide (V.str "e" = V.str "e") = true := decide_eq_true rfl
    have ss : decide (V.str "s" = V.str "e") = false := by decide +kernel
    refine ⟨_, rfl, rfl, _, rfl, ?_⟩
    by_cases hd : d = 0
    · rw [decide_eq_true hd] at k
      rw [show decide (V.int (d : Int) = V.int 0) = true from decide_eq_true (by rw [hd]; rfl)]
      refine iteT ?_
      refine ⟨_, rfl, rfl, _, rfl, ?_⟩
      cases b with
      | true =>
        rw [show sortS true = "e" from rfl, se]
        refine iteT ?_
        show pickT K (allowF true true) 4 _ H _
        exact pick_made (allowF true true) rfl (by decide) (by decide) rfl M hn k
      | false =>
        rw [show sortS false = "s" from rfl, ss]
        refine iteF ?_
        show pickT K (allowF true false) 2 _ H _
        exact pick_made (allowF true false) rfl (by decide) (by decide) rfl M hn k
    · rw [decide_eq_false hd] at k
      rw [show decide (V.int (d : Int) = V.int 0) = false from decide_eq_false (fun e => hd (by have := V.int.inj e; omega))]
      refine iteF ?_
      refine ⟨_, rfl, rfl, _, rfl, ?_⟩
      cases b with
      | true =>
        rw [show sortS true = "e" from rfl, se]
        refine iteT ?_
        show pickT K (allowF false true) 6 _ H _
        exact pick_made (allowF false true) rfl (by decide) (by decide) rfl M hn k
      | false =>
        rw [show sortS false = "s" from rfl, ss]
        refine iteF ?_
        show pickT K (allowF false false) 5 _ H _
        exact pick_made (allowF false false) rfl (by decide) (by decide) rfl M hn k
end
end K3

namespace K3
open PySem PySem.Spec PyProof.Rows PySem.SeqAt L2 E0
/-! ### _law_tree -/
def kOf (y : Str) : Nat := if y = "text" then 0 else if y = "e" ∨ y = "s" then 1 else 3
def kS (rows : List (Str × Str)) : Nat := (rows.map fun r => kOf r.2).sum
theorem kS_snoc (rows : List (Str × Str)) (r : Str × Str) : kS (rows ++ [r]) = kS rows + kOf r.2 := by
  unfold kS
  rw [List.map_append, List.sum_append]
  simp
def rowOk (y : Str) : Bool := decide (y = "text") || decide (y = "e") || decide (y = "s") || decide (y = "e*") || decide (y = "s*")
theorem tab_ok : ∀ f s rows, (f, s, rows) ∈ tabL → f ∈ forms8 ∧ nameS f = true ∧ PyData.strOk f = true ∧ 1 ≤ rows.length ∧ rows.length ≤ 3 ∧ kS rows ≤ 5 ∧ ∀ r ∈ rows, rowOk r.2 = true := by
  have h : (tabL.all fun e => decide (e.1 ∈ forms8) && nameS e.1 && PyData.strOk e.1 && decide (1 ≤ e.2.2.length) && decide (e.2.2.length ≤ 3) && decide (kS e.2.2 ≤ 5) && e.2.2.all fun r => rowOk r.2) = true := by decide +kernel
  intro f s rows m
  have q := List.all_eq_true.mp h _ m
  simp only [Bool.and_eq_true, decide_eq_true_eq] at q
  obtain ⟨⟨⟨⟨⟨⟨a, b⟩, c⟩, d⟩, e⟩, g⟩, i⟩ := q
  exact ⟨a, b, c, d, e, g, fun r hr => List.all_eq_true.mp i r hr⟩
theorem allow_tab : ∀ a b, ∀ f ∈ allowF a b, ∃ s rows, (f, s, rows) ∈ tabL ∧ (a = true → ∀ r ∈ rows, r.2 ≠ "e" ∧ r.2 ≠ "s") := by
  have h : ([true, false].all fun a => [true, false].all fun b => (allowF a b).all fun f => tabL.any fun e => decide (e.1 = f) && (!a || e.2.2.all fun r => decide (r.2 ≠ "e") && decide (r.2 ≠ "s"))) = true := by decide +kernel
  intro a b f hf
  have ha : a ∈ [true, false] := by cases a <;> simp
  have hb : b ∈ [true, false] := by cases b <;> simp
  have q := List.all_eq_true.mp (List.all_eq_true.mp (List.all_eq_true.mp h a ha) b hb) f hf
  obtain ⟨⟨g, s, rows⟩, m, e⟩ := List.any_eq_true.mp q
  simp only [Bool.and_eq_true, decide_eq_true_eq, Bool.or_eq_true, Bool.not_eq_true'] at e
  obtain ⟨e1, e2⟩ := e
  subst e1
  refine ⟨s, rows, m, fun at_ r hr => ?_⟩
  rcases e2 with e2 | e2
  · rw [e2] at at_; cases at_
  · have := List.all_eq_true.mp e2 r hr
    simp only [Bool.and_eq_true, decide_eq_true_eq] at this
    exact this
theorem rowOk_cases {y : Str} (h : rowOk y = true) : y = "text" ∨ (∃ b, y = sortS b) ∨ ∃ b, y = sortS b ++ "*" := by
  unfold rowOk at h
  simp only [Bool.or_eq_true, decide_eq_true_eq] at h
  rcases h with (((h | h) | h) | h) | h
  · exact .inl h
  · exact .inr (.inl ⟨true, h⟩)
  · exact .inr (.inl ⟨false, h⟩)
  · exact .inr (.inr ⟨true, by rw [h]; decide +kernel⟩)
  · exact .inr (.inr ⟨false, by rw [h]; decide +kernel⟩)
theorem sort_facts : ∀ b : Bool, decide (V.str (sortS b) = V.str "text") = false ∧ Txt.endswith (sortS b) "*" = false ∧ kOf (sortS b) = 1 ∧ decide (V.str (sortS b ++ "*") = V.str "text") = false ∧ Txt.endswith (sortS b ++ "*") "*" = true ∧ kOf (sortS b ++ "*") = 3 ∧ cutS (sortS b ++ "*") none (some (-1)) = sortS b ∧ (sortS b ++ "*").length ≤ 100 := by
  intro b
  cases b <;> decide +kernel
def sB : Nat → Nat
  | 0 => 1
  | d + 1 => 1 + 5 * sB d
def tD : Nat → Nat
  | 0 => 4
  | d + 1 => 4 + 5 * tD d
def pS : Nat → Nat
  | 0 => 0
  | d + 1 => sB d
def pT : Nat → Nat
  | 0 => 0
  | d + 1 => tD d
theorem sB_p (d : Nat) : sB d = 1 + 5 * pS d := by cases d <;> rfl
theorem tD_p (d : Nat) : tD d = 4 + 5 * pT d := by cases d <;> rfl
theorem hts_app : ∀ a b : List Tr, hts (a ++ b) = max (hts a) (hts b)
  | [], b => (Nat.zero_max _).symm
  | t :: a, b => by
    show max (ht t) (hts (a ++ b)) = max (max (ht t) (hts a)) (hts b)
    rw [hts_app a b, Nat.max_assoc]
theorem sizes_le {w : Nat} : ∀ {ts : List Tr}, (∀ t ∈ ts, size t ≤ w) → sizes ts ≤ ts.length * w
  | [], _ => Nat.zero_le _
  | t :: ts, h => by
    have a := h t (List.mem_cons_self ..)
    have b := sizes_le fun u m => h u (List.mem_cons_of_mem _ m)
    rw [List.length_cons, Nat.succ_mul]
    show size t + sizes ts ≤ _
    omega
theorem hts_le {w : Nat} : ∀ {ts : List Tr}, (∀ t ∈ ts, ht t ≤ w) → hts ts ≤ w
  | [], _ => Nat.zero_le _
  | t :: ts, h => Nat.max_le.mpr ⟨h t (List.mem_cons_self ..), hts_le fun u m => h u (List.mem_cons_of_mem _ m)⟩
theorem levelss_le {w : Nat} : ∀ {ts : List Tr}, (∀ t ∈ ts, levels t ≤ w) → levelss ts ≤ w
  | [], _ => Nat.zero_le _
  | t :: ts, h => Nat.max_le.mpr ⟨h t (List.mem_cons_self ..), levelss_le fun u m => h u (List.mem_cons_of_mem _ m)⟩
theorem ife {b : Bool} {t u : TE} {σ : L2.St} {H : Hp} {Q : VK} (R : V → Hp → Prop) (ht : b = true → ∀ Q' : VK, (∀ v H', R v H' → Q' v H') → t σ H Q') (hu : b = false → ∀ Q' : VK, (∀ v H', R v H' → Q' v H') → u σ H Q') (hQ : ∀ v H', R v H' → Q v H') : if b = true then t σ H Q else u σ H Q := by
  cases b
  · exact iteF (hu rfl Q hQ)
  · exact iteT (ht rfl Q hQ)
structure TreeOk (d : Nat) (t : Tr) : Prop where
  g : genT t
  i : isT t = true
  w : wfT t
  s : size t ≤ sB d
  l : levels t ≤ d + 1
  h : ht t ≤ 2 * (d + 1)
theorem first_ref {H : Hp} : ∀ {vs : List V} {rows : List (Str × Str)}, Paired (RowAt H) vs rows → 1 ≤ rows.length → ∃ (a : Addr) (r : List V), vs = .ref a :: r
  | _, _, .nil, h => absurd h (by decide)
  | _, _, .cons a _, _ => by
    obtain ⟨ra, e1, _⟩ := a
    exact ⟨ra, _, by rw [e1]⟩
theorem MA.upd {m lc lg D : Addr} {n : Int} {H : Hp} {o : HO} (M : MA m lc lg n H) (h1 : D ≠ m) (h2 : D ≠ lc) (h3 : D ≠ lg) : MA m lc lg n (upd H D o) := by
  obtain ⟨hm, ne, ⟨cs, hc, c1, c2⟩, ⟨gs, hg, g1⟩, n0⟩ := M
  exact ⟨by rw [upd_ne (Ne.symm h1)]; exact hm, ne, ⟨cs, by rw [upd_ne (Ne.symm h2)]; exact hc, c1, c2⟩, ⟨gs, by rw [upd_ne (Ne.symm h3)]; exact hg, g1⟩, n0⟩
theorem MA.nlc {m lc lg : Addr} {n : Int} {H : Hp} (M : MA m lc lg n H) {p : Addr} (h : H p = none) : p ≠ lc := fun e => by
  obtain ⟨_, _, ⟨cs, hc, _⟩, _⟩ := M
  rw [e, hc] at h
  cases h
section
variable {P : Program} {w : World} {K : PySem.W.Frag} {mg : Str → Option Value} {base : Heap}
def spTree (d : Nat) : Sp := fun vs H Q _ => ∃ (m lc lg : Addr) (n : Int) (b : Bool), vs = [.ref m, .str (sortS b), .int (d : Int)] ∧ MA m lc lg n H ∧ n + (tD d : Nat) ≤ 1000000 ∧
  ∀ H' v t n', DD m lg H H' → MA m lc lg n' H' → n ≤ n' → n' ≤ n + (tD d : Nat) → PlAt (New H) H' v t → TreeOk d t → Q v H'
def spTreeP : Nat → Sp
  | 0 => fun _ _ _ _ => False
  | d + 1 => spTree d
def NTR : List Str := ["_law_m", "_law_take", "_law_deep", "_law_word_here", "_law_plant", "_law_name_so", "_law_takes", "_law_count", "_law_n"]
theorem scTree : FnScope NTR ["_law_m", "_law_take", "_law_deep"] (defScope sTree) := ⟨rfl, rfl, rfl, by decide +kernel, rfl, by decide +kernel, by decide +kernel⟩
theorem ok_tree {C : Cl5} {f fD fW fF fT : Addr} {fd fdD fdW fdF fdT : FuncData} {d k : Nat} (hk : 3 ≤ k) (F : Fun K "_law_tree" "_law_tree" sTree f fd) (T : TxtT mg C) (gR : mg "range" = none) (GD : FnOk P w K mg base CX0 2 fD fdD ["_law_m", "_law_top"] spDraw) (AD : DefA K mg "_law_draw" ["_law_m", "_law_top"] fD fdD)
    (GW : FnOk P w K mg base CX0 3 fW fdW ["_law_m"] spWord) (AW : DefA K mg "_law_word" ["_law_m"] fW fdW) (GF : FnOk P w K mg base CX0 3 fF fdF ["_law_m", "_law_take", "_law_deep"] spForm) (AF : DefA K mg "_law_form" ["_law_m", "_law_take", "_law_deep"] fF fdF)
    (GT : FnOk P w K mg base CX0 1 fT fdT [] spTable) (AT : DefA K mg "_law_table" [] fT fdT) (GR : FnOk P w K mg base CX0 k f fd ["_law_m", "_law_take", "_law_deep"] (spTreeP d)) (AR : DefA K mg "_law_tree" ["_law_m", "_law_take", "_law_deep"] f fd) :
    FnOk P w K mg base CX0 (k + 1) f fd ["_law_m", "_law_take", "_law_deep"] (spTree d) := by
  refine F.ok scTree (fun vs H Q E h => ?_) (fun cdv A outer s H vs Q E hr h => ?_)
  · obtain ⟨m, lc, lg, n, b, rfl, _⟩ := h
    rfl
  · obtain ⟨m, lc, lg, n, b, rfl, M, hn, k⟩ := h
    have hr3 : Room 3 _ := hr.mono hk
    have hr2 : Room 2 _ := hr.mono (by omega)
    have hr1 : Room 1 _ := hr.mono (by omega)
    have hu := hu_of hr
    refine ⟨_, (pss_cons (ps_set (i := 3) scTree.nd rfl (.inl rfl) (pe_call GF hr3 (by rfl) AF.g AF.k AF.b .nil pass0 (pa_cons (L2.pv 0) (pa_cons (L2.pv 1) (pa_cons (L2.pv 2) pa_nil))))) (pss_cons (ps_set (i := 4) scTree.nd rfl (.inl rfl) (pe_lst (pa_cons (L2.pv 3) pa_nil))) (pss_cons (ps_for PassesOwn.never rfl (pi_list (pe_ix ix_tup (pe_dget hu (pe_call0 (E := E0) GT hr1 rfl AT.g AT.k AT.b .nil pass0) (L2.pv 3) (fun _ _ => rfl)) pe_int (fun _ _ => rfl))) (pg_tup (by rfl) (pgs_cons (pg_name (i := 5) scTree.nd rfl (.inl rfl)) (pgs_cons (pg_name (i := 6) scTree.nd rfl (.inr rfl)) pgs_nil))) (pss_one (ps_if (pt_cmpR op_eq (L2.pv 6) pe_str (nomark _)) (pss_one (ps_expr (pe_bm PySem.F.plainAttrs_list PySem.F.slot_list_append PySem.F.type_list_append mt_append (L2.pv 4) (pa_cons (pe_call GW hr3 (by rfl) AW.g AW.k AW.b .nil pass0 (pa_cons (L2.pv 0) pa_nil)) pa_nil)))) (pss_one (ps_if (pt_val (pe_bm PySem.F.plainAttrs_str PySem.F.slot_str_endswith PySem.F.type_str_endswith mt_endswith (L2.pv 6) (pa_cons pe_str pa_nil))) (pss_cons (ps_set (i := 7) scTree.nd rfl (.inl rfl) (pe_ifExp (pt_cmpR op_gt (L2.pv 2) pe_int (nomark _)) (pe_call GD hr2 (by rfl) AD.g AD.k AD.b .nil pass0 (pa_cons (L2.pv 0) (pa_cons pe_int pa_nil))) pe_int)) (pss_one (ps_expr (pe_bm PySem.F.plainAttrs_list PySem.F.slot_list_append PySem.F.type_list_append mt_append (L2.pv 4) (pa_cons (pe_lc (own := [("_law_n", 8)]) (g := gName 8) (tt := tYes) (te := (tCall (spTreeP d) [] E0 (tCons (tVar 0) (tCons (tSl rSlS (tVar 6) tNoPart (tPart (tUn (rU fun i => .int (-i)) (tC (.int 1))))) (tCons (tOp (rI0 fun i j => .int (i - j)) (tVar 2) (tC (.int 1))) tNil))))) rfl scTree.nd (pi_range1 rfl gR (pa_cons (L2.pv 7) pa_nil)) (blkOk_by (N := NTR) (sc := defScope sTree) (by decide +kernel)) (fun _ _ _ _ _ => pg_name (i := 8) scTree.nd rfl (Or.inl rfl)) (fun _ _ _ _ _ => pts_nil) (fun _ _ _ _ _ => (pe_call GR hr (by rfl) AR.g AR.k AR.b .nil pass0 (pa_cons (L2.pv 0) (pa_cons (pe_slice sl_str (L2.pv 6) po_none (po_some (pe_un un_neg pe_int))) (pa_cons (pe_op op_sub (L2.pv 2) pe_int) pa_nil)))))) pa_nil))))) (pss_one (ps_expr (pe_bm PySem.F.plainAttrs_list PySem.F.slot_list_append PySem.F.type_list_append mt_append (L2.pv 4) (pa_cons (pe_call GR hr (by rfl) AR.g AR.k AR.b .nil pass0 (pa_cons (L2.pv 0) (pa_cons (L2.pv 6) (pa_cons (pe_op op_sub (L2.pv 2) pe_int) pa_nil)))) pa_nil))))))))) (pss_one (ps_ret (pe_callTy call_tuple_of (by rfl) T.tup PyProof.Rows.boot_tuple (pa_cons (L2.pv 4) pa_nil))))))), ?_⟩
    have big : sizeLine ≥ 16777216 := by decide
    have eT := tD_p d
    have eS := sB_p d
    refine ⟨_, rfl, _, rfl, _, rfl, m, lc, lg, n, b, d, rfl, M, by omega, fun H1 fz hfz M1 d1 => ?_⟩
    obtain ⟨so, rows, mt, nonode⟩ := allow_tab _ _ fz hfz
    obtain ⟨t1, t2, t3, t4, t5, t6, t7⟩ := tab_ok _ _ _ mt
    -- plant = [word]
    refine ⟨_, rfl, by show 1 ≤ sizeLine; omega, fun D hD => ?_⟩
    have s2 : Same H1 (upd H1 D (.lst [.str fz])) := same_upd (Same.refl H1) hD
    have v2 : (upd H1 D (.lst [.str fz])) D = some (.lst [.str fz]) := upd_same
    obtain ⟨nDm, nDg⟩ := M1.nm hD
    have nDc := M1.nlc hD
    have nHD : H D = none := d1.free M1 hD
    generalize upd H1 D (.lst [.str fz]) = H2 at s2 v2 ⊢
    have M2 := M1.same s2
    have d2 : DD m lg H H2 := d1.trans (DD.same s2)
    -- the rows of the form
    refine ⟨rfl, fun H3 td kvs s3 htd look => ?_⟩
    obtain ⟨ev, hev, ent⟩ := look fz so rows mt
    obtain ⟨ea, el, vs, rfl, hea, hel, prows⟩ := ent
    have M3 := M2.same s3
    have d3 : DD m lg H H3 := d2.trans (DD.same s3)
    refine ⟨_, rfl, td, _, rfl, dg (k := .inr fz) htd hev, ?_⟩
    refine ⟨ea, _, 1, .ref el, rfl, rfl, SqT.of hea, atI_nat (j := 1) rfl, el, rfl, ⟨_, SqL.of hel⟩, ?_⟩
    have vl : vs.length = rows.length := prows.length
    have vs1 : ∃ (a : Addr) (r : List V), vs = .ref a :: r := first_ref prows t4
    have nelD : el ≠ D := fun e => by
      obtain ⟨a0, r0, e0⟩ := vs1
      rw [e, s3 _ _ v2, e0] at hel
      cases hel
    -- the list of rows is not one of the state's
    have nelm : el ≠ m := fun e => by rw [e, M3.hm] at hel; cases hel
    have nelg : el ≠ lg := fun e => by
      obtain ⟨gs, hg, _⟩ := M3.hg
      rw [e, hg] at hel
      have hel : gs.map V.int = vs := by cases hel; rfl
      obtain ⟨a0, r0, e0⟩ := vs1
      rw [e0] at hel
      cases gs with
      | nil => cases hel
      | cons _ _ => cases hel
    have kN : ∀ {H' H'' : Hp}, DD m lg H' H'' → KpN (But (New H) D) H' H'' := fun {H' H''} dd b o nb q _ => let z := M.nm nb.1; dd b o z.1 z.2 q
    have nND : ¬ (But (New H) D) D := fun q => q.2 rfl
    refine for_list (K := K) (a := el) (xs := vs) (fun i σ H' => ∃ (v5 v6 v7 : Option V) (acc : List V) (ts : List Tr) (n' : Int), σ = [some (.ref m), some (.str (sortS b)), some (.int (d : Int)), some (.str fz), some (.ref D), v5, v6, v7, none] ∧ (∀ b o, b ≠ m → b ≠ lg → b ≠ D → H3 b = some o → H' b = some o) ∧ DD m lg H H' ∧ MA m lc lg n' H' ∧ H' D = some (.lst (.str fz :: acc)) ∧ PlsAt (But (New H) D) H' acc ts ∧ ts.length = i ∧ gensT ts ∧ wfTs ts ∧
        sizes ts ≤ kS (rows.take i) * pS d ∧ levelss ts ≤ d ∧ hts ts ≤ 2 * d + 1 ∧ n + 1 ≤ n' ∧ n' ≤ n + 1 + ((i + kS (rows.take i) * pT d : Nat) : Int))
      ⟨none, none, none, [], [], n + 1, rfl, fun _ _ _ _ _ q => q, d3, M3, s3 _ _ v2, True.intro, rfl, True.intro, True.intro, Nat.zero_le _, Nat.zero_le _, Nat.zero_le _, by omega, by omega⟩ (fun i σ H' _ ⟨_, _, _, _, _, _, _, dd, _⟩ => SqL.of (dd _ _ nelm nelg nelD hel)) ?_ ?_
    · rintro i x σ H4 hx ⟨v5, v6, v7, acc, ts, n', rfl, dd4, d4, M4, hD4, pacc, tl, gts, wts, q1, q2, q3, l1, l2⟩
      obtain ⟨r, er, ⟨ra, rfl, hra⟩⟩ := LiI.paired_get prows hx
      have er : rows[i]? = some r := er
      have rm := List.mem_of_getElem? er
      have il := (List.getElem?_eq_some_iff.mp er).1
      have nram : ra ≠ m := fun e => by rw [e, M3.hm] at hra; cases hra
      have nrag : ra ≠ lg := fun e => by
        obtain ⟨gs, hg, _⟩ := M3.hg
        rw [e, hg] at hra
        cases hra
      have nraD : ra ≠ D := fun e => by rw [e, s3 _ _ v2] at hra; cases hra
      have hra4 := dd4 _ _ nram nrag nraD hra
      have etk : rows.take (i + 1) = rows.take i ++ [r] := by rw [List.take_add_one, er]; rfl
      have kle : kS (rows.take (i + 1)) ≤ kS rows := by
        have e := List.take_append_drop (i + 1) rows
        have : kS rows = kS (rows.take (i + 1)) + kS (rows.drop (i + 1)) := by
          conv => lhs; rw [← e]
          unfold kS
          rw [List.map_append, List.sum_append]
        omega
      rw [etk, kS_snoc] at kle
      have kT : (kS (rows.take i) + kOf r.2) * pT d ≤ 5 * pT d := Nat.mul_le_mul_right _ (by omega)
      rw [Nat.add_mul] at kT
      have al : acc.length = ts.length := pls_len pacc
      -- a part more
      have fin : ∀ (H5 : Hp) (z : V) (p : Tr) (n5 : Int), DD m lg H4 H5 → MA m lc lg n5 H5 → PlAt (But (New H) D) H5 z p → genT p → wfT p → size p ≤ kOf r.2 * pS d → levels p ≤ d → ht p ≤ 2 * d + 1 → n' ≤ n5 → n5 ≤ n' + 1 + ((kOf r.2 * pT d : Nat) : Int) →
          H5 D = some (.lst (.str fz :: acc)) ∧ (V.str fz :: acc).length < sizeLine ∧ ∃ (acc' : List V) (ts' : List Tr) (n'' : Int), (∀ b o, b ≠ m → b ≠ lg → b ≠ D → H3 b = some o → (upd H5 D (.lst ((.str fz :: acc) ++ [z]))) b = some o) ∧ DD m lg H (upd H5 D (.lst ((.str fz :: acc) ++ [z]))) ∧ MA m lc lg n'' (upd H5 D (.lst ((.str fz :: acc) ++ [z]))) ∧ (upd H5 D (.lst ((.str fz :: acc) ++ [z]))) D = some (.lst (.str fz :: acc')) ∧ PlsAt (But (New H) D) (upd H5 D (.lst ((.str fz :: acc) ++ [z]))) acc' ts' ∧ ts'.length = i + 1 ∧ gensT ts' ∧ wfTs ts' ∧
            sizes ts' ≤ kS (rows.take (i + 1)) * pS d ∧ levelss ts' ≤ d ∧ hts ts' ≤ 2 * d + 1 ∧ n + 1 ≤ n'' ∧ n'' ≤ n + 1 + ((i + 1 + kS (rows.take (i + 1)) * pT d : Nat) : Int) := fun H5 z p n5 d5 M5 hz gp wp sp lp hp m1 m2 => by
        have hD5 := d5 _ _ nDm nDg hD4
        have up : ∀ {H9 : Hp}, DD m lg H9 H5 → (∀ o, H9 D = some o → False) → DD m lg H9 (upd H5 D (.lst ((.str fz :: acc) ++ [z]))) := fun {H9} dd hn b o b1 b2 q => by
          rw [upd_ne (fun e => hn o (by rw [← e]; exact q))]
          exact dd b o b1 b2 q
        refine ⟨hD5, by rw [List.length_cons]; omega, acc ++ [z], ts ++ [p], n5, ?_, up (d4.trans d5) (fun o q => by rw [nHD] at q; cases q), M5.upd nDm nDc nDg, upd_same, ?_, by rw [List.length_append, tl]; rfl, ?_, ?_, ?_, ?_, ?_, by omega, ?_⟩
        · intro c o b1 b2 b3 q
          rw [upd_ne b3]
          exact d5 c o b1 b2 (dd4 c o b1 b2 b3 q)
        · have hz' : PlsAt (But (New H) D) (upd H5 D (.lst ((.str fz :: acc) ++ [z]))) [z] [p] := ⟨PlAt.kp (kpN_upd nND) _ hz, True.intro⟩
          exact pls_app (PlsAt.kp (kpN_upd nND) _ (PlsAt.kp (kN d5) _ pacc)) hz'
        · exact gens_app gts ⟨gp, True.intro⟩
        · exact wfs_of fun t m => (List.mem_append.mp m).elim (wfs_mem wts) fun z => by rw [List.mem_singleton.mp z]; exact wp
        · rw [sizes_app, etk, kS_snoc, Nat.add_mul]
          show sizes ts + (size p + 0) ≤ _
          omega
        · rw [levelss_app]
          show max (levelss ts) (max (levels p) 0) ≤ d
          omega
        · rw [hts_app]
          show max (hts ts) (max (ht p) 0) ≤ _
          omega
        · rw [etk, kS_snoc, Nat.add_mul]
          omega
      refine ⟨ra, _, rfl, .inl (.inl hra4), rfl, _, _, rfl, ?_⟩
      refine ⟨_, _, rfl, rfl, ?_⟩
      refine ⟨_, rfl, rfl, _, rfl, ?_⟩
      rcases rowOk_cases (t7 r rm) with e | ⟨b', e⟩ | ⟨b', e⟩
      · -- a text
        rw [e, show decide (V.str "text" = V.str "text") = true from decide_eq_true rfl]
        refine iteT ?_
        refine ⟨_, rfl, .inl ⟨rfl, _, SqL.of hD4⟩, _, rfl, m, lc, lg, n', rfl, M4, by omega, fun H5 z hz M5 d5 => ?_⟩
        obtain ⟨w1, w2, w3⟩ := fin H5 (.str z) (.tx z) (n' + 1) d5 M5 rfl hz True.intro (Nat.zero_le _) (Nat.zero_le _) (Nat.zero_le _) (by omega) (by omega)
        obtain ⟨acc', ts', n'', y⟩ := w3
        exact ⟨D, _, _, rfl, rfl, w1, w2, some (.str r.1), some (.str "text"), v7, acc', ts', n'', rfl, y⟩
      · -- a node
        obtain ⟨f1, f2, f3, _⟩ := sort_facts b'
        rw [e, f1]
        refine iteF ?_
        refine ⟨_, rfl, rfl, _, _, rfl, rfl, _, rfl, ?_⟩
        rw [f2]
        refine iteF ?_
        have d0 : d ≠ 0 := fun z => by
          have := nonode (decide_eq_true z) r rm
          cases b'
          · exact this.2 e
          · exact this.1 e
        obtain ⟨d', rfl⟩ : ∃ d', d = d' + 1 := ⟨d - 1, by omega⟩
        have ed : ((d' + 1 : Nat) : Int) - 1 = (d' : Int) := by omega
        have k1 : kOf r.2 = 1 := by rw [e]; exact f3
        rw [k1] at fin kT
        refine ⟨_, rfl, .inl ⟨rfl, _, SqL.of hD4⟩, _, rfl, _, rfl, _, rfl, _, _, rfl, rfl, m, lc, lg, n', b', congrArg (fun z => [V.ref m, V.str (sortS b'), V.int z]) ed, M4, ?_, fun H5 z t n5 d5 M5 m1 m2 hz tk => ?_⟩
        · have : pT (d' + 1) = tD d' := rfl
          omega
        obtain ⟨w1, w2, w3⟩ := fin H5 z t n5 d5 M5 (PlAt.mono (fun c hc => ⟨d4.free M4 hc, fun e => by rw [e] at hc; have hc : H4 D = none := hc; rw [hD4] at hc; cases hc⟩) t hz) tk.g tk.w (by have := tk.s; show _ ≤ 1 * sB d'; omega) tk.l (by have := tk.h; omega) m1 (by have : pT (d' + 1) = tD d' := rfl; omega)
        obtain ⟨acc', ts', n'', y⟩ := w3
        exact ⟨D, _, _, rfl, rfl, w1, w2, some (.str r.1), some (.str (sortS b')), v7, acc', ts', n'', rfl, y⟩
      · -- a row
        obtain ⟨_, _, _, f4, f5, f6, f7, f8⟩ := sort_facts b'
        rw [e, f4]
        refine iteF ?_
        refine ⟨_, rfl, rfl, _, _, rfl, rfl, _, rfl, ?_⟩
        rw [f5]
        refine iteT ?_
        have k3 : kOf r.2 = 3 := by rw [e]; exact f6
        rw [k3] at fin kT
        refine ⟨_, rfl, _, _, rfl, rfl, _, rfl, ?_⟩
        refine ife (fun v H' => ∃ (r : Nat) (n5 : Int), v = .int (r : Int) ∧ r ≤ 3 ∧ (d = 0 → r = 0) ∧ DD m lg H4 H' ∧ MA m lc lg n5 H' ∧ n' ≤ n5 ∧ n5 ≤ n' + 1) (fun hb Q' kk => ?_) (fun hb Q' kk => ?_) ?_
        · have hd0 : d ≠ 0 := fun z => by
            have := of_decide_eq_true hb
            omega
          refine ⟨_, rfl, m, lc, lg, n', 4, rfl, M4, by omega, by decide, by decide, fun H5 dd d0 dl M5 d5 => ?_⟩
          obtain ⟨rr, rfl⟩ : ∃ r : Nat, dd = (r : Int) := ⟨dd.toNat, by omega⟩
          exact kk _ _ ⟨rr, n' + 1, rfl, by omega, fun z => absurd z hd0, d5, M5, by omega, by omega⟩
        · exact kk _ _ ⟨0, n', rfl, by omega, fun _ => rfl, DD.refl _, M4, by omega, by omega⟩
        rintro cv H5 ⟨rr, n5, rfl, r3, r0, d5, M5, m1, m2⟩
        have hD5 := d5 _ _ nDm nDg hD4
        refine ⟨_, rfl, .inl ⟨rfl, _, SqL.of hD5⟩, _, rfl, (rr : Nat), rfl, by omega, by omega, fun D2 hD2 => lc_range (lo := 0) (n := rr) (fun j H' => ∃ (acc2 : List V) (ts2 : List Tr) (n6 : Int), H' D2 = some (.lst acc2) ∧ PlsAt (But (But (New H) D) D2) H' acc2 ts2 ∧ ts2.length = j ∧ (∀ t ∈ ts2, TreeOk (d - 1) t) ∧ DD m lg H5 H' ∧ MA m lc lg n6 H' ∧ n5 ≤ n6 ∧ n6 ≤ n5 + ((j * pT d : Nat) : Int))
          ⟨[], [], n5, upd_same, True.intro, rfl, (fun t h => nomatch h), DD.same (same_upd (Same.refl H5) hD2), M5.same (same_upd (Same.refl H5) hD2), by omega, by omega⟩ ?_ ?_⟩
        · rintro j H6 hj ⟨acc2, ts2, n6, e6, p6, tl2, ok2, d6, M6, o1, o2⟩
          have hd0 : d ≠ 0 := fun z => by have := r0 z; omega
          obtain ⟨d', rfl⟩ : ∃ d', d = d' + 1 := ⟨d - 1, by omega⟩
          have ed : ((d' + 1 : Nat) : Int) - 1 = (d' : Int) := by omega
          have jb : j * pT (d' + 1) ≤ 2 * pT (d' + 1) := Nat.mul_le_mul_right _ (by omega)
          have js : (j + 1) * pT (d' + 1) = j * pT (d' + 1) + pT (d' + 1) := Nat.succ_mul _ _
          have pe : pT (d' + 1) = tD d' := rfl
          obtain ⟨nD2m, nD2g⟩ := M5.nm hD2
          refine ⟨rfl, ?_⟩
          dsimp only [tYes]
          rw [if_pos rfl]
          refine ⟨_, rfl, _, rfl, _, rfl, _, rfl, sortS b' ++ "*", rfl, Nat.le_trans f8 (by omega), _, rfl, _, _, rfl, rfl, m, lc, lg, n6, b', (by rw [f7]; exact congrArg (fun z => [V.ref m, V.str (sortS b'), V.int z]) ed), M6, by omega, fun H7 z t n7 d7 M7 g1 g2 hz tk => ?_⟩
          have e7 := d7 _ _ nD2m nD2g e6
          have al2 : acc2.length = ts2.length := pls_len p6
          have kN2 : KpN (But (But (New H) D) D2) H6 H7 := fun c o nc q _ => let y := M.nm nc.1.1; d7 c o y.1 y.2 q
          have nN2 : ¬ (But (But (New H) D) D2) D2 := fun q => q.2 rfl
          refine ⟨acc2, e7, by omega, acc2 ++ [z], ts2 ++ [t], n7, upd_same, ?_, by rw [List.length_append, tl2]; rfl, fun u hu => (List.mem_append.mp hu).elim (ok2 u) (fun y => by rw [List.mem_singleton.mp y]; exact tk), ?_, M7.upd nD2m (M5.nlc hD2) nD2g, by omega, by rw [js]; omega⟩
          · have hz' : PlsAt (But (But (New H) D) D2) (upd H7 D2 (.lst (acc2 ++ [z]))) [z] [t] := by
              refine ⟨PlAt.kp (kpN_upd nN2) _ (PlAt.mono (fun c hc => ?_) t hz), True.intro⟩
              have hc : H6 c = none := hc
              have c5 := d6.free M6 hc
              have c4 := d5.free M5 c5
              exact ⟨⟨d4.free M4 c4, fun e => by rw [e, hD4] at c4; cases c4⟩, fun e => by rw [e, e6] at hc; cases hc⟩
            exact pls_app (PlsAt.kp (kpN_upd nN2) _ (PlsAt.kp kN2 _ p6)) hz'
          · intro c o b1 b2 q
            rw [upd_ne (ne_of_none q hD2)]
            exact d7 c o b1 b2 (d6 c o b1 b2 q)
        · rintro H6 ⟨acc2, ts2, n6, e6, p6, tl2, ok2, d6, M6, o1, o2⟩
          have c4 := d5.free M5 hD2
          have nD2D : D2 ≠ D := fun e => by rw [e, hD4] at c4; cases c4
          have rk : rr * pT d ≤ 3 * pT d := Nat.mul_le_mul_right _ r3
          have sz : sizes ts2 ≤ 3 * pS d ∧ levelss ts2 ≤ d ∧ hts ts2 ≤ 2 * d := by
            by_cases hd0 : d = 0
            · have : rr = 0 := r0 hd0
              have : ts2 = [] := List.eq_nil_of_length_eq_zero (by omega)
              rw [this]
              exact ⟨Nat.zero_le _, Nat.zero_le _, Nat.zero_le _⟩
            · obtain ⟨d', rfl⟩ : ∃ d', d = d' + 1 := ⟨d - 1, by omega⟩
              have a1 := sizes_le (w := sB d') fun t m => (ok2 t m).s
              have a2 := levelss_le (w := d' + 1) fun t m => (ok2 t m).l
              have a3 := hts_le (w := 2 * (d' + 1)) fun t m => (ok2 t m).h
              have a4 : ts2.length * sB d' ≤ 3 * sB d' := Nat.mul_le_mul_right _ (by omega)
              have pe : pS (d' + 1) = sB d' := rfl
              exact ⟨by omega, a2, a3⟩
          obtain ⟨w1, w2, w3⟩ := fin H6 (.ref D2) (.row ts2) n6 (d5.trans d6) M6 ⟨D2, acc2, rfl, e6, ⟨d4.free M4 c4, nD2D⟩, PlsAt.mono (fun c z => z.1) _ p6⟩
            ⟨by omega, gens_of fun t m => (ok2 t m).g, fun t m => (ok2 t m).i⟩ (wfs_of fun t m => (ok2 t m).w) sz.1 sz.2.1 (by show hts ts2 + 1 ≤ 2 * d + 1; omega) (by omega) (by omega)
          obtain ⟨acc', ts', n'', y⟩ := w3
          exact ⟨D, _, _, rfl, rfl, w1, w2, some (.str r.1), some (.str (sortS b' ++ "*")), some (.int (rr : Int)), acc', ts', n'', rfl, y⟩
    · rintro σ H4 ⟨v5, v6, v7, acc, ts, n', rfl, dd4, d4, M4, hD4, pacc, tl, gts, wts, q1, q2, q3, l1, l2⟩
      have e3 : rows.take vs.length = rows := by rw [vl]; exact List.take_length
      rw [e3] at q1 l2
      have al : acc.length = ts.length := pls_len pacc
      refine ⟨_, rfl, D, _, rfl, .inl ⟨SqL.of hD4, fun q hq => ?_⟩⟩
      have s5 : Same H4 (upd H4 q (.tup (.str fz :: acc))) := same_upd (Same.refl H4) hq
      have kT : kS rows * pT d ≤ 5 * pT d := Nat.mul_le_mul_right _ t6
      have kp : kS rows * pS d ≤ 5 * pS d := Nat.mul_le_mul_right _ t6
      refine k _ _ (.nd false fz ts) n' (d4.trans (DD.same s5)) (M4.same s5) (by omega) (by omega) ⟨q, acc, rfl, upd_same, d4.free M4 hq, PlsAt.mono (fun c z => z.1) _ (PlsAt.kp (KpN.same s5) _ pacc)⟩ ⟨⟨rfl, t2, t3, by omega, gts⟩, rfl, ⟨t1, by omega, by omega, wts⟩, ?_, ?_, ?_⟩
      · simp only [size]; omega
      · simp only [levels]; omega
      · simp only [ht]; omega
end
end K3

namespace K3
open PySem L2 E0
open LamX (ExtN Tabs TabS TabB)
section
variable {P : Program} {w : World} {K : PySem.W.Frag} {mg : Str → Option Value} {base : Heap}
def spDoubled : Sp := fun vs H Q _ => ∃ k : Nat, k < 2 ∧ vs = [.int (k : Int)] ∧ ∀ H' p xs, Same H H' → H p = none → H' p = some (if k = 0 then .tup xs else .lst xs) → (k = 0 → ∃ q ys, xs = [.ref q, .ref q] ∧ H' q = some (.tup ys)) → Q (.ref p) H'
theorem scDoubled : FnScope ["_law_kind_of", "_law_found", "_law_n"] ["_law_kind_of"] (defScope sDoubled) := ⟨rfl, rfl, rfl, by decide +kernel, rfl, by decide +kernel, by decide +kernel⟩
theorem ok_doubled {f : Addr} {fd : FuncData} (F : Fun K "_law_doubled" "_law_doubled" sDoubled f fd) (gR : mg "range" = none) : FnOk P w K mg base CX0 1 f fd ["_law_kind_of"] spDoubled := by
  refine F.ok scDoubled (fun vs H Q E h => ?_) (fun cdv A outer s H vs Q E hr h => ?_)
  · obtain ⟨k, _, rfl, _⟩ := h
    rfl
  · obtain ⟨k, hk, rfl, q⟩ := h
    refine ⟨_, pss_cons (ps_set (i := 1) scDoubled.nd rfl (Or.inl rfl) (pe_tup pa_nil))
      (pss_cons (ps_for PassesOwn.never rfl (pi_range1 rfl gR (pa_cons pe_int pa_nil)) (pg_name (i := 2) scDoubled.nd rfl (Or.inl rfl))
        (pss_one (ps_set (i := 1) scDoubled.nd rfl (Or.inl rfl) (pe_ix ix_list (pe_lst (pa_cons (pe_tup (pa_cons (pv 1) (pa_cons (pv 1) pa_nil))) (pa_cons (pe_lst (pa_cons (pv 1) (pa_cons (pv 1) pa_nil))) pa_nil))) (pv 0) (fun _ _ => rfl)))))
      (pss_one (ps_ret (pv 1)))), ?_⟩
    refine ⟨by decide, fun p0 hp0 => ?_⟩
    refine ⟨40, rfl, by decide, by decide, for_range (n := 40) (fun i σ H' => ∃ (v2 : Option V) (p : Addr), σ = [some (.int (k : Int)), some (.ref p), v2] ∧ Same H H' ∧ H p = none ∧ (k = 0 → ∃ ys, H' p = some (.tup ys)) ∧ (0 < i → ∃ xs, H' p = some (if k = 0 then .tup xs else .lst xs) ∧ (k = 0 → ∃ q ys, xs = [.ref q, .ref q] ∧ H' q = some (.tup ys))))
      ⟨_, p0, rfl, same_upd (Same.refl H) hp0, hp0, fun _ => ⟨_, upd_same⟩, fun h => by omega⟩ ?_ ?_⟩
    · rintro i σ H1 hi ⟨v2, p, rfl, s1, hp, h0, hx⟩
      refine ⟨_, rfl, _, rfl, (by show 2 ≤ sizeLine; decide), fun t ht => ?_⟩
      refine ⟨_, rfl, _, rfl, (by show 2 ≤ sizeLine; decide), fun l hl => ?_⟩
      refine ⟨by show 2 ≤ sizeLine; decide, fun r hr' => ?_⟩
      generalize eH4 : upd (upd (upd H1 t (.tup [.ref p, .ref p])) l (.lst [.ref p, .ref p])) r (.lst [.ref t, .ref l]) = H4
      have a1 : (upd H1 t (.tup [.ref p, .ref p])) t = some (.tup [.ref p, .ref p]) := upd_same
      have a2 : (upd (upd H1 t (.tup [.ref p, .ref p])) l (.lst [.ref p, .ref p])) t = some (.tup [.ref p, .ref p]) := by rw [upd_ne (ne_of_none a1 hl)]; exact a1
      have a3 : H4 t = some (.tup [.ref p, .ref p]) := by rw [← eH4, upd_ne (ne_of_none a2 hr')]; exact a2
      have b2 : (upd (upd H1 t (.tup [.ref p, .ref p])) l (.lst [.ref p, .ref p])) l = some (.lst [.ref p, .ref p]) := upd_same
      have b3 : H4 l = some (.lst [.ref p, .ref p]) := by rw [← eH4, upd_ne (ne_of_none b2 hr')]; exact b2
      have c3 : H4 r = some (.lst [.ref t, .ref l]) := by rw [← eH4, upd_same]
      have s2 : Same H1 (upd H1 t (.tup [.ref p, .ref p])) := same_upd (Same.refl H1) ht
      have s3 : Same H1 (upd (upd H1 t (.tup [.ref p, .ref p])) l (.lst [.ref p, .ref p])) := same_upd s2 (s2.free hl)
      have s4 : Same H1 H4 := by rw [← eH4]; exact same_upd s3 (s3.free hr')
      have nt : H t = none := s1.free ht
      have nl : H l = none := s1.free (s2.free hl)
      match k, hk with
      | 0, _ =>
        refine ⟨_, rfl, r, _, _, .ref t, rfl, rfl, SqL.of c3, atI_nat (j := 0) rfl, ?_⟩
        exact ⟨_, t, rfl, s1.trans s4, nt, fun _ => ⟨_, a3⟩, fun _ => ⟨_, a3, fun _ => let ⟨ys, hy⟩ := h0 rfl; ⟨p, ys, rfl, s4 _ _ hy⟩⟩⟩
      | 1, _ =>
        refine ⟨_, rfl, r, _, _, .ref l, rfl, rfl, SqL.of c3, atI_nat (j := 1) rfl, ?_⟩
        exact ⟨_, l, rfl, s1.trans s4, nl, fun z => (nomatch z), fun _ => ⟨_, b3, fun z => (nomatch z)⟩⟩
    · rintro σ H1 ⟨v2, p, rfl, s1, hp, _, hx⟩
      obtain ⟨xs, e, e2⟩ := hx (by decide)
      exact ⟨_, rfl, q _ p xs s1 hp e e2⟩
end

end K3

namespace K3
open PySem L2 E0
open LamX (ExtN Tabs TabS TabB LamS lamS_by lamSB)
/-! ### _law_tree at every depth -/
section
variable {P : Program} {w : World} {K : PySem.W.Frag} {mg : Str → Option Value} {base : Heap}
theorem tree_all {C : Cl5} {f fD fW fF fT : Addr} {fd fdD fdW fdF fdT : FuncData} (F : Fun K "_law_tree" "_law_tree" sTree f fd) (T : TxtT mg C) (gR : mg "range" = none) (GD : FnOk P w K mg base CX0 2 fD fdD ["_law_m", "_law_top"] spDraw) (AD : DefA K mg "_law_draw" ["_law_m", "_law_top"] fD fdD)
    (GW : FnOk P w K mg base CX0 3 fW fdW ["_law_m"] spWord) (AW : DefA K mg "_law_word" ["_law_m"] fW fdW) (GF : FnOk P w K mg base CX0 3 fF fdF ["_law_m", "_law_take", "_law_deep"] spForm) (AF : DefA K mg "_law_form" ["_law_m", "_law_take", "_law_deep"] fF fdF)
    (GT : FnOk P w K mg base CX0 1 fT fdT [] spTable) (AT : DefA K mg "_law_table" [] fT fdT) (AR : DefA K mg "_law_tree" ["_law_m", "_law_take", "_law_deep"] f fd) :
    ∀ d, FnOk P w K mg base CX0 (d + 4) f fd ["_law_m", "_law_take", "_law_deep"] (spTree d)
  | 0 => ok_tree (k := 3) (by decide) F T gR GD AD GW AW GF AF GT AT (fn_vac fun vs H Q E h => h) AR
  | d + 1 => ok_tree (k := d + 4) (by omega) F T gR GD AD GW AW GF AF GT AT (tree_all F T gR GD AD GW AW GF AF GT AT AR d) AR
theorem fn_ex {I : Type} [Inhabited I] {P : Program} {w : World} {K : PySem.W.Frag} {mg : Str → Option Value} {base : Heap} {CX : CXT} {k : Nat} {f : Addr} {fd : FuncData} {ps : List Str} {sp : I → Sp} (F : ∀ i, FnOk P w K mg base CX k f fd ps (sp i)) :
    FnOk P w K mg base CX k f fd ps (fun vs H Q E => ∃ i, sp i vs H Q E) :=
  ⟨fun vs H Q E ⟨i, h⟩ => (F i).len vs H Q E h, fun A outer s H args us vs Q E hr e0 hb r ⟨i, h⟩ => (F i).run A outer s H args us vs Q E hr e0 hb r h⟩
def spTreeR : Sp := fun vs H Q E => ∃ j : Fin 4, spTree j.val vs H Q E
end
/-! ### what _law_fault makes of a call -/
def TFault (CI CP : Addr) : (XK → Hp → VK → Prop) → Hp → VK → Prop := fun tl H Q => ∀ (H0 : Hp) (E' : XK) (Q' : VK), Same H H0 →
  (∀ (dd : Addr) (v : V) (H' : Hp), H' dd = some (.xd [("part", v)]) → (∀ H'' p, Same H' H'' → H' p = none → H'' p = some (.tup [.str "tree", v]) → Q (.ref p) H'') → E' (.ref CI) (some dd) H') →
  (∀ (dd : Addr) (v : V) (H' : Hp), H' dd = some (.xd [("value", v)]) → (∀ H'' p, Same H' H'' → H' p = none → H'' p = some (.tup [.str "path", v]) → Q (.ref p) H'') → E' (.ref CP) (some dd) H') →
  (∀ v H', (∀ H'' p, Same H' H'' → H' p = none → H'' p = some (.lst [v]) → Q (.ref p) H'') → Q' v H') → tl E' H0 Q'
def NFA : List Str := ["_law_call", "_law_error", "_law_found", "e"]
theorem scFault : FnScope NFA ["_law_call"] (defScope sFault) := ⟨rfl, rfl, rfl, by decide +kernel, rfl, by decide +kernel, by decide +kernel⟩
structure TxtA (K : PySem.W.Frag) (mg : Str → Option Value) (CI CP CS fA : Addr) (fdA : FuncData) : Prop where
  F : Fun K "_law_fault" "_law_fault" sFault fA fdA
  b : Binds K fdA ["_law_call"] []
  g : mg "_law_fault" = some (.ref fA)
  gS : mg "RuleengineError" = some (.ref CS)
  gI : mg "InvalidTree" = some (.ref CI)
  gP : mg "InvalidPath" = some (.ref CP)
  isi : mg "isinstance" = none
  LI : ExcL K CI
  LP : ExcL K CP
  nfI : PySem.W.findIn K (.ref CI) "part" = some none
  nfP : PySem.W.findIn K (.ref CP) "value" = some none
  hxI : PySem.W.exmOne K (.ref CI) (.ref CS) = some true
  hxP : PySem.W.exmOne K (.ref CP) (.ref CS) = some true
  kII : PySem.W.kitOne K (.ref CI) (.ref CI) = some true
  kIP : PySem.W.kitOne K (.ref CI) (.ref CP) = some false
  kPP : PySem.W.kitOne K (.ref CP) (.ref CP) = some true
theorem fault_gives {X : Cx} {g CS CI CP fA : Addr} {fdA : FuncData} {cdg : Value} {q : Str} (AA : TxtA X.K X.mg CI CP CS fA fdA) :
    LamX.GivesTo X NFA "_law_fault" (defScope sFault) g cdg (defBody sFault) "_law_call" q (TFault CI CP) := by
  intro f c' s H Q tl act hc h
  refine ⟨_, pss_cons (ps_asg (pe_tup (pa_cons pe_non (pa_cons pe_non pa_nil))) (pg_tup (by rfl) (pgs_cons (pg_name (i := 1) scFault.nd rfl (.inl rfl)) (pgs_cons (pg_name (i := 2) scFault.nd rfl (.inl rfl)) pgs_nil))))
    (pss_cons (ps_try_keep (i := 3) (j := 1) (c := .ref CS) (tb := fun W D σ H => ∃ Ech : XK, (∀ cls d σ' H', Ech cls d H' → W cls d σ' H') ∧ σ[0]? = some (some (.ref f)) ∧ H c' = some (LamX.CodeO c' q) ∧ tl Ech H (fun v H' => D.nx (σ.set 2 (some v)) H'))
        rfl rfl rfl scFault.nd rfl rfl rfl rfl (by decide) (Or.inr rfl) ⟨rfl, by decide, .inl AA.gS⟩ (fun W pn xe tk _ => ?_) (by decide) (by decide) rfl)
    (pss_cons (ps_if (pt_cmpR op_isN (pv 1) pe_non (nomark _)) (pss_one (ps_ret (pe_lst (pa_cons (pv 2) pa_nil)))) pss_nil)
    (pss_cons (ps_if (pt_val (pe_callB call_isK (by rfl) AA.isi PyProof.Rows.boot_isinstance (pa_cons (pv 1) (pa_cons (pe_glob (v := .ref CP) rfl AA.gP rfl) pa_nil)))) (pss_one (ps_ret (pe_tup (pa_cons pe_str (pa_cons (pe_exk (pv 1)) pa_nil))))) pss_nil)
    (pss_one (ps_ret (pe_ifExp (pt_val (pe_callB call_isK (by rfl) AA.isi PyProof.Rows.boot_isinstance (pa_cons (pv 1) (pa_cons (pe_glob (v := .ref CI) rfl AA.gI rfl) pa_nil)))) (pe_tup (pa_cons pe_str (pa_cons (pe_exk (pv 1)) pa_nil))) (pe_tup (pa_cons pe_str (pa_cons pe_non pa_nil))))))))), ?_⟩
  · refine ⟨fun pins s' σ H' D I h' => ?_⟩
    obtain ⟨Ech, hW, h1, h2, h3⟩ := h'
    exact (pss_one (ps_set (i := 2) scFault.nd rfl (.inl rfl) (act W pn xe Ech _ _ tk hW))).run pins s' σ H' D I ⟨h1, h2, h3⟩
  · refine ⟨by decide, fun t0 nt0 => ?_⟩
    have s0 : Same H (upd H t0 (.tup [.non, .non])) := same_upd (Same.refl H) nt0
    have v0 : (upd H t0 (.tup [.non, .non])) t0 = some (.tup [.non, .non]) := upd_same
    generalize upd H t0 (.tup [.non, .non]) = H0 at s0 v0 ⊢
    refine ⟨t0, _, rfl, .inl (.inl v0), rfl, _, _, rfl, ?_⟩
    refine ⟨_, _, rfl, rfl, ?_⟩
    refine ⟨fun cls d H' => (cls = .ref CI ∧ ∃ (dd : Addr) (v : V), d = some dd ∧ H' dd = some (.xd [("part", v)]) ∧ ∀ H'' p, Same H' H'' → H' p = none → H'' p = some (.tup [.str "tree", v]) → Q (.ref p) H'') ∨ (cls = .ref CP ∧ ∃ (dd : Addr) (v : V), d = some dd ∧ H' dd = some (.xd [("value", v)]) ∧ ∀ H'' p, Same H' H'' → H' p = none → H'' p = some (.tup [.str "path", v]) → Q (.ref p) H''), ?_, rfl, s0 _ _ hc, ?_⟩
    · rintro cls d σ' H' (⟨rfl, dd, v, rfl, hd, k⟩ | ⟨rfl, dd, v, rfl, hd, k⟩)
      · refine ⟨AA.hxI, fun a na hlen => ?_⟩
        have hlen : σ'.length = 4 := hlen
        obtain ⟨s0, s1, s2, s3, rfl⟩ : ∃ s0 s1 s2 s3, σ' = [s0, s1, s2, s3] := by
          match σ', hlen with
          | [s0, s1, s2, s3], _ => exact ⟨s0, s1, s2, s3, rfl⟩
        have nda : dd ≠ a := ne_of_none hd na
        have hd' : (upd H' a (ExK (.ref CI) (some dd) a)) dd = some (.xd [("part", v)]) := by rw [upd_ne nda]; exact hd
        refine ⟨_, rfl, rfl, _, rfl, ?_⟩
        refine iteF ?_
        refine ⟨_, rfl, a, CI, CP, dd, _, false, rfl, upd_same, hd', AA.LI, AA.kIP, _, rfl, ?_⟩
        refine iteF ?_
        refine ⟨_, rfl, a, CI, CI, dd, _, true, rfl, upd_same, hd', AA.LI, AA.kII, _, rfl, ?_⟩
        refine iteT ?_
        refine ⟨_, rfl, a, CI, dd, _, v, rfl, upd_same, hd', AA.LI, AA.nfI, by simp [List.lookup], (by show 2 ≤ sizeLine; decide), fun p hp => ?_⟩
        have npa : p ≠ a := fun e => by
          rw [e, upd_same] at hp
          cases hp
        refine k _ p (same_upd (same_upd (Same.refl H') na) ?_) ?_ upd_same
        · rw [upd_ne npa] at hp
          exact hp
        · rw [upd_ne npa] at hp
          exact hp
      · refine ⟨AA.hxP, fun a na hlen => ?_⟩
        have hlen : σ'.length = 4 := hlen
        obtain ⟨s0, s1, s2, s3, rfl⟩ : ∃ s0 s1 s2 s3, σ' = [s0, s1, s2, s3] := by
          match σ', hlen with
          | [s0, s1, s2, s3], _ => exact ⟨s0, s1, s2, s3, rfl⟩
        have nda : dd ≠ a := ne_of_none hd na
        have hd' : (upd H' a (ExK (.ref CP) (some dd) a)) dd = some (.xd [("value", v)]) := by rw [upd_ne nda]; exact hd
        refine ⟨_, rfl, rfl, _, rfl, ?_⟩
        refine iteF ?_
        refine ⟨_, rfl, a, CP, CP, dd, _, true, rfl, upd_same, hd', AA.LP, AA.kPP, _, rfl, ?_⟩
        refine iteT ?_
        refine ⟨_, rfl, a, CP, dd, _, v, rfl, upd_same, hd', AA.LP, AA.nfP, by simp [List.lookup], (by show 2 ≤ sizeLine; decide), fun p hp => ?_⟩
        have npa : p ≠ a := fun e => by
          rw [e, upd_same] at hp
          cases hp
        refine k _ p (same_upd (same_upd (Same.refl H') na) ?_) ?_ upd_same
        · rw [upd_ne npa] at hp
          exact hp
        · rw [upd_ne npa] at hp
          exact hp
    · refine h H0 _ _ s0 (fun dd v H' hd k => .inl ⟨rfl, dd, v, rfl, hd, k⟩) (fun dd v H' hd k => .inr ⟨rfl, dd, v, rfl, hd, k⟩) (fun v H' k => ?_)
      refine ⟨_, rfl, rfl, _, rfl, ?_⟩
      refine iteT ?_
      exact ⟨_, rfl, by show 1 ≤ sizeLine; decide, fun p hp => k _ p (same_upd (Same.refl H') hp) hp upd_same⟩
theorem pe_fault {X : Cx} {T : List (Addr × Str)} {CI CP CS fA c Pt : Addr} {fdA : FuncData} {k : Nat} {params : Arguments} {body : Expr} {scope : Scope} {t : XK → TE} {p lpos pos : Pos} (A : TxtA X.K X.mg CI CP CS fA fdA) (hg : Gl X "_law_fault")
    (TB : TabB X.base X.mg c Pt) (hcode : X.env.code = .ref c) (hmT : (Pt, X.env.qual ++ "<lambda>") ∈ T) (hu : ∀ p ∈ T, p.1 = Pt → p.2 = X.env.qual ++ "<lambda>") (hr : Room (k + 2) X.A) (L : LamS X.env.scope scope) (hdef : defaultsOf params X.env = ([], []))
    (hbind : ∀ (q : Str) (cl : List (Str × Addr)) (pm cv ctv : Value), bindArgs (PySem.W.kla_fn "<lambda>" q params body scope cl pm cv ctv) ⟨[], []⟩ = pure [])
    (hbody : ∀ (A : Around) (outer : List Env) (s : Shared) (H : Hp) (E : XK) (f c' : Addr), Room k (A.deeper (LamX.lamEnv X scope s.heap.objs.size f c')) → PE (LamX.lamCx X A outer s H E scope f c') body (t E)) :
    PE X (.Call (.Name "_law_fault" p) [.Lambda params body scope lpos] [] pos) (LamX.tLam T (TFault CI CP) t) := by
  obtain ⟨oc, od, kV, doc, pm, an, cdv, ct, osl, e, lk, hcd⟩ := A.F.ex
  subst e
  exact LamX.pe_lamcall (a := "_law_call") (Ng := NFA) hg A.g A.F.kp lk hcd A.b scFault rfl (Or.inl rfl) (fault_gives A) TB hcode hmT hu hr L hdef hbind hbody
end K3

namespace K3
open PySem PySem.Spec PyProof.Rows L2
open LamX (ExtN Tabs TabS TabB CodeO lamEnv lamCx codeO_ne)
open PySem.W (CodeHd tabObj)
/-! ### a lambda with one default that is a whole number, and with captured names -/
abbrev dfFn (q : Str) (params : Arguments) (body : Expr) (scope : Scope) (cl : List (Str × Addr)) (dV pm cdv ct : Value) : FuncData := { PySem.W.kla_fn "<lambda>" q params body scope cl pm cdv ct with defaults := dV }
abbrev dfObj (q : Str) (params : Arguments) (body : Expr) (scope : Scope) (cl : List (Str × Addr)) (dV pm cdv ct : Value) : Obj := { cls := .type "function", data := .func (dfFn q params body scope cl dV pm cdv ct) }
section
variable {M : Model} {A : Around} {E : Value → Shared → Prop} {s : Shared} {q : Str} {params : Arguments} {body : Expr} {scope : Scope} {env : Env} {c P : Addr} {ps : Array Value} {pos : Pos} {ln : Nat} {mg : Str → Option Value} {dV : Value} {Q : Value → Shared → Prop} {cl : List (Str × Addr)}
theorem tail_new (hcl : closureFor scope env = pure cl) (hge : env.globals = mainGlobals) (hg : s.heap.Ns mainGlobals mg) (hcode : env.code = .ref c) (C : CodeHd s.heap c P) (hP : s.heap.get? P = some (tabObj ps)) (ht : TriplesOk ps.toList) (hnf : codeAmong pos ps.toList = none) (hgP : mainGlobals ≠ P)
    (hb : s.heap.BuiltinsAt mg P)
    (h : ∀ c' ctv h' tk, Heap.ExtBut P s.heap h' → s.heap.objs.size ≤ c' → c' < h'.objs.size → h'.CodeRec (.ref c') q → h'.get? P = some (tabObj (ps ++ #[rawInt pos.line, rawInt pos.col, .ref c'])) →
      Q (.ref h'.objs.size) { s with heap := h'.push (dfObj q params body scope cl dV ((mg "__name__").getD .none) (.ref c') ctv), toks := tk }) :
    wpAny M A (makeTail "<lambda>" q params (.expr body) scope env dV .none none pos ln) Q E s := by
  obtain ⟨bm, ob, b1, b2, _, b3, b4, b5, b6, b7⟩ := hb
  unfold makeTail
  rw [hcl, hge]
  refine wpAny_bind (wpAny_pure ?_)
  cases cl with
  | nil =>
    simp only [List.isEmpty_nil, if_true]
    refine wpAny_bind (wpAny_pure ?_)
    refine wpAny_bind (wpAny_functionCodeX hcode (C.code hP ht) (C.tab hP) hnf fun c' h' tk hx h1 h2 _ hrec htb _ => ?_)
    have hg' := hg.extBut hx hgP
    refine wpAny_bind (wpAny_builtinsFor hg' b1 b2 (hx _ _ b3 b4) b5 b6 b7 ?_)
    refine wpAny_bind (wpAny_nsGet hg' ?_)
    exact wpAny_bind (wpAny_pure (wpAny_newObj_type (h c' .none h' tk hx h1 h2 hrec htb.2) (by size_fits)))
  | cons q r =>
    simp only [List.isEmpty_cons, Bool.false_eq_true, if_false]
    refine wpAny_bind (wpAny_newTextTuple ?_)
    refine wpAny_bind (wpAny_functionCodeX hcode ((C.keeps fun b o e => Heap.get?_push_of_some _ e).code (Heap.get?_push_of_some _ hP) ht) ((C.keeps fun b o e => Heap.get?_push_of_some _ e).tab (Heap.get?_push_of_some _ hP)) hnf fun c' h' tk hx hge hlt _ hrec htb _ => ?_)
    have hg' := (hg.push _).extBut hx hgP
    have hx' : Heap.ExtBut P s.heap h' := fun b o hb' e => hx b o hb' (Heap.get?_push_of_some _ e)
    have hge' : s.heap.objs.size ≤ c' := Nat.le_trans (by rw [Heap.size_push]; omega) hge
    refine wpAny_bind (wpAny_builtinsFor hg' b1 b2 (hx' _ _ b3 b4) b5 b6 b7 ?_)
    refine wpAny_bind (wpAny_nsGet hg' ?_)
    exact wpAny_bind (wpAny_pure (wpAny_newObj_type (h c' _ h' tk hx' hge' hlt hrec htb.2) (by size_fits)))
theorem tail_hit {cv : Value} (hcl : closureFor scope env = pure cl) (hge : env.globals = mainGlobals) (hg : s.heap.Ns mainGlobals mg) (hcode : env.code = .ref c) (C : CodeHd s.heap c P) (hP : s.heap.get? P = some (tabObj ps)) (ht : TriplesOk ps.toList) (hf : codeAmong pos ps.toList = some cv)
    (hb : s.heap.BuiltinsAt mg P)
    (h : ∀ (ctv : Value) (h' : Heap) (tk : Tok), (∀ b o, s.heap.get? b = some o → h'.get? b = some o) → s.heap.objs.size ≤ h'.objs.size →
      Q (.ref h'.objs.size) { s with heap := h'.push (dfObj q params body scope cl dV ((mg "__name__").getD .none) cv ctv), toks := tk }) :
    wpAny M A (makeTail "<lambda>" q params (.expr body) scope env dV .none none pos ln) Q E s := by
  obtain ⟨bm, ob, b1, b2, _, b3, b4, b5, b6, b7⟩ := hb
  unfold makeTail
  rw [hcl, hge]
  refine wpAny_bind (wpAny_pure ?_)
  cases cl with
  | nil =>
    simp only [List.isEmpty_nil, if_true]
    refine wpAny_bind (wpAny_pure ?_)
    refine wpAny_bind (wpAny_functionCode_hit hcode (C.code hP ht) hf ?_)
    refine wpAny_bind (wpAny_builtinsFor hg b1 b2 b4 b5 b6 b7 ?_)
    refine wpAny_bind (wpAny_nsGet hg ?_)
    exact wpAny_bind (wpAny_pure (wpAny_newObj_type (h .none s.heap s.toks (fun _ _ e => e) (Nat.le_refl _)) (by size_fits)))
  | cons q r =>
    simp only [List.isEmpty_cons, Bool.false_eq_true, if_false]
    refine wpAny_bind (wpAny_newTextTuple ?_)
    refine wpAny_bind (wpAny_functionCode_hit hcode ((C.keeps fun b o e => Heap.get?_push_of_some _ e).code (Heap.get?_push_of_some _ hP) ht) hf ?_)
    refine wpAny_bind (wpAny_builtinsFor (hg.push _) b1 b2 (Heap.get?_push_of_some _ b4) b5 b6 b7 ?_)
    refine wpAny_bind (wpAny_nsGet (hg.push _) ?_)
    have hsz : ∀ oT : Obj, s.heap.objs.size ≤ (s.heap.push oT).objs.size := fun oT => by rw [Heap.size_push]; omega
    exact wpAny_bind (wpAny_pure (wpAny_newObj_type (h _ _ s.toks (fun b o e => Heap.get?_push_of_some _ e) (hsz _)) (by size_fits)))
end
section
variable {X : Cx} {pins : List (Addr × Obj)} {σ : L2.St} {H : Hp} {s : Shared}
/-- what stands behind the making -/
structure MadeD (X : Cx) (T : List (Addr × Str)) (params : Arguments) (body : Expr) (scope : Scope) (i : Int) (H H1 : Hp) (f c' T0 : Addr) (pm ctv : Value) (t0 : Tok) (s' : Shared) : Prop where
  ext : ExtN H H1
  tabs : Tabs T H1
  at_ : s'.heap.get? f = some (dfObj (X.env.qual ++ "<lambda>") params body scope (cloFrom X.env.cells scope.names []) (.ref T0) pm (.ref c') ctv)
  fn : H1 f = none
  ff : f ∉ frs X.stack
  tup : s'.heap.get? T0 = some { cls := .type "tuple", data := .seq #[Value.int i t0] }
  tn : H1 T0 = none
  tf : T0 ∉ frs X.stack
  co : H1 c' = some (CodeO c' (X.env.qual ++ "<lambda>"))
theorem nofr (I : L2.Inv X pins σ H s) {f : Addr} (hf : s.heap.objs.size ≤ f) : f ∉ frs X.stack := fun z => by
  rcases List.mem_cons.mp (I.stkSub _ z) with e | e
  · have h1 := I.lt
    rw [← e] at h1
    exact Nat.lt_irrefl _ (Nat.lt_of_lt_of_le h1 hf)
  · exact I.nofs hf e
theorem lamD_make {T : List (Addr × Str)} {c P : Addr} {params : Arguments} {body : Expr} {scope : Scope} {pos pd : Pos} {i : Int} {j : Nat} {E : Value → Shared → Prop} {Q : Value → Shared → Prop} (I : L2.Inv X pins σ H s) (TB : TabB X.base X.mg c P) (hcode : X.env.code = .ref c)
    (hm : (P, X.env.qual ++ "<lambda>") ∈ T) (hu : ∀ p ∈ T, p.1 = P → p.2 = X.env.qual ++ "<lambda>") (hT : Tabs T H) (hdef : defaultsOf params X.env = ([eval (.Constant (.int i) j pd) X.env], [])) (hko : params.kwonlyargs = []) (hfree : ∀ y ∈ scope.names, y.2 = .free → ∃ c, X.env.cells.lookup y.1 = some c)
    (hE : E = X.xe)
    (h : ∀ (f c' T0 : Addr) (pm ctv : Value) (t0 : Tok) (H1 : Hp) (s' : Shared), L2.Inv X pins σ H1 s' → MadeD X T params body scope i H H1 f c' T0 pm ctv t0 s' → Q (.ref f) s') :
    wpAny (model X.prog X.w) X.A (eval (.Lambda params body scope pos) X.env) Q E s := by
  subst hE
  have hcl := closure_ok hfree
  obtain ⟨ps, hP, ht, ha⟩ := hT _ hm
  rw [arm_eval_Lambda, hdef]
  show wpAny _ X.A (do let dv ← evalAll [eval (.Constant (.int i) j pd) X.env]; let kdv ← holding dv (evalAllOpt []); makeFunction "<lambda>" (X.env.qual ++ "<lambda>") params (.expr body) scope X.env dv kdv [] pos pos.line) Q X.xe s
  refine wpAny_bind (wpAny_evalAll_cons (thn ((pe_int (X := X) (i := i)).run pins s σ H (fun v H1 => v = .int i ∧ H1 = H) I ⟨rfl, rfl⟩) fun u s1 ⟨v, H1, I1, r1, q1⟩ => ?_))
  obtain ⟨ev, eH⟩ := q1
  subst ev
  rw [eH] at I1
  obtain ⟨t0, rfl⟩ : ∃ t, u = Value.int i t := r1
  refine wpAny_evalAll_nil (wpAny_bind (wpAny_holding (wpAny_pure ?_)))
  rw [makeFunction_eq]
  simp only [hko, List.zip_nil_left, List.filterMap_nil, List.isEmpty_nil, List.isEmpty_cons, if_true, Bool.false_eq_true, if_false, pure_bind]
  refine wpAny_bind (wpAny_newTextTuple ?_)
  have kp2 : ∀ b o, s1.heap.get? b = some o → (s1.heap.push ({ cls := .type "tuple", data := .seq #[Value.int i t0] } : Obj)).get? b = some o := fun b o e => Heap.get?_push_of_some _ e
  have I2 : L2.Inv X pins σ H { s1 with heap := s1.heap.push ({ cls := .type "tuple", data := .seq #[Value.int i t0] } : Obj) } := I1.kept (t' := s1.toks) kp2
  have tup2 : (s1.heap.push ({ cls := .type "tuple", data := .seq #[Value.int i t0] } : Obj)).get? s1.heap.objs.size = some { cls := .type "tuple", data := .seq #[Value.int i t0] } := Heap.get?_push_size _ rfl
  have tn2 : H s1.heap.objs.size = none := I1.hok.fresh (Nat.le_refl _)
  have tf2 := nofr I1 (Nat.le_refl _)
  generalize eT : s1.heap.objs.size = T0 at tup2 tn2 tf2
  generalize eh : s1.heap.push ({ cls := .type "tuple", data := .seq #[Value.int i t0] } : Obj) = h2 at I2 tup2
  have goal2 : wpAny (model X.prog X.w) X.A (makeTail "<lambda>" (X.env.qual ++ "<lambda>") params (.expr body) scope X.env (.ref T0) .none none pos pos.line) Q X.xe { s1 with heap := h2 } := by
    have bP : h2.BuiltinsAt X.mg P := TB.bm.keeps I2.bk
    have hP' : h2.get? P = some { cls := .none, data := .fields ps } := I2.hok P _ hP
    have hg := I2.mod.glob.keeps I2.bk
    cases hc : codeAmong pos ps.toList with
    | none =>
      refine tail_new (s := { s1 with heap := h2 }) (mg := X.mg) (c := c) (P := P) (ps := ps) hcl I2.ok.glob hg hcode (TB.code.keeps I2.bk) hP' ht hc TB.gP bP fun c' ctv h' tk hx hge hlt hrec htb => ?_
      obtain ⟨c2, oc, vs, t, e2, hoc, hd, hv⟩ := hrec
      cases e2
      have hsz : h2.objs.size ≤ h'.objs.size := Nat.le_trans hge (Nat.le_of_lt hlt)
      have nC : H c' = none := I2.hok.fresh hge
      have I3 := LamX.inv_table (t' := tk) (more := #[rawInt pos.line, rawInt pos.col, .ref c']) (h' := h'.push (dfObj (X.env.qual ++ "<lambda>") params body scope (cloFrom X.env.cells scope.names []) (.ref T0) ((X.mg "__name__").getD .none) (.ref c') ctv)) I2 hP
        (fun b o hb e => Heap.get?_push_of_some _ (hx b o hb e)) (Heap.get?_push_of_some _ htb) hge ⟨oc, vs, t, Heap.get?_push_of_some _ hoc, hd, hv⟩
      have hE : ExtN H (upd (upd H P (.tbl (ps ++ #[rawInt pos.line, rawInt pos.col, .ref c']))) c' (CodeO c' (X.env.qual ++ "<lambda>"))) := fun b o e n => by
        rw [upd_ne (ne_of_none e nC), upd_ne (fun z => n ps (Option.some.inj (e.symm.trans (by rw [z]; exact hP))))]
        exact e
      have eL : (ps ++ #[rawInt pos.line, rawInt pos.col, .ref c']).toList = ps.toList ++ [rawInt pos.line, rawInt pos.col, .ref c'] := by simp
      have nPc : P ≠ c' := ne_of_none hP nC
      have nTP : T0 ≠ P := fun z => by rw [z, hP] at tn2; cases tn2
      have nTc : T0 ≠ c' := Nat.ne_of_lt (Nat.lt_of_lt_of_le (Heap.lt_size tup2) hge)
      refine h h'.objs.size c' T0 ((X.mg "__name__").getD .none) ctv t0 _ _ I3 ⟨hE, fun p hp => ?_, Heap.get?_push_size _ rfl, ?_, nofr I2 hsz, Heap.get?_push_of_some _ (hx _ _ nTP tup2), ?_, tf2, upd_same⟩
      · by_cases hb : p.1 = P
        · rw [hu p hp hb, hb]
          refine ⟨_, by rw [upd_ne nPc, upd_same], by rw [eL]; exact PySem.TriplesOk_snoc _ _ _ _ ht, fun p' cv hcv => ?_⟩
          rw [eL] at hcv
          rcases LamX.among_app _ ht hcv with z | z
          · obtain ⟨c0, e1, e2⟩ := ha p' cv z
            exact ⟨c0, e1, hE _ _ e2 codeO_ne⟩
          · exact ⟨c', z, upd_same⟩
        · obtain ⟨ps', a1, a2, a3⟩ := hT p hp
          refine ⟨ps', by rw [upd_ne (ne_of_none a1 nC), upd_ne hb]; exact a1, a2, fun p' cv hcv => ?_⟩
          obtain ⟨c0, e1, e2⟩ := a3 p' cv hcv
          exact ⟨c0, e1, hE _ _ e2 codeO_ne⟩
      · have n1 : h'.objs.size ≠ c' := Nat.ne_of_gt hlt
        have n2 : h'.objs.size ≠ P := Nat.ne_of_gt (Nat.lt_of_lt_of_le (Heap.lt_size hP') hsz)
        rw [upd_ne n1, upd_ne n2]
        exact I2.hok.fresh hsz
      · rw [upd_ne nTc, upd_ne nTP]
        exact tn2
    | some cv =>
      obtain ⟨c', e, hco⟩ := ha pos cv hc
      subst e
      refine tail_hit (s := { s1 with heap := h2 }) (mg := X.mg) (c := c) (P := P) (ps := ps) hcl I2.ok.glob hg hcode (TB.code.keeps I2.bk) hP' ht hc bP fun ctv h' tk hx hsz => ?_
      have I3 : L2.Inv X pins σ H { s1 with heap := h'.push (dfObj (X.env.qual ++ "<lambda>") params body scope (cloFrom X.env.cells scope.names []) (.ref T0) ((X.mg "__name__").getD .none) (.ref c') ctv), toks := tk } := I2.kept (t' := tk) fun b o e => Heap.get?_push_of_some _ (hx b o e)
      exact h h'.objs.size c' T0 ((X.mg "__name__").getD .none) ctv t0 H _ I3 ⟨ExtN.refl H, hT, Heap.get?_push_size _ rfl, I2.hok.fresh hsz, nofr I2 hsz, Heap.get?_push_of_some _ (hx _ _ tup2), tn2, tf2, hco⟩
  exact goal2
end
/-- the lambda's names: its parameter, captured names and globals -/
structure LamD (sc : Scope) (N : List Str) (scope : Scope) (y : Str) : Prop where
  kind : scope.kind = .function
  co : scope.isCoroutine = false
  gen : scope.isGenerator = false
  names : ∀ z ∈ scope.names, (z.2 = .local ∧ z.1 ∉ N) ∨ z.2 = .globalImplicit ∨ (z.2 = .free ∧ (sc.names.lookup z.1 = some .cell ∨ sc.names.lookup z.1 = some .free))
  par : scope.names.lookup y = some .local
def lamDB (sc : Scope) (N : List Str) (scope : Scope) (y : Str) : Bool := decide (scope.kind = .function) && !scope.isCoroutine && !scope.isGenerator && (scope.names.all fun z => (decide (z.2 = .local) && !decide (z.1 ∈ N)) || (decide (z.2 = .globalImplicit) || (decide (z.2 = .free) && (decide (sc.names.lookup z.1 = some .cell) || decide (sc.names.lookup z.1 = some .free))))) && decide (scope.names.lookup y = some .local)
theorem lamD_by {sc : Scope} {N : List Str} {scope : Scope} {y : Str} (h : lamDB sc N scope y = true) : LamD sc N scope y := by
  unfold lamDB at h
  simp only [Bool.and_eq_true, Bool.not_eq_true', decide_eq_true_eq] at h
  obtain ⟨⟨⟨⟨h1, h2⟩, h3⟩, h4⟩, h5⟩ := h
  refine ⟨h1, h2, h3, fun z hz => ?_, h5⟩
  have q := List.all_eq_true.mp h4 z hz
  simp only [Bool.or_eq_true, Bool.and_eq_true, Bool.not_eq_true', decide_eq_true_eq, decide_eq_false_iff_not] at q
  exact q
theorem LamD.noCell {sc : Scope} {N : List Str} {scope : Scope} {y : Str} (L : LamD sc N scope y) {z : Str} (h : scope.names.lookup z = some .cell) : False := by
  rcases L.names _ (PySem.mem_of_lookup h) with ⟨q, _⟩ | q | ⟨q, _⟩ <;> cases q
theorem LamD.has {X : Cx} {N : List Str} {scope : Scope} {y : Str} (L : LamD X.env.scope N scope y) (ok : X.Ok) : ∀ y ∈ scope.names, y.2 = .free → ∃ c, X.env.cells.lookup y.1 = some c := fun z hz e => by
  rcases L.names z hz with ⟨q, _⟩ | q | ⟨_, q⟩
  · rw [e] at q; cases q
  · rw [e] at q; cases q
  · exact ok.has _ q
section
variable {X : Cx} {pins : List (Addr × Obj)} {σ : L2.St} {H HZ : Hp} {s s1 : Shared}
theorem lamD_start {A : Around} {outer : List Env} {E : XK} {scope : Scope} {y : Str} {bs : List (Str × Value)} {f c' : Addr} {h₁ : Heap} {tk : Nat} (I : L2.Inv X pins σ H s) (L : LamD X.env.scope X.N scope y) (e0 : Env0 X.prog X.w X.K X.mg X.base A outer s1 HZ) (hd : A.handled = none)
    (un : Un (frs X.stack) [] H HZ s.heap s1.heap) (hns : h₁.Ns s1.heap.objs.size fun z => bs.reverse.lookup z) (kp : ∀ b o, s1.heap.get? b = some o → h₁.get? b = some o) :
    L2.Inv (lamCx X A outer s1 HZ E scope f c') [] σ HZ { s1 with heap := h₁, toks := tk } := by
  have hfree := L.has I.ok
  have cm : ∀ {y c}, (cloFrom X.env.cells scope.names []).lookup y = some c → X.env.cells.lookup y = some c := fun {y c} e => by
    rcases cloFrom_mem (PySem.mem_of_lookup e) with hm | ⟨h1, h2⟩
    · cases hm
    · obtain ⟨c1, hc⟩ := hfree _ h1 rfl
      have hc : X.env.cells.lookup y = some c1 := hc
      have e2 : c = c1 := by
        rw [h2, hc] <;> rfl
      rw [e2]
      exact hc
  have look : ∀ {y}, scope.names.lookup y = some .free → ∃ c, (cloFrom X.env.cells scope.names []).lookup y = some c := fun {y} hl => by
    have hy : (y, NameKind.free) ∈ scope.names := PySem.mem_of_lookup hl
    exact mem_lookup (cloFrom_has (cells := X.env.cells) (acc := []) hy)
  have cellK : ∀ {c : Addr} {v : Option Value}, H c = none → s.heap.IsCell c v → h₁.IsCell c v := fun {c v} n ⟨o, ho, hd⟩ => by
    obtain ⟨sl, q⟩ := un.any ho n (by simp)
    exact ⟨_, kp _ _ q, hd⟩
  have noA : ∀ b : Addr, b ∉ (lamCx X A outer s1 HZ E scope f c').ex := fun b z => absurd (show b ∈ ([] : List Addr) from z) (by simp)
  refine ⟨⟨e0.mod, L.kind, rfl, rfl, Nat.le_refl _, fun y z c e1 e2 => I.ok.inj y z c (cm e1) (cm e2), fun y hy => ?_, fun y c z _ => ?_, fun _ => hd, Around.frames_deeper e0.frames, .inr ⟨rfl, rfl⟩, fun b z => absurd z (noA b), e0.bs, e0.bsz, fun b _ _ => noA b,
      fun b z => absurd z (noA b), e0.funs, e0.frf⟩,
    rfl, e0.bare, Un.kept kp, ⟨_, hns, fun i y v e1 e2 e3 => ?_⟩, fun y c e => ?_, e0.hok.fresh (Nat.le_refl _), fun y c e => ?_, fun q hq => absurd (show q ∈ ([] : List (Addr × Obj)) ++ [] from hq) (by simp), e0.hok.kept kp, I.len⟩
  · have hy : scope.names.lookup y = some .cell ∨ scope.names.lookup y = some .free := hy
    rcases hy with hy | hy
    · exact (L.noCell hy).elim
    · exact look hy
  · have z : false = true := z
    cases z
  · have e3 : Vis scope y := e3
    rcases e3 with k | k | k
    · exfalso
      rcases L.names _ (PySem.mem_of_lookup k) with ⟨_, q⟩ | q | ⟨q, _⟩
      · exact q (List.mem_of_getElem? (show X.N[i]? = some y from e1))
      · cases q
      · cases q
    · exact (L.noCell k).elim
    · obtain ⟨m, hn, hl⟩ := I.loc
      have kk : X.env.scope.names.lookup y = some .cell ∨ X.env.scope.names.lookup y = some .free := by
        rcases L.names _ (PySem.mem_of_lookup k) with ⟨q, _⟩ | q | ⟨_, q⟩
        · cases q
        · cases q
        · exact q
      have hvis : Vis X.env.scope y := kk.elim (fun k => .inr (.inl k)) (fun k => .inr (.inr k))
      obtain ⟨w', r, q⟩ := hl i y v e1 e2 hvis
      obtain ⟨c2, h2⟩ := look k
      refine ⟨w', r, .inr ⟨.inr k, c2, h2, ?_⟩⟩
      have c1 := cm h2
      rcases q with ⟨k', _⟩ | ⟨_, c3, e', z⟩
      · have k' : X.env.scope.names.lookup y = some .local := k'
        rcases kk with k2 | k2 <;> rw [k2] at k' <;> cases k'
      · rw [c1] at e'
        cases e'
        exact cellK (I.freeC y _ c1) z
  · obtain ⟨w', z⟩ := I.cell y c (cm e)
    exact ⟨w', cellK (I.freeC y c (cm e)) z⟩
  · obtain ⟨v, o, ho, hd⟩ := I.cell y c (cm e)
    exact un.free c o ho (I.freeC y c (cm e)) (by simp)
/-- x(), in the def that got the lambda -/
theorem pe_actD {CXg : CXT} {Eg : XK} {Ng : List Str} {qg : Str} {sg : Scope} {g f c' T0 : Addr} {cdg pm ctv : Value} {params : Arguments} {body : Expr} {scope : Scope} {k i : Nat} {a y : Str} {n0 : Int} {t0 : Tok} {T : List (Addr × Str)} {H0 : Hp} {pn : List (Addr × Obj)} {xe : Value → Shared → Prop} {W : WX} {E : XK} {tb : TE} {p1 p2 : Pos}
    (I : L2.Inv X pins σ H s) (L : LamD X.env.scope X.N scope y) (MD : MadeD X T params body scope n0 H0 H f c' T0 pm ctv t0 s)
    (hbind : ∀ (q : Str) (cl : List (Str × Addr)) (D : Addr) (pm cv ct : Value) (v : Value), ∃ kk, bindArgs (dfFn q params body scope cl (.ref D) pm cv ct) ⟨[], []⟩ = seqItems? (.ref D) >>= kk ∧ kk (some #[v]) = pure [(y, v)])
    (tk : Takes ((cxOf CXg X.prog X.w X.K X.mg X.base Ng qg sg g cdg X.A X.stack s H Eg).tr pn xe) W) (hW : ∀ cls d σ' H', E cls d H' → W cls d σ' H') (hr : Room (k + 1) (X.A.deeper (envOfC qg sg s.heap.objs.size g cdg)))
    (hbody : ∀ (A : Around) (outer : List Env) (s : Shared) (H : Hp), Room k (A.deeper (lamEnv X scope s.heap.objs.size f c')) → PE (lamCx X A outer s H E scope f c') body tb)
    (hN : Ng[i]? = some a) (hv : Vis sg a) (hd : (a == ("__debug__" : Str)) = false := by decide) (hcd : (a == ("__classdict__" : Str)) = false := by decide) :
    PE ((cxOf CXg X.prog X.w X.K X.mg X.base Ng qg sg g cdg X.A X.stack s H Eg).tr pn xe) (.Call (.Name a p1) [] [] p2) (fun σZ HZ Q => σZ[i]? = some (some (.ref f)) ∧ HZ c' = some (CodeO c' (X.env.qual ++ "<lambda>")) ∧ tb σ HZ Q) := by
  refine ⟨fun pinsZ sZ σZ HZ Q IZ h => ?_⟩
  obtain ⟨hs, hc, ht⟩ := h
  refine wpAny_Call_Name_kw (thn ((pe_var (pos := p1) (i := i) hN hv hd hcd).run pinsZ sZ σZ HZ (fun v H1 => v = .ref f ∧ H1 = HZ) IZ ⟨.ref f, hs, rfl, rfl⟩) fun u s1 ⟨v, H1, I1, r1, q1⟩ => ?_)
  obtain ⟨ev, eH⟩ := q1
  subst ev
  rw [eH] at I1
  obtain rfl : u = Value.ref f := r1
  have of1 := I1.base.keep f _ MD.at_ MD.fn MD.ff (fun z => nomatch (show f ∈ ([] : List Addr) from z))
  have oT1 := I1.base.keep T0 _ MD.tup MD.tn MD.tf (fun z => nomatch (show T0 ∈ ([] : List Addr) from z))
  refine PySem.W.callWith_F0 ⟨_, _, _, _, of1⟩ ?_
  have un : Un (frs X.stack) [] H HZ s.heap s1.heap := I1.base
  obtain ⟨⟨oc, vs, t, hoc, hdc, hvc⟩, _, _⟩ := I1.hok c' _ hc
  have rc : codeAny (model X.prog X.w) (X.A.deeper (envOfC qg sg s.heap.objs.size g cdg)) (.call (.ref f) ⟨[], []⟩) (CR (L2.CX X.prog X.w) (envOfC qg sg s.heap.objs.size g cdg :: X.stack) X.prog X.w HZ s1 Q E) s1 := by
    refine PySem.W.kla_callFunE hr.depth of1 rfl L.co L.gen rfl ⟨c', oc, vs, t, rfl, hoc, hdc, hvc⟩ ?_
    obtain ⟨kk, e1, e2⟩ := hbind (X.env.qual ++ "<lambda>") (cloFrom X.env.cells scope.names []) T0 pm (.ref c') ctv (.int n0 t0)
    refine BindsTo.of_defaults (T := T0) (k := kk) rfl oT1 rfl e1 e2 _ _ _ _ ?_
    refine wpAny_newFunctionEnv (fun z hz q => ?_) (fun z hz => ?_) (fun h₁ hns hsb => ⟨I1.nolimit.fresh _ hsb, ?_⟩) L.kind
    · rcases L.names z hz with ⟨q2, _⟩ | q2 | ⟨q2, _⟩ <;> rw [q2] at q <;> cases q
    · rw [List.mem_singleton.mp hz]
      exact L.par
    · show codeAny _ _ (.expr body (lamEnv X scope s1.heap.objs.size f c')) _ _
      have kp : ∀ b o, s1.heap.get? b = some o → h₁.get? b = some o := fun b o e => hsb.extBut b o (Nat.ne_of_lt (Heap.lt_size e)) (Heap.get?_push_of_some _ e)
      have J : L2.Inv (lamCx X (X.A.deeper (envOfC qg sg s.heap.objs.size g cdg)) (envOfC qg sg s.heap.objs.size g cdg :: X.stack) s1 HZ E scope f c') [] σ HZ { s1 with heap := h₁, toks := s1.toks + ([(y, Value.int n0 t0)] : List (Str × Value)).length } :=
        lamD_start I L I1.env0 hr.hd un hns kp
      refine PySem.W.kla_codeExpr (wpAny_mono ((hbody _ _ s1 HZ (hr.deeper _)).run [] _ _ HZ Q J ht) (fun v s' hq => ?_) fun e s' hq => hq)
      obtain ⟨w', H', J', rv, q⟩ := hq
      exact ⟨w', H', J'.os, J'.bare, J'.base, J'.hok, rv, q⟩
  have hx : Passes (L2.CX X.prog X.w) ((cxOf CXg X.prog X.w X.K X.mg X.base Ng qg sg g cdg X.A X.stack s H Eg).tr pn xe) E := passes_call tk hW
  refine wpAny_call (codeAny_mono rc fun r s' hq => ?_)
  cases r with
  | error e => exact hx pinsZ σZ HZ s1 e s' I1 hq
  | ok fl =>
    cases fl with
    | ret u => exact I1.after hq
    | next => exact False.elim hq
    | brk => exact False.elim hq
    | cont => exact False.elim hq
end
section
variable {X : Cx}
/-- _law_fault(lambda y=n0: body) -/
theorem pe_faultD {T : List (Addr × Str)} {CI CP CS fA c Pt : Addr} {fdA : FuncData} {k : Nat} {params : Arguments} {body : Expr} {scope : Scope} {t : XK → TE} {y : Str} {n0 : Int} {j : Nat} {p lpos pos pd : Pos} (AA : TxtA X.K X.mg CI CP CS fA fdA) (hg : Gl X "_law_fault")
    (TB : TabB X.base X.mg c Pt) (hcode : X.env.code = .ref c) (hmT : (Pt, X.env.qual ++ "<lambda>") ∈ T) (hu : ∀ p ∈ T, p.1 = Pt → p.2 = X.env.qual ++ "<lambda>") (hr : Room (k + 2) X.A) (L : LamD X.env.scope X.N scope y) (hdef : defaultsOf params X.env = ([eval (.Constant (.int n0) j pd) X.env], [])) (hko : params.kwonlyargs = [])
    (hbind : ∀ (q : Str) (cl : List (Str × Addr)) (D : Addr) (pm cv ct : Value) (v : Value), ∃ kk, bindArgs (dfFn q params body scope cl (.ref D) pm cv ct) ⟨[], []⟩ = seqItems? (.ref D) >>= kk ∧ kk (some #[v]) = pure [(y, v)])
    (hbody : ∀ (A : Around) (outer : List Env) (s : Shared) (H : Hp) (E : XK) (f c' : Addr), Room k (A.deeper (lamEnv X scope s.heap.objs.size f c')) → PE (lamCx X A outer s H E scope f c') body (t E)) :
    PE X (.Call (.Name "_law_fault" p) [.Lambda params body scope lpos] [] pos) (LamX.tLam T (TFault CI CP) t) := by
  obtain ⟨oc, od, kV, doc, pm, an, cdv, ct, osl, e, lk, hcg⟩ := AA.F.ex
  subst e
  refine ⟨fun pins s σ H Q I h => ?_⟩
  obtain ⟨hT, h⟩ := h
  refine wpAny_Call_Name_kw (ld_glob I hg AA.g ?_ (by decide))
  refine PySem.W.callWith_K (h₀ := X.base) I.ok.mod.kin AA.F.kp ?_ (by rfl) (by rfl)
  show wpAny _ _ (spliced ((false, eval (.Lambda params body scope lpos) X.env) :: backTo pos (starEach [] X.env))) _ _ s
  refine Calls.spliced_cons (lamD_make I TB hcode hmT hu hT hdef hko (L.has I.ok) rfl fun f c' T0 pm' ctv t0 H1 s' I1 MD => ?_)
  refine Calls.spliced_nil ⟨I1.kIn, ?_⟩
  have rc : codeAny (model X.prog X.w) X.A (.call (.ref fA) ⟨[.ref f], []⟩) (CR C8.CX0 X.stack X.prog X.w H1 s' Q C8.E0) s' := by
    refine LamX.run_ofS (N := NFA) (ps := ["_law_call"]) (us := [.ref f]) (vs := [.ref f]) lk hcg scFault hr I1.env0 (AA.b s' [.ref f] I1.kIn rfl) (.cons rfl .nil) rfl fun hr' => ?_
    obtain ⟨t', ht', hq'⟩ := fault_gives (q := X.env.qual ++ "<lambda>") AA f c' s' H1 Q (fun E H' Q' => t E σ H' Q')
      (fun W pn xe E p1 p2 tk hW => pe_actD (i := 0) I1 L MD hbind tk hW hr' (fun A outer s H hr2 => hbody A outer s H E f c' hr2) rfl (Or.inl rfl)) MD.co (h H1 MD.ext MD.tabs)
    exact ⟨t', ht'.nox, hq'⟩
  refine wpAny_call (codeAny_mono rc fun r s2 hq => ?_)
  cases r with
  | error e => exact (show False from hq).elim
  | ok fl =>
    cases fl with
    | ret u => exact I1.after hq
    | next => exact False.elim hq
    | brk => exact False.elim hq
    | cont => exact False.elim hq
end
end K3

namespace K3
open PySem PySem.Spec PyProof.Rows PySem.SeqAt L2 E0
/-! ### lists of paths as data -/
def natsD (ps : List (List Nat)) : PyData := .list (ps.map natD)
theorem dpPaths {K : PySem.W.Frag} {H : Hp} : ∀ {ys : List V} {ps : List (List Nat)}, Paired (PAt H) ys ps → DpAll K H ys (ps.map natD)
  | _, _, .nil => .nil
  | _, _, .cons h t => by
    obtain ⟨a, rfl, ha⟩ := h
    exact .cons (PAt.dp ha) (dpPaths t)
theorem laysP : ∀ ps : List (List Nat), PyData.canLayAll0 (ps.map natD) = true ∧ PyData.depthAll (ps.map natD) ≤ 1
  | [] => ⟨rfl, Nat.zero_le _⟩
  | p :: ps => by
    have q := natD_lay p
    have r := laysP ps
    refine ⟨?_, ?_⟩
    · show (PyData.canLay0 (natD p) && PyData.canLayAll0 (ps.map natD)) = true
      rw [r.1, Bool.and_true]
      exact q.1
    · show max (PyData.depth (natD p)) (PyData.depthAll (ps.map natD)) ≤ 1
      refine Nat.max_le.mpr ⟨?_, r.2⟩
      show PyData.depthAll (p.map fun n : Nat => PyData.int (n : Int)) + 1 ≤ 1
      rw [q.2]
      exact Nat.le_refl _
theorem shPaths (ps : List (List Nat)) : SeqAt.shaped (natsD ps) = true := by
  obtain ⟨a, b⟩ := laysP ps
  have c : PyData.depthAll (ps.map natD) + 1 ≤ 64 := by omega
  simp [natsD, SeqAt.shaped, PyData.canLay0, PyData.depth, a]
  omega
theorem any_paths (p : List Nat) : ∀ ps : List (List Nat), ((ps.map natD).any fun z => PyData.eqv z (natD p)) = decide (p ∈ ps)
  | [] => rfl
  | q :: ps => by
    rw [List.map_cons, List.any_cons, any_paths p ps, eqv_path]
    by_cases h : q = p
    · subst h
      simp
    · rw [decide_eq_false h, Bool.false_or]
      exact decide_eq_decide.mpr ⟨fun m => List.mem_cons_of_mem _ m, fun m => (List.mem_cons.mp m).resolve_left fun e => h e.symm⟩
theorem nums_short : ∀ n : Nat, n < 1000 → PyData.leavesShort 10 (.int (n : Int)) = true := by
  have h : ∀ n ∈ List.range 1000, PyData.leavesShort 10 (.int (n : Int)) = true := by decide +kernel
  exact fun n hn => h n (List.mem_range.mpr hn)
theorem nat_short : ∀ p : List Nat, (∀ n ∈ p, n < 1000) → PyData.leavesShortAll 10 (p.map fun n : Nat => PyData.int (n : Int)) = true
  | [], _ => rfl
  | n :: p, h => by
    show (PyData.leavesShort 10 (.int (n : Int)) && PyData.leavesShortAll 10 (p.map fun n : Nat => PyData.int (n : Int))) = true
    rw [nums_short n (h n (List.mem_cons_self ..)), nat_short p fun m hm => h m (List.mem_cons_of_mem _ hm)]
    rfl
theorem nats_short : ∀ ps : List (List Nat), (∀ p ∈ ps, ∀ n ∈ p, n < 1000) → PyData.leavesShortAll 10 (ps.map natD) = true
  | [], _ => rfl
  | p :: ps, h => by
    show (PyData.leavesShortAll 10 (p.map fun n : Nat => PyData.int (n : Int)) && PyData.leavesShortAll 10 (ps.map natD)) = true
    rw [nat_short p (h p (List.mem_cons_self ..)), nats_short ps fun m hm => h m (List.mem_cons_of_mem _ hm)]
    rfl
theorem nat_bulk : ∀ p : List Nat, PyData.bulkAll (p.map fun n : Nat => PyData.int (n : Int)) = p.length
  | [] => rfl
  | n :: p => by
    show 0 + 1 + PyData.bulkAll (p.map fun n : Nat => PyData.int (n : Int)) = p.length + 1
    rw [nat_bulk p]
    omega
theorem nats_bulk (m : Nat) : ∀ ps : List (List Nat), (∀ p ∈ ps, p.length ≤ m) → PyData.bulkAll (ps.map natD) ≤ (m + 1) * ps.length
  | [], _ => Nat.zero_le _
  | p :: ps, h => by
    show PyData.bulkAll (p.map fun n : Nat => PyData.int (n : Int)) + 1 + PyData.bulkAll (ps.map natD) ≤ (m + 1) * (ps.length + 1)
    have h1 := h p (List.mem_cons_self ..)
    have h2 := nats_bulk m ps fun q hq => h q (List.mem_cons_of_mem _ hq)
    rw [nat_bulk, Nat.mul_succ]
    omega
theorem nats_fits {ps : List (List Nat)} (h1 : ∀ p ∈ ps, ∀ n ∈ p, n < 1000) (h2 : ∀ p ∈ ps, p.length ≤ 100) (h3 : ps.length ≤ 1000) : (natsD ps).shown.length ≤ sizeLine := by
  refine PyData.shown_fits_bulk (B := 10) (by decide) (by decide) (nats_short ps h1) ?_
  have := nats_bulk 100 ps h2
  show PyData.bulkAll (ps.map natD) ≤ 2 ^ 20
  omega
theorem nat_show : ∀ p : List Nat, (∀ n ∈ p, n < 1000) → PyData.showableAll (p.map fun n : Nat => PyData.int (n : Int)) = true
  | [], _ => rfl
  | n :: p, h => by
    show (PyData.showable (.int (n : Int)) && PyData.showableAll (p.map fun n : Nat => PyData.int (n : Int))) = true
    rw [nat_show p fun m hm => h m (List.mem_cons_of_mem _ hm), Bool.and_true]
    have g : ∀ n ∈ List.range 1000, PyData.showable (.int (n : Int)) = true := by decide +kernel
    exact g n (List.mem_range.mpr (h n (List.mem_cons_self ..)))
theorem nats_show : ∀ ps : List (List Nat), (∀ p ∈ ps, ∀ n ∈ p, n < 1000) → PyData.showableAll (ps.map natD) = true
  | [], _ => rfl
  | p :: ps, h => by
    show (PyData.showableAll (p.map fun n : Nat => PyData.int (n : Int)) && PyData.showableAll (ps.map natD)) = true
    rw [nat_show p (h p (List.mem_cons_self ..)), nats_show ps fun m hm => h m (List.mem_cons_of_mem _ hm)]
    rfl
theorem nat_dict : ∀ p : List Nat, PyData.hasDictAll (p.map fun n : Nat => PyData.int (n : Int)) = false
  | [] => rfl
  | n :: p => by
    show (false || PyData.hasDictAll (p.map fun n : Nat => PyData.int (n : Int))) = false
    rw [nat_dict p]
    rfl
theorem nats_dict : ∀ ps : List (List Nat), PyData.hasDictAll (ps.map natD) = false
  | [] => rfl
  | p :: ps => by
    show (PyData.hasDictAll (p.map fun n : Nat => PyData.int (n : Int)) || PyData.hasDictAll (ps.map natD)) = false
    rw [nat_dict, nats_dict ps]
    rfl
/-! ### the numbers of a path -/
theorem sizes_len : ∀ ts : List Tr, (∀ t ∈ ts, isT t = true) → ts.length ≤ sizes ts
  | [], _ => Nat.zero_le _
  | a :: ts, h => by
    have h1 := sizes_len ts fun t m => h t (List.mem_cons_of_mem _ m)
    obtain ⟨f, ps, rfl⟩ := isT_nd (h a (List.mem_cons_self ..))
    show ts.length + 1 ≤ size (.nd false f ps) + sizes ts
    simp only [size]
    omega
theorem atP_num : ∀ {p : List Nat} {t u : Tr}, genT t → isT t = true → atP t p = some u → ∀ n ∈ p, n < size t
  | [], _, _, _, _, _, n, hn => by cases hn
  | m :: p, t, u, hg, h1, ha, n, hn => by
    obtain ⟨f, ps, rfl⟩ := isT_nd h1
    rw [atP_nd] at ha
    obtain ⟨g1, g2⟩ := gens_below hg.2.2.2.2
    have sb : sizes (below ps) = sizes ps := (below_ok fun p m => gen_okP (gens_mem hg.2.2.2.2 m)).1
    cases hk : (below ps)[m]? with
    | none => rw [hk] at ha; cases ha
    | some k =>
      rw [hk] at ha
      have km := List.mem_of_getElem? hk
      have hm := (List.getElem?_eq_some_iff.mp hk).1
      have hl := sizes_len _ g2
      have hs := size_mem km
      simp only [size]
      rcases List.mem_cons.mp hn with e | hn
      · omega
      · have := atP_num (gens_mem g1 km) (g2 k km) ha n hn
        omega
theorem paths_good {t : Tr} (hg : genT t) (h1 : isT t = true) (hs : size t ≤ 400) (hl : levels t ≤ 100) :
    (natsD (pathsT t)).showable = true ∧ (natsD (pathsT t)).hasDict = false ∧ (natsD (pathsT t)).depth ≤ 64 ∧ (natsD (pathsT t)).shown.length ≤ sizeLine := by
  have a1 : ∀ p ∈ pathsT t, ∃ u, atP t p = some u := fun p hp => Option.isSome_iff_exists.mp ((mem_paths hg h1).mp hp)
  have h3 : ∀ p ∈ pathsT t, ∀ n ∈ p, n < 1000 := fun p hp n hn => by
    obtain ⟨u, hu⟩ := a1 p hp
    have := atP_num hg h1 hu n hn
    omega
  refine ⟨nats_show _ h3, nats_dict _, ?_, nats_fits h3 (fun p hp => ?_) (by rw [paths_len hg h1]; omega)⟩
  · have := (laysP (pathsT t)).2
    show PyData.depthAll ((pathsT t).map natD) + 1 ≤ 64
    omega
  · obtain ⟨u, hu⟩ := a1 p hp
    have := (atP_gen hg h1 hu).2.2.2.1
    omega
end K3

namespace K3
open PySem PySem.Spec PyProof.Rows PySem.SeqAt L2 E0
section
variable {K : PySem.W.Frag} {H : Hp} {Q : VK} {p : List Nat} {a : Addr}
theorem natV_app (p q : List Nat) : natV (p ++ q) = natV p ++ natV q := by unfold natV; rw [List.map_append]
theorem natV_nil {p : List Nat} : natV p = [] ↔ p = [] := by unfold natV; exact List.map_eq_nil_iff
/-- a path and one of its numbers more -/
theorem cat_path {n : Nat} {b : Addr} (ha : H a = some (.tup (natV p))) (hb : H b = some (.tup [.int (n : Int)])) (hl : p.length ≤ 1000) (k : ∀ H' r, Same H H' → PAt H' r (p ++ [n]) → Q r H') : rCatA K (.ref a) (.ref b) H Q := by
  have big : sizeLine ≥ 16777216 := by decide
  refine ⟨a, b, natV p, [.int (n : Int)], rfl, rfl, SqT.of ha, SqT.of hb, by rw [natV_len]; show p.length + 1 ≤ sizeLine; omega, fun e => ?_, (fun _ e => absurd e (by simp)), fun _ _ r hr => ?_⟩
  · have e := natV_nil.mp e
    subst e
    exact k H (.ref b) (Same.refl H) ⟨b, rfl, hb⟩
  · refine k _ (.ref r) (same_upd (Same.refl H) hr) ⟨r, rfl, ?_⟩
    rw [natV_app]
    exact upd_same
theorem sl_tail (ha : H a = some (.tup (natV p))) (k : ∀ H' r, Same H H' → PAt H' r (p.drop 1) → Q r H') : rSlA K (.ref a) (some 1) none H Q := by
  have e1 : HT.sIx (natV p).length 0 (some (1 : Int)) = min 1 p.length := by rw [show (some (1 : Int)) = some ((1 : Nat) : Int) from rfl, HT.sIx_nat, natV_len]
  refine ⟨a, natV p, rfl, SqT.of ha, fun h => ?_, fun h r hr => ?_⟩
  · rw [e1] at h
    have e : p = [] := List.length_eq_zero_iff.mp (by omega)
    subst e
    exact k H (.ref a) (Same.refl H) ⟨a, rfl, ha⟩
  · refine k _ (.ref r) (same_upd (Same.refl H) hr) ⟨r, rfl, ?_⟩
    rw [show (some (1 : Int)) = some ((1 : Nat) : Int) from rfl, cut_from, upd_same, show natV (p.drop 1) = (natV p).drop 1 by unfold natV; rw [List.map_drop]]
theorem sl_init (ha : H a = some (.tup (natV p))) (k : ∀ H' r, Same H H' → PAt H' r (p.take (p.length - 1)) → Q r H') : rSlA K (.ref a) none (some (-1)) H Q := by
  have e1 : HT.sIx (natV p).length (natV p).length (some (-1 : Int)) = p.length - 1 := by
    rw [natV_len]
    show (if (-1 : Int) < 0 then ((-1 : Int) + (p.length : Int)).toNat else min (-1 : Int).toNat p.length) = p.length - 1
    rw [if_pos (by omega)]
    omega
  refine ⟨a, natV p, rfl, SqT.of ha, fun h => ?_, fun h r hr => ?_⟩
  · rw [e1, natV_len] at h
    have e : p = [] := List.length_eq_zero_iff.mp (by omega)
    subst e
    exact k H (.ref a) (Same.refl H) ⟨a, rfl, ha⟩
  · refine k _ (.ref r) (same_upd (Same.refl H) hr) ⟨r, rfl, ?_⟩
    have e2 : cutV (natV p) none (some (-1)) = natV (p.take (p.length - 1)) := by
      unfold cutV
      rw [e1, HT.sIx_none, List.drop_zero, Nat.sub_zero]
      unfold natV
      rw [List.map_take]
    rw [upd_same, e2]
theorem path_num : ∀ p : List Nat, Paired (NumAt K H) (natV p) (natN p)
  | [] => .nil
  | n :: p => .cons (rfl : NumAt K H (V.int (n : Int)) (some (n : Int))) (path_num p)
theorem PAt.pathV {y : V} (h : PAt H y p) : PathV K H y (some (natN p)) := by
  obtain ⟨a, rfl, ha⟩ := h
  exact ⟨a, natV p, rfl, ha, path_num p⟩
theorem found_nat (t : Tr) (p : List Nat) : foundV t (some (natN p)) = atP t p := walkV_at
theorem eq_tree {C : Cl5} {E : XK} {v y : V} {t u : Tr} (T5 : Ty5 K C) (nf : PySem.W.notFirst K C.T (.ref C.T) = true) (hv : PtAt C H v t) (ht : isT t = true) (hy : PtAt C H y u) (hu : isT u = true) (k : Q (.bl (decide (said t = said u))) H) : rEqO K C.T (spTreeEq K C) E v y H Q := by
  obtain ⟨f, ps, rfl⟩ := isT_nd ht
  obtain ⟨g, qs, rfl⟩ := isT_nd hu
  obtain ⟨x, dx, fs, _, _, rfl, hx, _⟩ := id hv
  exact ⟨x, dx, fs, _, rfl, hx, PtAt.ty T5 hy, nf, .ref x, y, _, rfl, hv, rfl, .inl ⟨_, hy, rfl, _, rfl, k⟩⟩
end
theorem wfs_below : ∀ {ps : List Tr} {t : Tr}, gensT ps → wfTs ps → t ∈ below ps → wfT t
  | [], _, _, _, m => by cases m
  | p :: ps, t, hg, hw, m => by
    match p, hg, hw, m with
    | .tx s, hg, hw, m => exact wfs_below hg.2 hw.2 (show t ∈ below ps from m)
    | .row us, hg, hw, m =>
      rcases List.mem_append.mp (show t ∈ us.filter isN ++ below ps from m) with q | q
      · exact wfs_mem hw.1 (List.mem_filter.mp q).1
      · exact wfs_below hg.2 hw.2 q
    | .nd lk f qs, hg, hw, m =>
      rcases List.mem_cons.mp (show t ∈ [Tr.nd lk f qs] ++ below ps from m) with q | q
      · rw [q]; exact hw.1
      · exact wfs_below hg.2 hw.2 q
    | .vr .., hg, _, _ => exact False.elim hg.1
theorem atP_wf : ∀ {p : List Nat} {t u : Tr}, genT t → isT t = true → wfT t → atP t p = some u → wfT u
  | [], t, u, _, _, hw, h => by
    rw [atP_nil] at h
    cases h
    exact hw
  | n :: p, t, u, hg, h1, hw, h => by
    obtain ⟨f, ps, rfl⟩ := isT_nd h1
    rw [atP_nd] at h
    obtain ⟨g1, g2⟩ := gens_below hg.2.2.2.2
    cases hk : (below ps)[n]? with
    | none => rw [hk] at h; cases h
    | some k =>
      rw [hk] at h
      have km := List.mem_of_getElem? hk
      exact atP_wf (gens_mem g1 km) (g2 k km) (wfs_below hg.2.2.2.2 hw.2.2.2 km) h
end K3

namespace K3
open PySem PySem.Spec PyProof.Rows PySem.SeqAt L2 E0 EG
section
variable {P : Program} {w : World} {K : PySem.W.Frag} {mg : Str → Option Value} {base : Heap}
theorem okG {x qual : Str} {st : Stmt} {f : Addr} {fd : FuncData} {N ps : List Str} {k : Nat} {sp : Sp} (F : Fun K x qual st f fd) (S : FnScope N ps (defScope st)) (len : ∀ vs H Q E, sp vs H Q E → vs.length = ps.length)
    (bd : ∀ (cdv : Value) (A : Around) (outer : List Env) (s : Shared) (H : Hp) (vs : List V) (Q : VK) (E : XK), Room k (A.deeper (PyProof.Rows.envOfC qual (defScope st) s.heap.objs.size f cdv)) → A.guards = some [] → sp vs H Q E →
      ∃ t, PSs (cxOf CX0 P w K mg base N qual (defScope st) f cdv A outer s H E).nox (defBody st) t ∧ t { nx := fun _ H' => Q .non H', rt := Q } (L2.start N vs) H) : FnG P w K mg base CX0 (k + 1) f fd ps sp := by
  obtain ⟨oc, od, kV, doc, pm, an, cdv, ct, osl, rfl, lk, hcd⟩ := F.ex
  refine fnG_of lk hcd S len fun A outer s H vs Q E hr hG hsp => ?_
  obtain ⟨t, h, q⟩ := bd cdv A outer s H vs Q E hr hG hsp
  exact ⟨t, h.nox, q⟩
structure AdR where
  fP : Addr
  fB : Addr
  fA : Addr
  fM : Addr
  fL : Addr
  fE : Addr
  fH : Addr
  fG : Addr
  fQ : Addr
  fdP : FuncData
  fdB : FuncData
  fdA : FuncData
  fdM : FuncData
  fdE : FuncData
structure TxtRR (P : Program) (w : World) (K : PySem.W.Frag) (mg : Str → Option Value) (base : Heap) (C : Cl5) (CP : Addr) (d : Nat) (a : AdR) : Prop where
  T : TxtT mg C
  T5 : Ty5 K C
  N5 : Na5 K C
  GP : FnOk P w K mg base CX0 (d + 1) a.fP a.fdP ["_law_plant"] (spPaths d)
  AP : DefA K mg "_law_paths" ["_law_plant"] a.fP a.fdP
  GB : FnOk P w K mg base CX0 1 a.fB a.fdB ["_law_plant"] spBelow
  AB : DefA K mg "_law_below" ["_law_plant"] a.fB a.fdB
  GA : FnOk P w K mg base CX0 2 a.fA a.fdA ["_law_plant", "_law_path_so"] spAt
  AA : DefA K mg "_law_at" ["_law_plant", "_law_path_so"] a.fA a.fdA
  GM : FnOk P w K mg base (L2.CX P w) (2 * d + 6) a.fM a.fdM ["_law_part"] (spMade C d)
  AM : DefA K mg "_law_made" ["_law_part"] a.fM a.fdM
  OL : OwnC K C.T "__len__" a.fL
  GL : FnR P w K mg base CX0 1 a.fL (spTreeLen C)
  ME : Meth K C.T "each_path" a.fE
  GE : GFn P w K mg base 2 a.fE a.fdE ["self"] (spEach C)
  BE : Binds K a.fdE ["self"] []
  OH : OwnC K C.T "__contains__" a.fH
  GH : FnR P w K mg base CX0 3 a.fH (spHas K C)
  OG : OwnC K C.T "__getitem__" a.fG
  GG : FnR P w K mg base (L2.CX P w) 3 a.fG (spGet K C CP)
  OQ : OwnC K C.T "__eq__" a.fQ
  GQ : FnR P w K mg base CX0 1 a.fQ (spTreeEq K C)
  nf : PySem.W.notFirst K C.T (.ref C.T) = true
  gLi : mg "list" = none
  gRp : mg "repr" = none
def NRR : List Str := ["_law_plant", "_law_one", "_law_due", "_law_spot", "_law_far"]
theorem scRR : FnScope NRR ["_law_plant", "_law_one"] (defScope sReadRight) := ⟨rfl, rfl, rfl, by decide +kernel, rfl, by decide +kernel, by decide +kernel⟩
def spReadRight (C : Cl5) (d : Nat) : Sp := fun vs H Q _ => ∃ (N : Addr → Prop) (v x : V) (t : Tr), vs = [v, x] ∧ PlAt N H v t ∧ PtAt C H x t ∧ NoF C H x ∧ genT t ∧ isT t = true ∧ wfT t ∧ ht t < d ∧ size t ≤ 400 ∧ levels t ≤ 100 ∧ ∀ H', Same H H' → Q (.bl true) H'
theorem ok_readRight {C : Cl5} {CP f : Addr} {fd : FuncData} {d : Nat} {a : AdR} (F : Fun K "_law_read_right" "_law_read_right" sReadRight f fd) (T : TxtRR P w K mg base C CP d a) :
    FnG P w K mg base CX0 (2 * d + 7) f fd ["_law_plant", "_law_one"] (spReadRight C d) := by
  refine okG F scRR (fun vs H Q E h => ?_) (fun cdv A outer s H vs Q E hr hG h => ?_)
  · obtain ⟨N, v, x, t, rfl, _⟩ := h
    rfl
  · obtain ⟨N, v, x, t, rfl, hv, hx, hn, hg, h1, hw, hd, hs, hl, k⟩ := h
    have hrP : Room (d + 1) _ := hr.mono (by omega)
    have hrM : Room (2 * d + 6) _ := hr.mono (by omega)
    have hr5 : Room 5 _ := hr.mono (by omega)
    have hr4 : Room 4 _ := hr.mono (by omega)
    have hr3 : Room 3 _ := hr.mono (by omega)
    have hr2 : Room 2 _ := hr.mono (by omega)
    have hr1 : Room 1 _ := hr.mono (by omega)
    have hun := hr.un
    have hu80 : A.units + 3 + 80 < cLine := by
      have : A.units + 3 + 16 * (2 * d + 6) + 200 < cLine := hun
      omega
    have hu65 : A.units + 3 + 65 < cLine := by omega
    have mT : C.T ∈ C.all := C.n_mem false
    refine ⟨_, (pss_cons (ps_set (i := 2) scRR.nd rfl (.inl rfl) (pe_call T.GP hrP (by rfl) T.AP.g T.AP.k T.AP.b .nil pass0 (pa_cons (L2.pv 0) pa_nil))) (pss_cons (ps_if (PW.pt (pw_or (pt_cmpR op_ne (pe_callB (call_reprD hG hu80) (by rfl) T.gRp PyProof.Rows.boot_repr (pa_cons (pe_listG (E := E0) (pgen_meth0 (E := E0) (L2.pv 1) (T.T5.own _ mT).cl T.ME T.GE hr2 T.BE .nil) passL (fun _ _ _ z => z.elim) hr5 rfl T.gLi (by decide +kernel)) pa_nil)) (pe_callB (call_reprD hG hu80) (by rfl) T.gRp PyProof.Rows.boot_repr (pa_cons (L2.pv 2) pa_nil)) (nomark _)) (pw_or1 (pt_cmpR op_ne (pe_callB (call_lenO (E := E0) T.OL T.GL hr2 pass0) (by rfl) T.T.len PySem.boot_len (pa_cons (L2.pv 1) pa_nil)) (pe_callB call_len_seq (by rfl) T.T.len PySem.boot_len (pa_cons (L2.pv 2) pa_nil)) (nomark _))))) (pss_one (ps_ret pe_bl)) pss_nil) (pss_cons (ps_for PassesOwn.never rfl (pi_list (L2.pv 2)) (pg_name (i := 3) scRR.nd rfl (.inl rfl)) (pss_cons (ps_if (PW.pt (pw_or (pt_cmpR (op_notInO (E := E0) T.OH T.GH hr3 pass0) (L2.pv 3) (L2.pv 1) (by with_unfolding_all rfl)) (pw_or1 (pt_not (pt_cmpR (op_eqO (E := E0) T.OQ T.GQ hr1 pass0) (pe_ixO (E := E0) T.OG T.GG hr4 passL (L2.pv 1) (L2.pv 3)) (pe_call (E := E0) T.GM hrM (by rfl) T.AM.g T.AM.k T.AM.b .nil passL (pa_cons (pe_call T.GA hr2 (by rfl) T.AA.g T.AA.k T.AA.b .nil pass0 (pa_cons (L2.pv 0) (pa_cons (L2.pv 3) pa_nil))) pa_nil)) (nomark _)))))) (pss_one (ps_ret pe_bl)) pss_nil) (pss_one (ps_for PassesOwn.never rfl (pi_tup (pe_tup (pa_cons (pe_op op_catA (L2.pv 3) (pe_tup (pa_cons pe_int pa_nil))) (pa_cons (pe_op op_catA (L2.pv 3) (pe_tup (pa_cons (pe_callB call_len_seq (by rfl) T.T.len PySem.boot_len (pa_cons (pe_call T.GB hr1 (by rfl) T.AB.g T.AB.k T.AB.b .nil pass0 (pa_cons (pe_call T.GA hr2 (by rfl) T.AA.g T.AA.k T.AA.b .nil pass0 (pa_cons (L2.pv 0) (pa_cons (L2.pv 3) pa_nil))) pa_nil)) pa_nil)) pa_nil))) (pa_cons (pe_slice sl_tupA (L2.pv 3) (po_some pe_int) po_none) (pa_cons (pe_slice sl_tupA (L2.pv 3) po_none (po_some (pe_un un_neg pe_int))) pa_nil)))))) (pg_name (i := 4) scRR.nd rfl (.inl rfl)) (pss_one (ps_if (pt_cmpR op_ne (pe_cmpR (op_inO (E := E0) T.OH T.GH hr3 pass0) (L2.pv 4) (L2.pv 1) (by with_unfolding_all rfl)) (pe_cmpR (op_inD hu65) (L2.pv 4) (L2.pv 2) (by with_unfolding_all rfl)) (nomark _)) (pss_one (ps_ret pe_bl)) pss_nil)))))) (pss_one (ps_ret (pe_cmpR (op_eqD hr.units) (pe_listG (E := E0) (pgen_meth0 (E := E0) (L2.pv 1) (T.T5.own _ mT).cl T.ME T.GE hr2 T.BE .nil) passL (fun _ _ _ z => z.elim) hr5 rfl T.gLi (by decide +kernel)) (L2.pv 2) (nomark _))))))), ?_⟩
    have szb : size t < 2 ^ 40 := by omega
    obtain ⟨x0, dx, fs, rfl, hx0, nfe, nfp⟩ := id hn
    obtain ⟨pg1, pg2, pg3, pg4⟩ := paths_good hg h1 hs hl
    have pn := paths_len hg h1
    refine ⟨_, rfl, N, v, t, rfl, hv, hg, h1, hd, by omega, fun H1 L ds s1 hL0 hL pd => ?_⟩
    have hx1 := s1 _ _ hx0
    refine ⟨_, rfl, x0, dx, fs, rfl, hx1, nfe, .ref x0, t, rfl, PtAt.kpo (KpO.same s1) _ hx, hg, h1, by omega, by omega, fun H2 ys s2 py q nq => ?_⟩
    have s3 : Same H2 (upd H2 q (.lst ys)) := same_upd (Same.refl H2) nq
    have v3 : (upd H2 q (.lst ys)) q = some (.lst ys) := upd_same
    have py3 : Paired (PAt (upd H2 q (.lst ys))) ys (pathsT t) := Paired.mapP py fun _ _ z => z.same s3
    generalize upd H2 q (.lst ys) = H3 at s3 v3 py3 ⊢
    have s13 := s2.trans s3
    have s03 := s1.trans s13
    have pd3 : Paired (PAt H3) ds (pathsT t) := Paired.mapP pd fun _ _ z => z.same s13
    have dL : Dp K H3 (.ref L) (natsD (pathsT t)) := .lst (SqL.of (s13 _ _ hL)) (dpPaths pd3)
    refine ⟨q, natsD (pathsT t), rfl, .lst (SqL.of v3) (dpPaths py3), pg1, pg2, pg3, pg4, ?_⟩
    refine ⟨_, rfl, L, natsD (pathsT t), rfl, dL, pg1, pg2, pg3, pg4, rfl, _, rfl, ?_⟩
    rw [decide_eq_true rfl]
    refine iteF ?_
    refine ⟨_, rfl, x0, dx, fs, rfl, s03 _ _ hx0, .ref x0, t, rfl, PtAt.kpo (KpO.same s03) _ hx, h1, szb, fun H4 s4 => ⟨_, rfl, by omega, by omega, ?_⟩⟩
    have s04 := s03.trans s4
    have s14 := s13.trans s4
    have dsl : ds.length = size t := by rw [← pn]; exact pd.length
    refine ⟨_, rfl, L, ds, rfl, .inl (SqL.of (s14 _ _ hL)), rfl, _, rfl, ?_⟩
    rw [show decide (V.int ((size t : Nat) : Int) = V.int (ds.length : Int)) = true from decide_eq_true (by rw [dsl])]
    refine iteF ?_
    have pdk := pd
    refine ⟨_, rfl, L, rfl, ⟨_, SqL.of (s14 _ _ hL)⟩, for_list (K := K) (a := L) (xs := ds) (fun i σ H' => ∃ (v3 v4 : Option V), σ = [some v, some (.ref x0), some (.ref L), v3, v4] ∧ Same H1 H') ⟨none, none, rfl, s14⟩ (fun i σ H' _ ⟨_, _, _, s'⟩ => SqL.of (s' _ _ hL)) ?_ ?_⟩
    · rintro i y σ H5 hy ⟨v3, v4, rfl, s5⟩
      obtain ⟨p, ep, hi⟩ := LiI.paired_get pdk hy
      obtain ⟨a, rfl, ha⟩ := id hi
      have sH5 := s1.trans s5
      obtain ⟨u, hu⟩ := Option.isSome_iff_exists.mp ((mem_paths hg h1).mp (List.mem_of_getElem? ep))
      obtain ⟨gu, tu, su, lu, hhu⟩ := atP_gen hg h1 hu
      have wu := atP_wf hg h1 hw hu
      have fe : foundV t (some (natN p)) = some u := by rw [found_nat, hu]
      have hx5 := PtAt.kpo (KpO.same sH5) _ hx
      have ha5 := s5 _ _ ha
      have hv5 := PlAt.kp (KpN.same sH5) t hv
      refine ⟨_, rfl, _, rfl, x0, dx, fs, rfl, sH5 _ _ hx0, .ref x0, .ref a, t, _, rfl, hx5, hg, h1, PAt.pathV ⟨a, rfl, ha5⟩, true, by rw [fe]; rfl, _, rfl, ?_⟩
      refine iteF ?_
      refine ⟨_, rfl, _, rfl, x0, dx, fs, rfl, sH5 _ _ hx0, .ref x0, .ref a, t, _, rfl, hx5, hg, h1, PAt.pathV ⟨a, rfl, ha5⟩, ?_⟩
      rw [fe]
      intro v1 hv1 _
      refine ⟨_, rfl, _, rfl, N, v, a, t, u, p, rfl, hv5, hg, h1, ha5, hu, fun H6 v2 s6 hv2 => ?_⟩
      refine ⟨N, v2, u, rfl, hv2, gu, tu, wu, by omega, by omega, by omega, fun H7 z s7 hz _ => ?_⟩
      have s57 := s6.trans s7
      refine eq_tree T.T5 T.nf (PtAt.kpo (KpO.same s57) _ hv1) tu hz tu ⟨_, rfl, ?_⟩
      rw [decide_eq_true rfl]
      refine iteF ?_
      have plen : p.length ≤ 1000 := by omega
      have big : sizeLine ≥ 16777216 := by decide
      refine ⟨_, rfl, by show 1 ≤ sizeLine; omega, fun b1 hb1 => ?_⟩
      have s8 : Same H7 (upd H7 b1 (.tup [.int 0])) := same_upd (Same.refl H7) hb1
      have w8 : (upd H7 b1 (.tup [.int 0])) b1 = some (.tup [.int ((0 : Nat) : Int)]) := upd_same
      generalize upd H7 b1 (.tup [.int 0]) = H8 at s8 w8 ⊢
      have t8 := s57.trans s8
      refine cat_path (t8 _ _ ha5) w8 plen fun H9 r1 s9 pr1 => ?_
      have t9 := t8.trans s9
      refine ⟨_, rfl, _, rfl, _, rfl, N, v, a, t, u, p, rfl, PlAt.kp (KpN.same t9) t hv5, hg, h1, t9 _ _ ha5, hu, fun H10 v10 s10 hv10 => ?_⟩
      obtain ⟨f1, us, rfl⟩ := isT_nd tu
      obtain ⟨ua, uxs, rfl, hua, hNu, hus⟩ := id hv10
      have gus := gu.2.2.2.2
      have ul := gu.2.2.2.1
      refine ⟨N, ua, f1, uxs, us, rfl, hua, hus, gens_okP gus, by omega, gens_rl gus, fun H11 kl ks s11 nk hk pk => ?_⟩
      refine ⟨kl, ks, rfl, .inl (SqL.of hk), ?_⟩
      refine ⟨by show 1 ≤ sizeLine; omega, fun b2 hb2 => ?_⟩
      have s12 : Same H11 (upd H11 b2 (.tup [.int (ks.length : Int)])) := same_upd (Same.refl H11) hb2
      have w12 : (upd H11 b2 (.tup [.int (ks.length : Int)])) b2 = some (.tup [.int (ks.length : Int)]) := upd_same
      generalize upd H11 b2 (.tup [.int (ks.length : Int)]) = H12 at s12 w12 ⊢
      have t912 := s10.trans (s11.trans s12)
      have t12 := t9.trans t912
      refine cat_path (t12 _ _ ha5) w12 plen fun H13 r2 s13' pr2 => ?_
      have t13 := t12.trans s13'
      refine ⟨_, rfl, 1, rfl, ?_⟩
      delta tNoPart
      refine sl_tail (t13 _ _ ha5) fun H14 r3 s14' pr3 => ?_
      have t14 := t13.trans s14'
      refine ⟨_, rfl, 1, rfl, -1, rfl, ?_⟩
      refine sl_init (t14 _ _ ha5) fun H15 r4 s15 pr4 => ?_
      have t15 := t14.trans s15
      refine ⟨by show 4 ≤ sizeLine; omega, fun b3 hb3 => ?_⟩
      have s16 : Same H15 (upd H15 b3 (.tup [r1, r2, r3, r4])) := same_upd (Same.refl H15) hb3
      have w16 : (upd H15 b3 (.tup [r1, r2, r3, r4])) b3 = some (.tup [r1, r2, r3, r4]) := upd_same
      generalize upd H15 b3 (.tup [r1, r2, r3, r4]) = H16 at s16 w16 ⊢
      have t16 := t15.trans s16
      have all : ∀ z ∈ [r1, r2, r3, r4], ∃ q, PAt H16 z q := by
        intro z hz
        simp only [List.mem_cons, List.not_mem_nil, or_false] at hz
        rcases hz with rfl | rfl | rfl | rfl
        · exact ⟨_, pr1.same (t912.trans (s13'.trans (s14'.trans (s15.trans s16))))⟩
        · exact ⟨_, pr2.same (s14'.trans (s15.trans s16))⟩
        · exact ⟨_, pr3.same (s15.trans s16)⟩
        · exact ⟨_, pr4.same s16⟩
      have s116 := s5.trans t16
      refine ⟨b3, rfl, ⟨_, SqT.of w16⟩, for_tup (K := K) (a := b3) (xs := [r1, r2, r3, r4]) (fun i σ H' => ∃ (v4 : Option V), σ = [some v, some (.ref x0), some (.ref L), some (.ref a), v4] ∧ Same H16 H') ⟨v4, rfl, Same.refl _⟩ (fun i σ H' _ ⟨_, _, s'⟩ => SqT.of (s' _ _ w16)) ?_ ?_⟩
      · rintro j z σ H17 hz ⟨v4', rfl, s17⟩
        obtain ⟨q, pq⟩ := all z (List.mem_of_getElem? hz)
        have pq17 := pq.same s17
        obtain ⟨qa, rfl, hqa⟩ := id pq17
        have s117 := s116.trans s17
        have sH17 := s1.trans s117
        have pd17 : Paired (PAt H17) ds (pathsT t) := Paired.mapP pd fun _ _ z => z.same s117
        refine ⟨_, rfl, _, rfl, x0, dx, fs, rfl, sH17 _ _ hx0, .ref x0, .ref qa, t, _, rfl, PtAt.kpo (KpO.same sH17) _ hx, hg, h1, pq17.pathV, (atP t q).isSome, by rw [found_nat], ?_⟩
        refine ⟨_, rfl, _, rfl, natD q, _, PAt.dp hqa, .lst (SqL.of (s117 _ _ hL)) (dpPaths pd17), shPath q, shPaths _, ?_⟩
        rw [any_paths]
        have eb : (atP t q).isSome = decide (q ∈ pathsT t) := by
          by_cases m : q ∈ pathsT t
          · rw [(mem_paths hg h1).mp m, decide_eq_true m]
          · rw [decide_eq_false m]
            cases z : (atP t q).isSome with
            | false => rfl
            | true => exact absurd ((mem_paths hg h1).mpr z) m
        rw [eb]
        refine ⟨rfl, _, rfl, ?_⟩
        rw [decide_eq_true rfl]
        refine iteF ?_
        exact ⟨_, rfl, s17⟩
      · rintro σ H17 ⟨v4', rfl, s17⟩
        exact ⟨_, _, rfl, s116.trans s17⟩
    · rintro σ H5 ⟨v3, v4, rfl, s5⟩
      have sH5 := s1.trans s5
      refine ⟨_, rfl, x0, dx, fs, rfl, sH5 _ _ hx0, nfe, .ref x0, t, rfl, PtAt.kpo (KpO.same sH5) _ hx, hg, h1, by omega, by omega, fun H6 zs s6 pz q2 nq2 => ?_⟩
      have s7 : Same H6 (upd H6 q2 (.lst zs)) := same_upd (Same.refl H6) nq2
      have v7 : (upd H6 q2 (.lst zs)) q2 = some (.lst zs) := upd_same
      have pz7 : Paired (PAt (upd H6 q2 (.lst zs))) zs (pathsT t) := Paired.mapP pz fun _ _ z => z.same s7
      generalize upd H6 q2 (.lst zs) = H7 at s7 v7 pz7 ⊢
      have s57 := s5.trans (s6.trans s7)
      have pd7 : Paired (PAt H7) ds (pathsT t) := Paired.mapP pd fun _ _ z => z.same s57
      refine ⟨_, rfl, natsD (pathsT t), natsD (pathsT t), .lst (SqL.of v7) (dpPaths pz7), .lst (SqL.of (s57 _ _ hL)) (dpPaths pd7), shPaths _, shPaths _, ?_⟩
      rw [SeqAt.eqv_refl _ (lay_of (shPaths _))]
      exact k H7 (s1.trans s57)
end
end K3

namespace K3
open PySem PySem.Spec PyProof.Rows L2 E0
section
variable {X : Cx} {CX : CXT} {k : Nat} {f C : Addr} {fd : FuncData} {ps ks : List Str} {sp : Sp} {E : XK} {pos : Pos} {kws : List Keyword} {ta : TE} {tk : TA} {g : List Value → List Value → List Value} {gV : List V → List V → List V} {o : Expr} {m : Str} {apos : Pos}
/-- o.m(k = v, ..) of an own method -/
def tMethK (C : Addr) (m : Str) (sp : Sp) (gV : List V → List V → List V) (E : XK) (ta : TE) (tk : TA) : TE := fun σ H Q => ta σ H fun x H1 => ∃ a dx fs, x = .ref a ∧ H1 a = some (.ins C dx fs) ∧ fs.lookup m = none ∧
  tk σ H1 fun zs H2 => sp (gV [x] zs) H2 Q E
theorem pe_methKw {pl : Sem Bool} (he : PE X o ta) (c : Cls X.K C) (hm : Meth X.K C m f) (F : FnOk X.prog X.w X.K X.mg X.base CX k f fd ps sp) (hr : Room k X.A) (hb : KBinds X.K fd ps ks g gV) (hx : Passes CX X E) (hkw : PK X kws tk)
    (hall : (backToKw pos (keywordEach kws X.env)).all (·.1.isSome) = true := by rfl) (hks : (backToKw pos (keywordEach kws X.env)).filterMap (·.1) = ks := by rfl)
    (hpl : ((backTo pos (starEach [] X.env)).any (·.1) || (backToKw pos (keywordEach kws X.env)).any (·.1.isNone)) = false := by rfl)
    (ht : eval (.Call (.Attribute o m apos) [] kws pos) X.env = (do
      let ov ← eval o X.env
      standAt apos.atName
      let (f, first) ← holding [ov] (getMethod ov m pl)
      callWith pos f first (backTo pos (starEach [] X.env)) (backToKw pos (keywordEach kws X.env))) := by rfl) :
    PE X (.Call (.Attribute o m apos) [] kws pos) (tMethK C m sp gV E ta tk) := by
  refine ⟨fun pins s σ H Q I h => ?_⟩
  refine PySem.W.methodCall_KW (pl := pl) (thn (he.run pins s σ H _ I h) fun u s1 ⟨x, H1, I1, rx, a, dx, fs, ex, ea, l, q⟩ => ?_) ht
  subst ex
  obtain rfl : u = Value.ref a := rx
  refine getmeth_ok I1 ea c hm l ?_
  refine PySem.W.callWith_KW0 (first := [.ref a]) (h₀ := X.base) I.ok.mod.kin hm.kp hall (thn (hkw.run pos pins s1 σ H1 _ I1 q) fun ws s2 ⟨zs, H2, I2, rz, q2⟩ => ⟨I2.kIn, ?_⟩) hpl
  rw [hks]
  exact run_fnk (us := [.ref a]) (vs := [.ref a]) F hr hb hx I2 (.cons rfl .nil) rz q2
end
/-! ### put(other=.., path=..) -/
def gPut : List Value → List Value → List Value
  | [a], [o, p] => [a, p, o]
  | _, _ => []
def vPut : List V → List V → List V
  | [a], [o, p] => [a, p, o]
  | _, _ => []
theorem gPut_rel {vs : List V} {us : List Value} {zs : List V} {ws : List Value} (r : Vals vs us) (t : Vals zs ws) : Vals (vPut vs zs) (gPut us ws) := by
  cases r with
  | nil => exact .nil
  | cons a r =>
    cases r with
    | cons b r => exact .nil
    | nil =>
      cases t with
      | nil => exact .nil
      | cons b t =>
        cases t with
        | nil => exact .nil
        | cons c t =>
          cases t with
          | nil => exact .cons a (.cons c (.cons b .nil))
          | cons _ _ => exact .nil
theorem mk_kPut {K : PySem.W.Frag} {kV doc pm cdv ct : Value} {an : Option Addr} : KBinds K (PySem.W.fnOf "put" "Tree.put" (defArgs sPut) (defBody sPut) (defScope sPut) .none kV doc pm an cdv ct) ["self", "path", "other"] ["other", "path"] gPut vPut := by
  refine ⟨fun s us ws _ hl => ?_, gPut_rel⟩
  match us, ws, hl with
  | [a], [x, y], _ => exact .of_eq rfl
  | [], _, h => exact nomatch (show (0 : Nat) = 3 from h)
  | _ :: _ :: _, _, h => exact nomatch (show (0 : Nat) = 3 from h)
  | [_], [], h => exact nomatch (show (0 : Nat) = 3 from h)
  | [_], [_], h => exact nomatch (show (0 : Nat) = 3 from h)
  | [_], _ :: _ :: _ :: _, h => exact nomatch (show (0 : Nat) = 3 from h)
/-! ### what no path is -/
section
open LamX (ExtN)
variable {K : PySem.W.Frag} {H H' : Hp}
theorem TyOf.ext {v : V} {t : Value} (h : TyOf K H v t) (e : ExtN H H') : TyOf K H' v t := by
  cases h with
  | non => exact .non
  | bl x => exact .bl x
  | int i => exact .int i
  | str x => exact .str x
  | flt x => exact .flt x
  | lst q => exact .lst (e _ _ q nofun)
  | frz q => exact .frz (e _ _ q nofun)
  | tup q => exact .tup (e _ _ q nofun)
  | dK q => exact .dK (e _ _ q nofun)
  | dT q => exact .dT (e _ _ q nofun)
  | ins q cl ha hn htk hm => exact .ins (e _ _ q nofun) cl ha hn htk hm
theorem TyX.ext {v : V} {t : Value} (h : TyX K H v t) (e : ExtN H H') : TyX K H' v t := by
  cases h with
  | base h => exact .base (TyOf.ext h e)
  | byt b => exact .byt b
  | set q => exact .set (e _ _ q nofun)
  | kList q c => exact .kList q c
  | kTuple q c => exact .kTuple q c
  | kDict q c => exact .kDict q c
  | fTuple q => exact .fTuple (e _ _ q nofun)
  | fDict q => exact .fDict (e _ _ q nofun)
theorem NumAt.ext (e : ExtN H H') {v : V} : ∀ {n : Option Int}, NumAt K H v n → NumAt K H' v n
  | some _, h => h
  | none, h => h.elim .inl fun ⟨t, h1, h2⟩ => .inr ⟨t, TyX.ext h1 e, h2⟩
theorem PathV.ext (e : ExtN H H') {v : V} : ∀ {n : Option (List (Option Int))}, PathV K H v n → PathV K H' v n
  | some _, ⟨a, xs, h0, h, p⟩ => ⟨a, xs, h0, e _ _ h nofun, Paired.mapP p fun _ _ z => z.ext e⟩
  | none, ⟨t, h1, h2⟩ => ⟨t, TyX.ext h1 e, h2⟩
/-- no path of this tree -/
def Odd (K : PySem.W.Frag) (H : Hp) (t : Tr) (v : V) : Prop := ∃ ns, PathV K H v ns ∧ foundV t ns = none
theorem Odd.ext (e : ExtN H H') {t : Tr} {v : V} (h : Odd K H t v) : Odd K H' t v := by
  obtain ⟨ns, a, b⟩ := h
  exact ⟨ns, a.ext e, b⟩
theorem Odd.same (e : Same H H') {t : Tr} {v : V} (h : Odd K H t v) : Odd K H' t v := h.ext (ExtN.of e)
theorem odd_ty {t : Tr} {v : V} {ty : String} (h : TyX K H v (.type ty)) (k : kitB ty "tuple" = some false) : Odd K H t v := ⟨none, ⟨_, h, kit_ty k⟩, rfl⟩
theorem walk_bad : ∀ {ns : List (Option Int)} {t : Tr}, none ∈ ns → walkV t ns = none
  | [], _, h => nomatch h
  | none :: ns, t, _ => by simp only [walkV]
  | some i :: ns, t, h => by
    have m : none ∈ ns := (List.mem_cons.mp h).resolve_left (by simp)
    simp only [walkV]
    split
    · split
      · exact walk_bad m
      · rfl
    · rfl
theorem walk_out {i : Int} {ns : List (Option Int)} {t : Tr} (h : i < 0 ∨ ((kidsT t).length : Int) ≤ i) : walkV t (some i :: ns) = none := by
  simp only [walkV]
  split
  · rename_i h0
    rw [List.getElem?_eq_none (by omega)]
  · rfl
theorem odd_tup {t : Tr} {a : Addr} {xs : List V} {ns : List (Option Int)} (h : H a = some (.tup xs)) (p : Paired (NumAt K H) xs ns) (w : walkV t ns = none) : Odd K H t (.ref a) := ⟨some ns, ⟨a, xs, rfl, h, p⟩, w⟩
theorem num_ty {v : V} {ty : String} (h : TyX K H v (.type ty)) (k : kitB ty "int" = some false) : NumAt K H v none := .inr ⟨_, h, kit_ty k⟩
end
structure AdO where
  fB : Addr
  fDo : Addr
  fH : Addr
  fG : Addr
  fPut : Addr
  fA : Addr
  fdB : FuncData
  fdDo : FuncData
  fdPut : FuncData
  fdA : FuncData
structure TxtOR (P : Program) (w : World) (K : PySem.W.Frag) (mg : Str → Option Value) (base : Heap) (C : Cl5) (CI CP CS : Addr) (a : AdO) : Prop where
  T : TxtT mg C
  T5 : Ty5 K C
  N5 : Na5 K C
  GB : FnOk P w K mg base CX0 1 a.fB a.fdB ["_law_plant"] spBelow
  AB : DefA K mg "_law_below" ["_law_plant"] a.fB a.fdB
  GDo : FnOk P w K mg base CX0 1 a.fDo a.fdDo ["_law_kind_of"] spDoubled
  ADo : DefA K mg "_law_doubled" ["_law_kind_of"] a.fDo a.fdDo
  OH : OwnC K C.T "__contains__" a.fH
  GH : FnR P w K mg base CX0 3 a.fH (spHas K C)
  OG : OwnC K C.T "__getitem__" a.fG
  GG : FnR P w K mg base (L2.CX P w) 3 a.fG (spGet K C CP)
  MPu : Meth K C.T "put" a.fPut
  GPu : FnOk P w K mg base (L2.CX P w) 6 a.fPut a.fdPut ["self", "path", "other"] (spPut K C CI CP)
  BPu : Binds K a.fdPut ["self", "path", "other"] []
  kPu : KBinds K a.fdPut ["self", "path", "other"] ["other", "path"] gPut vPut
  FA : TxtA K mg CI CP CS a.fA a.fdA
def NOR : List Str := ["_law_plant", "_law_one", "_law_wide", "_law_odds", "_law_odd", "_law_told", "_law_each", "_law_box"]
theorem scOR : FnScope NOR ["_law_plant", "_law_one"] (defScope sOddsRight) := ⟨rfl, rfl, rfl, by decide +kernel, rfl, by decide +kernel, by decide +kernel⟩
def stOR (i : Nat) : Stmt := (defBody sOddsRight).getD i (.Pass ⟨0, 0, 0, 0⟩)
abbrev qOR : Str := "_law_odds_right.<locals>.<lambda>"
end K3

namespace K3
open PySem PySem.Spec PyProof.Rows L2 E0
open LamX (ExtN Tabs TabS TabB LamS lamS_by)
section
variable {P : Program} {w : World} {K : PySem.W.Frag} {mg : Str → Option Value} {base : Heap} {C : Cl5} {CI CP CS f c Pt : Addr} {T : List (Addr × Str)} {a : AdO} {A : Around} {outer : List Env} {s : Shared} {H0 : Hp} {E : XK}
theorem or0 (TR : TxtOR P w K mg base C CI CP CS a) (hr : Room 8 (A.deeper (PyProof.Rows.envOfC "_law_odds_right" (defScope sOddsRight) s.heap.objs.size f (.ref c)))) :
    ∃ t : TS, PS (cxOf CX0 P w K mg base NOR "_law_odds_right" (defScope sOddsRight) f (.ref c) A outer s H0 E).nox (stOR 0) t ∧ ∀ (Z : Ends) (H : Hp) (N : Addr → Prop) (v x : V) (t0 : Tr), PlAt N H v t0 → genT t0 → isT t0 = true → (∀ H', Same H H' → Z.nx [some v, some x, some (.int ((kidsT t0).length : Int)), none, none, none, none, none] H') → t Z [some v, some x, none, none, none, none, none, none] H := by
  have hr3 : Room 3 _ := hr.mono (by decide)
  have hr4 : Room 4 _ := hr.mono (by decide)
  have hr1 : Room 1 _ := hr.mono (by decide)
  have big : (1000000 : Nat) < sizeLine := by decide
  refine ⟨_, (ps_set (i := 2) scOR.nd rfl (.inl rfl) (pe_callB call_len_seq (by rfl) TR.T.len PySem.boot_len (pa_cons (pe_call TR.GB hr1 (by rfl) TR.AB.g TR.AB.k TR.AB.b .nil pass0 (pa_cons (L2.pv 0) pa_nil)) pa_nil))), ?_⟩
  intro Z H N v x t0 hv hg h1 k
  obtain ⟨f1, us, rfl⟩ := isT_nd h1
  obtain ⟨ua, uxs, rfl, hua, hNu, hus⟩ := id hv
  have gus := hg.2.2.2.2
  have ul := hg.2.2.2.1
  refine ⟨_, rfl, N, ua, f1, uxs, us, rfl, hua, hus, gens_okP gus, by omega, gens_rl gus, fun H1 kl ks s1 nk hk pk => ?_⟩
  refine ⟨kl, ks, rfl, .inl (SqL.of hk), ?_⟩
  rw [pls_len pk]
  exact k H1 s1
theorem or1 (TR : TxtOR P w K mg base C CI CP CS a) (hr : Room 8 (A.deeper (PyProof.Rows.envOfC "_law_odds_right" (defScope sOddsRight) s.heap.objs.size f (.ref c)))) :
    ∃ t : TS, PS (cxOf CX0 P w K mg base NOR "_law_odds_right" (defScope sOddsRight) f (.ref c) A outer s H0 E).nox (stOR 1) t ∧ ∀ (Z : Ends) (H : Hp) (v x : V) (t0 : Tr), (∀ H' L vs, Same H H' → H' L = some (.lst vs) → vs.length = 16 → (∀ z ∈ vs, Odd K H' t0 z) → Z.nx [some v, some x, some (.int ((kidsT t0).length : Int)), some (.ref L), none, none, none, none] H') → t Z [some v, some x, some (.int ((kidsT t0).length : Int)), none, none, none, none, none] H := by
  have hr3 : Room 3 _ := hr.mono (by decide)
  have hr4 : Room 4 _ := hr.mono (by decide)
  have hr1 : Room 1 _ := hr.mono (by decide)
  have big : (1000000 : Nat) < sizeLine := by decide
  refine ⟨_, (ps_set (i := 3) scOR.nd rfl (.inl rfl) (pe_lst (pa_cons pe_non (pa_cons pe_int (pa_cons pe_bl (pa_cons pe_str (pa_cons pe_str (pa_cons (pe_lst pa_nil) (pa_cons (pe_lst (pa_cons pe_int pa_nil)) (pa_cons pe_dnewK (pa_cons (pe_tup (pa_cons (pe_un un_neg pe_int) pa_nil)) (pa_cons (pe_tup (pa_cons (L2.pv 2) pa_nil)) (pa_cons (pe_tup (pa_cons pe_bl pa_nil)) (pa_cons (pe_tup (pa_cons pe_bl pa_nil)) (pa_cons (pe_tup (pa_cons pe_non pa_nil)) (pa_cons (pe_tup (pa_cons pe_str pa_nil)) (pa_cons (pe_tup (pa_cons pe_int (pa_cons (pe_un un_neg pe_int) pa_nil))) (pa_cons (pe_tup (pa_cons (pe_tup pa_nil) pa_nil)) pa_nil)))))))))))))))))), ?_⟩
  intro Z H v x t0 k
  refine ⟨by decide, fun l1 nl1 => ?_⟩
  have s_1 : Same H (upd H l1 (.lst [])) := same_upd (Same.refl H) nl1
  have v_l1 : (upd H l1 (.lst [])) l1 = some (.lst []) := upd_same
  generalize upd H l1 (.lst []) = H_1 at s_1 v_l1 ⊢
  refine ⟨by show 1 ≤ sizeLine; omega, fun l2 nl2 => ?_⟩
  have s_2 : Same H_1 (upd H_1 l2 (.lst [.int 0])) := same_upd (Same.refl H_1) nl2
  have v_l2 : (upd H_1 l2 (.lst [.int 0])) l2 = some (.lst [.int 0]) := upd_same
  generalize upd H_1 l2 (.lst [.int 0]) = H_2 at s_2 v_l2 ⊢
  have v_l1 := s_2 _ _ v_l1
  refine fun d1 nd1 => ?_
  have s_3 : Same H_2 (upd H_2 d1 (.dK [])) := same_upd (Same.refl H_2) nd1
  have v_d1 : (upd H_2 d1 (.dK [])) d1 = some (.dK []) := upd_same
  generalize upd H_2 d1 (.dK []) = H_3 at s_3 v_d1 ⊢
  have v_l1 := s_3 _ _ v_l1
  have v_l2 := s_3 _ _ v_l2
  refine ⟨1, rfl, by show 1 ≤ sizeLine; omega, fun t1 nt1 => ?_⟩
  have s_4 : Same H_3 (upd H_3 t1 (.tup [.int (-1)])) := same_upd (Same.refl H_3) nt1
  have v_t1 : (upd H_3 t1 (.tup [.int (-1)])) t1 = some (.tup [.int (-1)]) := upd_same
  generalize upd H_3 t1 (.tup [.int (-1)]) = H_4 at s_4 v_t1 ⊢
  have v_l1 := s_4 _ _ v_l1
  have v_l2 := s_4 _ _ v_l2
  have v_d1 := s_4 _ _ v_d1
  refine ⟨_, rfl, by show 1 ≤ sizeLine; omega, fun t2 nt2 => ?_⟩
  have s_5 : Same H_4 (upd H_4 t2 (.tup [.int ((kidsT t0).length : Int)])) := same_upd (Same.refl H_4) nt2
  have v_t2 : (upd H_4 t2 (.tup [.int ((kidsT t0).length : Int)])) t2 = some (.tup [.int ((kidsT t0).length : Int)]) := upd_same
  generalize upd H_4 t2 (.tup [.int ((kidsT t0).length : Int)]) = H_5 at s_5 v_t2 ⊢
  have v_l1 := s_5 _ _ v_l1
  have v_l2 := s_5 _ _ v_l2
  have v_d1 := s_5 _ _ v_d1
  have v_t1 := s_5 _ _ v_t1
  refine ⟨by show 1 ≤ sizeLine; omega, fun t3 nt3 => ?_⟩
  have s_6 : Same H_5 (upd H_5 t3 (.tup [.bl true])) := same_upd (Same.refl H_5) nt3
  have v_t3 : (upd H_5 t3 (.tup [.bl true])) t3 = some (.tup [.bl true]) := upd_same
  generalize upd H_5 t3 (.tup [.bl true]) = H_6 at s_6 v_t3 ⊢
  have v_l1 := s_6 _ _ v_l1
  have v_l2 := s_6 _ _ v_l2
  have v_d1 := s_6 _ _ v_d1
  have v_t1 := s_6 _ _ v_t1
  have v_t2 := s_6 _ _ v_t2
  refine ⟨by show 1 ≤ sizeLine; omega, fun t4 nt4 => ?_⟩
  have s_7 : Same H_6 (upd H_6 t4 (.tup [.bl false])) := same_upd (Same.refl H_6) nt4
  have v_t4 : (upd H_6 t4 (.tup [.bl false])) t4 = some (.tup [.bl false]) := upd_same
  generalize upd H_6 t4 (.tup [.bl false]) = H_7 at s_7 v_t4 ⊢
  have v_l1 := s_7 _ _ v_l1
  have v_l2 := s_7 _ _ v_l2
  have v_d1 := s_7 _ _ v_d1
  have v_t1 := s_7 _ _ v_t1
  have v_t2 := s_7 _ _ v_t2
  have v_t3 := s_7 _ _ v_t3
  refine ⟨by show 1 ≤ sizeLine; omega, fun t5 nt5 => ?_⟩
  have s_8 : Same H_7 (upd H_7 t5 (.tup [.non])) := same_upd (Same.refl H_7) nt5
  have v_t5 : (upd H_7 t5 (.tup [.non])) t5 = some (.tup [.non]) := upd_same
  generalize upd H_7 t5 (.tup [.non]) = H_8 at s_8 v_t5 ⊢
  have v_l1 := s_8 _ _ v_l1
  have v_l2 := s_8 _ _ v_l2
  have v_d1 := s_8 _ _ v_d1
  have v_t1 := s_8 _ _ v_t1
  have v_t2 := s_8 _ _ v_t2
  have v_t3 := s_8 _ _ v_t3
  have v_t4 := s_8 _ _ v_t4
  refine ⟨by show 1 ≤ sizeLine; omega, fun t6 nt6 => ?_⟩
  have s_9 : Same H_8 (upd H_8 t6 (.tup [.str "0"])) := same_upd (Same.refl H_8) nt6
  have v_t6 : (upd H_8 t6 (.tup [.str "0"])) t6 = some (.tup [.str "0"]) := upd_same
  generalize upd H_8 t6 (.tup [.str "0"]) = H_9 at s_9 v_t6 ⊢
  have v_l1 := s_9 _ _ v_l1
  have v_l2 := s_9 _ _ v_l2
  have v_d1 := s_9 _ _ v_d1
  have v_t1 := s_9 _ _ v_t1
  have v_t2 := s_9 _ _ v_t2
  have v_t3 := s_9 _ _ v_t3
  have v_t4 := s_9 _ _ v_t4
  have v_t5 := s_9 _ _ v_t5
  refine ⟨1, rfl, by show 2 ≤ sizeLine; omega, fun t7 nt7 => ?_⟩
  have s_10 : Same H_9 (upd H_9 t7 (.tup [.int 0, .int (-1)])) := same_upd (Same.refl H_9) nt7
  have v_t7 : (upd H_9 t7 (.tup [.int 0, .int (-1)])) t7 = some (.tup [.int 0, .int (-1)]) := upd_same
  generalize upd H_9 t7 (.tup [.int 0, .int (-1)]) = H_10 at s_10 v_t7 ⊢
  have v_l1 := s_10 _ _ v_l1
  have v_l2 := s_10 _ _ v_l2
  have v_d1 := s_10 _ _ v_d1
  have v_t1 := s_10 _ _ v_t1
  have v_t2 := s_10 _ _ v_t2
  have v_t3 := s_10 _ _ v_t3
  have v_t4 := s_10 _ _ v_t4
  have v_t5 := s_10 _ _ v_t5
  have v_t6 := s_10 _ _ v_t6
  refine ⟨by decide, fun t8 nt8 => ?_⟩
  have s_11 : Same H_10 (upd H_10 t8 (.tup [])) := same_upd (Same.refl H_10) nt8
  have v_t8 : (upd H_10 t8 (.tup [])) t8 = some (.tup []) := upd_same
  generalize upd H_10 t8 (.tup []) = H_11 at s_11 v_t8 ⊢
  have v_l1 := s_11 _ _ v_l1
  have v_l2 := s_11 _ _ v_l2
  have v_d1 := s_11 _ _ v_d1
  have v_t1 := s_11 _ _ v_t1
  have v_t2 := s_11 _ _ v_t2
  have v_t3 := s_11 _ _ v_t3
  have v_t4 := s_11 _ _ v_t4
  have v_t5 := s_11 _ _ v_t5
  have v_t6 := s_11 _ _ v_t6
  have v_t7 := s_11 _ _ v_t7
  refine ⟨by show 1 ≤ sizeLine; omega, fun t9 nt9 => ?_⟩
  have s_12 : Same H_11 (upd H_11 t9 (.tup [.ref t8])) := same_upd (Same.refl H_11) nt9
  have v_t9 : (upd H_11 t9 (.tup [.ref t8])) t9 = some (.tup [.ref t8]) := upd_same
  generalize upd H_11 t9 (.tup [.ref t8]) = H_12 at s_12 v_t9 ⊢
  have v_l1 := s_12 _ _ v_l1
  have v_l2 := s_12 _ _ v_l2
  have v_d1 := s_12 _ _ v_d1
  have v_t1 := s_12 _ _ v_t1
  have v_t2 := s_12 _ _ v_t2
  have v_t3 := s_12 _ _ v_t3
  have v_t4 := s_12 _ _ v_t4
  have v_t5 := s_12 _ _ v_t5
  have v_t6 := s_12 _ _ v_t6
  have v_t7 := s_12 _ _ v_t7
  have v_t8 := s_12 _ _ v_t8
  refine ⟨by show 16 ≤ sizeLine; omega, fun L nL => ?_⟩
  have s_13 : Same H_12 (upd H_12 L (.lst [.non, .int 0, .bl true, .str "", .str "0", .ref l1, .ref l2, .ref d1, .ref t1, .ref t2, .ref t3, .ref t4, .ref t5, .ref t6, .ref t7, .ref t9])) := same_upd (Same.refl H_12) nL
  have v_L : (upd H_12 L (.lst [.non, .int 0, .bl true, .str "", .str "0", .ref l1, .ref l2, .ref d1, .ref t1, .ref t2, .ref t3, .ref t4, .ref t5, .ref t6, .ref t7, .ref t9])) L = some (.lst [.non, .int 0, .bl true, .str "", .str "0", .ref l1, .ref l2, .ref d1, .ref t1, .ref t2, .ref t3, .ref t4, .ref t5, .ref t6, .ref t7, .ref t9]) := upd_same
  generalize upd H_12 L (.lst [.non, .int 0, .bl true, .str "", .str "0", .ref l1, .ref l2, .ref d1, .ref t1, .ref t2, .ref t3, .ref t4, .ref t5, .ref t6, .ref t7, .ref t9]) = H_13 at s_13 v_L ⊢
  have v_l1 := s_13 _ _ v_l1
  have v_l2 := s_13 _ _ v_l2
  have v_d1 := s_13 _ _ v_d1
  have v_t1 := s_13 _ _ v_t1
  have v_t2 := s_13 _ _ v_t2
  have v_t3 := s_13 _ _ v_t3
  have v_t4 := s_13 _ _ v_t4
  have v_t5 := s_13 _ _ v_t5
  have v_t6 := s_13 _ _ v_t6
  have v_t7 := s_13 _ _ v_t7
  have v_t8 := s_13 _ _ v_t8
  have v_t9 := s_13 _ _ v_t9
  refine k H_13 L _ (s_1.trans (s_2.trans (s_3.trans (s_4.trans (s_5.trans (s_6.trans (s_7.trans (s_8.trans (s_9.trans (s_10.trans (s_11.trans (s_12.trans (s_13))))))))))))) v_L rfl fun z hz => ?_
  simp only [List.mem_cons, List.not_mem_nil, or_false] at hz
  rcases hz with rfl | rfl | rfl | rfl | rfl | rfl | rfl | rfl | rfl | rfl | rfl | rfl | rfl | rfl | rfl | rfl
  · exact odd_ty (.base .non) (by decide +kernel)
  · exact odd_ty (.base (.int _)) (by decide +kernel)
  · exact odd_ty (.base (.bl _)) (by decide +kernel)
  · exact odd_ty (.base (.str _)) (by decide +kernel)
  · exact odd_ty (.base (.str _)) (by decide +kernel)
  · exact odd_ty (.base (.lst v_l1)) (by decide +kernel)
  · exact odd_ty (.base (.lst v_l2)) (by decide +kernel)
  · exact odd_ty (.base (.dK v_d1)) (by decide +kernel)
  · exact odd_tup (ns := [some (-1)]) v_t1 (.cons rfl .nil) (walk_out (.inl (by omega)))
  · exact odd_tup (ns := [some ((kidsT t0).length : Int)]) v_t2 (.cons rfl .nil) (walk_out (.inr (by omega)))
  · exact odd_tup (ns := [none]) v_t3 (.cons (.inl ⟨_, rfl⟩) .nil) (walk_bad (by simp))
  · exact odd_tup (ns := [none]) v_t4 (.cons (.inl ⟨_, rfl⟩) .nil) (walk_bad (by simp))
  · exact odd_tup (ns := [none]) v_t5 (.cons (num_ty (.base .non) (by decide +kernel)) .nil) (walk_bad (by simp))
  · exact odd_tup (ns := [none]) v_t6 (.cons (num_ty (.base (.str _)) (by decide +kernel)) .nil) (walk_bad (by simp))
  · refine odd_tup (ns := [some 0, some (-1)]) v_t7 (.cons rfl (.cons rfl .nil)) ?_
    simp only [walkV]
    split
    · split
      · rw [if_neg (by omega)]
      · rfl
    · rfl
  · exact odd_tup (ns := [none]) v_t9 (.cons (num_ty (.base (.tup v_t8)) (by decide +kernel)) .nil) (walk_bad (by simp))
theorem or2 (TR : TxtOR P w K mg base C CI CP CS a) (hr : Room 8 (A.deeper (PyProof.Rows.envOfC "_law_odds_right" (defScope sOddsRight) s.heap.objs.size f (.ref c)))) :
    ∃ t : TS, PS (cxOf CX0 P w K mg base NOR "_law_odds_right" (defScope sOddsRight) f (.ref c) A outer s H0 E).nox (stOR 2) t ∧ ∀ (Z : Ends) (H : Hp) (v x : V) (t0 : Tr) (v2 : Option V) (L : Addr) (vs : List V), H L = some (.lst vs) → vs.length = 16 → (∀ z ∈ vs, Odd K H t0 z) → PtAt C H x t0 → genT t0 → isT t0 = true → levels t0 ≤ 100 → size t0 ≤ 400 → (∀ H' L' ws, Same H H' → H' L' = some (.lst ws) → (∀ z ∈ ws, Odd K H' t0 z) → Z.nx [some v, some x, v2, some (.ref L'), none, none, none, none] H') → t Z [some v, some x, v2, some (.ref L), none, none, none, none] H := by
  have hr3 : Room 3 _ := hr.mono (by decide)
  have hr4 : Room 4 _ := hr.mono (by decide)
  have hr1 : Room 1 _ := hr.mono (by decide)
  have big : (1000000 : Nat) < sizeLine := by decide
  refine ⟨_, (ps_set (i := 3) scOR.nd rfl (.inl rfl) (pe_op op_cat (L2.pv 3) (pe_lst (pa_cons (pe_op op_repT (pe_tup (pa_cons pe_int pa_nil)) pe_int) (pa_cons (pe_tup (pa_cons (pe_op op_pow pe_int pe_int) pa_nil)) (pa_cons (pe_tup (pa_cons (pe_tup (pa_cons pe_int pa_nil)) pa_nil)) (pa_cons (pe_call TR.GDo hr1 (by rfl) TR.ADo.g TR.ADo.k TR.ADo.b .nil pass0 (pa_cons pe_int pa_nil)) (pa_cons (pe_call TR.GDo hr1 (by rfl) TR.ADo.g TR.ADo.k TR.ADo.b .nil pass0 (pa_cons pe_int pa_nil)) (pa_cons (L2.pv 1) pa_nil))))))))), ?_⟩
  intro Z H v x t0 v2 L vs v_L vl ods hx hg h1 hlv hsz k
  refine ⟨_, rfl, ?_⟩
  refine ⟨by show 1 ≤ sizeLine; omega, fun t1 nt1 => ?_⟩
  have s_1 : Same H (upd H t1 (.tup [.int 0])) := same_upd (Same.refl H) nt1
  have v_t1 : (upd H t1 (.tup [.int 0])) t1 = some (.tup [.int 0]) := upd_same
  generalize upd H t1 (.tup [.int 0]) = H_1 at s_1 v_t1 ⊢
  refine ⟨t1, 101, _, rfl, rfl, SqT.of v_t1, by simp, by decide, by decide, by decide, fun t2 nt2 => ?_⟩
  have s_2 : Same H_1 (upd H_1 t2 (.tup (List.replicate (101 : Int).toNat [V.int 0]).flatten)) := same_upd (Same.refl H_1) nt2
  have v_t2 : (upd H_1 t2 (.tup (List.replicate (101 : Int).toNat [V.int 0]).flatten)) t2 = some (.tup (natV (List.replicate 101 0))) := by
    rw [upd_same, show (List.replicate (101 : Int).toNat [V.int 0]).flatten = natV (List.replicate 101 0) from by decide +kernel]
  generalize upd H_1 t2 (.tup (List.replicate (101 : Int).toNat [V.int 0]).flatten) = H_2 at s_2 v_t2 ⊢
  refine ⟨10, 30, rfl, rfl, ⟨by decide, by decide, by decide⟩, by show 1 ≤ sizeLine; omega, fun t3 nt3 => ?_⟩
  have s_3 : Same H_2 (upd H_2 t3 (.tup [.int (10 ^ (30 : Int).toNat)])) := same_upd (Same.refl H_2) nt3
  have v_t3 : (upd H_2 t3 (.tup [.int (10 ^ (30 : Int).toNat)])) t3 = some (.tup [.int (10 ^ (30 : Int).toNat)]) := upd_same
  generalize upd H_2 t3 (.tup [.int (10 ^ (30 : Int).toNat)]) = H_3 at s_3 v_t3 ⊢
  have v_t2 := s_3 _ _ v_t2
  refine ⟨by show 1 ≤ sizeLine; omega, fun t4 nt4 => ?_⟩
  have s_4 : Same H_3 (upd H_3 t4 (.tup [.int 0])) := same_upd (Same.refl H_3) nt4
  have v_t4 : (upd H_3 t4 (.tup [.int 0])) t4 = some (.tup [.int 0]) := upd_same
  generalize upd H_3 t4 (.tup [.int 0]) = H_4 at s_4 v_t4 ⊢
  have v_t2 := s_4 _ _ v_t2
  have v_t3 := s_4 _ _ v_t3
  refine ⟨by show 1 ≤ sizeLine; omega, fun t5 nt5 => ?_⟩
  have s_5 : Same H_4 (upd H_4 t5 (.tup [.ref t4])) := same_upd (Same.refl H_4) nt5
  have v_t5 : (upd H_4 t5 (.tup [.ref t4])) t5 = some (.tup [.ref t4]) := upd_same
  generalize upd H_4 t5 (.tup [.ref t4]) = H_5 at s_5 v_t5 ⊢
  have v_t2 := s_5 _ _ v_t2
  have v_t3 := s_5 _ _ v_t3
  have v_t4 := s_5 _ _ v_t4
  refine ⟨1, by decide, rfl, fun H_6 q1 xs1 s_6 nq1 v_q1 _ => ?_⟩
  rw [if_neg (by decide)] at v_q1
  have v_t2 := s_6 _ _ v_t2
  have v_t3 := s_6 _ _ v_t3
  have v_t4 := s_6 _ _ v_t4
  have v_t5 := s_6 _ _ v_t5
  refine ⟨0, by decide, rfl, fun H_7 q2 xs2 s_7 nq2 v_q2 in2 => ?_⟩
  rw [if_pos rfl] at v_q2
  obtain ⟨q3, ys3, rfl, v_q3⟩ := in2 rfl
  have v_t2 := s_7 _ _ v_t2
  have v_t3 := s_7 _ _ v_t3
  have v_t4 := s_7 _ _ v_t4
  have v_t5 := s_7 _ _ v_t5
  have v_q1 := s_7 _ _ v_q1
  refine ⟨_, rfl, ?_⟩
  refine ⟨by show 6 ≤ sizeLine; omega, fun L2 nL2 => ?_⟩
  have s_8 : Same H_7 (upd H_7 L2 (.lst [.ref t2, .ref t3, .ref t5, .ref q1, .ref q2, x])) := same_upd (Same.refl H_7) nL2
  have v_L2 : (upd H_7 L2 (.lst [.ref t2, .ref t3, .ref t5, .ref q1, .ref q2, x])) L2 = some (.lst [.ref t2, .ref t3, .ref t5, .ref q1, .ref q2, x]) := upd_same
  generalize upd H_7 L2 (.lst [.ref t2, .ref t3, .ref t5, .ref q1, .ref q2, x]) = H_8 at s_8 v_L2 ⊢
  have v_t2 := s_8 _ _ v_t2
  have v_t3 := s_8 _ _ v_t3
  have v_t4 := s_8 _ _ v_t4
  have v_t5 := s_8 _ _ v_t5
  have v_q1 := s_8 _ _ v_q1
  have v_q2 := s_8 _ _ v_q2
  have v_q3 := s_8 _ _ v_q3
  have sA := s_1.trans (s_2.trans (s_3.trans (s_4.trans (s_5.trans (s_6.trans (s_7.trans (s_8)))))))
  refine ⟨L, L2, _, _, rfl, rfl, sA _ _ v_L, v_L2, by show vs.length + 6 ≤ sizeLine; omega, fun L3 nL3 => ?_⟩
  have sB := same_upd (o := .lst (vs ++ [.ref t2, .ref t3, .ref t5, .ref q1, .ref q2, x])) (Same.refl _) nL3
  refine k _ L3 _ (sA.trans sB) upd_same fun z hz => ?_
  rcases List.mem_append.mp hz with hz | hz
  · exact ((ods z hz).same sA).same sB
  refine Odd.same sB ?_
  simp only [List.mem_cons, List.not_mem_nil, or_false] at hz
  rcases hz with rfl | rfl | rfl | rfl | rfl | rfl
  · refine ⟨some (natN (List.replicate 101 0)), ⟨t2, _, rfl, v_t2, path_num _⟩, ?_⟩
    rw [found_nat]
    cases e : atP t0 (List.replicate 101 0) with
    | none => rfl
    | some u =>
      have := (atP_gen hg h1 e).2.2.2.1
      rw [List.length_replicate] at this
      omega
  · refine odd_tup (ns := [some (10 ^ 30)]) v_t3 (.cons rfl .nil) (walk_out (.inr ?_))
    obtain ⟨f1, us, rfl⟩ := isT_nd h1
    have q1 := sizes_len _ (gens_below hg.2.2.2.2).2
    have q2 := (below_ok fun p m => gen_okP (gens_mem hg.2.2.2.2 m)).1
    simp only [size] at hsz
    show ((below us).length : Int) ≤ 10 ^ 30
    omega
  · exact odd_tup (ns := [none]) v_t5 (.cons (num_ty (.base (.tup v_t4)) (by decide +kernel)) .nil) (walk_bad (by simp))
  · exact odd_ty (.base (.lst v_q1)) (by decide +kernel)
  · exact odd_tup (ns := [none, none]) v_q2 (.cons (num_ty (.base (.tup v_q3)) (by decide +kernel)) (.cons (num_ty (.base (.tup v_q3)) (by decide +kernel)) .nil)) (walk_bad (by simp))
  · have hx8 := PtAt.kpo (KpO.same sA) _ hx
    obtain ⟨f1, us, rfl⟩ := isT_nd h1
    exact ⟨none, ⟨_, PtAt.ty TR.T5 hx8, TR.T5.tup _ (C.n_mem false)⟩, rfl⟩
end
end K3

namespace K3
open PySem PySem.Spec PyProof.Rows L2 E0
open LamX (ExtN Tabs TabS TabB LamS lamS_by)
theorem fault_path {CI CP : Addr} {tl : XK → Hp → VK → Prop} {v : V} {H : Hp} {Q : VK} (ht : ∀ (H0 : Hp) (E' : XK) (Q' : VK), Same H H0 → (∀ H' dd, Same H0 H' → H0 dd = none → H' dd = some (.xd [("value", v)]) → E' (.ref CP) (some dd) H') → tl E' H0 Q') (k : ∀ H' p, Same H H' → H p = none → H' p = some (.tup [.str "path", v]) → Q (.ref p) H') : TFault CI CP tl H Q := by
  intro H0 E' Q' s0 _ hP _
  exact ht H0 E' Q' s0 fun H' dd s nd hd => hP dd v H' hd fun H'' p s' np hp => k H'' p (s0.trans (s.trans s')) ((s0.trans s).free np) hp
section
variable {P : Program} {w : World} {K : PySem.W.Frag} {mg : Str → Option Value} {base : Heap} {C : Cl5} {CI CP CS f c Pt : Addr} {T : List (Addr × Str)} {a : AdO} {A : Around} {outer : List Env} {s : Shared} {H0 : Hp} {E : XK}
theorem or3 (TR : TxtOR P w K mg base C CI CP CS a) (TB : TabB base mg c Pt) (hmT : (Pt, qOR) ∈ T) (hu : ∀ p ∈ T, p.1 = Pt → p.2 = qOR) (hr : Room 8 (A.deeper (PyProof.Rows.envOfC "_law_odds_right" (defScope sOddsRight) s.heap.objs.size f (.ref c)))) :
    ∃ t : TS, PS (cxOf CX0 P w K mg base NOR "_law_odds_right" (defScope sOddsRight) f (.ref c) A outer s H0 E).nox (stOR 3) t ∧ ∀ (Z : Ends) (H : Hp) (v x : V) (t0 : Tr) (v2 : Option V) (L : Addr) (ws : List V), H L = some (.lst ws) → (∀ z ∈ ws, Odd K H t0 z) → PtAt C H x t0 → NoF C H x → genT t0 → isT t0 = true → size t0 ≤ 400 → Tabs T H →
      (∀ H' (v4 v5 v6 : Option V), ExtN H H' → Tabs T H' → Z.nx [some v, some x, v2, some (.ref L), v4, v5, v6, none] H') → t Z [some v, some x, v2, some (.ref L), none, none, none, none] H := by
  have hr3 : Room 3 _ := hr.mono (by decide)
  have hr4 : Room 4 _ := hr.mono (by decide)
  have hr1 : Room 1 _ := hr.mono (by decide)
  have big : (1000000 : Nat) < sizeLine := by decide
  refine ⟨_, (ps_for PassesOwn.never rfl (pi_list (L2.pv 3)) (pg_name (i := 4) scOR.nd rfl (.inr rfl)) (pss_cons (ps_set (i := 5) scOR.nd rfl (.inl rfl) (pe_lst (pa_cons (pe_fault (t := (fun E => tOp (rIxO C.T (spGet K C CP) E) (tVar 1) (tVar 4))) (k := 6) TR.FA rfl TB rfl hmT hu hr (lamS_by (sc := defScope sOddsRight) (by decide +kernel)) rfl (fun _ _ _ _ _ => rfl) (fun _ _ _ _ E _ _ hr' => (pe_ixO (E := E) TR.OG TR.GG (hr'.mono (by decide)) (passes_call (takes_of rfl rfl rfl rfl) (fun _ _ _ _ q => q)) (L2.pv 1) (L2.pv 4)))) (pa_cons (pe_faultD (t := (fun E => tMeth C.T "put" (spPut K C CI CP) [] E (tVar 1) (tCons (tVar 4) (tCons (tVar 1) tNil)))) (k := 6) TR.FA rfl TB rfl hmT hu hr (lamD_by (sc := defScope sOddsRight) (N := NOR) (y := "_law_n") (by decide +kernel)) rfl rfl (fun _ _ _ _ _ _ _ => ⟨_, rfl, rfl⟩) (fun _ _ _ _ E _ _ hr' => (pe_meth (E := E) (L2.pv 1) (TR.T5.own _ (C.n_mem false)).cl TR.MPu TR.GPu (hr'.mono (by decide)) TR.BPu .nil (passes_call (takes_of rfl rfl rfl rfl) (fun _ _ _ _ q => q)) (pa_cons (L2.pv 4) (pa_cons (L2.pv 1) pa_nil))))) pa_nil)))) (pss_cons (ps_expr (pe_bm PySem.F.plainAttrs_list PySem.F.slot_list_append PySem.F.type_list_append mt_append (L2.pv 5) (pa_cons (pe_fault (t := (fun E => tMethK C.T "put" (spPut K C CI CP) vPut E (tVar 1) (tCons (tVar 1) (tCons (tVar 4) tNil)))) (k := 6) TR.FA rfl TB rfl hmT hu hr (lamS_by (sc := defScope sOddsRight) (by decide +kernel)) rfl (fun _ _ _ _ _ => rfl) (fun _ _ _ _ E _ _ hr' => (pe_methKw (E := E) (L2.pv 1) (TR.T5.own _ (C.n_mem false)).cl TR.MPu TR.GPu (hr'.mono (by decide)) TR.kPu (passes_call (takes_of rfl rfl rfl rfl) (fun _ _ _ _ q => q)) (pk_cons (L2.pv 1) (pk_cons (L2.pv 4) pk_nil))))) pa_nil))) (pss_one (ps_if (PW.pt (pw_or (pt_cmpR (op_inO (E := E0) TR.OH TR.GH hr3 pass0) (L2.pv 4) (L2.pv 1) (by with_unfolding_all rfl)) (pw_or1 (pt_cmpR (op_neD hr.units) (pe_lc (own := [("_law_each", 6)]) (g := gName 6) (tt := tOr (tNot (tB (tCB (rIsi K) (tCons (tVar 6) (tCons (tC (.ty "tuple")) tNil))))) (tTest (tOp rNe (tOp (rIxT K) (tVar 6) (tC (.int 0))) (tC (.str "path"))))) (te := tC (.int 1)) rfl scOR.nd (pi_list (L2.pv 5)) (blkOk_by (N := NOR) (sc := defScope sOddsRight) (by decide +kernel)) (fun _ _ _ _ _ => pg_name (i := 6) scOR.nd rfl (Or.inl rfl)) (fun _ _ _ _ _ => pts_one (PW.pt (pw_or (pt_not (pt_val (pe_callB call_isi (by rfl) TR.T.isi PyProof.Rows.boot_isinstance (pa_cons (L2.pv 6) (pa_cons (pe_bltn (v := .ty "tuple") rfl TR.T.tup PyProof.Rows.boot_tuple rfl) pa_nil))))) (pw_or1 (pt_cmpR op_ne (pe_ix ix_tup (L2.pv 6) pe_int (fun _ _ => rfl)) pe_str (nomark _)))))) (fun _ _ _ _ _ => pe_int)) (pe_lst pa_nil) (nomark _))))) (pss_one (ps_ret pe_bl)) pss_nil))))), ?_⟩
  intro Z H v x t0 v2 L ws hL ods hx hn hg h1 hsz tabs k
  obtain ⟨x0, dx, fs, rfl, hx0, nfe, nfp⟩ := id hn
  refine ⟨_, rfl, L, rfl, ⟨_, SqL.of hL⟩, for_list (K := K) (a := L) (xs := ws) (fun i σ H' => ∃ (v4 v5 v6 : Option V), σ = [some v, some (.ref x0), v2, some (.ref L), v4, v5, v6, none] ∧ ExtN H H' ∧ Tabs T H') ⟨none, none, none, rfl, ExtN.refl H, tabs⟩ (fun i σ H' _ ⟨_, _, _, _, e', _⟩ => SqL.of (e' _ _ hL nofun)) ?_ ?_⟩
  · rintro i z σ H1 hz ⟨v4, v5, v6, rfl, e1, tb1⟩
    have od1 := (ods z (List.mem_of_getElem? hz)).ext e1
    have hx1 := PtAt.kpo (KpO.ext e1) _ hx
    have i1 := e1 _ _ hx0 nofun
    -- the three calls
    refine ⟨tb1, fun H2 e2 tb2 => fault_path (v := z) (fun H3 E' Q' s3 hE => ?_) (fun H3 q1 s3 nq1 told1 => ?_)⟩
    · obtain ⟨ns, pv, fn⟩ := (od1.ext e2).same s3
      refine ⟨_, rfl, _, rfl, x0, dx, fs, rfl, s3 _ _ (e2 _ _ i1 nofun), .ref x0, z, t0, ns, rfl, PtAt.kpo (KpO.same s3) _ (PtAt.kpo (KpO.ext e2) _ hx1), hg, h1, pv, ?_⟩
      rw [fn]
      exact hE
    have e3 : ExtN H1 H3 := e2.trans (ExtN.of s3)
    have tb3 := tb2.ext s3
    refine ⟨tb3, fun H4 e4 tb4 => fault_path (v := z) (fun H5 E' Q' s5 hE => ?_) (fun H5 q2 s5 nq2 told2 => ?_)⟩
    · obtain ⟨ns, pv, fn⟩ := ((od1.ext e3).ext e4).same s5
      have e5 : ExtN H1 H5 := e3.trans (e4.trans (ExtN.of s5))
      have hx5 := PtAt.kpo (KpO.ext e5) _ hx1
      exact ⟨_, rfl, x0, dx, fs, rfl, e5 _ _ i1 nofun, nfp, _, rfl, _, rfl, .ref x0, z, .ref x0, t0, t0, rfl, hx5, hg, h1, by omega, hx5, hg, h1, by omega, .inl ⟨ns, pv, fn, hE⟩⟩
    have e5 : ExtN H1 H5 := e3.trans (e4.trans (ExtN.of s5))
    have tb5 := tb4.ext s5
    have t1 : H5 q1 = some (.tup [.str "path", z]) := s5 _ _ (e4 _ _ told1 nofun)
    refine ⟨by show 2 ≤ sizeLine; omega, fun L1 nL1 => ?_⟩
    have s6 : Same H5 (upd H5 L1 (.lst [.ref q1, .ref q2])) := same_upd (Same.refl H5) nL1
    have v6' : (upd H5 L1 (.lst [.ref q1, .ref q2])) L1 = some (.lst [.ref q1, .ref q2]) := upd_same
    generalize upd H5 L1 (.lst [.ref q1, .ref q2]) = H6 at s6 v6' ⊢
    have tb6 := tb5.ext s6
    have e6 : ExtN H1 H6 := e5.trans (ExtN.of s6)
    refine ⟨_, rfl, .inl ⟨rfl, _, SqL.of v6'⟩, tb6, fun H7 e7 tb7 => fault_path (v := z) (fun H8 E' Q' s8 hE => ?_) (fun H8 q3 s8 nq3 told3 => ?_)⟩
    · obtain ⟨ns, pv, fn⟩ := ((od1.ext e6).ext e7).same s8
      have e8 : ExtN H1 H8 := e6.trans (e7.trans (ExtN.of s8))
      have hx8 := PtAt.kpo (KpO.ext e8) _ hx1
      exact ⟨_, rfl, x0, dx, fs, rfl, e8 _ _ i1 nofun, nfp, _, rfl, _, rfl, .ref x0, z, .ref x0, t0, t0, rfl, hx8, hg, h1, by omega, hx8, hg, h1, by omega, .inl ⟨ns, pv, fn, hE⟩⟩
    have e58 : ExtN H6 H8 := e7.trans (ExtN.of s8)
    have e8 : ExtN H1 H8 := e6.trans e58
    have tb8 := tb7.ext s8
    have v8 : H8 L1 = some (.lst [.ref q1, .ref q2]) := e58 _ _ v6' nofun
    have a1 : H8 q1 = some (.tup [.str "path", z]) := e58 _ _ (s6 _ _ t1) nofun
    have a2 : H8 q2 = some (.tup [.str "path", z]) := e58 _ _ (s6 _ _ told2) nofun
    have n1 : q1 ≠ L1 := fun e => by rw [e, v8] at a1; cases a1
    have n2 : q2 ≠ L1 := fun e => by rw [e, v8] at a2; cases a2
    have n3 : q3 ≠ L1 := fun e => by rw [e, v8] at told3; cases told3
    refine ⟨L1, _, _, rfl, rfl, v8, by show 2 < sizeLine; omega, ?_⟩
    have e9 : ExtN H1 (upd H8 L1 (.lst ([.ref q1, .ref q2] ++ [.ref q3]))) := ext_upd e5 nL1 e8
    have tb9 : Tabs T (upd H8 L1 (.lst ([.ref q1, .ref q2] ++ [.ref q3]))) := tabs_lst tb8 v8
    have v9 : (upd H8 L1 (.lst ([.ref q1, .ref q2] ++ [.ref q3]))) L1 = some (.lst [.ref q1, .ref q2, .ref q3]) := upd_same
    have b1 : (upd H8 L1 (.lst ([.ref q1, .ref q2] ++ [.ref q3]))) q1 = some (.tup [.str "path", z]) := by rw [upd_ne n1]; exact a1
    have b2 : (upd H8 L1 (.lst ([.ref q1, .ref q2] ++ [.ref q3]))) q2 = some (.tup [.str "path", z]) := by rw [upd_ne n2]; exact a2
    have b3 : (upd H8 L1 (.lst ([.ref q1, .ref q2] ++ [.ref q3]))) q3 = some (.tup [.str "path", z]) := by rw [upd_ne n3]; exact told3
    generalize upd H8 L1 (.lst ([.ref q1, .ref q2] ++ [.ref q3])) = H9 at e9 tb9 v9 b1 b2 b3 ⊢
    obtain ⟨ns, pv, fn⟩ := od1.ext e9
    refine ⟨_, rfl, _, rfl, x0, dx, fs, rfl, e9 _ _ i1 nofun, .ref x0, z, t0, ns, rfl, PtAt.kpo (KpO.ext e9) _ hx1, hg, h1, pv, false, by rw [fn]; rfl, _, rfl, ?_⟩
    refine iteF ?_
    refine ⟨_, rfl, L1, rfl, ⟨_, SqL.of v9⟩, fun D hD => lc_list (K := K) (a := L1) (xs := [.ref q1, .ref q2, .ref q3]) (fun i H' => Same H9 H' ∧ H' D = some (.lst [])) ⟨same_upd (Same.refl H9) hD, upd_same⟩ (fun i H' _ ⟨s', _⟩ => SqL.of (s' _ _ v9)) ?_ ?_⟩
    · rintro j y H10 hy ⟨s10, vD⟩
      have hq : ∃ q, y = .ref q ∧ H9 q = some (.tup [.str "path", z]) := by
        have m := List.mem_of_getElem? hy
        simp only [List.mem_cons, List.not_mem_nil, or_false] at m
        rcases m with rfl | rfl | rfl
        · exact ⟨_, rfl, b1⟩
        · exact ⟨_, rfl, b2⟩
        · exact ⟨_, rfl, b3⟩
      obtain ⟨q, rfl, hq⟩ := hq
      have hq' := s10 _ _ hq
      refine ⟨rfl, ?_⟩
      refine ⟨_, rfl, _, _, _, _, true, rfl, .ty "tuple", .base (.tup hq'), kit_ty (r := true) (by decide +kernel), _, rfl, ?_⟩
      refine iteF ?_
      refine ⟨_, rfl, q, _, 0, .str "path", rfl, rfl, SqT.of hq', atI_nat (j := 0) rfl, rfl, _, rfl, ?_⟩
      rw [decide_eq_true rfl]
      refine iteF ?_
      exact ⟨s10, vD⟩
    rintro H10 ⟨s10, vD⟩
    refine ⟨by decide, fun e he => ?_⟩
    have s11 : Same H10 (upd H10 e (.lst [])) := same_upd (Same.refl H10) he
    refine ⟨_, _, .lst (SqL.of (s11 _ _ vD)) .nil, .lst (SqL.of upd_same) .nil, by decide +kernel, by decide +kernel, _, rfl, ?_⟩
    rw [show PyData.eqv (.list []) (.list []) = true from rfl]
    refine iteF ?_
    exact ⟨_, _, _, rfl, e1.trans (e9.trans (ExtN.of (s10.trans s11))), (tb9.ext s10).ext s11⟩
  · rintro σ H1 ⟨v4, v5, v6, rfl, e1, tb1⟩
    exact k H1 v4 v5 v6 e1 tb1
end
end K3

namespace K3
open PySem PySem.Spec PyProof.Rows L2 E0
open LamX (ExtN Tabs TabS TabB LamS lamS_by)
section
variable {P : Program} {w : World} {K : PySem.W.Frag} {mg : Str → Option Value} {base : Heap} {C : Cl5} {CI CP CS f c Pt : Addr} {T : List (Addr × Str)} {a : AdO} {A : Around} {outer : List Env} {s : Shared} {H0 : Hp} {E : XK}
theorem or4 (TR : TxtOR P w K mg base C CI CP CS a) (TB : TabB base mg c Pt) (hmT : (Pt, qOR) ∈ T) (hu : ∀ p ∈ T, p.1 = Pt → p.2 = qOR) (hr : Room 8 (A.deeper (PyProof.Rows.envOfC "_law_odds_right" (defScope sOddsRight) s.heap.objs.size f (.ref c)))) (hc : c = c) :
    ∃ t : TS, PSs (cxOf CX0 P w K mg base NOR "_law_odds_right" (defScope sOddsRight) f (.ref c) A outer s H0 E).nox [stOR 4, stOR 5, stOR 6, stOR 7] t ∧ ∀ (Z : Ends) (H : Hp) (v x : V) (t0 : Tr) (v2 v3 v4 v5 v6 : Option V), PtAt C H x t0 → NoF C H x → genT t0 → isT t0 = true → size t0 ≤ 400 → Tabs T H →
      (∀ H', ExtN H H' → Tabs T H' → Z.rt (.bl true) H') → t Z [some v, some x, v2, v3, v4, v5, v6, none] H := by
  have hr3 : Room 3 _ := hr.mono (by decide)
  have hr4 : Room 4 _ := hr.mono (by decide)
  have hr1 : Room 1 _ := hr.mono (by decide)
  have big : (1000000 : Nat) < sizeLine := by decide
  refine ⟨_, (pss_cons (ps_set (i := 7) scOR.nd rfl (.inr rfl) (pe_lst (pa_cons pe_int pa_nil))) (pss_cons (ps_set (i := 5) scOR.nd rfl (.inl rfl) (pe_lst (pa_cons (pe_fault (t := (fun E => tOp (rIxO C.T (spGet K C CP) E) (tVar 1) (tVar 7))) (k := 6) TR.FA rfl TB rfl hmT hu hr (lamS_by (sc := defScope sOddsRight) (by decide +kernel)) rfl (fun _ _ _ _ _ => rfl) (fun _ _ _ _ E _ _ hr' => (pe_ixO (E := E) TR.OG TR.GG (hr'.mono (by decide)) (passes_call (takes_of rfl rfl rfl rfl) (fun _ _ _ _ q => q)) (L2.pv 1) (L2.pv 7)))) (pa_cons (pe_faultD (t := (fun E => tMeth C.T "put" (spPut K C CI CP) [] E (tVar 1) (tCons (tVar 7) (tCons (tVar 1) tNil)))) (k := 6) TR.FA rfl TB rfl hmT hu hr (lamD_by (sc := defScope sOddsRight) (N := NOR) (y := "_law_n") (by decide +kernel)) rfl rfl (fun _ _ _ _ _ _ _ => ⟨_, rfl, rfl⟩) (fun _ _ _ _ E _ _ hr' => (pe_meth (E := E) (L2.pv 1) (TR.T5.own _ (C.n_mem false)).cl TR.MPu TR.GPu (hr'.mono (by decide)) TR.BPu .nil (passes_call (takes_of rfl rfl rfl rfl) (fun _ _ _ _ q => q)) (pa_cons (L2.pv 7) (pa_cons (L2.pv 1) pa_nil))))) pa_nil)))) (pss_cons (ps_expr (pe_bm PySem.F.plainAttrs_list PySem.F.slot_list_append PySem.F.type_list_append mt_append (L2.pv 7) (pa_cons pe_int pa_nil))) (pss_one (ps_ret (pe_cmpR (op_eqD hr.units) (L2.pv 5) (pe_op op_rep (pe_lst (pa_cons (pe_tup (pa_cons pe_str (pa_cons (pe_lst (pa_cons pe_int (pa_cons pe_int pa_nil))) pa_nil))) pa_nil)) pe_int) (nomark _))))))), ?_⟩
  intro Z H v x t0 v2 v3 v4 v5 v6 hx hn hg h1 hsz tabs k
  obtain ⟨x0, dx, fs, rfl, hx0, nfe, nfp⟩ := id hn
  refine ⟨by show 1 ≤ sizeLine; omega, fun b nb => ?_⟩
  have s1 : Same H (upd H b (.lst [.int 0])) := same_upd (Same.refl H) nb
  have w1 : (upd H b (.lst [.int 0])) b = some (.lst [.int 0]) := upd_same
  generalize upd H b (.lst [.int 0]) = H1 at s1 w1 ⊢
  have od1 : Odd K H1 t0 (.ref b) := odd_ty (.base (.lst w1)) (by decide +kernel)
  have tb1 := tabs.ext s1
  have hx1 := PtAt.kpo (KpO.same s1) _ hx
  have i1 := s1 _ _ hx0
  refine ⟨tb1, fun H2 e2 tb2 => fault_path (v := .ref b) (fun H3 E' Q' s3 hE => ?_) (fun H3 q1 s3 nq1 told1 => ?_)⟩
  · obtain ⟨ns, pv, fn⟩ := (od1.ext e2).same s3
    refine ⟨_, rfl, _, rfl, x0, dx, fs, rfl, s3 _ _ (e2 _ _ i1 nofun), .ref x0, .ref b, t0, ns, rfl, PtAt.kpo (KpO.same s3) _ (PtAt.kpo (KpO.ext e2) _ hx1), hg, h1, pv, ?_⟩
    rw [fn]
    exact hE
  have e3 : ExtN H1 H3 := e2.trans (ExtN.of s3)
  have tb3 := tb2.ext s3
  refine ⟨tb3, fun H4 e4 tb4 => fault_path (v := .ref b) (fun H5 E' Q' s5 hE => ?_) (fun H5 q2 s5 nq2 told2 => ?_)⟩
  · obtain ⟨ns, pv, fn⟩ := ((od1.ext e3).ext e4).same s5
    have e5 : ExtN H1 H5 := e3.trans (e4.trans (ExtN.of s5))
    have hx5 := PtAt.kpo (KpO.ext e5) _ hx1
    exact ⟨_, rfl, x0, dx, fs, rfl, e5 _ _ i1 nofun, nfp, _, rfl, _, rfl, .ref x0, .ref b, .ref x0, t0, t0, rfl, hx5, hg, h1, by omega, hx5, hg, h1, by omega, .inl ⟨ns, pv, fn, hE⟩⟩
  have e5 : ExtN H1 H5 := e3.trans (e4.trans (ExtN.of s5))
  have tb5 := tb4.ext s5
  have t1 : H5 q1 = some (.tup [.str "path", .ref b]) := s5 _ _ (e4 _ _ told1 nofun)
  refine ⟨by show 2 ≤ sizeLine; omega, fun L1 nL1 => ?_⟩
  have s6 : Same H5 (upd H5 L1 (.lst [.ref q1, .ref q2])) := same_upd (Same.refl H5) nL1
  have v6' : (upd H5 L1 (.lst [.ref q1, .ref q2])) L1 = some (.lst [.ref q1, .ref q2]) := upd_same
  generalize upd H5 L1 (.lst [.ref q1, .ref q2]) = H6 at s6 v6' ⊢
  have tb6 := tb5.ext s6
  have e6 : ExtN H1 H6 := e5.trans (ExtN.of s6)
  have w6 := e6 _ _ w1 nofun
  have a1 := s6 _ _ t1
  have a2 := s6 _ _ told2
  refine ⟨_, rfl, .inl ⟨rfl, _, SqL.of w6⟩, b, _, _, rfl, rfl, w6, by show 1 < sizeLine; omega, ?_⟩
  have e7 : ExtN H (upd H6 b (.lst ([.int 0] ++ [.int 1]))) := ext_upd (ExtN.refl H) nb ((ExtN.of s1).trans e6)
  have tb7 : Tabs T (upd H6 b (.lst ([.int 0] ++ [.int 1]))) := tabs_lst tb6 w6
  have w7 : (upd H6 b (.lst ([.int 0] ++ [.int 1]))) b = some (.lst [.int 0, .int 1]) := upd_same
  have n1 : q1 ≠ b := fun e => by rw [e, w6] at a1; cases a1
  have n2 : q2 ≠ b := fun e => by rw [e, w6] at a2; cases a2
  have n3 : L1 ≠ b := fun e => by rw [e, w6] at v6'; cases v6'
  have b1 : (upd H6 b (.lst ([.int 0] ++ [.int 1]))) q1 = some (.tup [.str "path", .ref b]) := by rw [upd_ne n1]; exact a1
  have b2 : (upd H6 b (.lst ([.int 0] ++ [.int 1]))) q2 = some (.tup [.str "path", .ref b]) := by rw [upd_ne n2]; exact a2
  have b3 : (upd H6 b (.lst ([.int 0] ++ [.int 1]))) L1 = some (.lst [.ref q1, .ref q2]) := by rw [upd_ne n3]; exact v6'
  generalize upd H6 b (.lst ([.int 0] ++ [.int 1])) = H7 at e7 tb7 w7 b1 b2 b3 ⊢
  refine ⟨_, rfl, by show 2 ≤ sizeLine; omega, fun c1 nc1 => ?_⟩
  have s8 : Same H7 (upd H7 c1 (.lst [.int 0, .int 1])) := same_upd (Same.refl H7) nc1
  have w8 : (upd H7 c1 (.lst [.int 0, .int 1])) c1 = some (.lst [.int 0, .int 1]) := upd_same
  generalize upd H7 c1 (.lst [.int 0, .int 1]) = H8 at s8 w8 ⊢
  refine ⟨by show 2 ≤ sizeLine; omega, fun c2 nc2 => ?_⟩
  have s9 : Same H8 (upd H8 c2 (.tup [.str "path", .ref c1])) := same_upd (Same.refl H8) nc2
  have w9 : (upd H8 c2 (.tup [.str "path", .ref c1])) c2 = some (.tup [.str "path", .ref c1]) := upd_same
  generalize upd H8 c2 (.tup [.str "path", .ref c1]) = H9 at s9 w9 ⊢
  refine ⟨by show 1 ≤ sizeLine; omega, fun c3 nc3 => ?_⟩
  have s10 : Same H9 (upd H9 c3 (.lst [.ref c2])) := same_upd (Same.refl H9) nc3
  have w10 : (upd H9 c3 (.lst [.ref c2])) c3 = some (.lst [.ref c2]) := upd_same
  generalize upd H9 c3 (.lst [.ref c2]) = H10 at s10 w10 ⊢
  refine ⟨c3, 2, _, rfl, rfl, w10, by decide, by decide, by show 1 * 2 ≤ sizeLine; omega, fun c4 nc4 => ?_⟩
  have s11 : Same H10 (upd H10 c4 (.lst (List.replicate (2 : Int).toNat [V.ref c2]).flatten)) := same_upd (Same.refl H10) nc4
  have w11 : (upd H10 c4 (.lst (List.replicate (2 : Int).toNat [V.ref c2]).flatten)) c4 = some (.lst [.ref c2, .ref c2]) := upd_same
  generalize upd H10 c4 (.lst (List.replicate (2 : Int).toNat [V.ref c2]).flatten) = H11 at s11 w11 ⊢
  have s911 := s10.trans s11
  have s811 := s9.trans s911
  have s711 := s8.trans s811
  have d1 : Dp K H11 (.ref b) (.list [.int 0, .int 1]) := .lst (SqL.of (s711 _ _ w7)) (.cons (.int _) (.cons (.int _) .nil))
  have d2 : Dp K H11 (.ref c1) (.list [.int 0, .int 1]) := .lst (SqL.of (s811 _ _ w8)) (.cons (.int _) (.cons (.int _) .nil))
  have f1 : Dp K H11 (.ref q1) (.tuple [.str "path", .list [.int 0, .int 1]]) := .tup (SqT.of (s711 _ _ b1)) (.cons (.str _) (.cons d1 .nil))
  have f2 : Dp K H11 (.ref q2) (.tuple [.str "path", .list [.int 0, .int 1]]) := .tup (SqT.of (s711 _ _ b2)) (.cons (.str _) (.cons d1 .nil))
  have f3 : Dp K H11 (.ref c2) (.tuple [.str "path", .list [.int 0, .int 1]]) := .tup (SqT.of (s911 _ _ w9)) (.cons (.str _) (.cons d2 .nil))
  have sh : SeqAt.shaped (.list [.tuple [.str "path", .list [.int 0, .int 1]], .tuple [.str "path", .list [.int 0, .int 1]]]) = true := by decide +kernel
  refine ⟨_, _, .lst (SqL.of (s711 _ _ b3)) (.cons f1 (.cons f2 .nil)), .lst (SqL.of w11) (.cons f3 (.cons f3 .nil)), sh, sh, ?_⟩
  rw [SeqAt.eqv_refl _ (lay_of sh)]
  exact k H11 (e7.trans (ExtN.of s711)) (tb7.ext s711)
end
section
variable {P : Program} {w : World} {K : PySem.W.Frag} {mg : Str → Option Value} {base : Heap}
def spOddsRight (C : Cl5) (T : List (Addr × Str)) : Sp := fun vs H Q _ => ∃ (N : Addr → Prop) (v x : V) (t : Tr), vs = [v, x] ∧ PlAt N H v t ∧ PtAt C H x t ∧ NoF C H x ∧ genT t ∧ isT t = true ∧ size t ≤ 400 ∧ levels t ≤ 100 ∧ Tabs T H ∧ ∀ H', ExtN H H' → Tabs T H' → Q (.bl true) H'
theorem ok_oddsRight {C : Cl5} {CI CP CS f c Pt : Addr} {fd : FuncData} {a : AdO} {T : List (Addr × Str)} (F : FunC K "_law_odds_right" "_law_odds_right" sOddsRight f fd c) (TR : TxtOR P w K mg base C CI CP CS a) (TB : TabB base mg c Pt) (hmT : (Pt, qOR) ∈ T) (hu : ∀ p ∈ T, p.1 = Pt → p.2 = qOR) :
    FnOk P w K mg base CX0 9 f fd ["_law_plant", "_law_one"] (spOddsRight C T) := by
  refine F.ok scOR (fun vs H Q E h => ?_) (fun A outer s H vs Q E hr h => ?_)
  · obtain ⟨N, v, x, t, rfl, _⟩ := h
    rfl
  · obtain ⟨N, v, x, t, rfl, hv, hx, hn, hg, h1, hs, hl, tabs, k⟩ := h
    have hr : Room 8 _ := hr
    obtain ⟨t0, p0, r0⟩ := or0 (P := P) (w := w) (mg := mg) (base := base) (f := f) (c := c) (A := A) (outer := outer) (s := s) (H0 := H) (E := E) TR hr
    obtain ⟨t1, p1, r1⟩ := or1 (P := P) (w := w) (mg := mg) (base := base) (f := f) (c := c) (A := A) (outer := outer) (s := s) (H0 := H) (E := E) TR hr
    obtain ⟨t2, p2, r2⟩ := or2 (P := P) (w := w) (mg := mg) (base := base) (f := f) (c := c) (A := A) (outer := outer) (s := s) (H0 := H) (E := E) TR hr
    obtain ⟨t3, p3, r3⟩ := or3 (P := P) (w := w) (mg := mg) (base := base) (f := f) (c := c) (A := A) (outer := outer) (s := s) (H0 := H) (E := E) TR TB hmT hu hr
    obtain ⟨t4, p4, r4⟩ := or4 (P := P) (w := w) (mg := mg) (base := base) (f := f) (c := c) (A := A) (outer := outer) (s := s) (H0 := H) (E := E) TR TB hmT hu hr rfl
    refine ⟨_, pss_cons p0 (pss_cons p1 (pss_cons p2 (pss_cons p3 p4))), ?_⟩
    refine r0 _ H N v x t hv hg h1 fun H1 s1 => ?_
    refine r1 _ H1 v x t fun H2 L vs s2 hL lv ods => ?_
    have s02 := s1.trans s2
    refine r2 _ H2 v x t _ L vs hL lv ods (PtAt.kpo (KpO.same s02) _ hx) hg h1 hl hs fun H3 L3 ws s3 hL3 ods3 => ?_
    have s03 := s02.trans s3
    refine r3 _ H3 v x t _ L3 ws hL3 ods3 (PtAt.kpo (KpO.same s03) _ hx) (hn.same s03) hg h1 hs (tabs.ext s03) fun H4 v4 v5 v6 e4 tb4 => ?_
    have e04 := (ExtN.of s03).trans e4
    refine r4 _ H4 v x t _ _ v4 v5 v6 (PtAt.kpo (KpO.ext e04) _ hx) (hn.kpo (KpO.ext e04)) hg h1 hs tb4 fun H5 e5 tb5 => ?_
    exact k H5 (e04.trans e5) tb5
end
end K3

namespace K3
open PySem PySem.Spec PyProof.Rows L2 E0
open LamX (ExtN Tabs TabS TabB)
theorem rowX_wf {g : Tr → Tr} (hh : ∀ t, genT t → isT t = true → wfT t → wfT (g t)) : ∀ {ts : List Tr} (n : Int), gensT ts → (∀ t ∈ ts, isT t = true) → wfTs ts → wfTs (rowX g n ts)
  | [], _, _, _, _ => True.intro
  | t :: ts, n, hg, h, hw => by
    have b := rowX_wf hh (n - 1) hg.2 (fun u m => h u (List.mem_cons_of_mem _ m)) hw.2
    have h1 : wfT (if n = 0 then g t else t) := by
      by_cases q : n = 0
      · rw [if_pos q]
        exact hh t hg.1 (h t (List.mem_cons_self ..)) hw.1
      · rw [if_neg q]
        exact hw.1
    rw [rowX]
    exact ⟨h1, b⟩
theorem partsX_wf {g : Tr → Tr} (hh : ∀ t, genT t → isT t = true → wfT t → wfT (g t)) : ∀ {ps : List Tr} (n : Int), gensT ps → wfTs ps → wfTs (partsX g n ps)
  | [], _, _, _ => True.intro
  | .tx s :: ps, n, hg, hw => by
    have e : partsX g n (.tx s :: ps) = .tx s :: partsX g n ps := by rw [partsX] <;> nofun
    rw [e]
    exact ⟨True.intro, partsX_wf hh n hg.2 hw.2⟩
  | .row ts :: ps, n, hg, hw => by
    rw [partsX]
    exact ⟨rowX_wf hh n hg.1.2.1 hg.1.2.2 hw.1, partsX_wf hh (n - ts.length) hg.2 hw.2⟩
  | .nd lk f qs :: ps, n, hg, hw => by
    obtain ⟨rfl, _⟩ := id hg.1
    have h1 : wfT (if n = 0 then g (.nd false f qs) else .nd false f qs) := by
      by_cases q : n = 0
      · rw [if_pos q]
        exact hh _ hg.1 rfl hw.1
      · rw [if_neg q]
        exact hw.1
    rw [partsX]
    exact ⟨h1, partsX_wf hh (n - 1) hg.2 hw.2⟩
  | .vr .. :: ps, _, hg, _ => False.elim hg.1
theorem place_wf : ∀ {p : List Nat} {t u : Tr}, genT t → isT t = true → wfT t → wfT u → wfT (placeT p t u)
  | [], t, u, _, _, _, h => h
  | n :: p, t, u, hg, h1, hw, h => by
    obtain ⟨f, ps, rfl⟩ := isT_nd h1
    have a := partsX_wf (g := fun k => placeT p k u) (fun t q1 q2 q3 => place_wf q1 q2 q3 h) n hg.2.2.2.2 hw.2.2.2
    exact ⟨hw.1, by rw [partsX_len]; exact hw.2.1, by rw [partsX_len]; exact hw.2.2.1, a⟩
theorem forms_tab : ∀ f ∈ forms8, ∃ b rows, (f, sortS b, rows) ∈ tabL := by
  intro f hf
  simp only [forms8, List.mem_cons, List.not_mem_nil, or_false] at hf
  rcases hf with rfl | rfl | rfl | rfl | rfl | rfl | rfl | rfl
  · exact ⟨true, [("value", "text")], by simp [tabL, sortS]⟩
  · exact ⟨true, [("left", "e"), ("right", "e")], by simp [tabL, sortS]⟩
  · exact ⟨true, [("what", "text"), ("args", "e*")], by simp [tabL, sortS]⟩
  · exact ⟨false, [("who", "text"), ("to", "e")], by simp [tabL, sortS]⟩
  · exact ⟨false, [("items", "s*")], by simp [tabL, sortS]⟩
  · exact ⟨false, [("test", "e"), ("one", "s"), ("two", "s*")], by simp [tabL, sortS]⟩
  · exact ⟨true, [("text", "text")], by simp [tabL, sortS]⟩
  · exact ⟨false, [("text", "text")], by simp [tabL, sortS]⟩
/-- everything that is not the drawing state -/
def NM (m lg : Addr) : Addr → Prop := fun b => b ≠ m ∧ b ≠ lg
theorem FD.kpN {m lg : Addr} {H H' : Hp} (e : FD m lg H H') : KpN (NM m lg) H H' := fun b o nb q t => e b o nb.1 nb.2 q t
theorem FD.kpO {m lc lg : Addr} {n : Int} {H H' : Hp} (e : FD m lg H H') (M : MA m lc lg n H) : KpO H H' := fun b o h q => let z := M.noti h q; e b o z.1 z.2 q fun ps y => by rw [y] at h; cases h
theorem DD.fd {m lg : Addr} {H H' : Hp} (e : DD m lg H H') : FD m lg H H' := fun b o h1 h2 q _ => e b o h1 h2 q
theorem MA.non {m lc lg : Addr} {n : Int} {H : Hp} (M : MA m lc lg n H) : ∀ b, H b = none → NM m lg b := fun b h => M.nm h
/-- a plant and its tree, the drawing state beside them -/
structure PR (K : PySem.W.Frag) (C : Cl5) (T : List (Addr × Str)) (m lc lg : Addr) (n : Int) (L D : Nat) (H : Hp) (v x : V) (t : Tr) : Prop where
  M : MA m lc lg n H
  pl : PlAt (NM m lg) H v t
  pt : PtAt C H x t
  f : NoF C H x
  g : genT t
  i : isT t = true
  w : wfT t
  s : size t ≤ 400
  l : levels t ≤ L
  h : ht t ≤ D
  b : Tabs T H
theorem PR.fd {K : PySem.W.Frag} {C : Cl5} {T : List (Addr × Str)} {m lc lg : Addr} {n n' : Int} {L D : Nat} {H H' : Hp} {v x : V} {t : Tr} (h : PR K C T m lc lg n L D H v x t) (e : FD m lg H H') (M : MA m lc lg n' H') (b : Tabs T H') : PR K C T m lc lg n' L D H' v x t :=
  ⟨M, PlAt.kp e.kpN t h.pl, PtAt.kpo (e.kpO h.M) t h.pt, h.f.kpo (e.kpO h.M), h.g, h.i, h.w, h.s, h.l, h.h, b⟩
theorem PR.same {K : PySem.W.Frag} {C : Cl5} {T : List (Addr × Str)} {m lc lg : Addr} {n : Int} {L D : Nat} {H H' : Hp} {v x : V} {t : Tr} (h : PR K C T m lc lg n L D H v x t) (e : Same H H') : PR K C T m lc lg n L D H' v x t := h.fd (FD.same e) (h.M.same e) (h.b.ext e)
/-- where it is put, and what -/
structure PF (m lg : Addr) (H : Hp) (sp fv : V) (t : Tr) (p : List Nat) (u : Tr) : Prop where
  pa : PAt H sp p
  a : (atP t p).isSome = true
  v : PlAt (NM m lg) H fv u
  g : genT u
  i : isT u = true
  w : wfT u
  s : size u ≤ 31
  l : levels u ≤ 3
  h : ht u ≤ 6
theorem PF.fd {m lc lg : Addr} {n : Int} {H H' : Hp} {sp fv : V} {t : Tr} {p : List Nat} {u : Tr} (h : PF m lg H sp fv t p u) (e : FD m lg H H') (M : MA m lc lg n H) : PF m lg H' sp fv t p u :=
  ⟨h.pa.kpo (e.kpO M), h.a, PlAt.kp e.kpN u h.v, h.g, h.i, h.w, h.s, h.l, h.h⟩
theorem fn_mono {P : Program} {w : World} {K : PySem.W.Frag} {mg : Str → Option Value} {base : Heap} {CX : CXT} {k k' : Nat} {f : Addr} {fd : FuncData} {ps : List Str} {sp : Sp} (F : FnOk P w K mg base CX k f fd ps sp) (h : k ≤ k') : FnOk P w K mg base CX k' f fd ps sp :=
  ⟨F.len, fun A outer s H args us vs Q E hr => F.run A outer s H args us vs Q E (hr.mono h)⟩
theorem small3 : ∀ d, d ≤ 2 → sB d ≤ 31 ∧ tD d ≤ 1000 := by
  intro d hd
  match d, hd with
  | 0, _ | 1, _ | 2, _ => decide +kernel
end K3

namespace K3
open PySem PySem.Spec PyProof.Rows L2 E0 EG
open LamX (ExtN Tabs TabS TabB LamS lamS_by)
structure AdP where
  fD : Addr
  fTr : Addr
  fTa : Addr
  fPl : Addr
  fPut : Addr
  fA : Addr
  fdD : FuncData
  fdTr : FuncData
  fdTa : FuncData
  fdPl : FuncData
  fdPut : FuncData
  fdA : FuncData
structure TxtPR (P : Program) (w : World) (K : PySem.W.Frag) (mg : Str → Option Value) (base : Heap) (C : Cl5) (CI CP CS : Addr) (a : AdP) : Prop where
  GD : FnOk P w K mg base CX0 2 a.fD a.fdD ["_law_m", "_law_top"] spDraw
  AD : DefA K mg "_law_draw" ["_law_m", "_law_top"] a.fD a.fdD
  GTr : FnOk P w K mg base CX0 7 a.fTr a.fdTr ["_law_m", "_law_take", "_law_deep"] spTreeR
  ATr : DefA K mg "_law_tree" ["_law_m", "_law_take", "_law_deep"] a.fTr a.fdTr
  GTa : FnOk P w K mg base CX0 1 a.fTa a.fdTa [] spTable
  ATa : DefA K mg "_law_table" [] a.fTa a.fdTa
  GPl : FnOk P w K mg base CX0 41 a.fPl a.fdPl ["_law_plant", "_law_path_so", "_law_other_one"] (spPlaced 40)
  APl : DefA K mg "_law_placed" ["_law_plant", "_law_path_so", "_law_other_one"] a.fPl a.fdPl
  MPu : Meth K C.T "put" a.fPut
  GPu : FnOk P w K mg base (L2.CX P w) 6 a.fPut a.fdPut ["self", "path", "other"] (spPut K C CI CP)
  BPu : Binds K a.fdPut ["self", "path", "other"] []
  kPu : KBinds K a.fdPut ["self", "path", "other"] ["other", "path"] gPut vPut
  FA : TxtA K mg CI CP CS a.fA a.fdA
  gR : mg "range" = none
def NPR : List Str := ["_law_m", "_law_plant", "_law_one", "_law_turn", "_law_paths_so", "_law_spot", "_law_fresh", "_law_before", "_law_due", "_law_told"]
theorem scPR : FnScope NPR ["_law_m", "_law_plant", "_law_one"] (defScope sPutRight) := ⟨rfl, rfl, rfl, by decide +kernel, rfl, by decide +kernel, by decide +kernel⟩
def bdPR : List Stmt := match defBody sPutRight with
  | .For _ _ body _ _ :: _ => body
  | _ => []
def stPR (i : Nat) : Stmt := bdPR.getD i (.Pass ⟨0, 0, 0, 0⟩)
abbrev qPR : Str := "_law_put_right.<locals>.<lambda>"
section
variable {P : Program} {w : World} {K : PySem.W.Frag} {mg : Str → Option Value} {base : Heap} {C : Cl5} {CI CP CS f c Pt : Addr} {T : List (Addr × Str)} {a : AdR} {d : AdP} {A : Around} {outer : List Env} {s : Shared} {H0 : Hp} {E : XK}
theorem pr0 (RR : TxtRR P w K mg base C CP 40 a) (TR : TxtPR P w K mg base C CI CP CS d) (hr : Room 95 (A.deeper (PyProof.Rows.envOfC "_law_put_right" (defScope sPutRight) s.heap.objs.size f (.ref c)))) :
    ∃ t : TS, PS (cxOf CX0 P w K mg base NPR "_law_put_right" (defScope sPutRight) f (.ref c) A outer s H0 E).nox (stPR 0) t ∧ ∀ (Z : Ends) (H : Hp) (m lc lg : Addr) (n : Int) (v x : V) (t0 : Tr) (L : Nat) (v3 v4 v5 v6 v7 v8 v9 : Option V), PR K C T m lc lg n L 33 H v x t0 → (∀ H' l ds, Same H H' → H l = none → H' l = some (.lst ds) → Paired (PAt H') ds (pathsT t0) → Z.nx [some (.ref m), some v, some x, v3, some (.ref l), v5, v6, v7, v8, v9] H') → t Z [some (.ref m), some v, some x, v3, v4, v5, v6, v7, v8, v9] H := by
  have hrP : Room 41 _ := hr.mono (by decide)
  have hrM : Room 86 _ := hr.mono (by decide)
  have hr7 : Room 7 _ := hr.mono (by decide)
  have hr6 : Room 6 _ := hr.mono (by decide)
  have hr4 : Room 4 _ := hr.mono (by decide)
  have hr2 : Room 2 _ := hr.mono (by decide)
  have hr1 : Room 1 _ := hr.mono (by decide)
  have hu1 : (A.deeper (PyProof.Rows.envOfC "_law_put_right" (defScope sPutRight) s.heap.objs.size f (.ref c))).units + 1 < cLine := by have := hr.un; omega
  have big : (1000000 : Nat) < sizeLine := by decide
  refine ⟨_, (ps_set (i := 4) scPR.nd rfl (.inl rfl) (pe_call RR.GP hrP (by rfl) RR.AP.g RR.AP.k RR.AP.b .nil pass0 (pa_cons (L2.pv 1) pa_nil))), ?_⟩
  intro Z H m lc lg n v x t0 L v3 v4 v5 v6 v7 v8 v9 R k
  have := R.s
  have := R.h
  exact ⟨_, rfl, NM m lg, v, t0, rfl, R.pl, R.g, R.i, by omega, by omega, fun H1 l ds s1 nl hl pd => k H1 l ds s1 nl hl pd⟩
theorem pr1 (RR : TxtRR P w K mg base C CP 40 a) (TR : TxtPR P w K mg base C CI CP CS d) (hr : Room 95 (A.deeper (PyProof.Rows.envOfC "_law_put_right" (defScope sPutRight) s.heap.objs.size f (.ref c)))) :
    ∃ t : TS, PS (cxOf CX0 P w K mg base NPR "_law_put_right" (defScope sPutRight) f (.ref c) A outer s H0 E).nox (stPR 1) t ∧ ∀ (Z : Ends) (H : Hp) (m lc lg l : Addr) (ds : List V) (n : Int) (v x : V) (t0 : Tr) (L : Nat) (v3 v5 v6 v7 v8 v9 : Option V), PR K C T m lc lg n L 33 H v x t0 → n ≤ 1000000 → H l = some (.lst ds) → Paired (PAt H) ds (pathsT t0) → l ≠ m → l ≠ lg →
      (∀ H' sp p, DD m lg H H' → PR K C T m lc lg (n + 1) L 33 H' v x t0 → PAt H' sp p → (atP t0 p).isSome = true → Z.nx [some (.ref m), some v, some x, v3, some (.ref l), some sp, v6, v7, v8, v9] H') → t Z [some (.ref m), some v, some x, v3, some (.ref l), v5, v6, v7, v8, v9] H := by
  have hrP : Room 41 _ := hr.mono (by decide)
  have hrM : Room 86 _ := hr.mono (by decide)
  have hr7 : Room 7 _ := hr.mono (by decide)
  have hr6 : Room 6 _ := hr.mono (by decide)
  have hr4 : Room 4 _ := hr.mono (by decide)
  have hr2 : Room 2 _ := hr.mono (by decide)
  have hr1 : Room 1 _ := hr.mono (by decide)
  have hu1 : (A.deeper (PyProof.Rows.envOfC "_law_put_right" (defScope sPutRight) s.heap.objs.size f (.ref c))).units + 1 < cLine := by have := hr.un; omega
  have big : (1000000 : Nat) < sizeLine := by decide
  refine ⟨_, (ps_set (i := 5) scPR.nd rfl (.inr rfl) (pe_ix ix_list (L2.pv 4) (pe_call TR.GD hr2 (by rfl) TR.AD.g TR.AD.k TR.AD.b .nil pass0 (pa_cons (L2.pv 0) (pa_cons (pe_callB call_len_seq (by rfl) RR.T.len PySem.boot_len (pa_cons (L2.pv 4) pa_nil)) pa_nil))) (fun _ _ => rfl))), ?_⟩
  intro Z H m lc lg l ds n v x t0 L v3 v5 v6 v7 v8 v9 R hn hl pd n1 n2 k
  have pn := paths_len R.g R.i
  have dl : ds.length = size t0 := by rw [← pn]; exact pd.length
  have sp1 : 1 ≤ size t0 := by
    obtain ⟨f, ps, e⟩ := isT_nd R.i
    rw [e]
    simp only [size]
    omega
  have hs := R.s
  refine ⟨_, rfl, _, rfl, _, rfl, l, ds, rfl, .inl (SqL.of hl), m, lc, lg, n, (ds.length : Int), rfl, R.M, hn, by omega, by omega, fun H1 z h0 h1 M1 d1 => ?_⟩
  obtain ⟨i, rfl⟩ := Int.eq_ofNat_of_zero_le h0
  have il : i < ds.length := by omega
  have e1 : DD m lg H H1 := fun b o q1 q2 q => d1 b o q1 q2 q
  have R1 := R.fd e1.fd M1 (tabs_draw R.b R.M d1)
  obtain ⟨sp, hsp⟩ : ∃ sp, ds[i]? = some sp := ⟨_, List.getElem?_eq_getElem il⟩
  obtain ⟨p, ep, hp⟩ := LiI.paired_get pd hsp
  refine ⟨l, ds, i, sp, rfl, rfl, SqL.of (d1 _ _ n1 n2 hl), atI_nat hsp, ?_⟩
  exact k H1 sp p e1 R1 (hp.kpo (e1.fd.kpO R.M)) ((mem_paths R.g R.i).mp (List.mem_of_getElem? ep))
theorem pr2 (RR : TxtRR P w K mg base C CP 40 a) (TR : TxtPR P w K mg base C CI CP CS d) (hr : Room 95 (A.deeper (PyProof.Rows.envOfC "_law_put_right" (defScope sPutRight) s.heap.objs.size f (.ref c)))) :
    ∃ t : TS, PS (cxOf CX0 P w K mg base NPR "_law_put_right" (defScope sPutRight) f (.ref c) A outer s H0 E).nox (stPR 2) t ∧ ∀ (Z : Ends) (H : Hp) (m lc lg : Addr) (n : Int) (v x sp : V) (t0 : Tr) (p : List Nat) (L : Nat) (v3 v4 v6 v7 v8 v9 : Option V), PR K C T m lc lg n L 33 H v x t0 → n + 1001 ≤ 1000000 → PAt H sp p → (atP t0 p).isSome = true →
      (∀ H' fv u n', DD m lg H H' → PR K C T m lc lg n' L 33 H' v x t0 → n ≤ n' → n' ≤ n + 1001 → PF m lg H' sp fv t0 p u → Z.nx [some (.ref m), some v, some x, v3, v4, some sp, some fv, v7, v8, v9] H') → t Z [some (.ref m), some v, some x, v3, v4, some sp, v6, v7, v8, v9] H := by
  have hrP : Room 41 _ := hr.mono (by decide)
  have hrM : Room 86 _ := hr.mono (by decide)
  have hr7 : Room 7 _ := hr.mono (by decide)
  have hr6 : Room 6 _ := hr.mono (by decide)
  have hr4 : Room 4 _ := hr.mono (by decide)
  have hr2 : Room 2 _ := hr.mono (by decide)
  have hr1 : Room 1 _ := hr.mono (by decide)
  have hu1 : (A.deeper (PyProof.Rows.envOfC "_law_put_right" (defScope sPutRight) s.heap.objs.size f (.ref c))).units + 1 < cLine := by have := hr.un; omega
  have big : (1000000 : Nat) < sizeLine := by decide
  refine ⟨_, (ps_set (i := 6) scPR.nd rfl (.inr rfl) (pe_call TR.GTr hr7 (by rfl) TR.ATr.g TR.ATr.k TR.ATr.b .nil pass0 (pa_cons (L2.pv 0) (pa_cons (pe_ix ix_tup (pe_dget hu1 (pe_call0 (E := E0) TR.GTa hr1 rfl TR.ATa.g TR.ATa.k TR.ATa.b .nil pass0) (pe_ix ix_tup (pe_call RR.GA hr2 (by rfl) RR.AA.g RR.AA.k RR.AA.b .nil pass0 (pa_cons (L2.pv 1) (pa_cons (L2.pv 5) pa_nil))) pe_int (fun _ _ => rfl)) (fun _ _ => rfl)) pe_int (fun _ _ => rfl)) (pa_cons (pe_call TR.GD hr2 (by rfl) TR.AD.g TR.AD.k TR.AD.b .nil pass0 (pa_cons (L2.pv 0) (pa_cons pe_int pa_nil))) pa_nil))))), ?_⟩
  intro Z H m lc lg n v x sp t0 p L v3 v4 v6 v7 v8 v9 R hn hsp hat k
  obtain ⟨u0, hu0⟩ := Option.isSome_iff_exists.mp hat
  obtain ⟨g0, i0, _⟩ := atP_gen R.g R.i hu0
  have w0 := atP_wf R.g R.i R.w hu0
  obtain ⟨f1, us, rfl⟩ := isT_nd i0
  obtain ⟨sb, rows, mt⟩ := forms_tab f1 w0.1
  obtain ⟨sa, rfl, hsa⟩ := id hsp
  refine ⟨_, rfl, rfl, fun H1 td kvs s1 htd look => ?_⟩
  obtain ⟨ev, hev, ent⟩ := look f1 (sortS sb) rows mt
  obtain ⟨ea, el, vs, rfl, hea, hel, prows⟩ := ent
  refine ⟨_, rfl, _, rfl, NM m lg, v, sa, t0, _, p, rfl, PlAt.kp (KpN.same s1) _ R.pl, R.g, R.i, s1 _ _ hsa, hu0, fun H2 v' s2 hv' => ?_⟩
  obtain ⟨ua, uxs, rfl, hua, hNu, hus⟩ := id hv'
  refine ⟨ua, _, 0, .str f1, rfl, rfl, SqT.of hua, atI_nat (j := 0) rfl, td, _, rfl, dg (k := .inr f1) (s2 _ _ htd) hev, ?_⟩
  refine ⟨ea, _, 0, .str (sortS sb), rfl, rfl, SqT.of (s2 _ _ hea), atI_nat (j := 0) rfl, ?_⟩
  have R2 := R.same (s1.trans s2)
  refine ⟨_, rfl, m, lc, lg, n, 3, rfl, R2.M, by omega, by omega, by omega, fun H3 z h0 h1 M3 d3 => ?_⟩
  obtain ⟨j, rfl⟩ := Int.eq_ofNat_of_zero_le h0
  have e3 : DD m lg H2 H3 := fun b o q1 q2 q => d3 b o q1 q2 q
  have R3 := R2.fd e3.fd M3 (tabs_draw R2.b R2.M d3)
  obtain ⟨q1, q2⟩ := small3 j (by omega)
  refine ⟨⟨j, by omega⟩, m, lc, lg, n + 1, sb, rfl, R3.M, by show n + 1 + ((tD j : Nat) : Int) ≤ 1000000; omega, fun H4 fv u n' d4 M4 l1 l2 hfv ok => ?_⟩
  have l2 : n' ≤ n + 1 + ((tD j : Nat) : Int) := l2
  have ok : TreeOk j u := ok
  have tb4 : Tabs T H4 := tabs_draw R3.b R3.M fun b o z1 z2 z => d4 b o z1 z2 z
  have R4 := R3.fd d4.fd M4 tb4
  have e04 : DD m lg H H4 := (DD.same (s1.trans s2)).trans (e3.trans d4)
  have ks := ok.s
  have kl := ok.l
  have kh := ok.h
  exact k H4 fv u n' e04 R4 (by omega) (by omega) ⟨hsp.kpo (e04.fd.kpO R.M), hat, PlAt.mono (fun b hb => R3.M.nm hb) _ hfv, ok.g, ok.i, ok.w, by omega, by omega, by omega⟩
theorem pr3 (RR : TxtRR P w K mg base C CP 40 a) (TR : TxtPR P w K mg base C CI CP CS d) (hr : Room 95 (A.deeper (PyProof.Rows.envOfC "_law_put_right" (defScope sPutRight) s.heap.objs.size f (.ref c)))) :
    ∃ t : TS, PS (cxOf CX0 P w K mg base NPR "_law_put_right" (defScope sPutRight) f (.ref c) A outer s H0 E).nox (stPR 3) t ∧ ∀ (Z : Ends) (H : Hp) (m lc lg : Addr) (n : Int) (v x sp fv : V) (t0 u : Tr) (p : List Nat) (L : Nat) (v3 v4 v7 v8 v9 : Option V), PR K C T m lc lg n L 33 H v x t0 → L ≤ 30 → PF m lg H sp fv t0 p u →
      (∀ H' dv, Same H H' → PlAt (NM m lg) H' dv (placeT p t0 u) → Z.nx [some (.ref m), some v, some x, v3, v4, some sp, some fv, some (.str (said t0)), some dv, v9] H') → t Z [some (.ref m), some v, some x, v3, v4, some sp, some fv, v7, v8, v9] H := by
  have hrP : Room 41 _ := hr.mono (by decide)
  have hrM : Room 86 _ := hr.mono (by decide)
  have hr7 : Room 7 _ := hr.mono (by decide)
  have hr6 : Room 6 _ := hr.mono (by decide)
  have hr4 : Room 4 _ := hr.mono (by decide)
  have hr2 : Room 2 _ := hr.mono (by decide)
  have hr1 : Room 1 _ := hr.mono (by decide)
  have hu1 : (A.deeper (PyProof.Rows.envOfC "_law_put_right" (defScope sPutRight) s.heap.objs.size f (.ref c))).units + 1 < cLine := by have := hr.un; omega
  have big : (1000000 : Nat) < sizeLine := by decide
  refine ⟨_, (ps_par (i := 7) (j := 8) (by rfl) scPR.nd rfl rfl (by decide) rfl rfl (pa_cons (pe_fld (L2.pv 2) rfl) (pa_cons (pe_call TR.GPl hrP (by rfl) TR.APl.g TR.APl.k TR.APl.b .nil pass0 (pa_cons (L2.pv 1) (pa_cons (L2.pv 5) (pa_cons (L2.pv 6) pa_nil)))) pa_nil)) rfl), ?_⟩
  intro Z H m lc lg n v x sp fv t0 u p L v3 v4 v7 v8 v9 R hL F k
  obtain ⟨sa, rfl, hsa⟩ := id F.pa
  obtain ⟨u0, hu0⟩ := Option.isSome_iff_exists.mp F.a
  have ll := (atP_gen R.g R.i hu0).2.2.2.1
  have := R.l
  obtain ⟨x1, A1, dx, fs, rfl, e2, e3, e4⟩ := text_of (K := K) R.pt (isT_text R.i)
  refine ⟨_, rfl, x1, A1, dx, fs, _, rfl, e2, (RR.T5.own _ e3).cl, RR.N5.na _ e3 _ (by decide +kernel), e4, ?_⟩
  refine ⟨_, rfl, _, rfl, _, rfl, NM m lg, v, fv, sa, t0, u, p, rfl, R.M.non, R.pl, R.g, R.i, F.v, F.g, F.i, hsa, by omega, fun H1 dv s1 hdv => ?_⟩
  exact ⟨_, _, rfl, k H1 dv s1 hdv⟩
end
end K3

namespace K3
open PySem PySem.Spec PyProof.Rows L2 E0 EG
open LamX (ExtN Tabs TabS TabB LamS lamS_by)
theorem fault_tree {CI CP : Addr} {tl : XK → Hp → VK → Prop} {v : V} {H : Hp} {Q : VK} (ht : ∀ (H0 : Hp) (E' : XK) (Q' : VK), Same H H0 → (∀ H' dd, Same H0 H' → H0 dd = none → H' dd = some (.xd [("part", v)]) → E' (.ref CI) (some dd) H') → tl E' H0 Q') (k : ∀ H' p, Same H H' → H p = none → H' p = some (.tup [.str "tree", v]) → Q (.ref p) H') : TFault CI CP tl H Q := by
  intro H0 E' Q' s0 hT _ _
  exact ht H0 E' Q' s0 fun H' dd s nd hd => hT dd v H' hd fun H'' p s' np hp => k H'' p (s0.trans (s.trans s')) ((s0.trans s).free np) hp
/-- what is due when a fresh tree is put -/
theorem due_ok {m lg : Addr} {H : Hp} {sp fv : V} {t u : Tr} {p : List Nat} {L : Nat} (hg : genT t) (h1 : isT t = true) (hw : wfT t) (hs : size t ≤ 400) (hl : levels t ≤ L) (hL : L ≤ 30) (hh : ht t ≤ 33) (F : PF m lg H sp fv t p u) :
    genT (placeT p t u) ∧ isT (placeT p t u) = true ∧ wfT (placeT p t u) ∧ size (placeT p t u) ≤ 431 ∧ levels (placeT p t u) ≤ L + 3 ∧ ht (placeT p t u) < 40 ∧ (400 < size (placeT p t u) → okPut p t u = false) ∧ (size (placeT p t u) ≤ 400 → okPut p t u = true) := by
  obtain ⟨u0, hu0⟩ := Option.isSome_iff_exists.mp F.a
  obtain ⟨a, b⟩ := place_gen (p := p) hg h1 F.g F.i
  obtain ⟨c1, c2, _, _⟩ := place_sz hg h1 F.g F.i hu0
  have c3 := place_ht (p := p) (t := t) (u := u)
  have := F.s
  have := F.l
  have := F.h
  refine ⟨a, b, place_wf hg h1 hw F.w, by omega, by omega, by omega, fun h => ?_, fun h => ?_⟩
  · have e : p.isEmpty = false := by
      cases p with
      | nil =>
        have h : 400 < size u := h
        omega
      | cons _ _ => rfl
    unfold okPut fitsT
    rw [e, Bool.false_or, decide_eq_false (by omega)]
    rfl
  · unfold okPut fitsT
    rw [decide_eq_true h, decide_eq_true (by omega : levels (placeT p t u) ≤ 100), Bool.and_self, Bool.or_true]
section
variable {P : Program} {w : World} {K : PySem.W.Frag} {mg : Str → Option Value} {base : Heap} {C : Cl5} {CI CP CS f c Pt : Addr} {T : List (Addr × Str)} {a : AdR} {d : AdP} {A : Around} {outer : List Env} {s : Shared} {H0 : Hp} {E : XK}
theorem pr4 (RR : TxtRR P w K mg base C CP 40 a) (TR : TxtPR P w K mg base C CI CP CS d) (hr : Room 95 (A.deeper (PyProof.Rows.envOfC "_law_put_right" (defScope sPutRight) s.heap.objs.size f (.ref c)))) (TB : TabB base mg c Pt) (hmT : (Pt, qPR) ∈ T) (hu : ∀ p ∈ T, p.1 = Pt → p.2 = qPR) :
    ∃ t : TS, PS (cxOf CX0 P w K mg base NPR "_law_put_right" (defScope sPutRight) f (.ref c) A outer s H0 E).nox (stPR 4) t ∧ ∀ (Z : Ends) (H : Hp) (m lc lg : Addr) (n : Int) (v x sp fv dv : V) (t0 u : Tr) (p : List Nat) (L : Nat) (v3 v4 : Option V) (v9 : Option V), PR K C T m lc lg n L 33 H v x t0 → L ≤ 30 → PF m lg H sp fv t0 p u → PlAt (NM m lg) H dv (placeT p t0 u) → (size (placeT p t0 u) ≤ 400 → ∀ H', Same H H' → Z.nx [some (.ref m), some v, some x, v3, v4, some sp, some fv, some (.str (said t0)), some dv, v9] H') → (∀ H', FD m lg H H' → MA m lc lg n H' → Tabs T H' → Z.rt (.bl true) H') → t Z [some (.ref m), some v, some x, v3, v4, some sp, some fv, some (.str (said t0)), some dv, v9] H := by
  have hrP : Room 41 _ := hr.mono (by decide)
  have hrM : Room 86 _ := hr.mono (by decide)
  have hr7 : Room 7 _ := hr.mono (by decide)
  have hr6 : Room 6 _ := hr.mono (by decide)
  have hr4 : Room 4 _ := hr.mono (by decide)
  have hr2 : Room 2 _ := hr.mono (by decide)
  have hr1 : Room 1 _ := hr.mono (by decide)
  have hu1 : (A.deeper (PyProof.Rows.envOfC "_law_put_right" (defScope sPutRight) s.heap.objs.size f (.ref c))).units + 1 < cLine := by have := hr.un; omega
  have big : (1000000 : Nat) < sizeLine := by decide
  refine ⟨_, (ps_if (pt_cmpR op_gt (pe_callB call_len_seq (by rfl) RR.T.len PySem.boot_len (pa_cons (pe_call RR.GP hrP (by rfl) RR.AP.g RR.AP.k RR.AP.b .nil pass0 (pa_cons (L2.pv 8) pa_nil)) pa_nil)) pe_int (nomark _)) (pss_one (ps_ret (pe_and (pe_cmpR (op_eqD hr.units) (pe_fault (t := (fun E => tMeth C.T "put" (spPut K C CI CP) [] E (tVar 2) (tCons (tVar 5) (tCons (tCall (spMade C 40) [] E (tCons (tVar 6) tNil)) tNil)))) (k := 93) TR.FA rfl TB rfl hmT hu hr (lamS_by (sc := defScope sPutRight) (by decide +kernel)) rfl (fun _ _ _ _ _ => rfl) (fun _ _ _ _ E _ _ hr' => (pe_meth (E := E) (L2.pv 2) (RR.T5.own _ (C.n_mem false)).cl TR.MPu TR.GPu (hr'.mono (by decide)) TR.BPu .nil (passes_call (takes_of rfl rfl rfl rfl) (fun _ _ _ _ q => q)) (pa_cons (L2.pv 5) (pa_cons (pe_call (E := E) RR.GM (hr'.mono (by decide)) (by rfl) RR.AM.g RR.AM.k RR.AM.b .nil (passes_call (takes_of rfl rfl rfl rfl) (fun _ _ _ _ q => q)) (pa_cons (L2.pv 6) pa_nil)) pa_nil))))) (pe_tup (pa_cons pe_str (pa_cons pe_str pa_nil))) (nomark _)) (pe_one (pe_cmpR op_eq (pe_fld (L2.pv 2) rfl) (L2.pv 7) (nomark _)))))) pss_nil), ?_⟩
  intro Z H m lc lg n v x sp fv dv t0 u p L v3 v4 v9 R hL F hdv k1 k2
  obtain ⟨u0, hu0⟩ := Option.isSome_iff_exists.mp F.a
  obtain ⟨gP, iP, wP, sP, lP, hP, bad, good⟩ := due_ok R.g R.i R.w R.s R.l hL R.h F
  obtain ⟨x0, dx, fs, rfl, hx0, nfe, nfp⟩ := id R.f
  have mT : C.T ∈ C.all := C.n_mem false
  have hs0 := R.s
  have hl0 := R.l
  have us := F.s
  have ul := F.l
  have uh := F.h
  refine ⟨_, rfl, NM m lg, dv, _, rfl, hdv, gP, iP, by omega, by omega, fun H1 l ds s1 _ hl pd => ?_⟩
  have pn := paths_len gP iP
  have dl : ds.length = size (placeT p t0 u) := by rw [← pn]; exact pd.length
  refine ⟨l, ds, rfl, .inl (SqL.of hl), _, _, rfl, rfl, _, rfl, ?_⟩
  rw [dl]
  by_cases big4 : size (placeT p t0 u) ≤ 400
  · rw [decide_eq_false (by omega : ¬ (400 : Int) < ((size (placeT p t0 u) : Nat) : Int))]
    refine iteF ?_
    exact k1 big4 H1 s1
  rw [decide_eq_true (by omega : (400 : Int) < ((size (placeT p t0 u) : Nat) : Int))]
  refine iteT ?_
  have R1 := R.same s1
  have F1 := F.fd (FD.same s1) R.M
  refine ⟨R1.b, fun H2 e2 tb2 => fault_tree (v := .str "size") (fun H3 E' Q' s3 hE => ?_) (fun H3 q1 s3 nq1 told1 => ?_)⟩
  · have e13 : FD m lg H1 H3 := (FD.ext e2).trans (FD.same s3)
    have R3 := R1.fd e13 ((R1.M.ext e2).same s3) (tb2.ext s3)
    have F3 := F1.fd e13 R1.M
    have i3 := (s3 _ _ (e2 _ _ (s1 _ _ hx0) nofun))
    refine ⟨_, rfl, x0, dx, fs, rfl, i3, nfp, _, rfl, _, rfl, NM m lg, fv, u, rfl, F3.v, F3.g, F3.i, F3.w, by omega, by omega, by omega, fun H4 y s4 py _ => ?_⟩
    exact ⟨.ref x0, sp, y, t0, u, rfl, PtAt.kpo (KpO.same s4) _ R3.pt, R.g, R.i, by omega, py, F.g, F.i, by omega, .inr ⟨p, (F3.pa.same s4).pathV, F.a, fun ok => absurd ok (by rw [bad (by omega)]; nofun), fun _ H5 dd s5 nd hd => hE H5 dd (s4.trans s5) (s4.free nd) hd⟩⟩
  have e13 : FD m lg H1 H3 := (FD.ext e2).trans (FD.same s3)
  have M3 := (R1.M.ext e2).same s3
  have tb3 := tb2.ext s3
  have R3 := R1.fd e13 M3 tb3
  refine ⟨by show 2 ≤ sizeLine; omega, fun q2 nq2 => ?_⟩
  have s4 : Same H3 (upd H3 q2 (.tup [.str "tree", .str "size"])) := same_upd (Same.refl H3) nq2
  have w4 : (upd H3 q2 (.tup [.str "tree", .str "size"])) q2 = some (.tup [.str "tree", .str "size"]) := upd_same
  generalize upd H3 q2 (.tup [.str "tree", .str "size"]) = H4 at s4 w4 ⊢
  have sh : SeqAt.shaped (.tuple [.str "tree", .str "size"]) = true := by decide +kernel
  refine ⟨.tuple [.str "tree", .str "size"], .tuple [.str "tree", .str "size"], .tup (SqT.of (s4 _ _ told1)) (.cons (.str _) (.cons (.str _) .nil)), .tup (SqT.of w4) (.cons (.str _) (.cons (.str _) .nil)), sh, sh, _, rfl, ?_⟩
  rw [SeqAt.eqv_refl _ (lay_of sh)]
  refine iteT ?_
  obtain ⟨x1, A1, dx1, fs1, e1', e2', e3', e4'⟩ := text_of (K := K) (R3.same s4).pt (isT_text R.i)
  cases e1'
  refine ⟨_, rfl, x0, A1, dx1, fs1, _, rfl, e2', (RR.T5.own _ e3').cl, RR.N5.na _ e3' _ (by decide +kernel), e4', _, rfl, rfl, ?_⟩
  have q := k2 H4 ((FD.same s1).trans (e13.trans (FD.same s4))) (M3.same s4) (tb3.ext s4)
  rw [← (decide_eq_true rfl : decide (V.str (said t0) = V.str (said t0)) = true)] at q
  exact q

theorem pr5 (RR : TxtRR P w K mg base C CP 40 a) (TR : TxtPR P w K mg base C CI CP CS d) (hr : Room 95 (A.deeper (PyProof.Rows.envOfC "_law_put_right" (defScope sPutRight) s.heap.objs.size f (.ref c)))) :
    ∃ t : TS, PS (cxOf CX0 P w K mg base NPR "_law_put_right" (defScope sPutRight) f (.ref c) A outer s H0 E).nox (stPR 5) t ∧ ∀ (Z : Ends) (H : Hp) (m lc lg : Addr) (n : Int) (v x sp fv dv : V) (t0 u : Tr) (p : List Nat) (L : Nat) (v3 v4 : Option V) (v9 : Option V), PR K C T m lc lg n L 33 H v x t0 → L ≤ 30 → PF m lg H sp fv t0 p u → PlAt (NM m lg) H dv (placeT p t0 u) → size (placeT p t0 u) ≤ 400 → (∀ H' l r1 r2, Same H H' → H' l = some (.lst [r1, r2]) → PtAt C H' r1 (placeT p t0 u) → NoF C H' r1 → PtAt C H' r2 (placeT p t0 u) → Z.nx [some (.ref m), some v, some x, v3, v4, some sp, some fv, some (.str (said t0)), some dv, some (.ref l)] H') → t Z [some (.ref m), some v, some x, v3, v4, some sp, some fv, some (.str (said t0)), some dv, v9] H := by
  have hrP : Room 41 _ := hr.mono (by decide)
  have hrM : Room 86 _ := hr.mono (by decide)
  have hr7 : Room 7 _ := hr.mono (by decide)
  have hr6 : Room 6 _ := hr.mono (by decide)
  have hr4 : Room 4 _ := hr.mono (by decide)
  have hr2 : Room 2 _ := hr.mono (by decide)
  have hr1 : Room 1 _ := hr.mono (by decide)
  have hu1 : (A.deeper (PyProof.Rows.envOfC "_law_put_right" (defScope sPutRight) s.heap.objs.size f (.ref c))).units + 1 < cLine := by have := hr.un; omega
  have big : (1000000 : Nat) < sizeLine := by decide
  refine ⟨_, (ps_set (i := 9) scPR.nd rfl (.inl rfl) (pe_lst (pa_cons (pe_meth (E := E0) (L2.pv 2) (RR.T5.own _ (C.n_mem false)).cl TR.MPu TR.GPu hr6 TR.BPu .nil passL (pa_cons (L2.pv 5) (pa_cons (pe_call (E := E0) RR.GM hrM (by rfl) RR.AM.g RR.AM.k RR.AM.b .nil passL (pa_cons (L2.pv 6) pa_nil)) pa_nil))) (pa_cons (pe_methKw (E := E0) (L2.pv 2) (RR.T5.own _ (C.n_mem false)).cl TR.MPu TR.GPu hr6 TR.kPu passL (pk_cons (pe_call (E := E0) RR.GM hrM (by rfl) RR.AM.g RR.AM.k RR.AM.b .nil passL (pa_cons (L2.pv 6) pa_nil)) (pk_cons (L2.pv 5) pk_nil))) pa_nil)))), ?_⟩
  intro Z H m lc lg n v x sp fv dv t0 u p L v3 v4 v9 R hL F hdv sz k
  obtain ⟨u0, hu0⟩ := Option.isSome_iff_exists.mp F.a
  obtain ⟨gP, iP, wP, sP, lP, hP, bad, good⟩ := due_ok R.g R.i R.w R.s R.l hL R.h F
  obtain ⟨x0, dx, fs, rfl, hx0, nfe, nfp⟩ := id R.f
  have mT : C.T ∈ C.all := C.n_mem false
  have hs0 := R.s
  have hl0 := R.l
  have us := F.s
  have ul := F.l
  have uh := F.h
  have okp := good sz
  refine ⟨_, rfl, x0, dx, fs, rfl, hx0, nfp, _, rfl, _, rfl, NM m lg, fv, u, rfl, F.v, F.g, F.i, F.w, by omega, by omega, by omega, fun H1 y s1 py ny => ?_⟩
  refine ⟨.ref x0, sp, y, t0, u, rfl, PtAt.kpo (KpO.same s1) _ R.pt, R.g, R.i, by omega, py, F.g, F.i, by omega, .inr ⟨p, (F.pa.same s1).pathV, F.a, (fun _ H2 r1 s2 pr1 nr1 _ => ?_), (fun z => absurd z (by rw [okp]; nofun))⟩⟩
  have nr1 := nr1 (.inr ny)
  have s12 := s1.trans s2
  refine ⟨_, rfl, x0, dx, fs, rfl, s12 _ _ hx0, nfp, _, rfl, NM m lg, fv, u, rfl, PlAt.kp (KpN.same s12) _ F.v, F.g, F.i, F.w, by omega, by omega, by omega, fun H3 y2 s3 py2 ny2 => ?_⟩
  have s13 := s12.trans s3
  refine ⟨_, rfl, .ref x0, sp, y2, t0, u, rfl, PtAt.kpo (KpO.same s13) _ R.pt, R.g, R.i, by omega, py2, F.g, F.i, by omega, .inr ⟨p, (F.pa.same s13).pathV, F.a, (fun _ H4 r2 s4 pr2 _ _ => ?_), (fun z => absurd z (by rw [okp]; nofun))⟩⟩
  refine ⟨by show 2 ≤ sizeLine; omega, fun l nl => ?_⟩
  have s5 : Same H4 (upd H4 l (.lst [r1, r2])) := same_upd (Same.refl H4) nl
  have w5 : (upd H4 l (.lst [r1, r2])) l = some (.lst [r1, r2]) := upd_same
  generalize upd H4 l (.lst [r1, r2]) = H5 at s5 w5 ⊢
  have s25 := s3.trans (s4.trans s5)
  exact k H5 l r1 r2 (s12.trans s25) w5 (PtAt.kpo (KpO.same s25) _ pr1) (nr1.same s25) (PtAt.kpo (KpO.same s5) _ pr2)

theorem pr6 (RR : TxtRR P w K mg base C CP 40 a) (TR : TxtPR P w K mg base C CI CP CS d) (hr : Room 95 (A.deeper (PyProof.Rows.envOfC "_law_put_right" (defScope sPutRight) s.heap.objs.size f (.ref c)))) :
    ∃ t : TS, PS (cxOf CX0 P w K mg base NPR "_law_put_right" (defScope sPutRight) f (.ref c) A outer s H0 E).nox (stPR 6) t ∧ ∀ (Z : Ends) (H : Hp) (m lc lg : Addr) (n : Int) (v x sp fv dv : V) (t0 u : Tr) (p : List Nat) (L : Nat) (v3 v4 : Option V) (l : Addr) (r1 r2 : V), PR K C T m lc lg n L 33 H v x t0 → L ≤ 30 → PF m lg H sp fv t0 p u → PlAt (NM m lg) H dv (placeT p t0 u) → size (placeT p t0 u) ≤ 400 → H l = some (.lst [r1, r2]) → PtAt C H r1 (placeT p t0 u) → NoF C H r1 → PtAt C H r2 (placeT p t0 u) → (∀ H', Same H H' → Z.nx [some (.ref m), some v, some x, v3, v4, some sp, some fv, some (.str (said t0)), some dv, some (.ref l)] H') → t Z [some (.ref m), some v, some x, v3, v4, some sp, some fv, some (.str (said t0)), some dv, some (.ref l)] H := by
  have hrP : Room 41 _ := hr.mono (by decide)
  have hrM : Room 86 _ := hr.mono (by decide)
  have hr7 : Room 7 _ := hr.mono (by decide)
  have hr6 : Room 6 _ := hr.mono (by decide)
  have hr4 : Room 4 _ := hr.mono (by decide)
  have hr2 : Room 2 _ := hr.mono (by decide)
  have hr1 : Room 1 _ := hr.mono (by decide)
  have hu1 : (A.deeper (PyProof.Rows.envOfC "_law_put_right" (defScope sPutRight) s.heap.objs.size f (.ref c))).units + 1 < cLine := by have := hr.un; omega
  have big : (1000000 : Nat) < sizeLine := by decide
  refine ⟨_, (ps_if (PW.pt (pw_or (pt_not (pt_cmpR (op_eqO (E := E0) RR.OQ RR.GQ hr1 pass0) (pe_ix ix_list (L2.pv 9) pe_int (fun _ _ => rfl)) (pe_call (E := E0) RR.GM hrM (by rfl) RR.AM.g RR.AM.k RR.AM.b .nil passL (pa_cons (L2.pv 8) pa_nil)) (nomark _))) (pw_or (pt_not (pt_cmpR (op_eqO (E := E0) RR.OQ RR.GQ hr1 pass0) (pe_ix ix_list (L2.pv 9) pe_int (fun _ _ => rfl)) (pe_ix ix_list (L2.pv 9) pe_int (fun _ _ => rfl)) (nomark _))) (pw_or1 (pt_cmpR op_ne (pe_fld (L2.pv 2) rfl) (L2.pv 7) (nomark _)))))) (pss_one (ps_ret pe_bl)) pss_nil), ?_⟩
  intro Z H m lc lg n v x sp fv dv t0 u p L v3 v4 l r1 r2 R hL F hdv sz hl p1 n1 p2 k
  obtain ⟨u0, hu0⟩ := Option.isSome_iff_exists.mp F.a
  obtain ⟨gP, iP, wP, sP, lP, hP, bad, good⟩ := due_ok R.g R.i R.w R.s R.l hL R.h F
  obtain ⟨x0, dx, fs, rfl, hx0, nfe, nfp⟩ := id R.f
  have mT : C.T ∈ C.all := C.n_mem false
  have hs0 := R.s
  have hl0 := R.l
  have us := F.s
  have ul := F.l
  have uh := F.h
  refine ⟨_, rfl, l, _, 0, r1, rfl, rfl, SqL.of hl, atI_nat (j := 0) rfl, _, rfl, NM m lg, dv, _, rfl, hdv, gP, iP, wP, by omega, sz, by omega, fun H1 y s1 py _ => ?_⟩
  refine eq_tree RR.T5 RR.nf (PtAt.kpo (KpO.same s1) _ p1) iP py iP ⟨_, rfl, ?_⟩
  rw [decide_eq_true rfl]
  refine iteF ?_
  refine ⟨_, rfl, l, _, 1, r2, rfl, rfl, SqL.of (s1 _ _ hl), atI_nat (j := 1) rfl, _, rfl, l, _, 0, r1, rfl, rfl, SqL.of (s1 _ _ hl), atI_nat (j := 0) rfl, ?_⟩
  refine eq_tree RR.T5 RR.nf (PtAt.kpo (KpO.same s1) _ p2) iP (PtAt.kpo (KpO.same s1) _ p1) iP ⟨_, rfl, ?_⟩
  rw [decide_eq_true rfl]
  refine iteF ?_
  obtain ⟨x1, A1, dx1, fs1, e1', e2', e3', e4'⟩ := text_of (K := K) (R.same s1).pt (isT_text R.i)
  cases e1'
  refine ⟨_, rfl, x0, A1, dx1, fs1, _, rfl, e2', (RR.T5.own _ e3').cl, RR.N5.na _ e3' _ (by decide +kernel), e4', _, rfl, rfl, _, rfl, ?_⟩
  rw [decide_eq_true rfl]
  refine iteF ?_
  exact k H1 s1

theorem pr7 (RR : TxtRR P w K mg base C CP 40 a) (TR : TxtPR P w K mg base C CI CP CS d) (hr : Room 95 (A.deeper (PyProof.Rows.envOfC "_law_put_right" (defScope sPutRight) s.heap.objs.size f (.ref c)))) :
    ∃ t : TS, PS (cxOf CX0 P w K mg base NPR "_law_put_right" (defScope sPutRight) f (.ref c) A outer s H0 E).nox (stPR 7) t ∧ ∀ (Z : Ends) (H : Hp) (m lc lg : Addr) (n : Int) (v x sp fv dv : V) (t0 u : Tr) (p : List Nat) (L : Nat) (v3 v4 : Option V) (l : Addr) (r1 r2 : V), PR K C T m lc lg n L 33 H v x t0 → L ≤ 30 → PF m lg H sp fv t0 p u → PlAt (NM m lg) H dv (placeT p t0 u) → size (placeT p t0 u) ≤ 400 → H l = some (.lst [r1, r2]) → PtAt C H r1 (placeT p t0 u) → NoF C H r1 → PtAt C H r2 (placeT p t0 u) → (∀ H', Same H H' → Z.nx [some (.ref m), some v, some x, v3, v4, some sp, some fv, some (.str (said t0)), some dv, some (.ref l)] H') → t Z [some (.ref m), some v, some x, v3, v4, some sp, some fv, some (.str (said t0)), some dv, some (.ref l)] H := by
  have hrP : Room 41 _ := hr.mono (by decide)
  have hrM : Room 86 _ := hr.mono (by decide)
  have hr7 : Room 7 _ := hr.mono (by decide)
  have hr6 : Room 6 _ := hr.mono (by decide)
  have hr4 : Room 4 _ := hr.mono (by decide)
  have hr2 : Room 2 _ := hr.mono (by decide)
  have hr1 : Room 1 _ := hr.mono (by decide)
  have hu1 : (A.deeper (PyProof.Rows.envOfC "_law_put_right" (defScope sPutRight) s.heap.objs.size f (.ref c))).units + 1 < cLine := by have := hr.un; omega
  have big : (1000000 : Nat) < sizeLine := by decide
  refine ⟨_, (ps_if (PW.pt (pw_or (pt_not (pt_cmpR (op_eqO (E := E0) RR.OQ RR.GQ hr1 pass0) (pe_ixO (E := E0) RR.OG RR.GG hr4 passL (pe_ix ix_list (L2.pv 9) pe_int (fun _ _ => rfl)) (L2.pv 5)) (pe_call (E := E0) RR.GM hrM (by rfl) RR.AM.g RR.AM.k RR.AM.b .nil passL (pa_cons (L2.pv 6) pa_nil)) (nomark _))) (pw_or1 (pt_not (pt_cmpR (op_eqO (E := E0) RR.OQ RR.GQ hr1 pass0) (pe_meth (E := E0) (L2.pv 2) (RR.T5.own _ (C.n_mem false)).cl TR.MPu TR.GPu hr6 TR.BPu .nil passL (pa_cons (L2.pv 5) (pa_cons (pe_ixO (E := E0) RR.OG RR.GG hr4 passL (L2.pv 2) (L2.pv 5)) pa_nil))) (L2.pv 2) (nomark _)))))) (pss_one (ps_ret pe_bl)) pss_nil), ?_⟩
  intro Z H m lc lg n v x sp fv dv t0 u p L v3 v4 l r1 r2 R hL F hdv sz hl p1 n1 p2 k
  obtain ⟨u0, hu0⟩ := Option.isSome_iff_exists.mp F.a
  obtain ⟨gP, iP, wP, sP, lP, hP, bad, good⟩ := due_ok R.g R.i R.w R.s R.l hL R.h F
  obtain ⟨x0, dx, fs, rfl, hx0, nfe, nfp⟩ := id R.f
  have mT : C.T ∈ C.all := C.n_mem false
  have hs0 := R.s
  have hl0 := R.l
  have us := F.s
  have ul := F.l
  have uh := F.h
  obtain ⟨x1, dx1, fs1, rfl, hx1, _, _⟩ := id n1
  have fP : foundV (placeT p t0 u) (some (natN p)) = some u := by rw [found_nat, place_at R.g R.i F.g F.i hu0]
  refine ⟨_, rfl, l, _, 0, .ref x1, rfl, rfl, SqL.of hl, atI_nat (j := 0) rfl, _, rfl, x1, dx1, fs1, rfl, hx1, .ref x1, sp, _, _, rfl, p1, gP, iP, F.pa.pathV, ?_⟩
  rw [fP]
  intro w1 hw1 _
  refine ⟨_, rfl, NM m lg, fv, u, rfl, F.v, F.g, F.i, F.w, by omega, by omega, by omega, fun H1 y s1 py ny => ?_⟩
  refine eq_tree RR.T5 RR.nf (PtAt.kpo (KpO.same s1) _ hw1) F.i py F.i ⟨_, rfl, ?_⟩
  rw [decide_eq_true rfl]
  refine iteF ?_
  obtain ⟨gu0, iu0, su0, _, _⟩ := atP_gen R.g R.i hu0
  have f0 : foundV t0 (some (natN p)) = some u0 := by rw [found_nat, hu0]
  have R1 := R.same s1
  have i1 := s1 _ _ hx0
  refine ⟨_, rfl, x0, dx, fs, rfl, i1, nfp, _, rfl, _, rfl, _, rfl, x0, dx, fs, rfl, i1, .ref x0, sp, t0, _, rfl, R1.pt, R.g, R.i, (F.pa.same s1).pathV, ?_⟩
  rw [f0]
  intro w2 hw2 _
  have pid : placeT p t0 u0 = t0 := place_id R.g R.i hu0
  have okp : okPut p t0 u0 = true := by
    unfold okPut fitsT
    rw [pid, decide_eq_true hs0, decide_eq_true (by omega : levels t0 ≤ 100), Bool.and_self, Bool.or_true]
  refine ⟨.ref x0, sp, w2, t0, u0, rfl, R1.pt, R.g, R.i, by omega, hw2, gu0, iu0, by omega, .inr ⟨p, (F.pa.same s1).pathV, F.a, (fun _ H2 r3 s2 pr3 _ _ => ?_), (fun z => absurd z (by rw [okp]; nofun))⟩⟩
  rw [pid] at pr3
  refine ⟨_, rfl, eq_tree RR.T5 RR.nf pr3 R.i (PtAt.kpo (KpO.same s2) _ R1.pt) R.i ⟨_, rfl, ?_⟩⟩
  rw [decide_eq_true rfl]
  refine iteF ?_
  exact k H2 (s1.trans s2)

theorem pr8 (RR : TxtRR P w K mg base C CP 40 a) (TR : TxtPR P w K mg base C CI CP CS d) (hr : Room 95 (A.deeper (PyProof.Rows.envOfC "_law_put_right" (defScope sPutRight) s.heap.objs.size f (.ref c)))) :
    ∃ t : TS, PS (cxOf CX0 P w K mg base NPR "_law_put_right" (defScope sPutRight) f (.ref c) A outer s H0 E).nox (stPR 8) t ∧ ∀ (Z : Ends) (H : Hp) (mv v x dv : V) (l : Addr) (r1 r2 : V) (v3 v4 v5 v6 v7 : Option V), H l = some (.lst [r1, r2]) → (∀ H', Same H H' → Z.nx [some mv, some dv, some r1, v3, v4, v5, v6, v7, some dv, some (.ref l)] H') → t Z [some mv, some v, some x, v3, v4, v5, v6, v7, some dv, some (.ref l)] H := by
  have hrP : Room 41 _ := hr.mono (by decide)
  have hrM : Room 86 _ := hr.mono (by decide)
  have hr7 : Room 7 _ := hr.mono (by decide)
  have hr6 : Room 6 _ := hr.mono (by decide)
  have hr4 : Room 4 _ := hr.mono (by decide)
  have hr2 : Room 2 _ := hr.mono (by decide)
  have hr1 : Room 1 _ := hr.mono (by decide)
  have hu1 : (A.deeper (PyProof.Rows.envOfC "_law_put_right" (defScope sPutRight) s.heap.objs.size f (.ref c))).units + 1 < cLine := by have := hr.un; omega
  have big : (1000000 : Nat) < sizeLine := by decide
  refine ⟨_, (ps_asg (pe_tup (pa_cons (L2.pv 8) (pa_cons (pe_ix ix_list (L2.pv 9) pe_int (fun _ _ => rfl)) pa_nil))) (pg_tup (by rfl) (pgs_cons (pg_name (i := 1) scPR.nd rfl (.inl rfl)) (pgs_cons (pg_name (i := 2) scPR.nd rfl (.inr rfl)) pgs_nil)))), ?_⟩
  intro Z H mv v x dv l r1 r2 v3 v4 v5 v6 v7 hl k
  refine ⟨_, rfl, _, rfl, l, _, 0, r1, rfl, rfl, SqL.of hl, atI_nat (j := 0) rfl, by show 2 ≤ sizeLine; omega, fun q nq => ?_⟩
  have s1 : Same H (upd H q (.tup [dv, r1])) := same_upd (Same.refl H) nq
  have w1 : (upd H q (.tup [dv, r1])) q = some (.tup [dv, r1]) := upd_same
  generalize upd H q (.tup [dv, r1]) = H1 at s1 w1 ⊢
  refine ⟨q, _, rfl, .inl (.inl w1), rfl, _, _, rfl, ?_⟩
  refine ⟨_, _, rfl, rfl, ?_⟩
  exact k H1 s1
end
end K3

namespace K3
open PySem PySem.Spec PyProof.Rows L2 E0 EG
open LamX (ExtN Tabs TabS TabB LamS lamS_by)
theorem PR.weak {K : PySem.W.Frag} {C : Cl5} {T : List (Addr × Str)} {m lc lg : Addr} {n : Int} {L D L' D' : Nat} {H : Hp} {v x : V} {t : Tr} (h : PR K C T m lc lg n L D H v x t) (h1 : L ≤ L') (h2 : D ≤ D') : PR K C T m lc lg n L' D' H v x t :=
  ⟨h.M, h.pl, h.pt, h.f, h.g, h.i, h.w, h.s, Nat.le_trans h.l h1, Nat.le_trans h.h h2, h.b⟩
theorem okGC {P : Program} {w : World} {K : PySem.W.Frag} {mg : Str → Option Value} {base : Heap} {x qual : Str} {st : Stmt} {f c : Addr} {fd : FuncData} {N ps : List Str} {k : Nat} {sp : Sp} (F : FunC K x qual st f fd c) (S : FnScope N ps (defScope st)) (len : ∀ vs H Q E, sp vs H Q E → vs.length = ps.length)
    (bd : ∀ (A : Around) (outer : List Env) (s : Shared) (H : Hp) (vs : List V) (Q : VK) (E : XK), Room k (A.deeper (PyProof.Rows.envOfC qual (defScope st) s.heap.objs.size f (.ref c))) → A.guards = some [] → sp vs H Q E →
      ∃ t, PSs (cxOf CX0 P w K mg base N qual (defScope st) f (.ref c) A outer s H E).nox (defBody st) t ∧ t { nx := fun _ H' => Q .non H', rt := Q } (L2.start N vs) H) : FnG P w K mg base CX0 (k + 1) f fd ps sp := by
  obtain ⟨oc, od, kV, doc, pm, an, ct, osl, rfl, lk, hcd⟩ := F.ex
  refine fnG_of lk hcd S len fun A outer s H vs Q E hr hG hsp => ?_
  obtain ⟨t, h, q⟩ := bd A outer s H vs Q E hr hG hsp
  exact ⟨t, h.nox, q⟩
section
variable {P : Program} {w : World} {K : PySem.W.Frag} {mg : Str → Option Value} {base : Heap}
def spPutRight (K : PySem.W.Frag) (C : Cl5) (T : List (Addr × Str)) : Sp := fun vs H Q _ => ∃ (m lc lg : Addr) (n : Int) (v x : V) (t : Tr), vs = [.ref m, v, x] ∧ n + 5000 ≤ 1000000 ∧ PR K C T m lc lg n 4 8 H v x t ∧
  ∀ H' n', FD m lg H H' → MA m lc lg n' H' → n ≤ n' → n' ≤ n + 4008 → Tabs T H' → Q (.bl true) H'
theorem ok_putRight {C : Cl5} {CI CP CS f c Pt fR : Addr} {fd fdR : FuncData} {a : AdR} {d : AdP} {T : List (Addr × Str)} (F : FunC K "_law_put_right" "_law_put_right" sPutRight f fd c) (RR : TxtRR P w K mg base C CP 40 a) (TR : TxtPR P w K mg base C CI CP CS d)
    (GR : FnG P w K mg base CX0 87 fR fdR ["_law_plant", "_law_one"] (spReadRight C 40)) (AR : DefA K mg "_law_read_right" ["_law_plant", "_law_one"] fR fdR) (TB : TabB base mg c Pt) (hmT : (Pt, qPR) ∈ T) (hu : ∀ p ∈ T, p.1 = Pt → p.2 = qPR) :
    FnG P w K mg base CX0 96 f fd ["_law_m", "_law_plant", "_law_one"] (spPutRight K C T) := by
  refine okGC F scPR (fun vs H Q E h => ?_) (fun A outer s H vs Q E hr hG h => ?_)
  · obtain ⟨m, lc, lg, n, v, x, t, rfl, _⟩ := h
    rfl
  · obtain ⟨m, lc, lg, n, v, x, t, rfl, hn, R, k⟩ := h
    have hr : Room 95 _ := hr
    have hrG : Room 87 _ := hr.mono (by decide)
    obtain ⟨t0, p0, r0⟩ := pr0 (P := P) (w := w) (mg := mg) (base := base) (f := f) (c := c) (A := A) (outer := outer) (s := s) (H0 := H) (E := E) RR TR hr
    obtain ⟨t1, p1, r1⟩ := pr1 (P := P) (w := w) (mg := mg) (base := base) (f := f) (c := c) (A := A) (outer := outer) (s := s) (H0 := H) (E := E) RR TR hr
    obtain ⟨t2, p2, r2⟩ := pr2 (P := P) (w := w) (mg := mg) (base := base) (f := f) (c := c) (A := A) (outer := outer) (s := s) (H0 := H) (E := E) RR TR hr
    obtain ⟨t3, p3, r3⟩ := pr3 (P := P) (w := w) (mg := mg) (base := base) (f := f) (c := c) (A := A) (outer := outer) (s := s) (H0 := H) (E := E) RR TR hr
    obtain ⟨t4, p4, r4⟩ := pr4 (P := P) (w := w) (mg := mg) (base := base) (f := f) (c := c) (A := A) (outer := outer) (s := s) (H0 := H) (E := E) RR TR hr TB hmT hu
    obtain ⟨t5, p5, r5⟩ := pr5 (P := P) (w := w) (mg := mg) (base := base) (f := f) (c := c) (A := A) (outer := outer) (s := s) (H0 := H) (E := E) RR TR hr
    obtain ⟨t6, p6, r6⟩ := pr6 (P := P) (w := w) (mg := mg) (base := base) (f := f) (c := c) (A := A) (outer := outer) (s := s) (H0 := H) (E := E) RR TR hr
    obtain ⟨t7, p7, r7⟩ := pr7 (P := P) (w := w) (mg := mg) (base := base) (f := f) (c := c) (A := A) (outer := outer) (s := s) (H0 := H) (E := E) RR TR hr
    obtain ⟨t8, p8, r8⟩ := pr8 (P := P) (w := w) (mg := mg) (base := base) (f := f) (c := c) (A := A) (outer := outer) (s := s) (H0 := H) (E := E) RR TR hr
    refine ⟨_, pss_cons (ps_for PassesOwn.never rfl (pi_range1 rfl TR.gR (pa_cons pe_int pa_nil)) (pg_name (i := 3) scPR.nd rfl (.inl rfl)) (pss_cons p0 (pss_cons p1 (pss_cons p2 (pss_cons p3 (pss_cons p4 (pss_cons p5 (pss_cons p6 (pss_cons p7 (pss_one p8)))))))))) (pss_one (ps_ret (pe_callG GR hrG hG rfl AR.g AR.k AR.b .nil pass0 (pa_cons (L2.pv 1) (pa_cons (L2.pv 2) pa_nil))))), ?_⟩
    refine ⟨4, rfl, by decide, by decide, for_range (lo := 0) (n := 4) (fun i σ H' => ∃ (v x : V) (t : Tr) (n' : Int) (v3 v4 v5 v6 v7 v8 v9 : Option V), σ = [some (.ref m), some v, some x, v3, v4, v5, v6, v7, v8, v9] ∧ FD m lg H H' ∧ n ≤ n' ∧ n' ≤ n + 1002 * (i : Int) ∧ PR K C T m lc lg n' (4 + 3 * i) (8 + 6 * i) H' v x t)
      ⟨v, x, t, n, _, _, _, _, _, _, _, rfl, FD.refl H, by omega, by omega, R⟩ ?_ ?_⟩
    · rintro i σ H1 hi ⟨v, x, t, n1, v3, v4, v5, v6, v7, v8, v9, rfl, d1, l1, l2, R1⟩
      have W1 := R1.weak (L' := 13) (D' := 33) (by omega) (by omega)
      have hL : (13 : Nat) ≤ 30 := by decide
      refine r0 _ H1 m lc lg n1 v x t 13 _ v4 v5 v6 v7 v8 v9 W1 fun H2 l ds s2 nl hl pd => ?_
      have nm := R1.M.nm nl
      refine r1 _ H2 m lc lg l ds n1 v x t 13 _ v5 v6 v7 v8 v9 (W1.same s2) (by omega) hl pd nm.1 nm.2 fun H3 sp p d3 W3 hsp hat => ?_
      refine r2 _ H3 m lc lg (n1 + 1) v x sp t p 13 _ _ v6 v7 v8 v9 W3 (by omega) hsp hat fun H4 fv u n4 d4 W4 l3 l4 F4 => ?_
      refine r3 _ H4 m lc lg n4 v x sp fv t u p 13 _ _ v7 v8 v9 W4 hL F4 fun H5 dv s5 hdv => ?_
      have W5 := W4.same s5
      have F5 := F4.fd (FD.same s5) W4.M
      have d15 : FD m lg H H5 := d1.trans ((FD.same s2).trans (d3.fd.trans (d4.fd.trans (FD.same s5))))
      refine r4 _ H5 m lc lg n4 v x sp fv dv t u p 13 _ _ v9 W5 hL F5 hdv (fun sz H6 s6 => ?_) (fun H6 d6 M6 b6 => k H6 n4 (d15.trans d6) M6 (by omega) (by omega) b6)
      have W6 := W5.same s6
      have F6 := F5.fd (FD.same s6) W5.M
      have hdv6 := PlAt.kp (KpN.same s6) _ hdv
      refine r5 _ H6 m lc lg n4 v x sp fv dv t u p 13 _ _ v9 W6 hL F6 hdv6 sz fun H7 l7 z1 z2 s7 hl7 q1 f1 q2 => ?_
      have W7 := W6.same s7
      have F7 := F6.fd (FD.same s7) W6.M
      have hdv7 := PlAt.kp (KpN.same s7) _ hdv6
      refine r6 _ H7 m lc lg n4 v x sp fv dv t u p 13 _ _ l7 z1 z2 W7 hL F7 hdv7 sz hl7 q1 f1 q2 fun H8 s8 => ?_
      have W8 := W7.same s8
      have F8 := F7.fd (FD.same s8) W7.M
      have hdv8 := PlAt.kp (KpN.same s8) _ hdv7
      refine r7 _ H8 m lc lg n4 v x sp fv dv t u p 13 _ _ l7 z1 z2 W8 hL F8 hdv8 sz (s8 _ _ hl7) (PtAt.kpo (KpO.same s8) _ q1) (f1.same s8) (PtAt.kpo (KpO.same s8) _ q2) fun H9 s9 => ?_
      have s79 := s8.trans s9
      refine r8 _ H9 (.ref m) v x dv l7 z1 z2 _ _ _ _ _ (s79 _ _ hl7) fun H10 s10 => ?_
      have s710 := s79.trans s10
      have W10 := W7.same s710
      obtain ⟨gP, iP, wP, sP, _, _, _, _⟩ := due_ok W7.g W7.i W7.w W7.s W7.l hL W7.h F7
      obtain ⟨u0, hu0⟩ := Option.isSome_iff_exists.mp hat
      have c2 := (place_sz R1.g R1.i F7.g F7.i hu0).2.1
      have c3 := place_ht (p := p) (t := t) (u := u)
      have ul := F7.l
      have uh := F7.h
      have tl := R1.l
      have th := R1.h
      refine ⟨dv, z1, placeT p t u, n4, _, _, _, _, _, _, _, rfl, d15.trans (FD.same (s6.trans (s7.trans s710))), by omega, by omega, W10.M, PlAt.kp (KpN.same s710) _ hdv7, PtAt.kpo (KpO.same s710) _ q1, f1.same s710, gP, iP, wP, sz, by omega, by omega, W10.b⟩
    · rintro σ H1 ⟨v, x, t, n1, v3, v4, v5, v6, v7, v8, v9, rfl, d1, l1, l2, R1⟩
      have hl := R1.l
      have hh := R1.h
      refine ⟨_, rfl, _, rfl, NM m lg, v, x, t, rfl, R1.pl, R1.pt, R1.f, R1.g, R1.i, R1.w, by omega, R1.s, by omega, fun H2 s2 => ?_⟩
      exact k H2 n1 (d1.trans (FD.same s2)) (R1.M.same s2) l1 (by omega) (R1.b.ext s2)
end
end K3

namespace K3
open PySem PySem.Spec PyProof.Rows L2 E0
/-! ### the trees of the limits -/
def leafT (z : Str) : Tr := .nd false "Num" [.tx z]
def negs : Nat → Tr → Tr
  | 0, t => t
  | n + 1, t => .nd false "Neg" [negs n t]
def wideT : Tr := .nd false "Row" [.row (List.replicate 398 (leafT "1")), leafT "1"]
def nodeA : Tr := .nd false "A" []
theorem leaf_g {z : Str} (h : z ∈ menuT) : genT (leafT z) := ⟨rfl, by decide +kernel, by decide +kernel, by show 1 ≤ 9; omega, h, True.intro⟩
theorem leaf_s (z : Str) : size (leafT z) = 1 ∧ levels (leafT z) = 1 := ⟨rfl, rfl⟩
theorem m1 : ("1" : Str) ∈ menuT := by decide +kernel
theorem m2 : ("2" : Str) ∈ menuT := by decide +kernel
theorem nodeA_g : genT nodeA := ⟨rfl, by decide +kernel, by decide +kernel, by decide, True.intro⟩
theorem negs_i {t : Tr} (h : isT t = true) : ∀ n, isT (negs n t) = true
  | 0 => h
  | _ + 1 => rfl
theorem negs_g {t : Tr} (h : genT t) : ∀ n, genT (negs n t)
  | 0 => h
  | n + 1 => ⟨rfl, by decide +kernel, by decide +kernel, by show 1 ≤ 9; omega, negs_g h n, True.intro⟩
theorem negs_s (t : Tr) : ∀ n, size (negs n t) = n + size t ∧ levels (negs n t) = n + levels t
  | 0 => ⟨(Nat.zero_add _).symm, (Nat.zero_add _).symm⟩
  | n + 1 => by
    obtain ⟨a, b⟩ := negs_s t n
    show 1 + (size (negs n t) + 0) = _ ∧ max (levels (negs n t)) 0 + 1 = _
    rw [a, b]
    omega
theorem below_negs {t : Tr} (h : isT t = true) (n : Nat) : below [negs n t] = [negs n t] := by
  obtain ⟨f, ps, e⟩ := isT_nd (negs_i h n)
  rw [e]
  rfl
theorem negs_paths {t : Tr} (hg : genT t) (h : isT t = true) : ∀ n, pathsT (negs (n + 1) t) = [] :: (pathsT (negs n t)).map (0 :: ·) := fun n => by
  have g : gensT [negs n t] := ⟨negs_g hg n, True.intro⟩
  show pathsT (.nd false "Neg" [negs n t]) = _
  rw [paths_nd g, below_negs h, rowP_cons]
  show [] :: ((pathsT (negs n t)).map (0 :: ·) ++ rowP 1 []) = _
  rw [show rowP 1 [] = [] by rw [rowP], List.append_nil]
theorem paths_leaf {z : Str} (h : z ∈ menuT) : pathsT (leafT z) = [[]] := by
  have g : gensT [.tx z] := ⟨h, True.intro⟩
  show pathsT (.nd false "Num" [.tx z]) = _
  rw [paths_nd g, show below [Tr.tx z] = [] from rfl, rowP]
theorem negs_last {z : Str} (h : z ∈ menuT) : ∀ n, (pathsT (negs n (leafT z)))[n]? = some (List.replicate n 0)
  | 0 => by
    show (pathsT (leafT z))[0]? = _
    rw [paths_leaf h]
    rfl
  | n + 1 => by
    rw [negs_paths (leaf_g h) rfl, List.getElem?_cons_succ, List.getElem?_map, negs_last h n]
    rfl
theorem negs_place {u : Tr} : ∀ (k : Nat) {t : Tr}, isT t = true → placeT (List.replicate k 0) (negs k t) u = negs k u
  | 0, _, _ => rfl
  | k + 1, t, h => by
    show Tr.nd false "Neg" (partsX (fun c => placeT (List.replicate k 0) c u) ((0 : Nat) : Int) [negs k t]) = .nd false "Neg" [negs k u]
    obtain ⟨f, ps, e⟩ := isT_nd (negs_i h k)
    have q := negs_place (u := u) k h
    rw [e] at q ⊢
    rw [partsX, if_pos (by decide : ((0 : Nat) : Int) = 0), q, partsX]
theorem negs_at {t : Tr} (hg : genT t) (h : isT t = true) : ∀ k, atP (negs k t) (List.replicate k 0) = some t
  | 0 => atP_nil t
  | k + 1 => by
    show atP (.nd false "Neg" [negs k t]) (0 :: List.replicate k 0) = _
    rw [atP_nd, below_negs h]
    exact negs_at hg h k
theorem negs_add (t : Tr) : ∀ a b, negs (a + b) t = negs a (negs b t)
  | 0, b => by rw [Nat.zero_add]; rfl
  | a + 1, b => by
    rw [show a + 1 + b = (a + b) + 1 by omega]
    show Tr.nd false "Neg" [negs (a + b) t] = .nd false "Neg" [negs a (negs b t)]
    rw [negs_add t a b]
theorem gens_rep {t : Tr} (h : genT t) : ∀ n, gensT (List.replicate n t)
  | 0 => True.intro
  | n + 1 => ⟨h, gens_rep h n⟩
theorem sizes_rep (t : Tr) : ∀ n, sizes (List.replicate n t) = n * size t
  | 0 => (Nat.zero_mul _).symm
  | n + 1 => by
    show size t + sizes (List.replicate n t) = _
    rw [sizes_rep t n, Nat.succ_mul, Nat.add_comm]
theorem levs_rep (t : Tr) : ∀ n, levelss (List.replicate n t) ≤ levels t
  | 0 => Nat.zero_le _
  | n + 1 => Nat.max_le.mpr ⟨Nat.le_refl _, levs_rep t n⟩
theorem rep_i {t : Tr} (h : isT t = true) (n : Nat) : ∀ u ∈ List.replicate n t, isT u = true := fun u m => by rw [(List.mem_replicate.mp m).2]; exact h
theorem wide_parts_g : gensT [.row (List.replicate 398 (leafT "1")), leafT "1"] := ⟨⟨by rw [List.length_replicate]; decide, gens_rep (leaf_g m1) _, rep_i rfl _⟩, leaf_g m1, True.intro⟩
theorem wide_g : genT wideT := ⟨rfl, by decide +kernel, by decide +kernel, by decide, wide_parts_g⟩
theorem wide_s : size wideT = 400 ∧ levels wideT ≤ 3 := by
  have a := sizes_rep (leafT "1") 398
  have b := levs_rep (leafT "1") 398
  rw [(leaf_s "1").1] at a
  rw [(leaf_s "1").2] at b
  refine ⟨?_, ?_⟩
  · show 1 + (sizes (List.replicate 398 (leafT "1")) + (1 + 0)) = 400
    omega
  · show max (levelss (List.replicate 398 (leafT "1"))) (max 1 0) + 1 ≤ 3
    omega
theorem wide_below : below [.row (List.replicate 398 (leafT "1")), leafT "1"] = List.replicate 399 (leafT "1") := by
  rw [below_row (rep_i rfl _), show below [leafT "1"] = [leafT "1"] from rfl, show [leafT "1"] = List.replicate 1 (leafT "1") from rfl, List.replicate_append_replicate]
theorem rowP_leaf {z : Str} (h : z ∈ menuT) : ∀ (k n : Nat), rowP n (List.replicate k (leafT z)) = (List.range k).map fun i => [n + i]
  | 0, n => by
    show rowP n [] = _
    rw [rowP]
    rfl
  | k + 1, n => by
    show rowP n (leafT z :: List.replicate k (leafT z)) = _
    rw [rowP_cons, paths_leaf h, rowP_leaf h k (n + 1), List.range_succ_eq_map]
    show [[n]] ++ _ = [n + 0] :: _
    rw [List.map_map]
    show [n] :: _ = _
    congr 1
    exact List.map_congr_left fun i _ => by show [n + 1 + i] = [n + (i + 1)]; congr 1; omega
theorem wide_paths : pathsT wideT = [] :: (List.range 399).map fun i => [i] := by
  show pathsT (.nd false "Row" [.row (List.replicate 398 (leafT "1")), leafT "1"]) = _
  rw [paths_nd wide_parts_g, wide_below, rowP_leaf m1]
  congr 1
theorem wide_at (i : Nat) : atP wideT [i] = if i < 399 then some (leafT "1") else none := by
  show atP (.nd false "Row" [.row (List.replicate 398 (leafT "1")), leafT "1"]) [i] = _
  rw [atP_nd, wide_below]
  by_cases h : i < 399
  · rw [if_pos h, List.getElem?_replicate, if_pos h]
    exact atP_nil _
  · rw [if_neg h, List.getElem?_replicate, if_neg h]
theorem wide_place (i : Nat) (u : Tr) : placeT [i] wideT u = .nd false "Row" [.row (rowX (fun _ => u) i (List.replicate 398 (leafT "1"))), if (i : Int) - 398 = 0 then u else leafT "1"] := by
  show Tr.nd false "Row" (partsX (fun k => placeT [] k u) ((i : Nat) : Int) [.row (List.replicate 398 (leafT "1")), leafT "1"]) = _
  rw [partsX, List.length_replicate]
  show Tr.nd false "Row" (.row (rowX (fun _ => u) i (List.replicate 398 (leafT "1"))) :: partsX (fun k => u) ((i : Int) - ((398 : Nat) : Int)) [.nd false "Num" [.tx "1"]]) = _
  rw [partsX, partsX]
  rfl
end K3

namespace K3
open PySem PySem.Spec PyProof.Rows PySem.SeqAt L2 E0 EG
open LamX (ExtN Tabs TabS TabB LamS lamS_by)
structure TxtLI (P : Program) (w : World) (K : PySem.W.Frag) (mg : Str → Option Value) (base : Heap) (C : Cl5) (CI fT : Addr) : Prop where
  MT : Mk K C.T fT
  GT : FnR P w K mg base (L2.CX P w) 4 fT (spTreeNew K C CI)
def NLI : List Str := ["_law_leaf", "_law_tall", "_law_n", "_law_wide", "_law_deepest", "_law_told", "_law_each"]
theorem scLI : FnScope NLI [] (defScope sLimitsRight) := ⟨rfl, rfl, rfl, by decide +kernel, rfl, by decide +kernel, by decide +kernel⟩
def stLI (i : Nat) : Stmt := (defBody sLimitsRight).getD i (.Pass ⟨0, 0, 0, 0⟩)
abbrev qLI : Str := "_law_limits_right.<locals>.<lambda>"
theorem mk_leaf {K : PySem.W.Frag} {C : Cl5} {CI : Addr} {z : Str} (h : z ∈ menuT) {H : Hp} {Q : VK} {E : XK} (k : ∀ H' x, Same H H' → PtAt C H' (.ref x) (leafT z) → HasP H' x [.str z] → Q (.ref x) H') : MkT K C CI [.str "Num", .str z] H Q E :=
  mkT_ok (z := "Num") (ts := [.tx z]) (by decide +kernel) (by decide +kernel) ⟨rfl, True.intro⟩ ⟨h, True.intro⟩ (by show 1 ≤ 9; omega) (by show 1 + 0 ≤ 400; omega) (by show 0 + 1 ≤ 100; omega) fun H' x s _ p hp => k H' x s p hp
theorem mk_neg {K : PySem.W.Frag} {C : Cl5} {CI : Addr} {t : Tr} {y : V} (hg : genT t) (hs : size t ≤ 399) (hl : levels t ≤ 99) {H : Hp} {Q : VK} {E : XK} (hy : PtAt C H y t) (k : ∀ H' x, Same H H' → PtAt C H' (.ref x) (negs 1 t) → HasP H' x [y] → Q (.ref x) H') : MkT K C CI [.str "Neg", y] H Q E :=
  mkT_ok (z := "Neg") (ts := [t]) (by decide +kernel) (by decide +kernel) ⟨hy, True.intro⟩ ⟨hg, True.intro⟩ (by show 1 ≤ 9; omega) (by show 1 + (size t + 0) ≤ 400; omega) (by show max (levels t) 0 + 1 ≤ 100; omega) fun H' x s _ p hp => k H' x s p hp
section
variable {P : Program} {w : World} {K : PySem.W.Frag} {mg : Str → Option Value} {base : Heap} {C : Cl5} {CI CP CS fT f c Pt : Addr} {T : List (Addr × Str)} {a : AdR} {d : AdP} {A : Around} {outer : List Env} {s : Shared} {H0 : Hp} {E : XK}
theorem li0 (RR : TxtRR P w K mg base C CP 40 a) (TR : TxtPR P w K mg base C CI CP CS d) (LI : TxtLI P w K mg base C CI fT) (hr : Room 20 (A.deeper (PyProof.Rows.envOfC "_law_limits_right" (defScope sLimitsRight) s.heap.objs.size f (.ref c)))) :
    ∃ t : TS, PS (cxOf CX0 P w K mg base NLI "_law_limits_right" (defScope sLimitsRight) f (.ref c) A outer s H0 E).nox (stLI 0) t ∧ ∀ (Z : Ends) (H : Hp), (∀ H' x y, Same H H' → PtAt C H' (.ref x) (leafT "1") → PtAt C H' (.ref y) (leafT "1") → NoF C H' (.ref y) → Z.nx [some (.ref x), some (.ref y), none, none, none, none, none] H') → t Z [none, none, none, none, none, none, none] H := by
  have hr7 : Room 7 _ := hr.mono (by decide)
  have hr6 : Room 6 _ := hr.mono (by decide)
  have hr5 : Room 5 _ := hr.mono (by decide)
  have hr4 : Room 4 _ := hr.mono (by decide)
  have hr3 : Room 3 _ := hr.mono (by decide)
  have hr2 : Room 2 _ := hr.mono (by decide)
  have hr1 : Room 1 _ := hr.mono (by decide)
  have hu0 : (A.deeper (PyProof.Rows.envOfC "_law_limits_right" (defScope sLimitsRight) s.heap.objs.size f (.ref c))).units < cLine := by have := hr.un; omega
  have big : (1000000 : Nat) < sizeLine := by decide
  have mT : C.T ∈ C.all := C.n_mem false
  refine ⟨_, (ps_asg (pe_tup (pa_cons (pe_mkT (E := E0) LI.MT LI.GT hr5 rfl RR.T.gT passL (pa_cons pe_str (pa_cons pe_str pa_nil))) (pa_cons (pe_mkT (E := E0) LI.MT LI.GT hr5 rfl RR.T.gT passL (pa_cons pe_str (pa_cons pe_str pa_nil))) pa_nil))) (pg_tup (by rfl) (pgs_cons (pg_name (i := 0) scLI.nd rfl (.inr rfl)) (pgs_cons (pg_name (i := 1) scLI.nd rfl (.inr rfl)) pgs_nil)))), ?_⟩
  intro Z H k
  refine mk_leaf m1 fun H1 x s1 p1 _ => ?_
  refine mk_leaf m1 fun H2 y s2 p2 hp2 => ?_
  refine ⟨by show 2 ≤ sizeLine; omega, fun q nq => ?_⟩
  have s3 : Same H2 (upd H2 q (.tup [.ref x, .ref y])) := same_upd (Same.refl H2) nq
  have w3 : (upd H2 q (.tup [.ref x, .ref y])) q = some (.tup [.ref x, .ref y]) := upd_same
  generalize upd H2 q (.tup [.ref x, .ref y]) = H3 at s3 w3 ⊢
  refine ⟨q, _, rfl, .inl (.inl w3), rfl, _, _, rfl, ?_⟩
  refine ⟨_, _, rfl, rfl, ?_⟩
  exact k H3 x y (s1.trans (s2.trans s3)) (PtAt.kpo (KpO.same (s2.trans s3)) _ p1) (PtAt.kpo (KpO.same s3) _ p2) ((noF_of p2 hp2).same s3)
theorem li1 (RR : TxtRR P w K mg base C CP 40 a) (TR : TxtPR P w K mg base C CI CP CS d) (LI : TxtLI P w K mg base C CI fT) (hr : Room 20 (A.deeper (PyProof.Rows.envOfC "_law_limits_right" (defScope sLimitsRight) s.heap.objs.size f (.ref c)))) :
    ∃ t : TS, PS (cxOf CX0 P w K mg base NLI "_law_limits_right" (defScope sLimitsRight) f (.ref c) A outer s H0 E).nox (stLI 1) t ∧ ∀ (Z : Ends) (H : Hp) (x y : Addr), PtAt C H (.ref y) (leafT "1") → NoF C H (.ref y) → (∀ H' y' v2, Same H H' → PtAt C H' (.ref y') (negs 99 (leafT "1")) → NoF C H' (.ref y') → Z.nx [some (.ref x), some (.ref y'), v2, none, none, none, none] H') → t Z [some (.ref x), some (.ref y), none, none, none, none, none] H := by
  have hr7 : Room 7 _ := hr.mono (by decide)
  have hr6 : Room 6 _ := hr.mono (by decide)
  have hr5 : Room 5 _ := hr.mono (by decide)
  have hr4 : Room 4 _ := hr.mono (by decide)
  have hr3 : Room 3 _ := hr.mono (by decide)
  have hr2 : Room 2 _ := hr.mono (by decide)
  have hr1 : Room 1 _ := hr.mono (by decide)
  have hu0 : (A.deeper (PyProof.Rows.envOfC "_law_limits_right" (defScope sLimitsRight) s.heap.objs.size f (.ref c))).units < cLine := by have := hr.un; omega
  have big : (1000000 : Nat) < sizeLine := by decide
  have mT : C.T ∈ C.all := C.n_mem false
  refine ⟨_, (ps_for PassesOwn.never rfl (pi_range1 rfl TR.gR (pa_cons pe_int pa_nil)) (pg_name (i := 2) scLI.nd rfl (.inl rfl)) (pss_one (ps_set (i := 1) scLI.nd rfl (.inr rfl) (pe_mkT (E := E0) LI.MT LI.GT hr5 rfl RR.T.gT passL (pa_cons pe_str (pa_cons (L2.pv 1) pa_nil)))))), ?_⟩
  intro Z H x y py ny k
  refine ⟨99, rfl, by decide, by decide, for_range (lo := 0) (n := 99) (fun i σ H' => ∃ (y : Addr) (v2 : Option V), σ = [some (.ref x), some (.ref y), v2, none, none, none, none] ∧ Same H H' ∧ PtAt C H' (.ref y) (negs i (leafT "1")) ∧ NoF C H' (.ref y)) ⟨y, none, rfl, Same.refl H, py, ny⟩ ?_ ?_⟩
  · rintro i σ H1 hi ⟨y1, v2, rfl, s1, p1, _⟩
    obtain ⟨a1, a2⟩ := negs_s (leafT "1") i
    rw [(leaf_s "1").1] at a1
    rw [(leaf_s "1").2] at a2
    refine ⟨_, rfl, mk_neg (negs_g (leaf_g m1) i) (by omega) (by omega) p1 fun H2 z s2 p2 hp2 => ?_⟩
    exact ⟨z, _, rfl, s1.trans s2, p2, noF_of p2 hp2⟩
  · rintro σ H1 ⟨y1, v2, rfl, s1, p1, n1⟩
    exact k H1 y1 v2 s1 p1 n1
theorem pts_rep {C : Cl5} {H : Hp} {v : V} {t : Tr} (h : PtAt C H v t) : ∀ n, PtsAt C H (List.replicate n v) (List.replicate n t)
  | 0 => True.intro
  | n + 1 => ⟨h, pts_rep h n⟩
theorem flat_one (v : V) : ∀ n, (List.replicate n [v]).flatten = List.replicate n v
  | 0 => rfl
  | n + 1 => by
    show [v] ++ (List.replicate n [v]).flatten = v :: List.replicate n v
    rw [flat_one v n]
    rfl
theorem li2 (RR : TxtRR P w K mg base C CP 40 a) (TR : TxtPR P w K mg base C CI CP CS d) (LI : TxtLI P w K mg base C CI fT) (hr : Room 20 (A.deeper (PyProof.Rows.envOfC "_law_limits_right" (defScope sLimitsRight) s.heap.objs.size f (.ref c)))) :
    ∃ t : TS, PS (cxOf CX0 P w K mg base NLI "_law_limits_right" (defScope sLimitsRight) f (.ref c) A outer s H0 E).nox (stLI 2) t ∧ ∀ (Z : Ends) (H : Hp) (x : Addr) (v1 v2 : Option V), PtAt C H (.ref x) (leafT "1") → (∀ H' y ra, Same H H' → PtAt C H' (.ref y) wideT → HasP H' y [.ref ra, .ref x] → H' ra = some (.tup (List.replicate 398 (.ref x))) → Z.nx [some (.ref x), v1, v2, some (.ref y), none, none, none] H') → t Z [some (.ref x), v1, v2, none, none, none, none] H := by
  have hr7 : Room 7 _ := hr.mono (by decide)
  have hr6 : Room 6 _ := hr.mono (by decide)
  have hr5 : Room 5 _ := hr.mono (by decide)
  have hr4 : Room 4 _ := hr.mono (by decide)
  have hr3 : Room 3 _ := hr.mono (by decide)
  have hr2 : Room 2 _ := hr.mono (by decide)
  have hr1 : Room 1 _ := hr.mono (by decide)
  have hu0 : (A.deeper (PyProof.Rows.envOfC "_law_limits_right" (defScope sLimitsRight) s.heap.objs.size f (.ref c))).units < cLine := by have := hr.un; omega
  have big : (1000000 : Nat) < sizeLine := by decide
  have mT : C.T ∈ C.all := C.n_mem false
  refine ⟨_, (ps_set (i := 3) scLI.nd rfl (.inr rfl) (pe_mkT (E := E0) LI.MT LI.GT hr5 rfl RR.T.gT passL (pa_cons pe_str (pa_cons (pe_op op_repT (pe_tup (pa_cons (L2.pv 0) pa_nil)) pe_int) (pa_cons (L2.pv 0) pa_nil))))), ?_⟩
  intro Z H x v1 v2 px k
  refine ⟨_, rfl, by show 1 ≤ sizeLine; omega, fun q nq => ?_⟩
  have s1 : Same H (upd H q (.tup [.ref x])) := same_upd (Same.refl H) nq
  have w1 : (upd H q (.tup [.ref x])) q = some (.tup [.ref x]) := upd_same
  generalize upd H q (.tup [.ref x]) = H1 at s1 w1 ⊢
  refine ⟨q, 398, _, rfl, rfl, SqT.of w1, by simp, by decide, by decide, by show 1 ≤ 1000; omega, fun ra nra => ?_⟩
  have s2 : Same H1 (upd H1 ra (.tup (List.replicate (398 : Int).toNat [V.ref x]).flatten)) := same_upd (Same.refl H1) nra
  have w2 : (upd H1 ra (.tup (List.replicate (398 : Int).toNat [V.ref x]).flatten)) ra = some (.tup (List.replicate 398 (.ref x))) := by rw [upd_same, flat_one]; rfl
  generalize upd H1 ra (.tup (List.replicate (398 : Int).toNat [V.ref x]).flatten) = H2 at s2 w2 ⊢
  have s02 := s1.trans s2
  have px2 := PtAt.kpo (KpO.same s02) _ px
  have ws := wide_s
  refine ⟨_, rfl, mkT_ok (z := "Row") (ts := [.row (List.replicate 398 (leafT "1")), leafT "1"]) (by decide +kernel) (by decide +kernel) ⟨⟨ra, _, rfl, w2, pts_rep px2 398⟩, px2, True.intro⟩ wide_parts_g (by show 2 ≤ 9; omega) (by have := ws.1; show size wideT ≤ 400; omega) (by have := ws.2; show levels wideT ≤ 100; omega) fun H3 y s3 _ p hp => ?_⟩
  exact k H3 y ra (s02.trans s3) p hp (s3 _ _ w2)
theorem rep_nat (n : Nat) : (List.replicate n [V.int 0]).flatten = natV (List.replicate n 0) := by
  rw [flat_one]
  unfold natV
  rw [List.map_replicate]
  rfl
theorem li3 (RR : TxtRR P w K mg base C CP 40 a) (TR : TxtPR P w K mg base C CI CP CS d) (LI : TxtLI P w K mg base C CI fT) (hr : Room 20 (A.deeper (PyProof.Rows.envOfC "_law_limits_right" (defScope sLimitsRight) s.heap.objs.size f (.ref c)))) :
    ∃ t : TS, PS (cxOf CX0 P w K mg base NLI "_law_limits_right" (defScope sLimitsRight) f (.ref c) A outer s H0 E).nox (stLI 3) t ∧ ∀ (Z : Ends) (H : Hp) (v0 v1 v2 v3 : Option V), (∀ H' z, Same H H' → H' z = some (.tup (natV (List.replicate 99 0))) → Z.nx [v0, v1, v2, v3, some (.ref z), none, none] H') → t Z [v0, v1, v2, v3, none, none, none] H := by
  have hr7 : Room 7 _ := hr.mono (by decide)
  have hr6 : Room 6 _ := hr.mono (by decide)
  have hr5 : Room 5 _ := hr.mono (by decide)
  have hr4 : Room 4 _ := hr.mono (by decide)
  have hr3 : Room 3 _ := hr.mono (by decide)
  have hr2 : Room 2 _ := hr.mono (by decide)
  have hr1 : Room 1 _ := hr.mono (by decide)
  have hu0 : (A.deeper (PyProof.Rows.envOfC "_law_limits_right" (defScope sLimitsRight) s.heap.objs.size f (.ref c))).units < cLine := by have := hr.un; omega
  have big : (1000000 : Nat) < sizeLine := by decide
  have mT : C.T ∈ C.all := C.n_mem false
  refine ⟨_, (ps_set (i := 4) scLI.nd rfl (.inr rfl) (pe_op op_repT (pe_tup (pa_cons pe_int pa_nil)) pe_int)), ?_⟩
  intro Z H v0 v1 v2 v3 k
  refine ⟨by show 1 ≤ sizeLine; omega, fun q nq => ?_⟩
  have s1 : Same H (upd H q (.tup [.int 0])) := same_upd (Same.refl H) nq
  have w1 : (upd H q (.tup [.int 0])) q = some (.tup [.int 0]) := upd_same
  generalize upd H q (.tup [.int 0]) = H1 at s1 w1 ⊢
  refine ⟨q, 99, _, rfl, rfl, SqT.of w1, by simp, by decide, by decide, by decide, fun ra nra => ?_⟩
  refine k _ ra (s1.trans (same_upd (Same.refl H1) nra)) ?_
  rw [upd_same]
  exact congrArg (fun z => some (HO.tup z)) (rep_nat 99)
end
end K3

namespace K3
open PySem PySem.Spec PyProof.Rows PySem.SeqAt L2 E0 EG
open LamX (ExtN Tabs TabS TabB LamS lamS_by)
theorem atI_last {xs : List V} {n : Nat} (h : xs.length = n + 1) : atI xs (-1) = xs[n]? := by
  unfold atI ixN
  rw [if_neg (by omega), h]
  have e : ((-1 : Int) + ((n + 1 : Nat) : Int)).toNat = n := by omega
  simp only [e]
  rw [if_pos (by omega)]
  rfl
theorem paired_at {H : Hp} : ∀ {ys : List V} {ps : List (List Nat)} {i : Nat} {p : List Nat}, Paired (PAt H) ys ps → ps[i]? = some p → ∃ y, ys[i]? = some y ∧ PAt H y p
  | _, _, _, _, .nil, e => by rw [List.getElem?_nil] at e; cases e
  | _, _, 0, _, .cons h _, e => by cases e; exact ⟨_, rfl, h⟩
  | _, _, i + 1, _, .cons _ t, e => by
    obtain ⟨y, e1, e2⟩ := paired_at (i := i) t e
    exact ⟨y, e1, e2⟩
theorem tall_g : genT (negs 99 (leafT "1")) ∧ isT (negs 99 (leafT "1")) = true ∧ size (negs 99 (leafT "1")) = 100 ∧ levels (negs 99 (leafT "1")) = 100 := by
  obtain ⟨a, b⟩ := negs_s (leafT "1") 99
  rw [(leaf_s "1").1] at a
  rw [(leaf_s "1").2] at b
  exact ⟨negs_g (leaf_g m1) 99, negs_i rfl 99, a, b⟩
theorem tall_no : atP (negs 99 (leafT "1")) (List.replicate 100 0) = none := by
  obtain ⟨a, b, _, d⟩ := tall_g
  cases e : atP (negs 99 (leafT "1")) (List.replicate 100 0) with
  | none => rfl
  | some u =>
    obtain ⟨_, i, _, l, _⟩ := atP_gen a b e
    obtain ⟨f, ps, rfl⟩ := isT_nd i
    rw [List.length_replicate, d] at l
    simp only [levels] at l
    omega
section
variable {P : Program} {w : World} {K : PySem.W.Frag} {mg : Str → Option Value} {base : Heap} {C : Cl5} {CI CP CS fT f c Pt : Addr} {T : List (Addr × Str)} {a : AdR} {d : AdP} {A : Around} {outer : List Env} {s : Shared} {H0 : Hp} {E : XK}
theorem li4 (RR : TxtRR P w K mg base C CP 40 a) (TR : TxtPR P w K mg base C CI CP CS d) (LI : TxtLI P w K mg base C CI fT) (hr : Room 20 (A.deeper (PyProof.Rows.envOfC "_law_limits_right" (defScope sLimitsRight) s.heap.objs.size f (.ref c)))) (hu80 : True) :
    ∃ t : TS, PS (cxOf CX0 P w K mg base NLI "_law_limits_right" (defScope sLimitsRight) f (.ref c) A outer s H0 E).nox (stLI 4) t ∧ ∀ (Z : Ends) (H : Hp) (x y z : Addr) (v0 v2 : Option V), PtAt C H (.ref x) wideT → NoF C H (.ref x) → PtAt C H (.ref y) (negs 99 (leafT "1")) → NoF C H (.ref y) → H z = some (.tup (natV (List.replicate 99 0))) → (∀ H', Same H H' → Z.nx [v0, some (.ref y), v2, some (.ref x), some (.ref z), none, none] H') → t Z [v0, some (.ref y), v2, some (.ref x), some (.ref z), none, none] H := by
  have hr7 : Room 7 _ := hr.mono (by decide)
  have hr6 : Room 6 _ := hr.mono (by decide)
  have hr5 : Room 5 _ := hr.mono (by decide)
  have hr4 : Room 4 _ := hr.mono (by decide)
  have hr3 : Room 3 _ := hr.mono (by decide)
  have hr2 : Room 2 _ := hr.mono (by decide)
  have hr1 : Room 1 _ := hr.mono (by decide)
  have hu0 : (A.deeper (PyProof.Rows.envOfC "_law_limits_right" (defScope sLimitsRight) s.heap.objs.size f (.ref c))).units < cLine := by have := hr.un; omega
  have big : (1000000 : Nat) < sizeLine := by decide
  have mT : C.T ∈ C.all := C.n_mem false
  refine ⟨_, (ps_if (PW.pt (pw_or (pt_cmpR (op_neD hr.units) (pe_listG (E := E0) (pgen_meth0 (E := E0) (L2.pv 3) (RR.T5.own _ mT).cl RR.ME RR.GE hr2 RR.BE .nil) passL (fun _ _ _ z => z.elim) hr5 rfl RR.gLi (by decide +kernel)) (pe_op op_cat (pe_lst (pa_cons (pe_tup pa_nil) pa_nil)) (pe_lc (own := [("_law_n", 2)]) (g := gName 2) (tt := tYes) (te := tTup (tCons (tVar 2) tNil)) rfl scLI.nd (pi_range1 rfl TR.gR (pa_cons pe_int pa_nil)) (blkOk_by (N := NLI) (sc := defScope sLimitsRight) (by decide +kernel)) (fun _ _ _ _ _ => pg_name (i := 2) scLI.nd rfl (Or.inl rfl)) (fun _ _ _ _ _ => pts_nil) (fun _ _ _ _ _ => pe_tup (pa_cons (L2.pv 2) pa_nil)))) (nomark _)) (pw_or1 (pt_cmpR (op_neD hr.units) (pe_ix ix_list (pe_listG (E := E0) (pgen_meth0 (E := E0) (L2.pv 1) (RR.T5.own _ mT).cl RR.ME RR.GE hr2 RR.BE .nil) passL (fun _ _ _ z => z.elim) hr5 rfl RR.gLi (by decide +kernel)) (pe_un un_neg pe_int) (fun _ _ => rfl)) (L2.pv 4) (nomark _))))) (pss_one (ps_ret pe_bl)) pss_nil), ?_⟩
  intro Z H x y z v0 v2 px nx py ny hz k
  obtain ⟨x', dx, fs, ex, hx0, nfe, nfp⟩ := id nx
  cases ex
  obtain ⟨y', dy, gs, ey, hy0, nge, ngp⟩ := id ny
  cases ey
  have ws := wide_s
  obtain ⟨tg, ti, ts, tl⟩ := tall_g
  refine ⟨_, rfl, x, dx, fs, rfl, hx0, nfe, .ref x, wideT, rfl, px, wide_g, rfl, by omega, by omega, fun H1 ys s1 pys q nq => ?_⟩
  have s2 : Same H1 (upd H1 q (.lst ys)) := same_upd (Same.refl H1) nq
  have w2 : (upd H1 q (.lst ys)) q = some (.lst ys) := upd_same
  generalize upd H1 q (.lst ys) = H2 at s2 w2 ⊢
  have p2 : Paired (PAt H2) ys (pathsT wideT) := Paired.mapP pys fun _ _ z => z.same s2
  refine ⟨by decide, fun tp ntp => ?_⟩
  have s3 : Same H2 (upd H2 tp (.tup [])) := same_upd (Same.refl H2) ntp
  have w3 : (upd H2 tp (.tup [])) tp = some (.tup []) := upd_same
  generalize upd H2 tp (.tup []) = H3 at s3 w3 ⊢
  refine ⟨by show 1 ≤ sizeLine; omega, fun l1 nl1 => ?_⟩
  have s4 : Same H3 (upd H3 l1 (.lst [.ref tp])) := same_upd (Same.refl H3) nl1
  have w4 : (upd H3 l1 (.lst [.ref tp])) l1 = some (.lst [.ref tp]) := upd_same
  generalize upd H3 l1 (.lst [.ref tp]) = H4 at s4 w4 ⊢
  refine ⟨399, rfl, by decide, by decide, fun L hL => lc_range (lo := 0) (n := 399) (fun j H' => Same H4 H' ∧ ∃ zs, H' L = some (.lst zs) ∧ zs.length = j ∧ Paired (PAt H') zs ((List.range j).map fun i => [i])) ⟨same_upd (Same.refl H4) hL, [], upd_same, rfl, .nil⟩ ?_ ?_⟩
  · rintro j H5 hj ⟨s5, zs, eL, zl, pz⟩
    refine ⟨rfl, ?_⟩
    dsimp only [tYes]
    rw [if_pos rfl]
    refine ⟨_, rfl, by show 1 ≤ sizeLine; omega, fun r nr => ?_⟩
    have s6 : Same H5 (upd H5 r (.tup [.int (0 + (j : Int))])) := same_upd (Same.refl H5) nr
    have w6 : (upd H5 r (.tup [.int (0 + (j : Int))])) r = some (.tup (natV [j])) := by rw [upd_same, Int.zero_add]; rfl
    generalize upd H5 r (.tup [.int (0 + (j : Int))]) = H6 at s6 w6 ⊢
    have e6 := s6 _ _ eL
    have kk := kpO_upd (o := .lst (zs ++ [.ref r])) e6
    refine ⟨zs, e6, by omega, same_upd (s5.trans s6) hL, zs ++ [.ref r], upd_same, by rw [List.length_append, zl]; rfl, ?_⟩
    rw [List.range_succ, List.map_append]
    exact Paired.app (Paired.mapP pz fun _ _ z => (z.same s6).kpo kk) (.cons ⟨r, rfl, kk _ _ rfl w6⟩ .nil)
  rintro H5 ⟨s5, zs, eL, zl, pz⟩
  refine ⟨l1, L, _, _, rfl, rfl, s5 _ _ w4, eL, by show 1 + zs.length ≤ sizeLine; omega, fun r nr => ?_⟩
  have s6 : Same H5 (upd H5 r (.lst ([.ref tp] ++ zs))) := same_upd (Same.refl H5) nr
  have w6 : (upd H5 r (.lst ([.ref tp] ++ zs))) r = some (.lst (.ref tp :: zs)) := upd_same
  generalize upd H5 r (.lst ([.ref tp] ++ zs)) = H6 at s6 w6 ⊢
  have s26 := s3.trans (s4.trans (s5.trans s6))
  have pr : Paired (PAt H6) (.ref tp :: zs) (pathsT wideT) := by
    rw [wide_paths]
    exact .cons ⟨tp, rfl, (s4.trans (s5.trans s6)) _ _ w3⟩ (Paired.mapP pz fun _ _ z => z.same s6)
  refine ⟨natsD (pathsT wideT), natsD (pathsT wideT), .lst (SqL.of (s26 _ _ w2)) (dpPaths (Paired.mapP p2 fun _ _ z => z.same s26)), .lst (SqL.of w6) (dpPaths pr), shPaths _, shPaths _, _, rfl, ?_⟩
  rw [SeqAt.eqv_refl _ (lay_of (shPaths _))]
  refine iteF ?_
  have s06 := s1.trans (s2.trans s26)
  refine ⟨_, rfl, y, dy, gs, rfl, s06 _ _ hy0, nge, .ref y, _, rfl, PtAt.kpo (KpO.same s06) _ py, tg, ti, by omega, by omega, fun H7 us s7 pus q2 nq2 => ?_⟩
  have s8 : Same H7 (upd H7 q2 (.lst us)) := same_upd (Same.refl H7) nq2
  have w8 : (upd H7 q2 (.lst us)) q2 = some (.lst us) := upd_same
  generalize upd H7 q2 (.lst us) = H8 at s8 w8 ⊢
  have ul : us.length = 99 + 1 := by rw [pus.length, paths_len tg ti, ts]
  obtain ⟨pv, hpv, ppv⟩ := paired_at pus (negs_last m1 99)
  obtain ⟨pa, rfl, hpa⟩ := ppv.same s8
  have s08 := s06.trans (s7.trans s8)
  refine ⟨1, rfl, q2, us, -1, .ref pa, rfl, rfl, SqL.of w8, by rw [atI_last ul]; exact hpv, _, rfl, natD (List.replicate 99 0), natD (List.replicate 99 0), PAt.dp hpa, PAt.dp (s08 _ _ hz), shPath _, shPath _, _, rfl, ?_⟩
  rw [SeqAt.eqv_refl _ (lay_of (shPath _))]
  refine iteF ?_
  exact k H8 s08
theorem li5 (RR : TxtRR P w K mg base C CP 40 a) (TR : TxtPR P w K mg base C CI CP CS d) (LI : TxtLI P w K mg base C CI fT) (hr : Room 20 (A.deeper (PyProof.Rows.envOfC "_law_limits_right" (defScope sLimitsRight) s.heap.objs.size f (.ref c)))) :
    ∃ t : TS, PS (cxOf CX0 P w K mg base NLI "_law_limits_right" (defScope sLimitsRight) f (.ref c) A outer s H0 E).nox (stLI 5) t ∧ ∀ (Z : Ends) (H : Hp) (x y z : Addr) (v0 v2 : Option V), PtAt C H (.ref x) wideT → NoF C H (.ref x) → PtAt C H (.ref y) (negs 99 (leafT "1")) → NoF C H (.ref y) → H z = some (.tup (natV (List.replicate 99 0))) → (∀ H', Same H H' → Z.nx [v0, some (.ref y), v2, some (.ref x), some (.ref z), none, none] H') → t Z [v0, some (.ref y), v2, some (.ref x), some (.ref z), none, none] H := by
  have hr7 : Room 7 _ := hr.mono (by decide)
  have hr6 : Room 6 _ := hr.mono (by decide)
  have hr5 : Room 5 _ := hr.mono (by decide)
  have hr4 : Room 4 _ := hr.mono (by decide)
  have hr3 : Room 3 _ := hr.mono (by decide)
  have hr2 : Room 2 _ := hr.mono (by decide)
  have hr1 : Room 1 _ := hr.mono (by decide)
  have hu0 : (A.deeper (PyProof.Rows.envOfC "_law_limits_right" (defScope sLimitsRight) s.heap.objs.size f (.ref c))).units < cLine := by have := hr.un; omega
  have big : (1000000 : Nat) < sizeLine := by decide
  have mT : C.T ∈ C.all := C.n_mem false
  refine ⟨_, (ps_if (pt_cmpR (op_neD hr.units) (pe_lst (pa_cons (pe_cmpR (op_inO (E := E0) RR.OH RR.GH hr3 pass0) (L2.pv 4) (L2.pv 1) (by with_unfolding_all rfl)) (pa_cons (pe_cmpR (op_inO (E := E0) RR.OH RR.GH hr3 pass0) (pe_op op_repT (pe_tup (pa_cons pe_int pa_nil)) pe_int) (L2.pv 1) (by with_unfolding_all rfl)) (pa_cons (pe_cmpR (op_inO (E := E0) RR.OH RR.GH hr3 pass0) (pe_tup (pa_cons pe_int pa_nil)) (L2.pv 3) (by with_unfolding_all rfl)) (pa_cons (pe_cmpR (op_inO (E := E0) RR.OH RR.GH hr3 pass0) (pe_tup (pa_cons pe_int pa_nil)) (L2.pv 3) (by with_unfolding_all rfl)) pa_nil))))) (pe_lst (pa_cons pe_bl (pa_cons pe_bl (pa_cons pe_bl (pa_cons pe_bl pa_nil))))) (nomark _)) (pss_one (ps_ret pe_bl)) pss_nil), ?_⟩
  intro Z H x y z v0 v2 px nx py ny hz k
  obtain ⟨x', dx, fs, ex, hx0, nfe, nfp⟩ := id nx
  cases ex
  obtain ⟨y', dy, gs, ey, hy0, nge, ngp⟩ := id ny
  cases ey
  obtain ⟨tg, ti, ts, tl⟩ := tall_g
  refine ⟨_, rfl, _, rfl, y, dy, gs, rfl, hy0, .ref y, .ref z, _, some (natN (List.replicate 99 0)), rfl, py, tg, ti, pathV_of hz, true, by rw [found_nat, negs_at (leaf_g m1) rfl]; rfl, ?_⟩
  refine ⟨by show 1 ≤ sizeLine; omega, fun q1 nq1 => ?_⟩
  have s_q1 : Same H (upd H q1 (.tup [.int 0])) := same_upd (Same.refl H) nq1
  have w_q1 : (upd H q1 (.tup [.int 0])) q1 = some (.tup [.int 0]) := upd_same
  generalize upd H q1 (.tup [.int 0]) = H1 at s_q1 w_q1 ⊢
  refine ⟨q1, 100, _, rfl, rfl, SqT.of w_q1, by simp, by decide, by decide, by decide, fun q2 nq2 => ?_⟩
  have s_q2 : Same H1 (upd H1 q2 (.tup (List.replicate (100 : Int).toNat [V.int 0]).flatten)) := same_upd (Same.refl H1) nq2
  have w_q2 : (upd H1 q2 (.tup (List.replicate (100 : Int).toNat [V.int 0]).flatten)) q2 = some (.tup (natV (List.replicate 100 0))) := by rw [upd_same]; exact congrArg (fun z => some (HO.tup z)) (rep_nat 100)
  generalize upd H1 q2 (.tup (List.replicate (100 : Int).toNat [V.int 0]).flatten) = H2 at s_q2 w_q2 ⊢
  have s02 := s_q1.trans s_q2
  refine ⟨_, rfl, y, dy, gs, rfl, s02 _ _ hy0, .ref y, .ref q2, _, some (natN (List.replicate 100 0)), rfl, PtAt.kpo (KpO.same s02) _ py, tg, ti, pathV_of w_q2, false, by rw [found_nat, tall_no]; rfl, ?_⟩
  refine ⟨by show 1 ≤ sizeLine; omega, fun q3 nq3 => ?_⟩
  have s_q3 : Same H2 (upd H2 q3 (.tup [.int 398])) := same_upd (Same.refl H2) nq3
  have w_q3 : (upd H2 q3 (.tup [.int 398])) q3 = some (.tup [.int 398]) := upd_same
  generalize upd H2 q3 (.tup [.int 398]) = H3 at s_q3 w_q3 ⊢
  have s03 := s02.trans s_q3
  have w_q3' : H3 q3 = some (.tup (natV [398])) := w_q3
  refine ⟨_, rfl, x, dx, fs, rfl, s03 _ _ hx0, .ref x, .ref q3, _, some (natN [398]), rfl, PtAt.kpo (KpO.same s03) _ px, wide_g, rfl, pathV_of w_q3', true, by rw [found_nat, wide_at, if_pos (by decide)]; rfl, ?_⟩
  refine ⟨by show 1 ≤ sizeLine; omega, fun q4 nq4 => ?_⟩
  have s_q4 : Same H3 (upd H3 q4 (.tup [.int 399])) := same_upd (Same.refl H3) nq4
  have w_q4 : (upd H3 q4 (.tup [.int 399])) q4 = some (.tup [.int 399]) := upd_same
  generalize upd H3 q4 (.tup [.int 399]) = H4 at s_q4 w_q4 ⊢
  have s04 := s03.trans s_q4
  have w_q4' : H4 q4 = some (.tup (natV [399])) := w_q4
  refine ⟨_, rfl, x, dx, fs, rfl, s04 _ _ hx0, .ref x, .ref q4, _, some (natN [399]), rfl, PtAt.kpo (KpO.same s04) _ px, wide_g, rfl, pathV_of w_q4', false, by rw [found_nat, wide_at, if_neg (by decide)]; rfl, ?_⟩
  refine ⟨by show 4 ≤ sizeLine; omega, fun l1 nl1 => ?_⟩
  have s_l1 : Same H4 (upd H4 l1 (.lst [.bl true, .bl false, .bl true, .bl false])) := same_upd (Same.refl H4) nl1
  have w_l1 : (upd H4 l1 (.lst [.bl true, .bl false, .bl true, .bl false])) l1 = some (.lst [.bl true, .bl false, .bl true, .bl false]) := upd_same
  generalize upd H4 l1 (.lst [.bl true, .bl false, .bl true, .bl false]) = H5 at s_l1 w_l1 ⊢
  refine ⟨by show 4 ≤ sizeLine; omega, fun l2 nl2 => ?_⟩
  have s_l2 : Same H5 (upd H5 l2 (.lst [.bl true, .bl false, .bl true, .bl false])) := same_upd (Same.refl H5) nl2
  have w_l2 : (upd H5 l2 (.lst [.bl true, .bl false, .bl true, .bl false])) l2 = some (.lst [.bl true, .bl false, .bl true, .bl false]) := upd_same
  generalize upd H5 l2 (.lst [.bl true, .bl false, .bl true, .bl false]) = H6 at s_l2 w_l2 ⊢
  have sh : SeqAt.shaped (.list [.bool true, .bool false, .bool true, .bool false]) = true := by decide +kernel
  have dp : ∀ {L : Addr}, H6 L = some (.lst [.bl true, .bl false, .bl true, .bl false]) → Dp K H6 (.ref L) (.list [.bool true, .bool false, .bool true, .bool false]) := fun h => .lst (SqL.of h) (.cons (.bl _) (.cons (.bl _) (.cons (.bl _) (.cons (.bl _) .nil))))
  refine ⟨_, _, dp (s_l2 _ _ w_l1), dp w_l2, sh, sh, _, rfl, ?_⟩
  rw [SeqAt.eqv_refl _ (lay_of sh)]
  refine iteF ?_
  exact k H6 (s04.trans (s_l1.trans s_l2))
end
end K3

namespace K3
open PySem PySem.Spec PyProof.Rows PySem.SeqAt L2 E0 EG
open LamX (ExtN Tabs TabS TabB LamS lamS_by)
abbrev rLenO (C : Addr) (sp : Sp) (E : XK) : List V → Hp → VK → Prop := fun xs H Q => ∃ a dx fs, xs = [V.ref a] ∧ H a = some (.ins C dx fs) ∧ sp [.ref a] H (fun v H' => ∃ n : Int, v = .int n ∧ 0 ≤ n ∧ n < 2 ^ 63 ∧ Q (.int n) H') E
/-! ### tuples of the same things -/
def rEqTSm (K : PySem.W.Frag) : R2 := fun x y H Q => ∃ (a b : Addr) (vs : List V), x = .ref a ∧ y = .ref b ∧ SqT K H a vs ∧ SqT K H b vs ∧ (∀ v ∈ vs, plainV v = true) ∧ Q (.bl true) H
theorem op_eqTSm {X : Cx} (hu : X.A.units < cLine) : OpR X (compareOp .Eq) (rEqTSm X.K) := by
  intro pins s σ H x y v u Q I rx ry h
  obtain ⟨a, b, vs, rfl, rfl, ha, hb, hv, q⟩ := h
  obtain rfl : v = Value.ref a := rx
  obtain rfl : u = Value.ref b := ry
  obtain ⟨its, r, pl, _⟩ := I.tuple ha
  obtain ⟨its2, r2, pl2, _⟩ := I.tuple hb
  have hl : its.length = its2.length := by rw [← r.length, ← r2.length]
  show wpAny (model X.prog X.w) X.A (richCompare .Eq (.ref a) (.ref b)) (EP X pins σ Q) X.xe s
  refine RcAt.tuples (e := fun _ => true) pl pl2 hu (fun j h1 h2 => ?_) _ _ _ _ ⟨.bl true, H, I, ?_, q⟩
  · have i1' : j < its.length := by simpa using h1
    have i2' : j < its2.length := by simpa using h2
    obtain ⟨z, ez, rz⟩ := vals_at r i1'
    obtain ⟨z2, ez2, rz2⟩ := vals_at r2 i2'
    rw [ez] at ez2
    cases ez2
    have g1 : its.toArray[j] = its[j] := by simp
    have g2 : its2.toArray[j] = its2[j] := by simp
    rw [g1, g2]
    exact eqat_self (hv z (List.mem_of_getElem? ez)) rz rz2
  · show Value.bool _ = Value.bool true
    simp [hl]
theorem neg1_f : genT (negs 1 (leafT "1")) ∧ isT (negs 1 (leafT "1")) = true ∧ size (negs 1 (leafT "1")) = 2 ∧ levels (negs 1 (leafT "1")) = 2 := ⟨negs_g (leaf_g m1) 1, rfl, rfl, rfl⟩
theorem bad7 : okPut [7] wideT (negs 1 (leafT "1")) = false := by
  have q := (place_sz (p := [7]) (k := leafT "1") wide_g rfl neg1_f.1 rfl (by rw [wide_at, if_pos (by decide)])).1
  rw [neg1_f.2.2.1, wide_s.1, (leaf_s "1").1] at q
  unfold okPut fitsT
  rw [decide_eq_false (by omega : ¬ size (placeT [7] wideT (negs 1 (leafT "1"))) ≤ 400)]
  rfl
theorem bad99 : okPut (List.replicate 99 0) (negs 99 (leafT "1")) (negs 1 (leafT "1")) = false := by
  unfold okPut fitsT
  rw [negs_place 99 rfl, (negs_s (negs 1 (leafT "1")) 99).2, neg1_f.2.2.2, decide_eq_false (by decide : ¬ 99 + 2 ≤ 100), Bool.and_false]
  rfl
theorem good_wide {i : Nat} {u : Tr} (hi : i < 399) (hu : genT u) (h1 : isT u = true) (hs : size u = 1) (hl : levels u ≤ 2) : okPut [i] wideT u = true ∧ size (placeT [i] wideT u) = 400 := by
  obtain ⟨a, b, _⟩ := place_sz (p := [i]) (k := leafT "1") wide_g rfl hu h1 (by rw [wide_at, if_pos hi])
  rw [hs, wide_s.1, (leaf_s "1").1] at a
  have := wide_s.2
  refine ⟨?_, by omega⟩
  unfold okPut fitsT
  rw [decide_eq_true (by omega), decide_eq_true (by omega), Bool.and_self, Bool.or_true]
theorem good_tall {n : Nat} {t : Tr} (h : n ≤ 99) (ht : isT t = true) : okPut (List.replicate n 0) (negs n t) (leafT "1") = true := by
  obtain ⟨a, b⟩ := negs_s (leafT "1") n
  rw [(leaf_s "1").1] at a
  rw [(leaf_s "1").2] at b
  unfold okPut fitsT
  rw [negs_place n ht, decide_eq_true (by omega), decide_eq_true (by omega), Bool.and_self, Bool.or_true]
theorem fault_path2 {CI CP : Addr} {tl : XK → Hp → VK → Prop} {R : V → Hp → Prop} {H : Hp} {Q : VK} (ht : ∀ (H0 : Hp) (E' : XK) (Q' : VK), Same H H0 → (∀ H' dd v, Same H0 H' → H0 dd = none → R v H' → H' dd = some (.xd [("value", v)]) → E' (.ref CP) (some dd) H') → tl E' H0 Q')
    (k : ∀ H' H'' p v, Same H H' → R v H' → Same H' H'' → H' p = none → H'' p = some (.tup [.str "path", v]) → Q (.ref p) H'') : TFault CI CP tl H Q := by
  intro H0 E' Q' s0 _ hP _
  exact ht H0 E' Q' s0 fun H' dd v s nd r hd => hP dd v H' hd fun H'' p s' np hp => k H' H'' p v (s0.trans s) r s' np hp
theorem nodeA_f : isT nodeA = true ∧ size nodeA = 1 ∧ levels nodeA = 1 := ⟨rfl, rfl, rfl⟩
theorem said2 : said (leafT "2") = "Num(\"2\")" := by decide +kernel
section
variable {P : Program} {w : World} {K : PySem.W.Frag} {mg : Str → Option Value} {base : Heap} {C : Cl5} {CI CP CS fT f c Pt : Addr} {T : List (Addr × Str)} {a : AdR} {d : AdP} {A : Around} {outer : List Env} {s : Shared} {H0 : Hp} {E : XK}
theorem li6 (RR : TxtRR P w K mg base C CP 40 a) (TR : TxtPR P w K mg base C CI CP CS d) (LI : TxtLI P w K mg base C CI fT) (hr : Room 20 (A.deeper (PyProof.Rows.envOfC "_law_limits_right" (defScope sLimitsRight) s.heap.objs.size f (.ref c)))) (TB : TabB base mg c Pt) (hmT : (Pt, qLI) ∈ T) (hu : ∀ p ∈ T, p.1 = Pt → p.2 = qLI) :
    ∃ t : TS, PSs (cxOf CX0 P w K mg base NLI "_law_limits_right" (defScope sLimitsRight) f (.ref c) A outer s H0 E).nox [stLI 6, stLI 7, stLI 8, stLI 9, stLI 10, stLI 11, stLI 12] t ∧ ∀ (Z : Ends) (H : Hp) (lf x y z ra : Addr) (v2 : Option V), PtAt C H (.ref lf) (leafT "1") → PtAt C H (.ref x) wideT → NoF C H (.ref x) → HasP H x [.ref ra, .ref lf] → H ra = some (.tup (List.replicate 398 (.ref lf))) → PtAt C H (.ref y) (negs 99 (leafT "1")) → NoF C H (.ref y) → H z = some (.tup (natV (List.replicate 99 0))) → Tabs T H →
      (∀ H', ExtN H H' → Tabs T H' → Z.rt (.bl true) H') → t Z [some (.ref lf), some (.ref y), v2, some (.ref x), some (.ref z), none, none] H := by
  have hr7 : Room 7 _ := hr.mono (by decide)
  have hr6 : Room 6 _ := hr.mono (by decide)
  have hr5 : Room 5 _ := hr.mono (by decide)
  have hr4 : Room 4 _ := hr.mono (by decide)
  have hr3 : Room 3 _ := hr.mono (by decide)
  have hr2 : Room 2 _ := hr.mono (by decide)
  have hr1 : Room 1 _ := hr.mono (by decide)
  have hu0 : (A.deeper (PyProof.Rows.envOfC "_law_limits_right" (defScope sLimitsRight) s.heap.objs.size f (.ref c))).units < cLine := by have := hr.un; omega
  have big : (1000000 : Nat) < sizeLine := by decide
  have mT : C.T ∈ C.all := C.n_mem false
  refine ⟨_, (pss_cons (ps_set (i := 5) scLI.nd rfl (.inl rfl) (pe_lst (pa_cons (pe_fault (t := (fun E => tMeth C.T "put" (spPut K C CI CP) [] E (tVar 3) (tCons (tTup (tCons (tC (.int 7)) tNil)) (tCons (tMkT K C CI E (tCons (tC (.str "Neg")) (tCons (tVar 0) tNil))) tNil)))) (k := 18) TR.FA rfl TB rfl hmT hu hr (lamS_by (sc := defScope sLimitsRight) (by decide +kernel)) rfl (fun _ _ _ _ _ => rfl) (fun _ _ _ _ E _ _ hr' => (pe_meth (E := E) (L2.pv 3) (RR.T5.own _ (C.n_mem false)).cl TR.MPu TR.GPu (hr'.mono (by decide)) TR.BPu .nil (passes_call (takes_of rfl rfl rfl rfl) (fun _ _ _ _ q => q)) (pa_cons (pe_tup (pa_cons pe_int pa_nil)) (pa_cons (pe_mkT (E := E) LI.MT LI.GT (hr'.mono (by decide)) rfl RR.T.gT (passes_call (takes_of rfl rfl rfl rfl) (fun _ _ _ _ q => q)) (pa_cons pe_str (pa_cons (L2.pv 0) pa_nil))) pa_nil))))) pa_nil))) (pss_cons (ps_expr (pe_bm PySem.F.plainAttrs_list PySem.F.slot_list_append PySem.F.type_list_append mt_append (L2.pv 5) (pa_cons (pe_fault (t := (fun E => tMeth C.T "put" (spPut K C CI CP) [] E (tVar 1) (tCons (tVar 4) (tCons (tMkT K C CI E (tCons (tC (.str "Neg")) (tCons (tVar 0) tNil))) tNil)))) (k := 18) TR.FA rfl TB rfl hmT hu hr (lamS_by (sc := defScope sLimitsRight) (by decide +kernel)) rfl (fun _ _ _ _ _ => rfl) (fun _ _ _ _ E _ _ hr' => (pe_meth (E := E) (L2.pv 1) (RR.T5.own _ (C.n_mem false)).cl TR.MPu TR.GPu (hr'.mono (by decide)) TR.BPu .nil (passes_call (takes_of rfl rfl rfl rfl) (fun _ _ _ _ q => q)) (pa_cons (L2.pv 4) (pa_cons (pe_mkT (E := E) LI.MT LI.GT (hr'.mono (by decide)) rfl RR.T.gT (passes_call (takes_of rfl rfl rfl rfl) (fun _ _ _ _ q => q)) (pa_cons pe_str (pa_cons (L2.pv 0) pa_nil))) pa_nil))))) pa_nil))) (pss_cons (ps_if (PW.pt (pw_or (pt_cmpR (op_neD hr.units) (L2.pv 5) (pe_op op_rep (pe_lst (pa_cons (pe_tup (pa_cons pe_str (pa_cons pe_str pa_nil))) pa_nil)) pe_int) (nomark _)) (pw_or1 (pt_cmpR (op_neD hr.units) (pe_fault (t := (fun E => tMeth C.T "put" (spPut K C CI CP) [] E (tVar 3) (tCons (tTup (tCons (tC (.int 399)) tNil)) (tCons (tVar 3) tNil)))) (k := 18) TR.FA rfl TB rfl hmT hu hr (lamS_by (sc := defScope sLimitsRight) (by decide +kernel)) rfl (fun _ _ _ _ _ => rfl) (fun _ _ _ _ E _ _ hr' => (pe_meth (E := E) (L2.pv 3) (RR.T5.own _ (C.n_mem false)).cl TR.MPu TR.GPu (hr'.mono (by decide)) TR.BPu .nil (passes_call (takes_of rfl rfl rfl rfl) (fun _ _ _ _ q => q)) (pa_cons (pe_tup (pa_cons pe_int pa_nil)) (pa_cons (L2.pv 3) pa_nil))))) (pe_tup (pa_cons pe_str (pa_cons (pe_tup (pa_cons pe_int pa_nil)) pa_nil))) (nomark _))))) (pss_one (ps_ret pe_bl)) pss_nil) (pss_cons (ps_set (i := 5) scLI.nd rfl (.inl rfl) (pe_lst (pa_cons (pe_meth (E := E0) (L2.pv 3) (RR.T5.own _ (C.n_mem false)).cl TR.MPu TR.GPu hr6 TR.BPu .nil passL (pa_cons (pe_tup (pa_cons pe_int pa_nil)) (pa_cons (pe_mkT (E := E0) LI.MT LI.GT hr5 rfl RR.T.gT passL (pa_cons pe_str (pa_cons pe_str pa_nil))) pa_nil))) (pa_cons (pe_meth (E := E0) (L2.pv 1) (RR.T5.own _ (C.n_mem false)).cl TR.MPu TR.GPu hr6 TR.BPu .nil passL (pa_cons (pe_op op_repT (pe_tup (pa_cons pe_int pa_nil)) pe_int) (pa_cons (L2.pv 0) pa_nil))) (pa_cons (pe_meth (E := E0) (L2.pv 1) (RR.T5.own _ (C.n_mem false)).cl TR.MPu TR.GPu hr6 TR.BPu .nil passL (pa_cons (L2.pv 4) (pa_cons (L2.pv 0) pa_nil))) pa_nil))))) (pss_cons (ps_expr (pe_bm PySem.F.plainAttrs_list PySem.F.slot_list_append PySem.F.type_list_append mt_append (L2.pv 5) (pa_cons (pe_meth (E := E0) (L2.pv 3) (RR.T5.own _ (C.n_mem false)).cl TR.MPu TR.GPu hr6 TR.BPu .nil passL (pa_cons (pe_tup (pa_cons pe_int pa_nil)) (pa_cons (pe_mkT (E := E0) LI.MT LI.GT hr5 rfl RR.T.gT passL (pa_cons pe_str pa_nil)) pa_nil))) pa_nil))) (pss_cons (ps_if (PW.pt (pw_or (pt_cmpR (op_neD hr.units) (pe_lc (own := [("_law_each", 6)]) (g := gName 6) (tt := tYes) (te := tCB (rLenO C.T (spTreeLen C) E0) (tCons (tVar 6) tNil)) rfl scLI.nd (pi_list (L2.pv 5)) (blkOk_by (N := NLI) (sc := defScope sLimitsRight) (by decide +kernel)) (fun _ _ _ _ _ => pg_name (i := 6) scLI.nd rfl (Or.inl rfl)) (fun _ _ _ _ _ => pts_nil) (fun _ _ _ _ _ => pe_callB (call_lenO (E := E0) RR.OL RR.GL hr2 pass0) (by rfl) RR.T.len PySem.boot_len (pa_cons (L2.pv 6) pa_nil))) (pe_lst (pa_cons pe_int (pa_cons pe_int (pa_cons pe_int (pa_cons pe_int pa_nil))))) (nomark _)) (pw_or (pt_not (pt_cmpR (op_eqO (E := E0) RR.OQ RR.GQ hr1 pass0) (pe_ix ix_list (L2.pv 5) pe_int (fun _ _ => rfl)) (L2.pv 1) (nomark _))) (pw_or1 (pt_cmpR op_ne (pe_fld (pe_ix ix_tup (pe_fld (pe_ix ix_list (L2.pv 5) pe_int (fun _ _ => rfl)) rfl) pe_int (fun _ _ => rfl)) rfl) pe_str (nomark _)))))) (pss_one (ps_ret pe_bl)) pss_nil) (pss_one (ps_ret (pe_and (pe_cmpR op_eq (pe_fld (pe_ix ix_tup (pe_ix ix_tup (pe_fld (pe_ix ix_list (L2.pv 5) pe_int (fun _ _ => rfl)) rfl) pe_int (fun _ _ => rfl)) pe_int (fun _ _ => rfl)) rfl) pe_str (nomark _)) (pe_and (pe_cmpR (op_eqTSm hu0) (pe_slice sl_tup (pe_ix ix_tup (pe_fld (pe_ix ix_list (L2.pv 5) pe_int (fun _ _ => rfl)) rfl) pe_int (fun _ _ => rfl)) po_none (po_some pe_int)) (pe_op op_repT (pe_tup (pa_cons (L2.pv 0) pa_nil)) pe_int) (nomark _)) (pe_one (pe_cmpR (op_eqO (E := E0) RR.OQ RR.GQ hr1 pass0) (pe_ix ix_tup (pe_ix ix_tup (pe_fld (L2.pv 3) rfl) pe_int (fun _ _ => rfl)) pe_int (fun _ _ => rfl)) (L2.pv 0) (nomark _))))))))))))), ?_⟩
  intro Z H lf x y z ra v2 plf px nx hpx hra py ny hz tabs k
  obtain ⟨x', dx, fs, ex, hx0, nfe, nfp⟩ := id nx
  cases ex
  obtain ⟨y', dy, gs, ey, hy0, nge, ngp⟩ := id ny
  cases ey
  obtain ⟨tg, ti, ts, tl⟩ := tall_g
  obtain ⟨ng, ni, ns, nl⟩ := neg1_f
  have wsz := wide_s.1
  refine ⟨tabs, fun H1 e1 tb1 => fault_tree (v := .str "size") (fun H2 E' Q' s2 hE => ?_) (fun H2 q1 s2 nq1 told1 => ?_)⟩
  · have e2 := e1.trans (ExtN.of s2)
    refine ⟨_, rfl, x, dx, fs, rfl, e2 _ _ hx0 nofun, nfp, by show 1 ≤ sizeLine; omega, fun q nq => ?_⟩
    have s_q : Same H2 (upd H2 q (.tup [.int 7])) := same_upd (Same.refl H2) nq
    have w_q : (upd H2 q (.tup [.int 7])) q = some (.tup (natV [7])) := upd_same
    generalize upd H2 q (.tup [.int 7]) = H3 at s_q w_q ⊢
    have e3 := e2.trans (ExtN.of s_q)
    refine ⟨_, rfl, mk_neg (leaf_g m1) (by rw [(leaf_s "1").1]; decide) (by rw [(leaf_s "1").2]; decide) (PtAt.kpo (KpO.ext e3) _ plf) fun H4 n s4 pn _ => ?_⟩
    have e4 := e3.trans (ExtN.of s4)
    exact ⟨.ref x, .ref q, .ref n, wideT, negs 1 (leafT "1"), rfl, PtAt.kpo (KpO.ext e4) _ px, wide_g, rfl, by omega, pn, ng, ni, by omega, .inr ⟨[7], pathV_of (s4 _ _ w_q), by rw [wide_at, if_pos (by decide)]; rfl, (fun ok => absurd ok (by rw [bad7]; nofun)), fun _ H5 dd s5 nd hd => hE H5 dd (s_q.trans (s4.trans s5)) ((s_q.trans s4).free nd) hd⟩⟩
  have e2 := e1.trans (ExtN.of s2)
  have tb2 := tb1.ext s2
  refine ⟨by show 1 ≤ sizeLine; omega, fun l1 nl1 => ?_⟩
  have s_l1 : Same H2 (upd H2 l1 (.lst [.ref q1])) := same_upd (Same.refl H2) nl1
  have w_l1 : (upd H2 l1 (.lst [.ref q1])) l1 = some (.lst [.ref q1]) := upd_same
  generalize upd H2 l1 (.lst [.ref q1]) = H3 at s_l1 w_l1 ⊢
  have e3 := e2.trans (ExtN.of s_l1)
  have tb3 := tb2.ext s_l1
  refine ⟨_, rfl, .inl ⟨rfl, _, SqL.of w_l1⟩, tb3, fun H4 e4 tb4 => fault_tree (v := .str "size") (fun H5 E' Q' s5 hE => ?_) (fun H5 q2 s5 nq2 told2 => ?_)⟩
  · have e5 := e3.trans (e4.trans (ExtN.of s5))
    refine ⟨_, rfl, y, dy, gs, rfl, e5 _ _ hy0 nofun, ngp, _, rfl, _, rfl, mk_neg (leaf_g m1) (by rw [(leaf_s "1").1]; decide) (by rw [(leaf_s "1").2]; decide) (PtAt.kpo (KpO.ext e5) _ plf) fun H6 n s6 pn _ => ?_⟩
    have e6 := e5.trans (ExtN.of s6)
    exact ⟨.ref y, .ref z, .ref n, negs 99 (leafT "1"), negs 1 (leafT "1"), rfl, PtAt.kpo (KpO.ext e6) _ py, tg, ti, by omega, pn, ng, ni, by omega, .inr ⟨List.replicate 99 0, pathV_of (e6 _ _ hz nofun), by rw [negs_at (leaf_g m1) rfl]; rfl, (fun ok => absurd ok (by rw [bad99]; nofun)), fun _ H7 dd s7 nd hd => hE H7 dd (s6.trans s7) (s6.free nd) hd⟩⟩
  have e35 := e4.trans (ExtN.of s5)
  have e5 := e3.trans e35
  have tb5 := tb4.ext s5
  have w5 := e35 _ _ w_l1 nofun
  have a1 := e35 _ _ (s_l1 _ _ told1) nofun
  have n1 : q1 ≠ l1 := fun e => by rw [e, w5] at a1; cases a1
  have n2 : q2 ≠ l1 := fun e => by rw [e, w5] at told2; cases told2
  refine ⟨l1, _, _, rfl, rfl, w5, by show 1 < sizeLine; omega, ?_⟩
  have e6 : ExtN H (upd H5 l1 (.lst ([.ref q1] ++ [.ref q2]))) := ext_upd e2 nl1 e5
  have tb6 : Tabs T (upd H5 l1 (.lst ([.ref q1] ++ [.ref q2]))) := tabs_lst tb5 w5
  have w6 : (upd H5 l1 (.lst ([.ref q1] ++ [.ref q2]))) l1 = some (.lst [.ref q1, .ref q2]) := upd_same
  have b1 : (upd H5 l1 (.lst ([.ref q1] ++ [.ref q2]))) q1 = some (.tup [.str "tree", .str "size"]) := by rw [upd_ne n1]; exact a1
  have b2 : (upd H5 l1 (.lst ([.ref q1] ++ [.ref q2]))) q2 = some (.tup [.str "tree", .str "size"]) := by rw [upd_ne n2]; exact told2
  generalize upd H5 l1 (.lst ([.ref q1] ++ [.ref q2])) = H6 at e6 tb6 w6 b1 b2 ⊢
  refine ⟨_, rfl, by show 2 ≤ sizeLine; omega, fun c1 nc1 => ?_⟩
  have s_c1 : Same H6 (upd H6 c1 (.tup [.str "tree", .str "size"])) := same_upd (Same.refl H6) nc1
  have w_c1 : (upd H6 c1 (.tup [.str "tree", .str "size"])) c1 = some (.tup [.str "tree", .str "size"]) := upd_same
  generalize upd H6 c1 (.tup [.str "tree", .str "size"]) = H7 at s_c1 w_c1 ⊢
  refine ⟨by show 1 ≤ sizeLine; omega, fun c2 nc2 => ?_⟩
  have s_c2 : Same H7 (upd H7 c2 (.lst [.ref c1])) := same_upd (Same.refl H7) nc2
  have w_c2 : (upd H7 c2 (.lst [.ref c1])) c2 = some (.lst [.ref c1]) := upd_same
  generalize upd H7 c2 (.lst [.ref c1]) = H8 at s_c2 w_c2 ⊢
  refine ⟨c2, 2, _, rfl, rfl, w_c2, by decide, by decide, by show 1 * 2 ≤ sizeLine; omega, fun c3 nc3 => ?_⟩
  have s_c3 : Same H8 (upd H8 c3 (.lst (List.replicate (2 : Int).toNat [V.ref c1]).flatten)) := same_upd (Same.refl H8) nc3
  have w_c3 : (upd H8 c3 (.lst (List.replicate (2 : Int).toNat [V.ref c1]).flatten)) c3 = some (.lst [.ref c1, .ref c1]) := upd_same
  generalize upd H8 c3 (.lst (List.replicate (2 : Int).toNat [V.ref c1]).flatten) = H9 at s_c3 w_c3 ⊢
  have s79 := s_c2.trans s_c3
  have s69 := s_c1.trans s79
  have dT : ∀ {q : Addr}, H9 q = some (.tup [.str "tree", .str "size"]) → Dp K H9 (.ref q) (.tuple [.str "tree", .str "size"]) := fun h => .tup (SqT.of h) (.cons (.str _) (.cons (.str _) .nil))
  have sh1 : SeqAt.shaped (.list [.tuple [.str "tree", .str "size"], .tuple [.str "tree", .str "size"]]) = true := by decide +kernel
  refine ⟨_, _, .lst (SqL.of (s69 _ _ w6)) (.cons (dT (s69 _ _ b1)) (.cons (dT (s69 _ _ b2)) .nil)), .lst (SqL.of w_c3) (.cons (dT (s79 _ _ w_c1)) (.cons (dT (s79 _ _ w_c1)) .nil)), sh1, sh1, _, rfl, ?_⟩
  rw [SeqAt.eqv_refl _ (lay_of sh1)]
  refine iteF ?_
  have e9 := e6.trans (ExtN.of s69)
  have tb9 := tb6.ext s69
  refine ⟨tb9, fun H10 e10 tb10 => fault_path2 (R := fun v H' => ∃ q, v = .ref q ∧ H' q = some (.tup [.int 399])) (fun H11 E' Q' s11 hE => ?_) (fun H11 H12 p3 v s11 hv s12 np3 hp3 => ?_)⟩
  · have e11 := e9.trans (e10.trans (ExtN.of s11))
    refine ⟨_, rfl, x, dx, fs, rfl, e11 _ _ hx0 nofun, nfp, by show 1 ≤ sizeLine; omega, fun q nq => ?_⟩
    have s_q : Same H11 (upd H11 q (.tup [.int 399])) := same_upd (Same.refl H11) nq
    have w_q : (upd H11 q (.tup [.int 399])) q = some (.tup (natV [399])) := upd_same
    generalize upd H11 q (.tup [.int 399]) = H12 at s_q w_q ⊢
    have e12 := e11.trans (ExtN.of s_q)
    have px12 := PtAt.kpo (KpO.ext e12) _ px
    exact ⟨_, rfl, .ref x, .ref q, .ref x, wideT, wideT, rfl, px12, wide_g, rfl, by omega, px12, wide_g, rfl, by omega, .inl ⟨some (natN [399]), pathV_of w_q, by rw [found_nat, wide_at, if_neg (by decide)], fun H' dd s nd hd => hE H' dd _ (s_q.trans s) (s_q.free nd) ⟨q, rfl, s _ _ w_q⟩ hd⟩⟩
  obtain ⟨q3, rfl, hq3⟩ := hv
  have e12 := e9.trans (e10.trans ((ExtN.of s11).trans (ExtN.of s12)))
  have tb12 := (tb10.ext s11).ext s12
  refine ⟨by show 1 ≤ sizeLine; omega, fun c4 nc4 => ?_⟩
  have s_c4 : Same H12 (upd H12 c4 (.tup [.int 399])) := same_upd (Same.refl H12) nc4
  have w_c4 : (upd H12 c4 (.tup [.int 399])) c4 = some (.tup [.int 399]) := upd_same
  generalize upd H12 c4 (.tup [.int 399]) = H13 at s_c4 w_c4 ⊢
  refine ⟨by show 2 ≤ sizeLine; omega, fun c5 nc5 => ?_⟩
  have s_c5 : Same H13 (upd H13 c5 (.tup [.str "path", .ref c4])) := same_upd (Same.refl H13) nc5
  have w_c5 : (upd H13 c5 (.tup [.str "path", .ref c4])) c5 = some (.tup [.str "path", .ref c4]) := upd_same
  generalize upd H13 c5 (.tup [.str "path", .ref c4]) = H14 at s_c5 w_c5 ⊢
  have s1214 := s_c4.trans s_c5
  have d1 : Dp K H14 (.ref q3) (.tuple [.int 399]) := .tup (SqT.of (s1214 _ _ (s12 _ _ hq3))) (.cons (.int _) .nil)
  have d2 : Dp K H14 (.ref c4) (.tuple [.int 399]) := .tup (SqT.of (s_c5 _ _ w_c4)) (.cons (.int _) .nil)
  have sh2 : SeqAt.shaped (.tuple [.str "path", .tuple [.int 399]]) = true := by decide +kernel
  refine ⟨.tuple [.str "path", .tuple [.int 399]], .tuple [.str "path", .tuple [.int 399]], .tup (SqT.of (s1214 _ _ hp3)) (.cons (.str _) (.cons d1 .nil)), .tup (SqT.of w_c5) (.cons (.str _) (.cons d2 .nil)), sh2, sh2, _, rfl, ?_⟩
  rw [SeqAt.eqv_refl _ (lay_of sh2)]
  refine iteF ?_
  have e14 := e12.trans (ExtN.of s1214)
  have tb14 := tb12.ext s1214
  -- from here on the heap only grows
  have plf := PtAt.kpo (KpO.ext e14) _ plf
  have px := PtAt.kpo (KpO.ext e14) _ px
  have py := PtAt.kpo (KpO.ext e14) _ py
  have hx0 := e14 _ _ hx0 nofun
  have hy0 := e14 _ _ hy0 nofun
  have hra := e14 _ _ hra nofun
  have hz := e14 _ _ hz nofun
  have hpx : HasP H14 x [.ref ra, .ref lf] := by
    obtain ⟨A1, dx1, fs1, pa1, h1, h2, h3, h4⟩ := hpx
    exact ⟨A1, dx1, fs1, pa1, e14 _ _ h1 nofun, h2, e14 _ _ h3 nofun, h4⟩
  have k := fun H' s tb => k H' (e14.trans (ExtN.of s)) tb
  clear e14 e12 e10 e9 e6 e5 e35 e4 e3 e2 e1
  have k : ∀ H', Same H14 H' → Z.rt (.bl true) H' := fun H' s => k H' s (tb14.ext s)
  clear tb14 tb12 tb10 tb9 tb6 tb5 tb4 tb3 tb2 tb1 tabs
  -- the puts that go well
  refine ⟨_, rfl, x, dx, fs, rfl, hx0, nfp, by show 1 ≤ sizeLine; omega, fun g1 ng1 => ?_⟩
  have s_g1 : Same H14 (upd H14 g1 (.tup [.int 7])) := same_upd (Same.refl H14) ng1
  have w_g1 : (upd H14 g1 (.tup [.int 7])) g1 = some (.tup (natV [7])) := upd_same
  generalize upd H14 g1 (.tup [.int 7]) = H15 at s_g1 w_g1 ⊢
  refine mk_leaf m2 fun H16 m s16 pm _ => ?_
  have t16 := s_g1.trans s16
  obtain ⟨okA, szA⟩ := good_wide (i := 7) (u := leafT "2") (by decide) (leaf_g m2) rfl (leaf_s "2").1 (by rw [(leaf_s "2").2]; decide)
  refine ⟨.ref x, .ref g1, .ref m, wideT, leafT "2", rfl, PtAt.kpo (KpO.same t16) _ px, wide_g, rfl, by omega, pm, leaf_g m2, rfl, by rw [(leaf_s "2").1]; decide, .inr ⟨[7], pathV_of (s16 _ _ w_g1), by rw [wide_at, if_pos (by decide)]; rfl, (fun _ H17 r1 s17 pr1 _ kp1 => ?_), (fun z => absurd z (by rw [okA]; nofun))⟩⟩
  have kp1 := kp1 7 rfl x _ rfl (show HasP H16 x [.ref ra, .ref lf] from by
    obtain ⟨A1, dx1, fs1, pa1, h1, h2, h3, h4⟩ := hpx
    exact ⟨A1, dx1, fs1, pa1, t16 _ _ h1, h2, t16 _ _ h3, h4⟩)
  obtain ⟨ry, rys, rfl, hpr, kept⟩ := kp1
  obtain ⟨rb, ws, k0, k1, k2⟩ := kept ra _ rfl (t16 _ _ hra)
  have t17 := t16.trans s17
  -- tall.put((0,) * 98, leaf)
  refine ⟨_, rfl, y, dy, gs, rfl, t17 _ _ hy0, ngp, by show 1 ≤ sizeLine; omega, fun g2 ng2 => ?_⟩
  have s_g2 : Same H17 (upd H17 g2 (.tup [.int 0])) := same_upd (Same.refl H17) ng2
  have w_g2 : (upd H17 g2 (.tup [.int 0])) g2 = some (.tup [.int 0]) := upd_same
  generalize upd H17 g2 (.tup [.int 0]) = H18 at s_g2 w_g2 ⊢
  refine ⟨g2, 98, _, rfl, rfl, SqT.of w_g2, by simp, by decide, by decide, by decide, fun g3 ng3 => ?_⟩
  have s_g3 : Same H18 (upd H18 g3 (.tup (List.replicate (98 : Int).toNat [V.int 0]).flatten)) := same_upd (Same.refl H18) ng3
  have w_g3 : (upd H18 g3 (.tup (List.replicate (98 : Int).toNat [V.int 0]).flatten)) g3 = some (.tup (natV (List.replicate 98 0))) := by rw [upd_same]; exact congrArg (fun z => some (HO.tup z)) (rep_nat 98)
  generalize upd H18 g3 (.tup (List.replicate (98 : Int).toNat [V.int 0]).flatten) = H19 at s_g3 w_g3 ⊢
  have t19 := t17.trans (s_g2.trans s_g3)
  have e98 : negs 99 (leafT "1") = negs 98 (negs 1 (leafT "1")) := negs_add (leafT "1") 98 1
  have at98 : atP (negs 99 (leafT "1")) (List.replicate 98 0) = some (negs 1 (leafT "1")) := by rw [e98]; exact negs_at ng ni 98
  have pl98 : placeT (List.replicate 98 0) (negs 99 (leafT "1")) (leafT "1") = negs 98 (leafT "1") := by rw [e98]; exact negs_place 98 ni
  have ok98 : okPut (List.replicate 98 0) (negs 99 (leafT "1")) (leafT "1") = true := by rw [e98]; exact good_tall (by decide) ni
  refine ⟨_, rfl, .ref y, .ref g3, .ref lf, negs 99 (leafT "1"), leafT "1", rfl, PtAt.kpo (KpO.same t19) _ py, tg, ti, by omega, PtAt.kpo (KpO.same t19) _ plf, leaf_g m1, rfl, by rw [(leaf_s "1").1]; decide, .inr ⟨List.replicate 98 0, pathV_of w_g3, by rw [at98]; rfl, (fun _ H20 r2 s20 pr2 _ _ => ?_), (fun z => absurd z (by rw [ok98]; nofun))⟩⟩
  rw [pl98] at pr2
  have t20 := t19.trans s20
  have ok99 : okPut (List.replicate 99 0) (negs 99 (leafT "1")) (leafT "1") = true := good_tall (by decide) rfl
  refine ⟨_, rfl, y, dy, gs, rfl, t20 _ _ hy0, ngp, _, rfl, _, rfl, .ref y, .ref z, .ref lf, negs 99 (leafT "1"), leafT "1", rfl, PtAt.kpo (KpO.same t20) _ py, tg, ti, by omega, PtAt.kpo (KpO.same t20) _ plf, leaf_g m1, rfl, by rw [(leaf_s "1").1]; decide, .inr ⟨List.replicate 99 0, pathV_of (t20 _ _ hz), by rw [negs_at (leaf_g m1) rfl]; rfl, (fun _ H21 r3 s21 pr3 nr3 _ => ?_), (fun z => absurd z (by rw [ok99]; nofun))⟩⟩
  rw [negs_place 99 rfl] at pr3
  have t21 := t20.trans s21
  refine ⟨by show 3 ≤ sizeLine; omega, fun l2 nl2 => ?_⟩
  have s_l2 : Same H21 (upd H21 l2 (.lst [.ref ry, r2, r3])) := same_upd (Same.refl H21) nl2
  have w_l2 : (upd H21 l2 (.lst [.ref ry, r2, r3])) l2 = some (.lst [.ref ry, r2, r3]) := upd_same
  generalize upd H21 l2 (.lst [.ref ry, r2, r3]) = H22 at s_l2 w_l2 ⊢
  have t22 := t21.trans s_l2
  -- wide.put((398,), Tree('A'))
  refine ⟨_, rfl, .inl ⟨rfl, _, SqL.of w_l2⟩, _, rfl, x, dx, fs, rfl, t22 _ _ hx0, nfp, by show 1 ≤ sizeLine; omega, fun g4 ng4 => ?_⟩
  have s_g4 : Same H22 (upd H22 g4 (.tup [.int 398])) := same_upd (Same.refl H22) ng4
  have w_g4 : (upd H22 g4 (.tup [.int 398])) g4 = some (.tup (natV [398])) := upd_same
  generalize upd H22 g4 (.tup [.int 398]) = H23 at s_g4 w_g4 ⊢
  refine mkT_ok (z := "A") (xs := []) (ts := []) (by decide +kernel) (by decide +kernel) True.intro True.intro (by decide) (by decide) (by decide) fun H24 nA s24 _ pA _ => ?_
  have pA : PtAt C H24 (.ref nA) nodeA := pA
  have t24 := t22.trans (s_g4.trans s24)
  obtain ⟨okB, szB⟩ := good_wide (i := 398) (u := nodeA) (by decide) nodeA_g rfl nodeA_f.2.1 (by rw [nodeA_f.2.2]; decide)
  refine ⟨.ref x, .ref g4, .ref nA, wideT, nodeA, rfl, PtAt.kpo (KpO.same t24) _ px, wide_g, rfl, by omega, pA, nodeA_g, rfl, by rw [nodeA_f.2.1]; decide, .inr ⟨[398], pathV_of (s24 _ _ w_g4), by rw [wide_at, if_pos (by decide)]; rfl, (fun _ H25 r4 s25 pr4 _ _ => ?_), (fun z => absurd z (by rw [okB]; nofun))⟩⟩
  have s2225 := s_g4.trans (s24.trans s25)
  have w25 := s2225 _ _ w_l2
  refine ⟨l2, _, _, rfl, rfl, w25, by show 3 < sizeLine; omega, ?_⟩
  have q1 : PtsAt C H25 [.ref ry, r2, r3, r4] [placeT [7] wideT (leafT "2"), negs 98 (leafT "1"), negs 99 (leafT "1"), placeT [398] wideT nodeA] :=
    ⟨PtAt.kpo (KpO.same ((s_g2.trans (s_g3.trans (s20.trans (s21.trans s_l2)))).trans s2225)) _ pr1, PtAt.kpo (KpO.same ((s21.trans s_l2).trans s2225)) _ pr2, PtAt.kpo (KpO.same (s_l2.trans s2225)) _ pr3, pr4, True.intro⟩
  have kk := kpO_upd (o := .lst ([.ref ry, r2, r3] ++ [r4])) w25
  have s26 : Same H14 (upd H25 l2 (.lst ([.ref ry, r2, r3] ++ [r4]))) := same_upd (t22.trans s2225) (t21.free nl2)
  have w26 : (upd H25 l2 (.lst ([.ref ry, r2, r3] ++ [r4]))) l2 = some (.lst [.ref ry, r2, r3, r4]) := upd_same
  have q26 := PtsAt.kpo kk _ q1
  have s1725 : Same H17 H25 := (s_g2.trans (s_g3.trans (s20.trans (s21.trans s_l2)))).trans s2225
  have hpr26 : HasP (upd H25 l2 (.lst ([.ref ry, r2, r3] ++ [r4]))) ry rys := by
    obtain ⟨A1, dx1, fs1, pa1, h1, h2, h3, h4⟩ := hpr
    exact ⟨A1, dx1, fs1, pa1, kk _ _ rfl (s1725 _ _ h1), h2, kk _ _ rfl (s1725 _ _ h3), h4⟩
  have k126 := kk _ _ rfl (s1725 _ _ k1)
  generalize upd H25 l2 (.lst ([.ref ry, r2, r3] ++ [r4])) = H26 at s26 w26 q26 hpr26 k126 ⊢
  clear q1 kk
  -- the lengths
  have szs : ∀ (i : Nat) (t : Tr), [placeT [7] wideT (leafT "2"), negs 98 (leafT "1"), negs 99 (leafT "1"), placeT [398] wideT nodeA][i]? = some t → isT t = true ∧ size t ≤ 400 ∧ [(400 : Nat), 99, 100, 400][i]? = some (size t) := by
    intro i t h
    have z98 := (negs_s (leafT "1") 98).1
    rw [(leaf_s "1").1] at z98
    match i, h with
    | 0, h => cases h; exact ⟨rfl, by omega, by rw [szA]; rfl⟩
    | 1, h => cases h; exact ⟨rfl, by omega, by rw [z98]; rfl⟩
    | 2, h => cases h; exact ⟨ti, by omega, by rw [ts]; rfl⟩
    | 3, h => cases h; exact ⟨rfl, by omega, by rw [szB]; rfl⟩
    | i + 4, h => cases h
  refine ⟨_, rfl, l2, rfl, ⟨_, SqL.of w26⟩, fun D hD => lc_list (K := K) (a := l2) (xs := [.ref ry, r2, r3, r4]) (fun i H' => Same H26 H' ∧ H' D = some (.lst ((([400, 99, 100, 400] : List Nat).take i).map fun n : Nat => V.int (n : Int)))) ⟨same_upd (Same.refl H26) hD, upd_same⟩ (fun i H' _ ⟨s', _⟩ => SqL.of (s' _ _ w26)) ?_ ?_⟩
  · rintro i yv H27 hyv ⟨s27, vD⟩
    obtain ⟨t, et, ht⟩ := LiI.paired_get (ptsAt_iff.mp q26) hyv
    obtain ⟨i1, i2, i3⟩ := szs i t et
    obtain ⟨f1, ps1, rfl⟩ := isT_nd i1
    have ht27 := PtAt.kpo (KpO.same s27) _ ht
    obtain ⟨x9, dx9, fs9, _, _, rfl, h9, _⟩ := id ht27
    refine ⟨rfl, ?_⟩
    dsimp only [tYes]
    rw [if_pos rfl]
    refine ⟨_, rfl, x9, dx9, fs9, rfl, h9, .ref x9, _, rfl, ht27, rfl, by omega, fun H28 s28 => ⟨_, rfl, by omega, by omega, ?_⟩⟩
    refine ⟨_, s28 _ _ vD, ?_, same_upd (s27.trans s28) hD, ?_⟩
    · rw [List.length_map, List.length_take]
      exact Nat.lt_of_le_of_lt (Nat.min_le_right _ _) (by show 4 < sizeLine; omega)
    · rw [upd_same, List.take_add_one, i3]
      simp
  rintro H27 ⟨s27, vD⟩
  refine ⟨by show 4 ≤ sizeLine; omega, fun c6 nc6 => ?_⟩
  have s_c6 : Same H27 (upd H27 c6 (.lst [.int 400, .int 99, .int 100, .int 400])) := same_upd (Same.refl H27) nc6
  have w_c6 : (upd H27 c6 (.lst [.int 400, .int 99, .int 100, .int 400])) c6 = some (.lst [.int 400, .int 99, .int 100, .int 400]) := upd_same
  generalize upd H27 c6 (.lst [.int 400, .int 99, .int 100, .int 400]) = H28 at s_c6 w_c6 ⊢
  have sh3 : SeqAt.shaped (.list [.int 400, .int 99, .int 100, .int 400]) = true := by decide +kernel
  have dI : ∀ {L : Addr}, H28 L = some (.lst [.int 400, .int 99, .int 100, .int 400]) → Dp K H28 (.ref L) (.list [.int 400, .int 99, .int 100, .int 400]) := fun h => .lst (SqL.of h) (.cons (.int _) (.cons (.int _) (.cons (.int _) (.cons (.int _) .nil))))
  refine ⟨_, _, dI (s_c6 _ _ vD), dI w_c6, sh3, sh3, _, rfl, ?_⟩
  rw [SeqAt.eqv_refl _ (lay_of sh3)]
  refine iteF ?_
  have s2628 := s27.trans s_c6
  have q28 := PtsAt.kpo (KpO.same s2628) _ q26
  have w28 := s2628 _ _ w26
  have s28 := s26.trans s2628
  obtain ⟨p1, p2, p3', p4, _⟩ := q28
  refine ⟨_, rfl, l2, _, 2, r3, rfl, rfl, SqL.of w28, atI_nat (j := 2) rfl, _, rfl, ?_⟩
  refine eq_tree RR.T5 RR.nf p3' ti (PtAt.kpo (KpO.same s28) _ py) ti ⟨_, rfl, ?_⟩
  rw [decide_eq_true rfl]
  refine iteF ?_
  -- told[3].parts[1].form
  rw [wide_place] at p4
  obtain ⟨x4, dx4, fs4, pa4, xs4, rfl, i2, i3, i4, i5, i6, _⟩ := p4
  have cl := (RR.T5.own _ mT).cl
  have na : ∀ f ∈ ([("form" : Str), "parts", "children", "size", "levels", "text", "name"] : List Str), NoAttr K C.T f := RR.N5.na _ mT
  match xs4, i6, i5 with
  | [z0, z1], ⟨_, hz1, _⟩, i5 =>
    rw [if_pos (by decide)] at hz1
    obtain ⟨x5, dx5, fs5, pa5, xs5, rfl, j2, j3, _⟩ := hz1
    refine ⟨_, rfl, l2, _, 3, .ref x4, rfl, rfl, SqL.of w28, atI_nat (j := 3) rfl, x4, C.T, dx4, fs4, _, rfl, i2, cl, na _ (by decide +kernel), i4, pa4, _, 1, .ref x5, rfl, rfl, SqT.of i5, atI_nat (j := 1) rfl, x5, C.T, dx5, fs5, _, rfl, j2, cl, na _ (by decide +kernel), j3, rfl, _, rfl, ?_⟩
    rw [decide_eq_true rfl]
    refine iteF ?_
    -- told[0].parts[0]
    rw [wide_place] at p1
    obtain ⟨x6, dx6, fs6, pa6, xs6, e6, u2, u3, u4, u5, u6, _⟩ := p1
    cases e6
    obtain ⟨A7, dx7, fs7, pa7, h1, h2, h3, _⟩ := hpr26
    have h1 := s2628 _ _ h1
    rw [u2] at h1
    cases h1
    rw [u4] at h2
    cases h2
    have h3 := s2628 _ _ h3
    rw [u5] at h3
    cases h3
    match rys, u6, k0, u5 with
    | [z6, z7], ⟨hz6, _⟩, k0, u5 =>
      cases k0
      obtain ⟨rb', ws', e7, u7, u8⟩ := hz6
      cases e7
      have k128 := s2628 _ _ k126
      rw [u7] at k128
      cases k128
      have r7 : (rowX (fun _ => leafT "2") ((7 : Nat) : Int) (List.replicate 398 (leafT "1")))[7]? = some (leafT "2") := by
        rw [rowX_get, List.getElem?_replicate, if_pos (by decide)]
        rfl
      obtain ⟨w7, ew7, hw7⟩ := pts_get u8 r7
      obtain ⟨x8, A8, dx8, fs8, rfl, g2', g3', g4'⟩ := text_of (K := K) hw7 rfl
      refine ⟨_, rfl, l2, _, 0, .ref ry, rfl, rfl, SqL.of w28, atI_nat (j := 0) rfl, ry, C.T, dx6, fs6, _, rfl, u2, cl, na _ (by decide +kernel), u4, pa6, _, 0, .ref rb, rfl, rfl, SqT.of u5, atI_nat (j := 0) rfl, rb, _, 7, .ref x8, rfl, rfl, SqT.of u7, atI_nat (j := 7) ew7, x8, A8, dx8, fs8, _, rfl, g2', (RR.T5.own _ g3').cl, RR.N5.na _ g3' _ (by decide +kernel), g4', rfl, _, rfl, ?_⟩
      rw [said2, decide_eq_true rfl]
      refine iteT ?_
      have wl : ws.length = 398 := by rw [pts_len u8, rowX_len, List.length_replicate]
      have cut7 : cutV ws none (some 7) = List.replicate 7 (.ref lf) := by
        rw [show (some (7 : Int)) = some ((7 : Nat) : Int) from rfl, cut_to (by omega)]
        refine List.ext_getElem? fun j => ?_
        by_cases hj : j < 7
        · rw [List.getElem?_take, if_pos hj, k2 j (by omega), List.getElem?_replicate, List.getElem?_replicate, if_pos (by omega), if_pos hj]
        · rw [List.getElem?_take, if_neg hj, List.getElem?_replicate, if_neg hj]
      refine ⟨_, rfl, l2, _, 0, .ref ry, rfl, rfl, SqL.of w28, atI_nat (j := 0) rfl, ry, C.T, dx6, fs6, _, rfl, u2, cl, na _ (by decide +kernel), u4, pa6, _, 0, .ref rb, rfl, rfl, SqT.of u5, atI_nat (j := 0) rfl, 7, rfl, rb, ws, rfl, SqT.of u7, ?_, fun c7 nc7 => ?_⟩
      · rw [HT.sIx_none, show (some (7 : Int)) = some ((7 : Nat) : Int) from rfl, HT.sIx_nat]
        intro q
        have := q.2
        omega
      rw [cut7]
      have s_c7 : Same H28 (upd H28 c7 (.tup (List.replicate 7 (V.ref lf)))) := same_upd (Same.refl H28) nc7
      have w_c7 : (upd H28 c7 (.tup (List.replicate 7 (V.ref lf)))) c7 = some (.tup (List.replicate 7 (V.ref lf))) := upd_same
      generalize upd H28 c7 (.tup (List.replicate 7 (V.ref lf))) = H29 at s_c7 w_c7 ⊢
      refine ⟨_, rfl, by show 1 ≤ sizeLine; omega, fun c8 nc8 => ?_⟩
      have s_c8 : Same H29 (upd H29 c8 (.tup [.ref lf])) := same_upd (Same.refl H29) nc8
      have w_c8 : (upd H29 c8 (.tup [.ref lf])) c8 = some (.tup [.ref lf]) := upd_same
      generalize upd H29 c8 (.tup [.ref lf]) = H30 at s_c8 w_c8 ⊢
      refine ⟨c8, 7, _, rfl, rfl, SqT.of w_c8, by simp, by decide, by decide, by show 1 ≤ 1000; omega, fun c9 nc9 => ?_⟩
      have s_c9 : Same H30 (upd H30 c9 (.tup (List.replicate (7 : Int).toNat [V.ref lf]).flatten)) := same_upd (Same.refl H30) nc9
      have w_c9 : (upd H30 c9 (.tup (List.replicate (7 : Int).toNat [V.ref lf]).flatten)) c9 = some (.tup (List.replicate 7 (.ref lf))) := by rw [upd_same, flat_one]; rfl
      generalize upd H30 c9 (.tup (List.replicate (7 : Int).toNat [V.ref lf]).flatten) = H31 at s_c9 w_c9 ⊢
      refine ⟨c7, c9, List.replicate 7 (.ref lf), rfl, rfl, SqT.of ((s_c8.trans s_c9) _ _ w_c7), SqT.of w_c9, fun v hv => by rw [(List.mem_replicate.mp hv).2]; rfl, _, rfl, ?_⟩
      refine iteT ?_
      have s31 := s28.trans (s_c7.trans (s_c8.trans s_c9))
      obtain ⟨A1, dx1, fs1, pa1, h1x, h2x, h3x, _⟩ := hpx
      have plf31 := PtAt.kpo (KpO.same s31) _ plf
      rw [hx0] at h1x
      cases h1x
      refine ⟨_, rfl, x, C.T, dx, fs, _, rfl, s31 _ _ hx0, cl, na _ (by decide +kernel), h2x, pa1, _, 0, .ref ra, rfl, rfl, SqT.of (s31 _ _ h3x), atI_nat (j := 0) rfl, ra, _, 7, .ref lf, rfl, rfl, SqT.of (s31 _ _ hra), atI_nat (j := 7) (by rw [List.getElem?_replicate, if_pos (by decide)]), _, rfl, ?_⟩
      refine eq_tree RR.T5 RR.nf plf31 rfl plf31 rfl ?_
      rw [decide_eq_true rfl]
      exact k H31 s31
end
end K3

namespace K3
open PySem PySem.Spec PyProof.Rows PySem.SeqAt L2 E0 EG
open LamX (ExtN Tabs TabS TabB LamS lamS_by)
section
variable {P : Program} {w : World} {K : PySem.W.Frag} {mg : Str → Option Value} {base : Heap}
def spLimits (T : List (Addr × Str)) : Sp := fun vs H Q _ => vs = [] ∧ Tabs T H ∧ ∀ H', ExtN H H' → Tabs T H' → Q (.bl true) H'
theorem ok_limitsRight {C : Cl5} {CI CP CS fT f c Pt : Addr} {fd : FuncData} {a : AdR} {d : AdP} {T : List (Addr × Str)} (F : FunC K "_law_limits_right" "_law_limits_right" sLimitsRight f fd c) (RR : TxtRR P w K mg base C CP 40 a) (TR : TxtPR P w K mg base C CI CP CS d) (LI : TxtLI P w K mg base C CI fT) (TB : TabB base mg c Pt) (hmT : (Pt, qLI) ∈ T) (hu : ∀ p ∈ T, p.1 = Pt → p.2 = qLI) :
    FnOk P w K mg base CX0 21 f fd [] (spLimits T) := by
  refine F.ok scLI (fun vs H Q E h => ?_) (fun A outer s H vs Q E hr h => ?_)
  · obtain ⟨rfl, _⟩ := h
    rfl
  · obtain ⟨rfl, tabs, k⟩ := h
    have hr : Room 20 _ := hr
    obtain ⟨t0, p0, r0⟩ := li0 (P := P) (w := w) (mg := mg) (base := base) (f := f) (c := c) (A := A) (outer := outer) (s := s) (H0 := H) (E := E) RR TR LI hr
    obtain ⟨t1, p1, r1⟩ := li1 (P := P) (w := w) (mg := mg) (base := base) (f := f) (c := c) (A := A) (outer := outer) (s := s) (H0 := H) (E := E) RR TR LI hr
    obtain ⟨t2, p2, r2⟩ := li2 (P := P) (w := w) (mg := mg) (base := base) (f := f) (c := c) (A := A) (outer := outer) (s := s) (H0 := H) (E := E) RR TR LI hr
    obtain ⟨t3, p3, r3⟩ := li3 (P := P) (w := w) (mg := mg) (base := base) (f := f) (c := c) (A := A) (outer := outer) (s := s) (H0 := H) (E := E) RR TR LI hr
    obtain ⟨t4, p4, r4⟩ := li4 (P := P) (w := w) (mg := mg) (base := base) (f := f) (c := c) (A := A) (outer := outer) (s := s) (H0 := H) (E := E) RR TR LI hr True.intro
    obtain ⟨t5, p5, r5⟩ := li5 (P := P) (w := w) (mg := mg) (base := base) (f := f) (c := c) (A := A) (outer := outer) (s := s) (H0 := H) (E := E) RR TR LI hr
    obtain ⟨t6, p6, r6⟩ := li6 (P := P) (w := w) (mg := mg) (base := base) (f := f) (c := c) (A := A) (outer := outer) (s := s) (H0 := H) (E := E) RR TR LI hr TB hmT hu
    refine ⟨_, pss_cons p0 (pss_cons p1 (pss_cons p2 (pss_cons p3 (pss_cons p4 (pss_cons p5 p6))))), ?_⟩
    refine r0 _ H fun H1 x y s1 px py ny => ?_
    refine r1 _ H1 x y py ny fun H2 y' v2 s2 py2 ny2 => ?_
    refine r2 _ H2 x _ v2 (PtAt.kpo (KpO.same s2) _ px) fun H3 z ra s3 pz hpz hra => ?_
    have nz := noF_of pz hpz
    refine r3 _ H3 _ _ v2 _ fun H4 dz s4 hdz => ?_
    have s34 := s3.trans s4
    refine r4 _ H4 z y' dz _ v2 (PtAt.kpo (KpO.same s4) _ pz) (nz.same s4) (PtAt.kpo (KpO.same s34) _ py2) (ny2.same s34) hdz fun H5 s5 => ?_
    have s45 := s4.trans s5
    have s35 := s3.trans s45
    refine r5 _ H5 z y' dz _ v2 (PtAt.kpo (KpO.same s45) _ pz) (nz.same s45) (PtAt.kpo (KpO.same s35) _ py2) (ny2.same s35) (s5 _ _ hdz) fun H6 s6 => ?_
    have s46 := s45.trans s6
    have s36 := s3.trans s46
    have s06 := s1.trans (s2.trans s36)
    refine r6 _ H6 x z y' dz ra v2 (PtAt.kpo (KpO.same (s2.trans s36)) _ px) (PtAt.kpo (KpO.same s46) _ pz) (nz.same s46) ?_ (s46 _ _ hra) (PtAt.kpo (KpO.same s36) _ py2) (ny2.same s36) ((s5.trans s6) _ _ hdz) (tabs.ext s06) fun H7 e7 tb7 => k H7 ((ExtN.of s06).trans e7) tb7
    obtain ⟨A1, dx1, fs1, pa1, h1, h2, h3, h4⟩ := hpz
    exact ⟨A1, dx1, fs1, pa1, s46 _ _ h1, h2, s46 _ _ h3, h4⟩
end
/-! ### law -/
def NLW : List Str := ["_law_script", "_law_m", "_law_turn", "_law_plant", "_law_one"]
theorem scLW : FnScope NLW ["_law_script"] (defScope sLaw) := ⟨rfl, rfl, rfl, by decide +kernel, rfl, by decide +kernel, by decide +kernel⟩
theorem small4 : ∀ d, d ≤ 3 → sB d ≤ 200 ∧ tD d ≤ 1000 := by
  intro d hd
  match d, hd with
  | 0, _ | 1, _ | 2, _ | 3, _ => decide +kernel
theorem es_at (z : Int) (h0 : 0 ≤ z) (h1 : z < 2) : ∃ b ch, atI ("es" : Str).cps.toList z = some ch ∧ (⟨#[ch]⟩ : Str) = sortS b := by
  have h : z = 0 ∨ z = 1 := by omega
  rcases h with rfl | rfl
  · exact ⟨true, 101, by decide +kernel, by decide +kernel⟩
  · exact ⟨false, 115, by decide +kernel, by decide +kernel⟩
structure TxtLw (P : Program) (w : World) (K : PySem.W.Frag) (mg : Str → Option Value) (base : Heap) (C : Cl5) (fBg fRr fOr fPr fLi : Addr) (fdBg fdRr fdOr fdPr fdLi : FuncData) (T : List (Addr × Str)) : Prop where
  GBg : FnOk P w K mg base CX0 2 fBg fdBg ["_law_script"] (spBegun K)
  ABg : DefA K mg "_law_begun" ["_law_script"] fBg fdBg
  GRr : FnG P w K mg base CX0 87 fRr fdRr ["_law_plant", "_law_one"] (spReadRight C 40)
  ARr : DefA K mg "_law_read_right" ["_law_plant", "_law_one"] fRr fdRr
  GOr : FnOk P w K mg base CX0 9 fOr fdOr ["_law_plant", "_law_one"] (spOddsRight C T)
  AOr : DefA K mg "_law_odds_right" ["_law_plant", "_law_one"] fOr fdOr
  GPr : FnG P w K mg base CX0 96 fPr fdPr ["_law_m", "_law_plant", "_law_one"] (spPutRight K C T)
  APr : DefA K mg "_law_put_right" ["_law_m", "_law_plant", "_law_one"] fPr fdPr
  GLi : FnOk P w K mg base CX0 21 fLi fdLi [] (spLimits T)
  ALi : DefA K mg "_law_limits_right" [] fLi fdLi
section
variable {P : Program} {w : World} {K : PySem.W.Frag} {mg : Str → Option Value} {base : Heap}
def spLaw (K : PySem.W.Frag) (T : List (Addr × Str)) : Sp := fun vs H Q _ => ∃ (a : Addr) (ns : List Int), vs = [.ref a] ∧ SqL K H a (ns.map V.int) ∧ ns.length ≤ 63 ∧ Tabs T H ∧ ∀ H', Q (.bl true) H'
theorem ok_law {C : Cl5} {CI CP CS f fBg fRr fOr fPr fLi : Addr} {fd fdBg fdRr fdOr fdPr fdLi : FuncData} {a : AdR} {d : AdP} {T : List (Addr × Str)} (F : Fun K "law" "law" sLaw f fd) (RR : TxtRR P w K mg base C CP 40 a) (TR : TxtPR P w K mg base C CI CP CS d) (TL : TxtLw P w K mg base C fBg fRr fOr fPr fLi fdBg fdRr fdOr fdPr fdLi T) :
    FnG P w K mg base CX0 98 f fd ["_law_script"] (spLaw K T) := by
  refine okG F scLW (fun vs H Q E h => ?_) (fun cdv A outer s H vs Q E hr hG h => ?_)
  · obtain ⟨a, ns, rfl, _⟩ := h
    rfl
  · obtain ⟨sa, ns, rfl, hS, hl, tabs, k⟩ := h
    have hr96 : Room 96 _ := hr.mono (by decide)
    have hr87 : Room 87 _ := hr.mono (by decide)
    have hr86 : Room 86 _ := hr.mono (by decide)
    have hr41 : Room 41 _ := hr.mono (by decide)
    have hr21 : Room 21 _ := hr.mono (by decide)
    have hr9 : Room 9 _ := hr.mono (by decide)
    have hr7 : Room 7 _ := hr.mono (by decide)
    have hr2 : Room 2 _ := hr.mono (by decide)
    have big : (1000000 : Nat) < sizeLine := by decide
    refine ⟨_, (pss_cons (ps_set (i := 1) scLW.nd rfl (.inl rfl) (pe_call TL.GBg hr2 (by rfl) TL.ABg.g TL.ABg.k TL.ABg.b .nil pass0 (pa_cons (L2.pv 0) pa_nil))) (pss_cons (ps_for PassesOwn.never rfl (pi_range1 rfl TR.gR (pa_cons pe_int pa_nil)) (pg_name (i := 2) scLW.nd rfl (.inl rfl)) (pss_cons (ps_set (i := 3) scLW.nd rfl (.inl rfl) (pe_call TR.GTr hr7 (by rfl) TR.ATr.g TR.ATr.k TR.ATr.b .nil pass0 (pa_cons (L2.pv 1) (pa_cons (pe_ix ix_str pe_str (pe_call TR.GD hr2 (by rfl) TR.AD.g TR.AD.k TR.AD.b .nil pass0 (pa_cons (L2.pv 1) (pa_cons pe_int pa_nil))) (fun _ _ => rfl)) (pa_cons (pe_op op_add pe_int (pe_call TR.GD hr2 (by rfl) TR.AD.g TR.AD.k TR.AD.b .nil pass0 (pa_cons (L2.pv 1) (pa_cons pe_int pa_nil)))) pa_nil))))) (pss_one (ps_if (pt_cmpR op_lt (pe_callB call_len_seq (by rfl) RR.T.len PySem.boot_len (pa_cons (pe_call RR.GP hr41 (by rfl) RR.AP.g RR.AP.k RR.AP.b .nil pass0 (pa_cons (L2.pv 3) pa_nil)) pa_nil)) pe_int (nomark _)) (pss_cons (ps_set (i := 4) scLW.nd rfl (.inl rfl) (pe_call (E := E0) RR.GM hr86 (by rfl) RR.AM.g RR.AM.k RR.AM.b .nil passL (pa_cons (L2.pv 3) pa_nil))) (pss_cons (ps_if (PW.pt (pw_or (pt_not (pt_val (pe_callG TL.GRr hr87 hG (by rfl) TL.ARr.g TL.ARr.k TL.ARr.b .nil pass0 (pa_cons (L2.pv 3) (pa_cons (L2.pv 4) pa_nil))))) (pw_or1 (pt_not (pt_val (pe_call TL.GOr hr9 (by rfl) TL.AOr.g TL.AOr.k TL.AOr.b .nil pass0 (pa_cons (L2.pv 3) (pa_cons (L2.pv 4) pa_nil)))))))) (pss_one (ps_ret pe_bl)) pss_nil) (pss_one (ps_if (pt_not (pt_val (pe_callG TL.GPr hr96 hG (by rfl) TL.APr.g TL.APr.k TL.APr.b .nil pass0 (pa_cons (L2.pv 1) (pa_cons (L2.pv 3) (pa_cons (L2.pv 4) pa_nil)))))) (pss_one (ps_ret pe_bl)) pss_nil)))) pss_nil)))) (pss_one (ps_ret (pe_call0 (E := E0) TL.GLi hr21 rfl TL.ALi.g TL.ALi.k TL.ALi.b .nil pass0))))), ?_⟩
    refine ⟨_, rfl, sa, ns, rfl, hS, hl, fun H1 m lc lg s1 nm nlg M1 => ?_⟩
    refine ⟨8, rfl, by decide, by decide, for_range (lo := 0) (n := 8) (fun i σ H' => ∃ (n : Int) (v2 v3 v4 : Option V), σ = [some (.ref sa), some (.ref m), v2, v3, v4] ∧ MA m lc lg n H' ∧ 0 ≤ n ∧ n ≤ 6000 * (i : Int) ∧ Tabs T H') ⟨0, _, _, _, rfl, M1, by omega, by omega, tabs.ext s1⟩ ?_ ?_⟩
    · rintro i σ H2 hi ⟨n, v2, v3, v4, rfl, M2, n0, nl, tb2⟩
      refine ⟨_, rfl, _, rfl, m, lc, lg, n, 2, rfl, M2, by omega, by omega, by omega, fun H3 z z0 z1 M3 d3 => ?_⟩
      obtain ⟨b, ch, ea, ec⟩ := es_at z z0 z1
      refine ⟨"es", z, ch, rfl, rfl, by show 2 ≤ sizeLine; omega, ea, ?_⟩
      rw [ec]
      refine ⟨_, rfl, m, lc, lg, n + 1, 3, rfl, M3, by omega, by omega, by omega, fun H4 y y0 y1 M4 d4 => ?_⟩
      obtain ⟨j, rfl⟩ := Int.eq_ofNat_of_zero_le y0
      obtain ⟨q1, q2⟩ := small4 (1 + j) (by omega)
      refine ⟨_, _, rfl, rfl, ⟨1 + j, by omega⟩, m, lc, lg, n + 1 + 1, b, ?_, M4, ?_, fun H5 v t n5 d5 M5 l1 l2 hv ok => ?_⟩
      · show [V.ref m, .str (sortS b), .int (1 + (j : Int))] = [.ref m, .str (sortS b), .int ((1 + j : Nat) : Int)]
        rw [show ((1 + j : Nat) : Int) = 1 + (j : Int) by omega]
      · show n + 1 + 1 + ((tD (1 + j) : Nat) : Int) ≤ 1000000
        omega
      have l2 : n5 ≤ n + 1 + 1 + ((tD (1 + j) : Nat) : Int) := l2
      have ok : TreeOk (1 + j) t := ok
      have tb5 : Tabs T H5 := tabs_draw (tabs_draw (tabs_draw tb2 M2 d3) M3 d4) M4 fun b o q1 q2 q => d5 b o q1 q2 q
      have ks := ok.s
      have kl := ok.l
      have kh := ok.h
      have hv5 : PlAt (NM m lg) H5 v t := PlAt.mono (fun b hb => M4.nm hb) _ hv
      refine ⟨_, rfl, NM m lg, v, t, rfl, hv5, ok.g, ok.i, by omega, by omega, fun H6 l ds s6 _ hl pd => ?_⟩
      have pn := paths_len ok.g ok.i
      have dl : ds.length = size t := by rw [← pn]; exact pd.length
      refine ⟨l, ds, rfl, .inl (SqL.of hl), _, _, rfl, rfl, _, rfl, ?_⟩
      have M6 := M5.same s6
      have tb6 := tb5.ext s6
      have hv6 := PlAt.kp (KpN.same s6) t hv5
      by_cases sm : size t < 120
      · rw [decide_eq_true (by omega : ((ds.length : Nat) : Int) < 120)]
        refine iteT ?_
        refine ⟨_, rfl, NM m lg, v, t, rfl, hv6, ok.g, ok.i, ok.w, by omega, by omega, by omega, fun H7 x s7 px nx => ?_⟩
        have R7 : PR K C T m lc lg n5 4 8 H7 v x t := ⟨M6.same s7, PlAt.kp (KpN.same s7) t hv6, px, nx, ok.g, ok.i, ok.w, by omega, by omega, by omega, tb6.ext s7⟩
        refine ⟨_, rfl, _, rfl, NM m lg, v, x, t, rfl, R7.pl, R7.pt, R7.f, R7.g, R7.i, R7.w, by omega, R7.s, by omega, fun H8 s8 => ⟨_, rfl, ?_⟩⟩
        refine iteF ?_
        have R8 := R7.same s8
        refine ⟨_, rfl, _, rfl, NM m lg, v, x, t, rfl, R8.pl, R8.pt, R8.f, R8.g, R8.i, R8.s, by omega, R8.b, fun H9 e9 tb9 => ⟨_, rfl, ?_⟩⟩
        refine iteF ?_
        have R9 := R8.fd (FD.ext e9) (R8.M.ext e9) tb9
        refine ⟨_, rfl, _, rfl, _, rfl, m, lc, lg, n5, v, x, t, rfl, by omega, R9, fun H10 n10 d10 M10 l3 l4 tb10 => ⟨_, rfl, ?_⟩⟩
        refine iteF ?_
        exact ⟨n10, _, _, _, rfl, M10, by omega, by omega, tb10⟩
      · rw [decide_eq_false (by omega : ¬ ((ds.length : Nat) : Int) < 120)]
        refine iteF ?_
        exact ⟨n5, _, _, _, rfl, M6, by omega, by omega, tb6⟩
    · rintro σ H2 ⟨n, v2, v3, v4, rfl, M2, n0, nl, tb2⟩
      exact ⟨rfl, tb2, fun H3 _ _ => k H3⟩
end
end K3

namespace K3
open PySem L2 E0 EG
open LamX (ExtN Tabs TabS TabB)
theorem raw_of {P : Program} {w : World} {K : PySem.W.Frag} {mg : Str → Option Value} {base : Heap} {CX : CXT} {k : Nat} {f : Addr} {fd : FuncData} {ps : List Str} {sp : Sp} (G : FnOk P w K mg base CX k f fd ps sp) (b : Binds K fd ps []) : FnR P w K mg base CX k f sp := (G.raw b .nil).imp fun vs H Q E h => by rw [List.append_nil]; exact h
theorem uni3 {a b c : Addr} {qa qb qc : Str} (h1 : a ≠ b) (h2 : a ≠ c) (h3 : b ≠ c) : (∀ p ∈ [(a, qa), (b, qb), (c, qc)], p.1 = a → p.2 = qa) ∧ (∀ p ∈ [(a, qa), (b, qb), (c, qc)], p.1 = b → p.2 = qb) ∧ (∀ p ∈ [(a, qa), (b, qb), (c, qc)], p.1 = c → p.2 = qc) := by
  refine ⟨fun p hp e => ?_, fun p hp e => ?_, fun p hp e => ?_⟩ <;> (simp only [List.mem_cons, List.not_mem_nil, or_false] at hp; rcases hp with z | z | z <;> rw [z] at e ⊢)
  · exact absurd e.symm h1
  · exact absurd e.symm h2
  · exact absurd e h1
  · exact absurd e.symm h3
  · exact absurd e h2
  · exact absurd e h3
theorem all_mk {l : PySem.W.OpenLaw} {w : World} {K : PySem.W.Frag} {h : Heap} {mg : Str → Option Value} {fa : Addr} {P : Program}
    {fN : Addr} {ocN kVN dcN pmN ctN cdN : Value} {odN anN : Option Addr} {slN : Array (Option Value)}
    {fNd : Addr} {ocNd kVNd dcNd pmNd ctNd cdNd : Value} {odNd anNd : Option Addr} {slNd : Array (Option Value)}
    {fTP : Addr} {ocTP kVTP dcTP pmTP ctTP cdTP : Value} {odTP anTP : Option Addr} {slTP : Array (Option Value)}
    {fNA : Addr} {ocNA kVNA dcNA pmNA ctNA cdNA : Value} {odNA anNA : Option Addr} {slNA : Array (Option Value)}
    {fMS : Addr} {ocMS kVMS dcMS pmMS ctMS cdMS : Value} {odMS anMS : Option Addr} {slMS : Array (Option Value)}
    {fAt : Addr} {ocAt kVAt dcAt pmAt ctAt cdAt : Value} {odAt anAt : Option Addr} {slAt : Array (Option Value)}
    {fEx : Addr} {ocEx kVEx dcEx pmEx ctEx cdEx : Value} {odEx anEx : Option Addr} {slEx : Array (Option Value)}
    {fRi : Addr} {ocRi kVRi dcRi pmRi ctRi cdRi : Value} {odRi anRi : Option Addr} {slRi : Array (Option Value)}
    {fNu : Addr} {ocNu kVNu dcNu pmNu ctNu cdNu : Value} {odNu anNu : Option Addr} {slNu : Array (Option Value)}
    {fNX : Addr} {ocNX kVNX dcNX pmNX ctNX cdNX : Value} {odNX anNX : Option Addr} {slNX : Array (Option Value)}
    {fPT : Addr} {ocPT kVPT dcPT pmPT ctPT cdPT : Value} {odPT anPT : Option Addr} {slPT : Array (Option Value)}
    {fQ : Addr} {ocQ kVQ dcQ pmQ ctQ cdQ : Value} {odQ anQ : Option Addr} {slQ : Array (Option Value)}
    {fM : Addr} {ocM kVM dcM pmM ctM cdM : Value} {odM anM : Option Addr} {slM : Array (Option Value)}
    {fFo : Addr} {ocFo kVFo dcFo pmFo ctFo cdFo : Value} {odFo anFo : Option Addr} {slFo : Array (Option Value)}
    {fDr : Addr} {ocDr kVDr dcDr pmDr ctDr cdDr : Value} {odDr anDr : Option Addr} {slDr : Array (Option Value)}
    {fBg : Addr} {ocBg kVBg dcBg pmBg ctBg cdBg : Value} {odBg anBg : Option Addr} {slBg : Array (Option Value)}
    {fTa : Addr} {ocTa kVTa dcTa pmTa ctTa cdTa : Value} {odTa anTa : Option Addr} {slTa : Array (Option Value)}
    {fWo : Addr} {ocWo kVWo dcWo pmWo ctWo cdWo : Value} {odWo anWo : Option Addr} {slWo : Array (Option Value)}
    {fFm : Addr} {ocFm kVFm dcFm pmFm ctFm cdFm : Value} {odFm anFm : Option Addr} {slFm : Array (Option Value)}
    {fTr : Addr} {ocTr kVTr dcTr pmTr ctTr cdTr : Value} {odTr anTr : Option Addr} {slTr : Array (Option Value)}
    {fRo : Addr} {ocRo kVRo dcRo pmRo ctRo cdRo : Value} {odRo anRo : Option Addr} {slRo : Array (Option Value)}
    {fMa : Addr} {ocMa kVMa dcMa pmMa ctMa cdMa : Value} {odMa anMa : Option Addr} {slMa : Array (Option Value)}
    {fCl : Addr} {ocCl kVCl dcCl pmCl ctCl cdCl : Value} {odCl anCl : Option Addr} {slCl : Array (Option Value)}
    {fBe : Addr} {ocBe kVBe dcBe pmBe ctBe cdBe : Value} {odBe anBe : Option Addr} {slBe : Array (Option Value)}
    {fLA : Addr} {ocLA kVLA dcLA pmLA ctLA cdLA : Value} {odLA anLA : Option Addr} {slLA : Array (Option Value)}
    {fPa : Addr} {ocPa kVPa dcPa pmPa ctPa cdPa : Value} {odPa anPa : Option Addr} {slPa : Array (Option Value)}
    {fD2 : Addr} {ocD2 kVD2 dcD2 pmD2 ctD2 cdD2 : Value} {odD2 anD2 : Option Addr} {slD2 : Array (Option Value)}
    {fFa : Addr} {ocFa kVFa dcFa pmFa ctFa cdFa : Value} {odFa anFa : Option Addr} {slFa : Array (Option Value)}
    {fPl : Addr} {ocPl kVPl dcPl pmPl ctPl cdPl : Value} {odPl anPl : Option Addr} {slPl : Array (Option Value)}
    {fRR : Addr} {ocRR kVRR dcRR pmRR ctRR cdRR : Value} {odRR anRR : Option Addr} {slRR : Array (Option Value)}
    {fOR : Addr} {ocOR kVOR dcOR pmOR ctOR : Value} {odOR anOR : Option Addr} {slOR : Array (Option Value)}
    {fPR : Addr} {ocPR kVPR dcPR pmPR ctPR : Value} {odPR anPR : Option Addr} {slPR : Array (Option Value)}
    {fLI : Addr} {ocLI kVLI dcLI pmLI ctLI : Value} {odLI anLI : Option Addr} {slLI : Array (Option Value)}
    {fL : Addr} {ocL kVL dcL pmL ctL cdL : Value} {odL anL : Option Addr} {slL : Array (Option Value)}
    {CT CL CV CW CR CI CP CS cOR cPR cLI pOR pPR pLI : Addr} {mc : Value} {tMx tLt tSg tMt tMN tML : Tok}
    {fIT : Addr} {ocIT kVIT dcIT pmIT ctIT cdIT : Value} {odIT anIT : Option Addr} {slIT : Array (Option Value)}
    {fTe : Addr} {ocTe kVTe dcTe pmTe ctTe cdTe : Value} {odTe anTe : Option Addr} {slTe : Array (Option Value)}
    {fTl : Addr} {ocTl kVTl dcTl pmTl ctTl cdTl : Value} {odTl anTl : Option Addr} {slTl : Array (Option Value)}
    {fEp : Addr} {ocEp kVEp dcEp pmEp ctEp cdEp : Value} {odEp anEp : Option Addr} {slEp : Array (Option Value)}
    {fTh : Addr} {ocTh kVTh dcTh pmTh ctTh cdTh : Value} {odTh anTh : Option Addr} {slTh : Array (Option Value)}
    {fTg : Addr} {ocTg kVTg dcTg pmTg ctTg cdTg : Value} {odTg anTg : Option Addr} {slTg : Array (Option Value)}
    {fPu : Addr} {ocPu kVPu dcPu pmPu ctPu cdPu : Value} {odPu anPu : Option Addr} {slPu : Array (Option Value)}
    {fE cdaE ccE NNE : Addr} {ocE kVE dcE pmE ctE cclE clE : Value} {odE anE cddE cldE : Option Addr} {slE ccsE cslE : Array (Option Value)} {cvsE : Array Value} {fileE : Str} {tfE : Tok} {nmE qE : Str} {bsE bmE : List Value} {snE : List Str} {subE : List Value} {abE : Bool} {colE : Option Bool} {ddE : Option Addr} {m0E m1E m2E m3E m5E : Option Value}
    {fP cdaP ccP NNP : Addr} {ocP kVP dcP pmP ctP cclP clP : Value} {odP anP cddP cldP : Option Addr} {slP ccsP cslP : Array (Option Value)} {cvsP : Array Value} {fileP : Str} {tfP : Tok} {nmP qP : Str} {bsP bmP : List Value} {snP : List Str} {subP : List Value} {abP : Bool} {colP : Option Bool} {ddP : Option Addr} {m0P m1P m2P m3P m5P : Option Value}
    (eP : l.prog = P) (X : K.In h) (G : h.Ns mainGlobals mg) (h1T : h.get? pOR = some (PySem.W.tabObj #[])) (h2T : h.get? pPR = some (PySem.W.tabObj #[])) (h3T : h.get? pLI = some (PySem.W.tabObj #[])) (hfa : mg "law" = some (.ref fa))
    (aN : PySem.W.nsIn K mainGlobals "is_name" = some (some (.ref fN)))
    (lN : K.lookup fN = some ⟨ocN, odN, .func (PySem.W.fnOf "is_name" "is_name" (defArgs sName) (defBody sName) (defScope sName) .none kVN dcN pmN anN cdN ctN), slN⟩)
    (cNd : PySem.W.codeIn K cdN "is_name" = true)
    (kN : PySem.W.keepIn K (.ref fN) = true)
    (aNd : PySem.W.nsIn K mainGlobals "is_node" = some (some (.ref fNd)))
    (lNd : K.lookup fNd = some ⟨ocNd, odNd, .func (PySem.W.fnOf "is_node" "is_node" (defArgs sIsNode) (defBody sIsNode) (defScope sIsNode) .none kVNd dcNd pmNd anNd cdNd ctNd), slNd⟩)
    (cNdd : PySem.W.codeIn K cdNd "is_node" = true)
    (kNd : PySem.W.keepIn K (.ref fNd) = true)
    (aTP : PySem.W.nsIn K mainGlobals "_is_tree_part" = some (some (.ref fTP)))
    (lTP : K.lookup fTP = some ⟨ocTP, odTP, .func (PySem.W.fnOf "_is_tree_part" "_is_tree_part" (defArgs sTreePart) (defBody sTreePart) (defScope sTreePart) .none kVTP dcTP pmTP anTP cdTP ctTP), slTP⟩)
    (cTPd : PySem.W.codeIn K cdTP "_is_tree_part" = true)
    (kTP : PySem.W.keepIn K (.ref fTP) = true)
    (aNA : PySem.W.nsIn K mainGlobals "nodes_among" = some (some (.ref fNA)))
    (lNA : K.lookup fNA = some ⟨ocNA, odNA, .func (PySem.W.fnOf "nodes_among" "nodes_among" (defArgs sNodesAmong) (defBody sNodesAmong) (defScope sNodesAmong) .none kVNA dcNA pmNA anNA cdNA ctNA), slNA⟩)
    (cNAd : PySem.W.codeIn K cdNA "nodes_among" = true)
    (kNA : PySem.W.keepIn K (.ref fNA) = true)
    (aMS : PySem.W.nsIn K mainGlobals "_measures_above" = some (some (.ref fMS)))
    (lMS : K.lookup fMS = some ⟨ocMS, odMS, .func (PySem.W.fnOf "_measures_above" "_measures_above" (defArgs sMeasures) (defBody sMeasures) (defScope sMeasures) .none kVMS dcMS pmMS anMS cdMS ctMS), slMS⟩)
    (cMSd : PySem.W.codeIn K cdMS "_measures_above" = true)
    (kMS : PySem.W.keepIn K (.ref fMS) = true)
    (aAt : PySem.W.nsIn K mainGlobals "_node_at" = some (some (.ref fAt)))
    (lAt : K.lookup fAt = some ⟨ocAt, odAt, .func (PySem.W.fnOf "_node_at" "_node_at" (defArgs sNodeAt) (defBody sNodeAt) (defScope sNodeAt) .none kVAt dcAt pmAt anAt cdAt ctAt), slAt⟩)
    (cAtd : PySem.W.codeIn K cdAt "_node_at" = true)
    (kAt : PySem.W.keepIn K (.ref fAt) = true)
    (aEx : PySem.W.nsIn K mainGlobals "parts_with" = some (some (.ref fEx)))
    (lEx : K.lookup fEx = some ⟨ocEx, odEx, .func (PySem.W.fnOf "parts_with" "parts_with" (defArgs sExchanged) (defBody sExchanged) (defScope sExchanged) .none kVEx dcEx pmEx anEx cdEx ctEx), slEx⟩)
    (cExd : PySem.W.codeIn K cdEx "parts_with" = true)
    (kEx : PySem.W.keepIn K (.ref fEx) = true)
    (aRi : PySem.W.nsIn K mainGlobals "row_items" = some (some (.ref fRi)))
    (lRi : K.lookup fRi = some ⟨ocRi, odRi, .func (PySem.W.fnOf "row_items" "row_items" (defArgs sRowItems) (defBody sRowItems) (defScope sRowItems) .none kVRi dcRi pmRi anRi cdRi ctRi), slRi⟩)
    (cRid : PySem.W.codeIn K cdRi "row_items" = true)
    (kRi : PySem.W.keepIn K (.ref fRi) = true)
    (aNu : PySem.W.nsIn K mainGlobals "is_number" = some (some (.ref fNu)))
    (lNu : K.lookup fNu = some ⟨ocNu, odNu, .func (PySem.W.fnOf "is_number" "is_number" (defArgs sNumber) (defBody sNumber) (defScope sNumber) .none kVNu dcNu pmNu anNu cdNu ctNu), slNu⟩)
    (cNud : PySem.W.codeIn K cdNu "is_number" = true)
    (kNu : PySem.W.keepIn K (.ref fNu) = true)
    (aNX : PySem.W.nsIn K mainGlobals "_node_text" = some (some (.ref fNX)))
    (lNX : K.lookup fNX = some ⟨ocNX, odNX, .func (PySem.W.fnOf "_node_text" "_node_text" (defArgs sNodeText) (defBody sNodeText) (defScope sNodeText) .none kVNX dcNX pmNX anNX cdNX ctNX), slNX⟩)
    (cNXd : PySem.W.codeIn K cdNX "_node_text" = true)
    (kNX : PySem.W.keepIn K (.ref fNX) = true)
    (aPT : PySem.W.nsIn K mainGlobals "part_text" = some (some (.ref fPT)))
    (lPT : K.lookup fPT = some ⟨ocPT, odPT, .func (PySem.W.fnOf "part_text" "part_text" (defArgs sPartText) (defBody sPartText) (defScope sPartText) .none kVPT dcPT pmPT anPT cdPT ctPT), slPT⟩)
    (cPTd : PySem.W.codeIn K cdPT "part_text" = true)
    (kPT : PySem.W.keepIn K (.ref fPT) = true)
    (aQ : PySem.W.nsIn K mainGlobals "_quoted" = some (some (.ref fQ)))
    (lQ : K.lookup fQ = some ⟨ocQ, odQ, .func (PySem.W.fnOf "_quoted" "_quoted" (defArgs sQuoted) (defBody sQuoted) (defScope sQuoted) .none kVQ dcQ pmQ anQ cdQ ctQ), slQ⟩)
    (cQd : PySem.W.codeIn K cdQ "_quoted" = true)
    (kQ : PySem.W.keepIn K (.ref fQ) = true)
    (aM : PySem.W.nsIn K mainGlobals "_law_mixed" = some (some (.ref fM)))
    (lM : K.lookup fM = some ⟨ocM, odM, .func (PySem.W.fnOf "_law_mixed" "_law_mixed" (defArgs sMixed) (defBody sMixed) (defScope sMixed) .none kVM dcM pmM anM cdM ctM), slM⟩)
    (cMd : PySem.W.codeIn K cdM "_law_mixed" = true)
    (kM : PySem.W.keepIn K (.ref fM) = true)
    (aFo : PySem.W.nsIn K mainGlobals "_law_folded" = some (some (.ref fFo)))
    (lFo : K.lookup fFo = some ⟨ocFo, odFo, .func (PySem.W.fnOf "_law_folded" "_law_folded" (defArgs sFolded) (defBody sFolded) (defScope sFolded) .none kVFo dcFo pmFo anFo cdFo ctFo), slFo⟩)
    (cFod : PySem.W.codeIn K cdFo "_law_folded" = true)
    (kFo : PySem.W.keepIn K (.ref fFo) = true)
    (aDr : PySem.W.nsIn K mainGlobals "_law_draw" = some (some (.ref fDr)))
    (lDr : K.lookup fDr = some ⟨ocDr, odDr, .func (PySem.W.fnOf "_law_draw" "_law_draw" (defArgs sDraw) (defBody sDraw) (defScope sDraw) .none kVDr dcDr pmDr anDr cdDr ctDr), slDr⟩)
    (cDrd : PySem.W.codeIn K cdDr "_law_draw" = true)
    (kDr : PySem.W.keepIn K (.ref fDr) = true)
    (aBg : PySem.W.nsIn K mainGlobals "_law_begun" = some (some (.ref fBg)))
    (lBg : K.lookup fBg = some ⟨ocBg, odBg, .func (PySem.W.fnOf "_law_begun" "_law_begun" (defArgs sBegun) (defBody sBegun) (defScope sBegun) .none kVBg dcBg pmBg anBg cdBg ctBg), slBg⟩)
    (cBgd : PySem.W.codeIn K cdBg "_law_begun" = true)
    (kBg : PySem.W.keepIn K (.ref fBg) = true)
    (aTa : PySem.W.nsIn K mainGlobals "_law_table" = some (some (.ref fTa)))
    (lTa : K.lookup fTa = some ⟨ocTa, odTa, .func (PySem.W.fnOf "_law_table" "_law_table" (defArgs sTable) (defBody sTable) (defScope sTable) .none kVTa dcTa pmTa anTa cdTa ctTa), slTa⟩)
    (cTad : PySem.W.codeIn K cdTa "_law_table" = true)
    (kTa : PySem.W.keepIn K (.ref fTa) = true)
    (aWo : PySem.W.nsIn K mainGlobals "_law_word" = some (some (.ref fWo)))
    (lWo : K.lookup fWo = some ⟨ocWo, odWo, .func (PySem.W.fnOf "_law_word" "_law_word" (defArgs sWord) (defBody sWord) (defScope sWord) .none kVWo dcWo pmWo anWo cdWo ctWo), slWo⟩)
    (cWod : PySem.W.codeIn K cdWo "_law_word" = true)
    (kWo : PySem.W.keepIn K (.ref fWo) = true)
    (aFm : PySem.W.nsIn K mainGlobals "_law_form" = some (some (.ref fFm)))
    (lFm : K.lookup fFm = some ⟨ocFm, odFm, .func (PySem.W.fnOf "_law_form" "_law_form" (defArgs sForm) (defBody sForm) (defScope sForm) .none kVFm dcFm pmFm anFm cdFm ctFm), slFm⟩)
    (cFmd : PySem.W.codeIn K cdFm "_law_form" = true)
    (kFm : PySem.W.keepIn K (.ref fFm) = true)
    (aTr : PySem.W.nsIn K mainGlobals "_law_tree" = some (some (.ref fTr)))
    (lTr : K.lookup fTr = some ⟨ocTr, odTr, .func (PySem.W.fnOf "_law_tree" "_law_tree" (defArgs sTree) (defBody sTree) (defScope sTree) .none kVTr dcTr pmTr anTr cdTr ctTr), slTr⟩)
    (cTrd : PySem.W.codeIn K cdTr "_law_tree" = true)
    (kTr : PySem.W.keepIn K (.ref fTr) = true)
    (aRo : PySem.W.nsIn K mainGlobals "_law_row" = some (some (.ref fRo)))
    (lRo : K.lookup fRo = some ⟨ocRo, odRo, .func (PySem.W.fnOf "_law_row" "_law_row" (defArgs sRow) (defBody sRow) (defScope sRow) .none kVRo dcRo pmRo anRo cdRo ctRo), slRo⟩)
    (cRod : PySem.W.codeIn K cdRo "_law_row" = true)
    (kRo : PySem.W.keepIn K (.ref fRo) = true)
    (aMa : PySem.W.nsIn K mainGlobals "_law_made" = some (some (.ref fMa)))
    (lMa : K.lookup fMa = some ⟨ocMa, odMa, .func (PySem.W.fnOf "_law_made" "_law_made" (defArgs sMade) (defBody sMade) (defScope sMade) .none kVMa dcMa pmMa anMa cdMa ctMa), slMa⟩)
    (cMad : PySem.W.codeIn K cdMa "_law_made" = true)
    (kMa : PySem.W.keepIn K (.ref fMa) = true)
    (aCl : PySem.W.nsIn K mainGlobals "_law_closed" = some (some (.ref fCl)))
    (lCl : K.lookup fCl = some ⟨ocCl, odCl, .func (PySem.W.fnOf "_law_closed" "_law_closed" (defArgs sClosed) (defBody sClosed) (defScope sClosed) .none kVCl dcCl pmCl anCl cdCl ctCl), slCl⟩)
    (cCld : PySem.W.codeIn K cdCl "_law_closed" = true)
    (kCl : PySem.W.keepIn K (.ref fCl) = true)
    (aBe : PySem.W.nsIn K mainGlobals "_law_below" = some (some (.ref fBe)))
    (lBe : K.lookup fBe = some ⟨ocBe, odBe, .func (PySem.W.fnOf "_law_below" "_law_below" (defArgs sBelow) (defBody sBelow) (defScope sBelow) .none kVBe dcBe pmBe anBe cdBe ctBe), slBe⟩)
    (cBed : PySem.W.codeIn K cdBe "_law_below" = true)
    (kBe : PySem.W.keepIn K (.ref fBe) = true)
    (aLA : PySem.W.nsIn K mainGlobals "_law_at" = some (some (.ref fLA)))
    (lLA : K.lookup fLA = some ⟨ocLA, odLA, .func (PySem.W.fnOf "_law_at" "_law_at" (defArgs sAt) (defBody sAt) (defScope sAt) .none kVLA dcLA pmLA anLA cdLA ctLA), slLA⟩)
    (cLAd : PySem.W.codeIn K cdLA "_law_at" = true)
    (kLA : PySem.W.keepIn K (.ref fLA) = true)
    (aPa : PySem.W.nsIn K mainGlobals "_law_paths" = some (some (.ref fPa)))
    (lPa : K.lookup fPa = some ⟨ocPa, odPa, .func (PySem.W.fnOf "_law_paths" "_law_paths" (defArgs sPaths) (defBody sPaths) (defScope sPaths) .none kVPa dcPa pmPa anPa cdPa ctPa), slPa⟩)
    (cPad : PySem.W.codeIn K cdPa "_law_paths" = true)
    (kPa : PySem.W.keepIn K (.ref fPa) = true)
    (aD2 : PySem.W.nsIn K mainGlobals "_law_doubled" = some (some (.ref fD2)))
    (lD2 : K.lookup fD2 = some ⟨ocD2, odD2, .func (PySem.W.fnOf "_law_doubled" "_law_doubled" (defArgs sDoubled) (defBody sDoubled) (defScope sDoubled) .none kVD2 dcD2 pmD2 anD2 cdD2 ctD2), slD2⟩)
    (cD2d : PySem.W.codeIn K cdD2 "_law_doubled" = true)
    (kD2 : PySem.W.keepIn K (.ref fD2) = true)
    (aFa : PySem.W.nsIn K mainGlobals "_law_fault" = some (some (.ref fFa)))
    (lFa : K.lookup fFa = some ⟨ocFa, odFa, .func (PySem.W.fnOf "_law_fault" "_law_fault" (defArgs sFault) (defBody sFault) (defScope sFault) .none kVFa dcFa pmFa anFa cdFa ctFa), slFa⟩)
    (cFad : PySem.W.codeIn K cdFa "_law_fault" = true)
    (kFa : PySem.W.keepIn K (.ref fFa) = true)
    (aPl : PySem.W.nsIn K mainGlobals "_law_placed" = some (some (.ref fPl)))
    (lPl : K.lookup fPl = some ⟨ocPl, odPl, .func (PySem.W.fnOf "_law_placed" "_law_placed" (defArgs sPlaced) (defBody sPlaced) (defScope sPlaced) .none kVPl dcPl pmPl anPl cdPl ctPl), slPl⟩)
    (cPld : PySem.W.codeIn K cdPl "_law_placed" = true)
    (kPl : PySem.W.keepIn K (.ref fPl) = true)
    (aRR : PySem.W.nsIn K mainGlobals "_law_read_right" = some (some (.ref fRR)))
    (lRR : K.lookup fRR = some ⟨ocRR, odRR, .func (PySem.W.fnOf "_law_read_right" "_law_read_right" (defArgs sReadRight) (defBody sReadRight) (defScope sReadRight) .none kVRR dcRR pmRR anRR cdRR ctRR), slRR⟩)
    (cRRd : PySem.W.codeIn K cdRR "_law_read_right" = true)
    (kRR : PySem.W.keepIn K (.ref fRR) = true)
    (aOR : PySem.W.nsIn K mainGlobals "_law_odds_right" = some (some (.ref fOR)))
    (lOR : K.lookup fOR = some ⟨ocOR, odOR, .func (PySem.W.fnOf "_law_odds_right" "_law_odds_right" (defArgs sOddsRight) (defBody sOddsRight) (defScope sOddsRight) .none kVOR dcOR pmOR anOR (.ref cOR) ctOR), slOR⟩)
    (cORd : PySem.W.codeIn K (.ref cOR) "_law_odds_right" = true)
    (kOR : PySem.W.keepIn K (.ref fOR) = true)
    (aPR : PySem.W.nsIn K mainGlobals "_law_put_right" = some (some (.ref fPR)))
    (lPR : K.lookup fPR = some ⟨ocPR, odPR, .func (PySem.W.fnOf "_law_put_right" "_law_put_right" (defArgs sPutRight) (defBody sPutRight) (defScope sPutRight) .none kVPR dcPR pmPR anPR (.ref cPR) ctPR), slPR⟩)
    (cPRd : PySem.W.codeIn K (.ref cPR) "_law_put_right" = true)
    (kPR : PySem.W.keepIn K (.ref fPR) = true)
    (aLI : PySem.W.nsIn K mainGlobals "_law_limits_right" = some (some (.ref fLI)))
    (lLI : K.lookup fLI = some ⟨ocLI, odLI, .func (PySem.W.fnOf "_law_limits_right" "_law_limits_right" (defArgs sLimitsRight) (defBody sLimitsRight) (defScope sLimitsRight) .none kVLI dcLI pmLI anLI (.ref cLI) ctLI), slLI⟩)
    (cLId : PySem.W.codeIn K (.ref cLI) "_law_limits_right" = true)
    (kLI : PySem.W.keepIn K (.ref fLI) = true)
    (aL : PySem.W.nsIn K mainGlobals "law" = some (some (.ref fL)))
    (lL : K.lookup fL = some ⟨ocL, odL, .func (PySem.W.fnOf "law" "law" (defArgs sLaw) (defBody sLaw) (defScope sLaw) .none kVL dcL pmL anL cdL ctL), slL⟩)
    (cLd : PySem.W.codeIn K cdL "law" = true)
    (kL : PySem.W.keepIn K (.ref fL) = true)
    (aCT : PySem.W.nsIn K mainGlobals "Tree" = some (some (.ref CT)))
    (qTpg : PySem.W.plainGet K CT Str.empty = true)
    (qThd : PySem.W.hasDictIn K CT = true)
    (qTpo : PySem.W.plainOver K CT = true)
    (qTsa : PySem.W.findIn K (.ref CT) "__setattr__" = some (some (.builtin "object.__setattr__")))
    (qTha : PySem.W.findIn K (.ref CT) "__class__" = some (some (.builtin "object.__class__")))
    (qTmo : PySem.W.mroIn K CT (.type "object") = some true)
    (qTmk : PySem.W.makesIn K CT = true)
    (qTkp : PySem.W.keepIn K (.ref CT) = true)
    (iIT : PySem.W.findIn K (.ref CT) "__init__" = some (some (.ref fIT)))
    (nIT : PySem.W.isFn K (.ref fIT) = true)
    (lIT : K.lookup fIT = some ⟨ocIT, odIT, .func (PySem.W.fnOf "__init__" "Tree.__init__" (defArgs sTreeInit) (defBody sTreeInit) (defScope sTreeInit) .none kVIT dcIT pmIT anIT cdIT ctIT), slIT⟩)
    (cITd : PySem.W.codeIn K cdIT "Tree.__init__" = true)
    (kIT : PySem.W.keepIn K (.ref fIT) = true)
    (naT0 : PySem.W.findIn K (.ref CT) "form" = some none)
    (naT1 : PySem.W.findIn K (.ref CT) "parts" = some none)
    (naT2 : PySem.W.findIn K (.ref CT) "children" = some none)
    (naT3 : PySem.W.findIn K (.ref CT) "size" = some none)
    (naT4 : PySem.W.findIn K (.ref CT) "levels" = some none)
    (naT5 : PySem.W.findIn K (.ref CT) "text" = some none)
    (naT6 : PySem.W.findIn K (.ref CT) "name" = some none)
    (stT : PySem.W.kitOne K (.ref CT) (.type "str") = some false)
    (tuT : PySem.W.kitOne K (.ref CT) (.type "tuple") = some false)
    (bsT : PySem.W.kitOne K (.type "str") (.ref CT) = some false)
    (btT : PySem.W.kitOne K (.type "tuple") (.ref CT) = some false)
    (ktTT : PySem.W.kitOne K (.ref CT) (.ref CT) = some true)
    (ktTL : PySem.W.kitOne K (.ref CT) (.ref CL) = some false)
    (ktTV : PySem.W.kitOne K (.ref CT) (.ref CV) = some false)
    (ktTW : PySem.W.kitOne K (.ref CT) (.ref CW) = some false)
    (ktTR : PySem.W.kitOne K (.ref CT) (.ref CR) = some false)
    (aCL : PySem.W.nsIn K mainGlobals "Like" = some (some (.ref CL)))
    (qLpg : PySem.W.plainGet K CL Str.empty = true)
    (qLhd : PySem.W.hasDictIn K CL = true)
    (qLpo : PySem.W.plainOver K CL = true)
    (qLsa : PySem.W.findIn K (.ref CL) "__setattr__" = some (some (.builtin "object.__setattr__")))
    (qLha : PySem.W.findIn K (.ref CL) "__class__" = some (some (.builtin "object.__class__")))
    (qLmo : PySem.W.mroIn K CL (.type "object") = some true)
    (qLmk : PySem.W.makesIn K CL = true)
    (qLkp : PySem.W.keepIn K (.ref CL) = true)
    (naL0 : PySem.W.findIn K (.ref CL) "form" = some none)
    (naL1 : PySem.W.findIn K (.ref CL) "parts" = some none)
    (naL2 : PySem.W.findIn K (.ref CL) "children" = some none)
    (naL3 : PySem.W.findIn K (.ref CL) "size" = some none)
    (naL4 : PySem.W.findIn K (.ref CL) "levels" = some none)
    (naL5 : PySem.W.findIn K (.ref CL) "text" = some none)
    (naL6 : PySem.W.findIn K (.ref CL) "name" = some none)
    (stL : PySem.W.kitOne K (.ref CL) (.type "str") = some false)
    (tuL : PySem.W.kitOne K (.ref CL) (.type "tuple") = some false)
    (bsL : PySem.W.kitOne K (.type "str") (.ref CL) = some false)
    (btL : PySem.W.kitOne K (.type "tuple") (.ref CL) = some false)
    (ktLT : PySem.W.kitOne K (.ref CL) (.ref CT) = some false)
    (ktLL : PySem.W.kitOne K (.ref CL) (.ref CL) = some true)
    (ktLV : PySem.W.kitOne K (.ref CL) (.ref CV) = some false)
    (ktLW : PySem.W.kitOne K (.ref CL) (.ref CW) = some false)
    (ktLR : PySem.W.kitOne K (.ref CL) (.ref CR) = some false)
    (aCV : PySem.W.nsIn K mainGlobals "Var" = some (some (.ref CV)))
    (qVpg : PySem.W.plainGet K CV Str.empty = true)
    (qVhd : PySem.W.hasDictIn K CV = true)
    (qVpo : PySem.W.plainOver K CV = true)
    (qVsa : PySem.W.findIn K (.ref CV) "__setattr__" = some (some (.builtin "object.__setattr__")))
    (qVha : PySem.W.findIn K (.ref CV) "__class__" = some (some (.builtin "object.__class__")))
    (qVmo : PySem.W.mroIn K CV (.type "object") = some true)
    (qVmk : PySem.W.makesIn K CV = true)
    (qVkp : PySem.W.keepIn K (.ref CV) = true)
    (naV0 : PySem.W.findIn K (.ref CV) "form" = some none)
    (naV1 : PySem.W.findIn K (.ref CV) "parts" = some none)
    (naV2 : PySem.W.findIn K (.ref CV) "children" = some none)
    (naV3 : PySem.W.findIn K (.ref CV) "size" = some none)
    (naV4 : PySem.W.findIn K (.ref CV) "levels" = some none)
    (naV5 : PySem.W.findIn K (.ref CV) "text" = some none)
    (naV6 : PySem.W.findIn K (.ref CV) "name" = some none)
    (stV : PySem.W.kitOne K (.ref CV) (.type "str") = some false)
    (tuV : PySem.W.kitOne K (.ref CV) (.type "tuple") = some false)
    (bsV : PySem.W.kitOne K (.type "str") (.ref CV) = some false)
    (btV : PySem.W.kitOne K (.type "tuple") (.ref CV) = some false)
    (ktVT : PySem.W.kitOne K (.ref CV) (.ref CT) = some false)
    (ktVL : PySem.W.kitOne K (.ref CV) (.ref CL) = some false)
    (ktVV : PySem.W.kitOne K (.ref CV) (.ref CV) = some true)
    (ktVW : PySem.W.kitOne K (.ref CV) (.ref CW) = some false)
    (ktVR : PySem.W.kitOne K (.ref CV) (.ref CR) = some false)
    (aCW : PySem.W.nsIn K mainGlobals "Word" = some (some (.ref CW)))
    (qWpg : PySem.W.plainGet K CW Str.empty = true)
    (qWhd : PySem.W.hasDictIn K CW = true)
    (qWpo : PySem.W.plainOver K CW = true)
    (qWsa : PySem.W.findIn K (.ref CW) "__setattr__" = some (some (.builtin "object.__setattr__")))
    (qWha : PySem.W.findIn K (.ref CW) "__class__" = some (some (.builtin "object.__class__")))
    (qWmo : PySem.W.mroIn K CW (.type "object") = some true)
    (qWmk : PySem.W.makesIn K CW = true)
    (qWkp : PySem.W.keepIn K (.ref CW) = true)
    (naW0 : PySem.W.findIn K (.ref CW) "form" = some none)
    (naW1 : PySem.W.findIn K (.ref CW) "parts" = some none)
    (naW2 : PySem.W.findIn K (.ref CW) "children" = some none)
    (naW3 : PySem.W.findIn K (.ref CW) "size" = some none)
    (naW4 : PySem.W.findIn K (.ref CW) "levels" = some none)
    (naW5 : PySem.W.findIn K (.ref CW) "text" = some none)
    (naW6 : PySem.W.findIn K (.ref CW) "name" = some none)
    (stW : PySem.W.kitOne K (.ref CW) (.type "str") = some false)
    (tuW : PySem.W.kitOne K (.ref CW) (.type "tuple") = some false)
    (bsW : PySem.W.kitOne K (.type "str") (.ref CW) = some false)
    (btW : PySem.W.kitOne K (.type "tuple") (.ref CW) = some false)
    (ktWT : PySem.W.kitOne K (.ref CW) (.ref CT) = some false)
    (ktWL : PySem.W.kitOne K (.ref CW) (.ref CL) = some false)
    (ktWV : PySem.W.kitOne K (.ref CW) (.ref CV) = some false)
    (ktWW : PySem.W.kitOne K (.ref CW) (.ref CW) = some true)
    (ktWR : PySem.W.kitOne K (.ref CW) (.ref CR) = some false)
    (aCR : PySem.W.nsIn K mainGlobals "Rest" = some (some (.ref CR)))
    (qRpg : PySem.W.plainGet K CR Str.empty = true)
    (qRhd : PySem.W.hasDictIn K CR = true)
    (qRpo : PySem.W.plainOver K CR = true)
    (qRsa : PySem.W.findIn K (.ref CR) "__setattr__" = some (some (.builtin "object.__setattr__")))
    (qRha : PySem.W.findIn K (.ref CR) "__class__" = some (some (.builtin "object.__class__")))
    (qRmo : PySem.W.mroIn K CR (.type "object") = some true)
    (qRmk : PySem.W.makesIn K CR = true)
    (qRkp : PySem.W.keepIn K (.ref CR) = true)
    (naR0 : PySem.W.findIn K (.ref CR) "form" = some none)
    (naR1 : PySem.W.findIn K (.ref CR) "parts" = some none)
    (naR2 : PySem.W.findIn K (.ref CR) "children" = some none)
    (naR3 : PySem.W.findIn K (.ref CR) "size" = some none)
    (naR4 : PySem.W.findIn K (.ref CR) "levels" = some none)
    (naR5 : PySem.W.findIn K (.ref CR) "text" = some none)
    (naR6 : PySem.W.findIn K (.ref CR) "name" = some none)
    (stR : PySem.W.kitOne K (.ref CR) (.type "str") = some false)
    (tuR : PySem.W.kitOne K (.ref CR) (.type "tuple") = some false)
    (bsR : PySem.W.kitOne K (.type "str") (.ref CR) = some false)
    (btR : PySem.W.kitOne K (.type "tuple") (.ref CR) = some false)
    (ktRT : PySem.W.kitOne K (.ref CR) (.ref CT) = some false)
    (ktRL : PySem.W.kitOne K (.ref CR) (.ref CL) = some false)
    (ktRV : PySem.W.kitOne K (.ref CR) (.ref CV) = some false)
    (ktRW : PySem.W.kitOne K (.ref CR) (.ref CW) = some false)
    (ktRR : PySem.W.kitOne K (.ref CR) (.ref CR) = some true)
    (ndC : [CT, CL, CV, CW, CR].Nodup)
    (nf_T : PySem.W.notFirst K CT (.ref CT) = true)
    (Trd : PySem.W.readsIn K CT mc = true)
    (Tga : PySem.W.specialIn K (.ref CT) "__getattribute__" = some (some (.builtin "type.__getattribute__")))
    (mxN : PySem.W.findCls K (.ref CT) mc "MAX_NODES" = some (.val (.int 400 tMN)))
    (mxL : PySem.W.findCls K (.ref CT) mc "MAX_LEVELS" = some (.val (.int 100 tML)))
    (iTe : PySem.W.findIn K (.ref CT) "__eq__" = some (some (.ref fTe)))
    (nTe : PySem.W.isFn K (.ref fTe) = true)
    (wTe : PySem.W.fnIn K fTe = true)
    (lTe : K.lookup fTe = some ⟨ocTe, odTe, .func (PySem.W.fnOf "__eq__" "Tree.__eq__" (defArgs sTreeEq) (defBody sTreeEq) (defScope sTreeEq) .none kVTe dcTe pmTe anTe cdTe ctTe), slTe⟩)
    (cTed : PySem.W.codeIn K cdTe "Tree.__eq__" = true)
    (kTe : PySem.W.keepIn K (.ref fTe) = true)
    (iTl : PySem.W.findIn K (.ref CT) "__len__" = some (some (.ref fTl)))
    (nTl : PySem.W.isFn K (.ref fTl) = true)
    (wTl : PySem.W.fnIn K fTl = true)
    (lTl : K.lookup fTl = some ⟨ocTl, odTl, .func (PySem.W.fnOf "__len__" "Tree.__len__" (defArgs sTreeLen) (defBody sTreeLen) (defScope sTreeLen) .none kVTl dcTl pmTl anTl cdTl ctTl), slTl⟩)
    (cTld : PySem.W.codeIn K cdTl "Tree.__len__" = true)
    (kTl : PySem.W.keepIn K (.ref fTl) = true)
    (iEp : PySem.W.findIn K (.ref CT) "each_path" = some (some (.ref fEp)))
    (nEp : PySem.W.isFn K (.ref fEp) = true)
    (wEp : PySem.W.fnIn K fEp = true)
    (lEp : K.lookup fEp = some ⟨ocEp, odEp, .func (PySem.W.fnOf "each_path" "Tree.each_path" (defArgs sEachPath) (defBody sEachPath) (defScope sEachPath) .none kVEp dcEp pmEp anEp cdEp ctEp), slEp⟩)
    (cEpd : PySem.W.codeIn K cdEp "Tree.each_path" = true)
    (kEp : PySem.W.keepIn K (.ref fEp) = true)
    (iTh : PySem.W.findIn K (.ref CT) "__contains__" = some (some (.ref fTh)))
    (nTh : PySem.W.isFn K (.ref fTh) = true)
    (wTh : PySem.W.fnIn K fTh = true)
    (lTh : K.lookup fTh = some ⟨ocTh, odTh, .func (PySem.W.fnOf "__contains__" "Tree.__contains__" (defArgs sTreeHas) (defBody sTreeHas) (defScope sTreeHas) .none kVTh dcTh pmTh anTh cdTh ctTh), slTh⟩)
    (cThd : PySem.W.codeIn K cdTh "Tree.__contains__" = true)
    (kTh : PySem.W.keepIn K (.ref fTh) = true)
    (iTg : PySem.W.findIn K (.ref CT) "__getitem__" = some (some (.ref fTg)))
    (nTg : PySem.W.isFn K (.ref fTg) = true)
    (wTg : PySem.W.fnIn K fTg = true)
    (lTg : K.lookup fTg = some ⟨ocTg, odTg, .func (PySem.W.fnOf "__getitem__" "Tree.__getitem__" (defArgs sTreeGet) (defBody sTreeGet) (defScope sTreeGet) .none kVTg dcTg pmTg anTg cdTg ctTg), slTg⟩)
    (cTgd : PySem.W.codeIn K cdTg "Tree.__getitem__" = true)
    (kTg : PySem.W.keepIn K (.ref fTg) = true)
    (iPu : PySem.W.findIn K (.ref CT) "put" = some (some (.ref fPu)))
    (nPu : PySem.W.isFn K (.ref fPu) = true)
    (wPu : PySem.W.fnIn K fPu = true)
    (lPu : K.lookup fPu = some ⟨ocPu, odPu, .func (PySem.W.fnOf "put" "Tree.put" (defArgs sPut) (defBody sPut) (defScope sPut) .none kVPu dcPu pmPu anPu cdPu ctPu), slPu⟩)
    (cPud : PySem.W.codeIn K cdPu "Tree.put" = true)
    (kPu : PySem.W.keepIn K (.ref fPu) = true)
    (aCS : PySem.W.nsIn K mainGlobals "RuleengineError" = some (some (.ref CS)))
    (aCE_ : PySem.W.nsIn K mainGlobals "InvalidTree" = some (some (.ref CI)))
    (xLE : K.lookup CI = some (excClassObj nmE qE CI NNE bsE bmE true snE subE abE colE ddE m0E m1E m2E m3E m5E "ValueError.__new__"))
    (rvE : HandSPX.refsVE bmE = true)
    (esaE : PySem.W.findIn K (.ref CI) "__setattr__" = some (some (.builtin "object.__setattr__")))
    (eexE : PySem.W.subIn K (.ref CI) (.type "BaseException") = some true)
    (etyE : PySem.W.typeIn K (.ref CI) = some (.type "type"))
    (ekpE : PySem.W.keepIn K (.ref CI) = true)
    (efiE : PySem.W.findIn K (.ref CI) "__init__" = some (some (.ref fE)))
    (etiE : PySem.W.typeIn K (.ref fE) = some (.type "function"))
    (lEE : K.lookup fE = some ⟨ocE, odE, .func (PySem.W.ksFn "__init__" "InvalidTree.__init__" (defArgs sErrInit) (defBody sErrInit) (defScope sErrInit) .none kVE dcE pmE anE (.ref cdaE) ctE ccE), slE⟩)
    (ecdE : PySem.W.codeIn K (.ref cdaE) "InvalidTree.__init__" = true)
    (xcE : K.lookup cdaE = some ⟨cclE, cddE, .fields cvsE, ccsE⟩)
    (v2E : cvsE[2]? = some (.str fileE tfE))
    (pfE : ((P.main.file : Str) == fileE) = true)
    (xccE : K.lookup ccE = some ⟨clE, cldE, .cell (some (.ref CI)), cslE⟩)
    (emrE : PySem.W.mroIn K CI (.ref CI) = some true)
    (ealE : PySem.W.alongIn K "__init__" bmE = some (some (.builtin "ValueError.__init__")))
    (eveE : PySem.W.subIn K (.ref CI) (.type "ValueError") = some true)
    (eeiE : PySem.W.excInitIn K CI [.type "ValueError", .type "Exception", .type "BaseException", .type "object"] "ValueError.__new__" = true)
    (enf0E : PySem.W.findIn K (.ref CI) "part" = some none)
    (egaE : PySem.W.findIn K (.ref CI) "__getattribute__" = some (some (.builtin "BaseException.__getattribute__")))
    (eggE : PySem.W.findIn K (.ref CI) "__getattr__" = some none)
    (ehdE : PySem.W.hasDictIn K CI = true)
    (ecaE : PySem.W.findIn K (.ref CI) "__class__" = some (some (.builtin "object.__class__")))
    (emoE : PySem.W.mroIn K CI (.type "object") = some true)
    (exmE : PySem.W.exmOne K (.ref CI) (.ref CS) = some true)
    (ekkE : PySem.W.kitOne K (.ref CI) (.ref CI) = some true)
    (aCP_ : PySem.W.nsIn K mainGlobals "InvalidPath" = some (some (.ref CP)))
    (xLP : K.lookup CP = some (excClassObj nmP qP CP NNP bsP bmP true snP subP abP colP ddP m0P m1P m2P m3P m5P "ValueError.__new__"))
    (rvP : HandSPX.refsVE bmP = true)
    (esaP : PySem.W.findIn K (.ref CP) "__setattr__" = some (some (.builtin "object.__setattr__")))
    (eexP : PySem.W.subIn K (.ref CP) (.type "BaseException") = some true)
    (etyP : PySem.W.typeIn K (.ref CP) = some (.type "type"))
    (ekpP : PySem.W.keepIn K (.ref CP) = true)
    (efiP : PySem.W.findIn K (.ref CP) "__init__" = some (some (.ref fP)))
    (etiP : PySem.W.typeIn K (.ref fP) = some (.type "function"))
    (lEP : K.lookup fP = some ⟨ocP, odP, .func (PySem.W.ksFn "__init__" "InvalidPath.__init__" (defArgs sPathErr) (defBody sPathErr) (defScope sPathErr) .none kVP dcP pmP anP (.ref cdaP) ctP ccP), slP⟩)
    (ecdP : PySem.W.codeIn K (.ref cdaP) "InvalidPath.__init__" = true)
    (xcP : K.lookup cdaP = some ⟨cclP, cddP, .fields cvsP, ccsP⟩)
    (v2P : cvsP[2]? = some (.str fileP tfP))
    (pfP : ((P.main.file : Str) == fileP) = true)
    (xccP : K.lookup ccP = some ⟨clP, cldP, .cell (some (.ref CP)), cslP⟩)
    (emrP : PySem.W.mroIn K CP (.ref CP) = some true)
    (ealP : PySem.W.alongIn K "__init__" bmP = some (some (.builtin "ValueError.__init__")))
    (eveP : PySem.W.subIn K (.ref CP) (.type "ValueError") = some true)
    (eeiP : PySem.W.excInitIn K CP [.type "ValueError", .type "Exception", .type "BaseException", .type "object"] "ValueError.__new__" = true)
    (enf0P : PySem.W.findIn K (.ref CP) "value" = some none)
    (egaP : PySem.W.findIn K (.ref CP) "__getattribute__" = some (some (.builtin "BaseException.__getattribute__")))
    (eggP : PySem.W.findIn K (.ref CP) "__getattr__" = some none)
    (ehdP : PySem.W.hasDictIn K CP = true)
    (ecaP : PySem.W.findIn K (.ref CP) "__class__" = some (some (.builtin "object.__class__")))
    (emoP : PySem.W.mroIn K CP (.type "object") = some true)
    (exmP : PySem.W.exmOne K (.ref CP) (.ref CS) = some true)
    (ekkP : PySem.W.kitOne K (.ref CP) (.ref CP) = some true)
    (ekIP : PySem.W.kitOne K (.ref CI) (.ref CP) = some false)
    (sup : PySem.W.nsIn K mainGlobals "super" = some none)
    (opq : PySem.W.nsIn K cStatics "thirdparty.any" = some none)
    (etop : (P.main.scope.names.lookup ("super" : Str)).isSome = false)
    (ecg : PySem.W.specialIn K (.builtin "object.__class__") "__get__" = some (some (.builtin "getset_descriptor.__get__")))
    (etk : PySem.W.takesIn K (.builtin "object.__class__") = some true)
    (zI : PySem.W.nsIn K mainGlobals "isinstance" = some none)
    (zS : PySem.W.nsIn K mainGlobals "str" = some none)
    (zL : PySem.W.nsIn K mainGlobals "len" = some none)
    (zA : PySem.W.nsIn K mainGlobals "all" = some none)
    (zT : PySem.W.nsIn K mainGlobals "tuple" = some none)
    (zR : PySem.W.nsIn K mainGlobals "range" = some none)
    (zE : PySem.W.nsIn K mainGlobals "enumerate" = some none)
    (zLi : PySem.W.nsIn K mainGlobals "list" = some none)
    (zRp : PySem.W.nsIn K mainGlobals "repr" = some none)
    (zRv : PySem.W.nsIn K mainGlobals "reversed" = some none)
    (zInt : PySem.W.nsIn K mainGlobals "int" = some none)
    (zBool : PySem.W.nsIn K mainGlobals "bool" = some none)
    (zZip : PySem.W.nsIn K mainGlobals "zip" = some none)
    (yMx : PySem.W.nsIn K mainGlobals "MAX_NAME" = some (some (.int 20 tMx)))
    (yLt : PySem.W.nsIn K mainGlobals "LETTERS" = some (some (.str LET tLt)))
    (ySg : PySem.W.nsIn K mainGlobals "NAME_SIGNS" = some (some (.str SIG tSg)))
    (yMt : PySem.W.nsIn K mainGlobals "MAX_TEXT" = some (some (.int 60 tMt)))
    (tOR : PySem.W.codeHdIn K cOR pOR = true)
    (nTOR : K.lookup pOR = none)
    (tPR : PySem.W.codeHdIn K cPR pPR = true)
    (nTPR : K.lookup pPR = none)
    (tLI : PySem.W.codeHdIn K cLI pLI = true)
    (nTLI : K.lookup pLI = none)
    (np1 : pOR ≠ pPR)
    (np2 : pOR ≠ pLI)
    (np3 : pPR ≠ pLI) :
    ∃ cs fd sp, TopG l.prog w K mg L2.CX0 98 fa "_law_script" cs fd sp h 63 := by
  have e := hfa.symm.trans (PySem.W.mg_of X G aL)
  cases e
  subst eP
  have FN0 := fun_mk (st := sName) lN cNd kN
  have FN := FN0
  have bN := FN0.binds (ps := ["value"]) fun _ _ _ _ _ _ us hl => match us, hl with | [_], _ => rfl
  have gN := PySem.W.mg_of X G aN
  have AN : DefA K mg "is_name" ["value"] fN _ := ⟨gN, kN, bN⟩
  have FNd0 := fun_mk (st := sIsNode) lNd cNdd kNd
  have FNd := FNd0
  have bNd := FNd0.binds (ps := ["value"]) fun _ _ _ _ _ _ us hl => match us, hl with | [_], _ => rfl
  have gNd := PySem.W.mg_of X G aNd
  have ANd : DefA K mg "is_node" ["value"] fNd _ := ⟨gNd, kNd, bNd⟩
  have FTP0 := fun_mk (st := sTreePart) lTP cTPd kTP
  have FTP := FTP0
  have bTP := FTP0.binds (ps := ["part"]) fun _ _ _ _ _ _ us hl => match us, hl with | [_], _ => rfl
  have gTP := PySem.W.mg_of X G aTP
  have ATP : DefA K mg "_is_tree_part" ["part"] fTP _ := ⟨gTP, kTP, bTP⟩
  have FNA0 := fun_mk (st := sNodesAmong) lNA cNAd kNA
  have FNA := FNA0
  have bNA := FNA0.binds (ps := ["parts"]) fun _ _ _ _ _ _ us hl => match us, hl with | [_], _ => rfl
  have gNA := PySem.W.mg_of X G aNA
  have ANA : DefA K mg "nodes_among" ["parts"] fNA _ := ⟨gNA, kNA, bNA⟩
  have FMS0 := fun_mk (st := sMeasures) lMS cMSd kMS
  have FMS := FMS0
  have bMS := FMS0.binds (ps := ["nodes"]) fun _ _ _ _ _ _ us hl => match us, hl with | [_], _ => rfl
  have gMS := PySem.W.mg_of X G aMS
  have AMS : DefA K mg "_measures_above" ["nodes"] fMS _ := ⟨gMS, kMS, bMS⟩
  have FAt0 := fun_mk (st := sNodeAt) lAt cAtd kAt
  have FAt := FAt0
  have bAt := FAt0.binds (ps := ["tree", "path"]) fun _ _ _ _ _ _ us hl => match us, hl with | [_, _], _ => rfl
  have gAt := PySem.W.mg_of X G aAt
  have AAt : DefA K mg "_node_at" ["tree", "path"] fAt _ := ⟨gAt, kAt, bAt⟩
  have FEx0 := fun_mk (st := sExchanged) lEx cExd kEx
  have FEx := FEx0
  have bEx := FEx0.binds (ps := ["parts", "nodes"]) fun _ _ _ _ _ _ us hl => match us, hl with | [_, _], _ => rfl
  have gEx := PySem.W.mg_of X G aEx
  have AEx : DefA K mg "parts_with" ["parts", "nodes"] fEx _ := ⟨gEx, kEx, bEx⟩
  have FRi0 := fun_mk (st := sRowItems) lRi cRid kRi
  have FRi := FRi0
  have bRi := FRi0.binds (ps := ["row"]) fun _ _ _ _ _ _ us hl => match us, hl with | [_], _ => rfl
  have gRi := PySem.W.mg_of X G aRi
  have ARi : DefA K mg "row_items" ["row"] fRi _ := ⟨gRi, kRi, bRi⟩
  have FNu0 := fun_mk (st := sNumber) lNu cNud kNu
  have FNu := FNu0
  have bNu := FNu0.binds (ps := ["value"]) fun _ _ _ _ _ _ us hl => match us, hl with | [_], _ => rfl
  have gNu := PySem.W.mg_of X G aNu
  have ANu : DefA K mg "is_number" ["value"] fNu _ := ⟨gNu, kNu, bNu⟩
  have FNX0 := fun_mk (st := sNodeText) lNX cNXd kNX
  have FNX := FNX0
  have bNX := FNX0.binds (ps := ["form", "parts"]) fun _ _ _ _ _ _ us hl => match us, hl with | [_, _], _ => rfl
  have gNX := PySem.W.mg_of X G aNX
  have ANX : DefA K mg "_node_text" ["form", "parts"] fNX _ := ⟨gNX, kNX, bNX⟩
  have FPT0 := fun_mk (st := sPartText) lPT cPTd kPT
  have FPT := FPT0
  have bPT := FPT0.binds (ps := ["part"]) fun _ _ _ _ _ _ us hl => match us, hl with | [_], _ => rfl
  have gPT := PySem.W.mg_of X G aPT
  have APT : DefA K mg "part_text" ["part"] fPT _ := ⟨gPT, kPT, bPT⟩
  have FQ0 := fun_mk (st := sQuoted) lQ cQd kQ
  have FQ := FQ0
  have bQ := FQ0.binds (ps := ["text"]) fun _ _ _ _ _ _ us hl => match us, hl with | [_], _ => rfl
  have gQ := PySem.W.mg_of X G aQ
  have AQ : DefA K mg "_quoted" ["text"] fQ _ := ⟨gQ, kQ, bQ⟩
  have FM0 := fun_mk (st := sMixed) lM cMd kM
  have FM := FM0
  have bM := FM0.binds (ps := ["_law_cell", "_law_n"]) fun _ _ _ _ _ _ us hl => match us, hl with | [_, _], _ => rfl
  have gM := PySem.W.mg_of X G aM
  have AM : DefA K mg "_law_mixed" ["_law_cell", "_law_n"] fM _ := ⟨gM, kM, bM⟩
  have FFo0 := fun_mk (st := sFolded) lFo cFod kFo
  have FFo := FFo0
  have bFo := FFo0.binds (ps := ["_law_script"]) fun _ _ _ _ _ _ us hl => match us, hl with | [_], _ => rfl
  have gFo := PySem.W.mg_of X G aFo
  have AFo : DefA K mg "_law_folded" ["_law_script"] fFo _ := ⟨gFo, kFo, bFo⟩
  have FDr0 := fun_mk (st := sDraw) lDr cDrd kDr
  have FDr := FDr0
  have bDr := FDr0.binds (ps := ["_law_m", "_law_top"]) fun _ _ _ _ _ _ us hl => match us, hl with | [_, _], _ => rfl
  have gDr := PySem.W.mg_of X G aDr
  have ADr : DefA K mg "_law_draw" ["_law_m", "_law_top"] fDr _ := ⟨gDr, kDr, bDr⟩
  have FBg0 := fun_mk (st := sBegun) lBg cBgd kBg
  have FBg := FBg0
  have bBg := FBg0.binds (ps := ["_law_script"]) fun _ _ _ _ _ _ us hl => match us, hl with | [_], _ => rfl
  have gBg := PySem.W.mg_of X G aBg
  have ABg : DefA K mg "_law_begun" ["_law_script"] fBg _ := ⟨gBg, kBg, bBg⟩
  have FTa0 := fun_mk (st := sTable) lTa cTad kTa
  have FTa := FTa0
  have bTa := FTa0.binds (ps := []) fun _ _ _ _ _ _ us hl => match us, hl with | [], _ => rfl
  have gTa := PySem.W.mg_of X G aTa
  have ATa : DefA K mg "_law_table" [] fTa _ := ⟨gTa, kTa, bTa⟩
  have FWo0 := fun_mk (st := sWord) lWo cWod kWo
  have FWo := FWo0
  have bWo := FWo0.binds (ps := ["_law_m"]) fun _ _ _ _ _ _ us hl => match us, hl with | [_], _ => rfl
  have gWo := PySem.W.mg_of X G aWo
  have AWo : DefA K mg "_law_word" ["_law_m"] fWo _ := ⟨gWo, kWo, bWo⟩
  have FFm0 := fun_mk (st := sForm) lFm cFmd kFm
  have FFm := FFm0
  have bFm := FFm0.binds (ps := ["_law_m", "_law_take", "_law_deep"]) fun _ _ _ _ _ _ us hl => match us, hl with | [_, _, _], _ => rfl
  have gFm := PySem.W.mg_of X G aFm
  have AFm : DefA K mg "_law_form" ["_law_m", "_law_take", "_law_deep"] fFm _ := ⟨gFm, kFm, bFm⟩
  have FTr0 := fun_mk (st := sTree) lTr cTrd kTr
  have FTr := FTr0
  have bTr := FTr0.binds (ps := ["_law_m", "_law_take", "_law_deep"]) fun _ _ _ _ _ _ us hl => match us, hl with | [_, _, _], _ => rfl
  have gTr := PySem.W.mg_of X G aTr
  have ATr : DefA K mg "_law_tree" ["_law_m", "_law_take", "_law_deep"] fTr _ := ⟨gTr, kTr, bTr⟩
  have FRo0 := fun_mk (st := sRow) lRo cRod kRo
  have FRo := FRo0
  have bRo := FRo0.binds (ps := ["_law_items"]) fun _ _ _ _ _ _ us hl => match us, hl with | [_], _ => rfl
  have gRo := PySem.W.mg_of X G aRo
  have ARo : DefA K mg "_law_row" ["_law_items"] fRo _ := ⟨gRo, kRo, bRo⟩
  have FMa0 := fun_mk (st := sMade) lMa cMad kMa
  have FMa := FMa0
  have bMa := FMa0.binds (ps := ["_law_part"]) fun _ _ _ _ _ _ us hl => match us, hl with | [_], _ => rfl
  have gMa := PySem.W.mg_of X G aMa
  have AMa : DefA K mg "_law_made" ["_law_part"] fMa _ := ⟨gMa, kMa, bMa⟩
  have FCl0 := fun_mk (st := sClosed) lCl cCld kCl
  have FCl := FCl0
  have bCl := FCl0.binds (ps := ["_law_part"]) fun _ _ _ _ _ _ us hl => match us, hl with | [_], _ => rfl
  have gCl := PySem.W.mg_of X G aCl
  have ACl : DefA K mg "_law_closed" ["_law_part"] fCl _ := ⟨gCl, kCl, bCl⟩
  have FBe0 := fun_mk (st := sBelow) lBe cBed kBe
  have FBe := FBe0
  have bBe := FBe0.binds (ps := ["_law_plant"]) fun _ _ _ _ _ _ us hl => match us, hl with | [_], _ => rfl
  have gBe := PySem.W.mg_of X G aBe
  have ABe : DefA K mg "_law_below" ["_law_plant"] fBe _ := ⟨gBe, kBe, bBe⟩
  have FLA0 := fun_mk (st := sAt) lLA cLAd kLA
  have FLA := FLA0
  have bLA := FLA0.binds (ps := ["_law_plant", "_law_path_so"]) fun _ _ _ _ _ _ us hl => match us, hl with | [_, _], _ => rfl
  have gLA := PySem.W.mg_of X G aLA
  have ALA : DefA K mg "_law_at" ["_law_plant", "_law_path_so"] fLA _ := ⟨gLA, kLA, bLA⟩
  have FPa0 := fun_mk (st := sPaths) lPa cPad kPa
  have FPa := FPa0
  have bPa := FPa0.binds (ps := ["_law_plant"]) fun _ _ _ _ _ _ us hl => match us, hl with | [_], _ => rfl
  have gPa := PySem.W.mg_of X G aPa
  have APa : DefA K mg "_law_paths" ["_law_plant"] fPa _ := ⟨gPa, kPa, bPa⟩
  have FD20 := fun_mk (st := sDoubled) lD2 cD2d kD2
  have FD2 := FD20
  have bD2 := FD20.binds (ps := ["_law_kind_of"]) fun _ _ _ _ _ _ us hl => match us, hl with | [_], _ => rfl
  have gD2 := PySem.W.mg_of X G aD2
  have AD2 : DefA K mg "_law_doubled" ["_law_kind_of"] fD2 _ := ⟨gD2, kD2, bD2⟩
  have FFa0 := fun_mk (st := sFault) lFa cFad kFa
  have FFa := FFa0
  have bFa := FFa0.binds (ps := ["_law_call"]) fun _ _ _ _ _ _ us hl => match us, hl with | [_], _ => rfl
  have gFa := PySem.W.mg_of X G aFa
  have AFa : DefA K mg "_law_fault" ["_law_call"] fFa _ := ⟨gFa, kFa, bFa⟩
  have FPl0 := fun_mk (st := sPlaced) lPl cPld kPl
  have FPl := FPl0
  have bPl := FPl0.binds (ps := ["_law_plant", "_law_path_so", "_law_other_one"]) fun _ _ _ _ _ _ us hl => match us, hl with | [_, _, _], _ => rfl
  have gPl := PySem.W.mg_of X G aPl
  have APl : DefA K mg "_law_placed" ["_law_plant", "_law_path_so", "_law_other_one"] fPl _ := ⟨gPl, kPl, bPl⟩
  have FRR0 := fun_mk (st := sReadRight) lRR cRRd kRR
  have FRR := FRR0
  have bRR := FRR0.binds (ps := ["_law_plant", "_law_one"]) fun _ _ _ _ _ _ us hl => match us, hl with | [_, _], _ => rfl
  have gRR := PySem.W.mg_of X G aRR
  have ARR : DefA K mg "_law_read_right" ["_law_plant", "_law_one"] fRR _ := ⟨gRR, kRR, bRR⟩
  have FOR0 := fun_mk (st := sOddsRight) lOR cORd kOR
  have FOR : FunC K "_law_odds_right" "_law_odds_right" sOddsRight fOR _ cOR := ⟨⟨_, _, _, _, _, _, _, _, rfl, lOR, cORd⟩, kOR⟩
  have bOR := FOR0.binds (ps := ["_law_plant", "_law_one"]) fun _ _ _ _ _ _ us hl => match us, hl with | [_, _], _ => rfl
  have gOR := PySem.W.mg_of X G aOR
  have AOR : DefA K mg "_law_odds_right" ["_law_plant", "_law_one"] fOR _ := ⟨gOR, kOR, bOR⟩
  have FPR0 := fun_mk (st := sPutRight) lPR cPRd kPR
  have FPR : FunC K "_law_put_right" "_law_put_right" sPutRight fPR _ cPR := ⟨⟨_, _, _, _, _, _, _, _, rfl, lPR, cPRd⟩, kPR⟩
  have bPR := FPR0.binds (ps := ["_law_m", "_law_plant", "_law_one"]) fun _ _ _ _ _ _ us hl => match us, hl with | [_, _, _], _ => rfl
  have gPR := PySem.W.mg_of X G aPR
  have APR : DefA K mg "_law_put_right" ["_law_m", "_law_plant", "_law_one"] fPR _ := ⟨gPR, kPR, bPR⟩
  have FLI0 := fun_mk (st := sLimitsRight) lLI cLId kLI
  have FLI : FunC K "_law_limits_right" "_law_limits_right" sLimitsRight fLI _ cLI := ⟨⟨_, _, _, _, _, _, _, _, rfl, lLI, cLId⟩, kLI⟩
  have bLI := FLI0.binds (ps := []) fun _ _ _ _ _ _ us hl => match us, hl with | [], _ => rfl
  have gLI := PySem.W.mg_of X G aLI
  have ALI : DefA K mg "_law_limits_right" [] fLI _ := ⟨gLI, kLI, bLI⟩
  have FL0 := fun_mk (st := sLaw) lL cLd kL
  have FL := FL0
  have bL := FL0.binds (ps := ["_law_script"]) fun _ _ _ _ _ _ us hl => match us, hl with | [_], _ => rfl
  have gL := PySem.W.mg_of X G aL
  have AL : DefA K mg "law" ["_law_script"] fa _ := ⟨gL, kL, bL⟩
  have FTe : Fun K "__eq__" "Tree.__eq__" sTreeEq fTe _ := fun_mk (st := sTreeEq) lTe cTed kTe
  have bTe := FTe.binds (ps := ["self", "other"]) fun _ _ _ _ _ _ us hl => match us, hl with | [_, _], _ => rfl
  have FTl : Fun K "__len__" "Tree.__len__" sTreeLen fTl _ := fun_mk (st := sTreeLen) lTl cTld kTl
  have bTl := FTl.binds (ps := ["self"]) fun _ _ _ _ _ _ us hl => match us, hl with | [_], _ => rfl
  have FEp : Fun K "each_path" "Tree.each_path" sEachPath fEp _ := fun_mk (st := sEachPath) lEp cEpd kEp
  have bEp := FEp.binds (ps := ["self"]) fun _ _ _ _ _ _ us hl => match us, hl with | [_], _ => rfl
  have FTh : Fun K "__contains__" "Tree.__contains__" sTreeHas fTh _ := fun_mk (st := sTreeHas) lTh cThd kTh
  have bTh := FTh.binds (ps := ["self", "x"]) fun _ _ _ _ _ _ us hl => match us, hl with | [_, _], _ => rfl
  have FTg : Fun K "__getitem__" "Tree.__getitem__" sTreeGet fTg _ := fun_mk (st := sTreeGet) lTg cTgd kTg
  have bTg := FTg.binds (ps := ["self", "at"]) fun _ _ _ _ _ _ us hl => match us, hl with | [_, _], _ => rfl
  have FPu : Fun K "put" "Tree.put" sPut fPu _ := fun_mk (st := sPut) lPu cPud kPu
  have bPu := FPu.binds (ps := ["self", "path", "other"]) fun _ _ _ _ _ _ us hl => match us, hl with | [_, _, _], _ => rfl
  have FIT : Fun K "__init__" "Tree.__init__" sTreeInit fIT _ := fun_mk (st := sTreeInit) lIT cITd kIT
  have none_of : ∀ {x : Str}, PySem.W.nsIn K mainGlobals x = some none → mg x = none := fun {x} z => PySem.W.mg_none_of X G z
  have TN : TxtN mg := ⟨none_of zI, none_of zS, none_of zL, none_of zA, ⟨_, PySem.W.mg_of X G yMx⟩, ⟨_, PySem.W.mg_of X G yLt⟩, ⟨_, PySem.W.mg_of X G ySg⟩⟩
  have hclE : PySem.W.clsIn K CI = some { name := nmE, bases := bsE, mro := .ref CI :: bmE, ns := NNE, qualname := qE, hasDict := true, slotNames := snE, subclasses := subE, abstract := abE, collection := colE, hasDel := false } := by
    unfold PySem.W.clsIn
    rw [xLE]
  have ECE : ErrC l.prog K mg CI fE cdaE ccE "part" "InvalidTree.__init__" sErrInit :=
    { ox := ⟨⟨nmE, qE, NNE, bsE, bmE, snE, subE, abE, colE, ddE, m0E, m1E, m2E, m3E, m5E, xLE, rvE⟩, esaE, eexE, etyE, ekpE⟩, fi := efiE, ti := etiE, fn := ⟨_, _, _, _, _, _, _, _, lEE⟩, cd := ecdE, cod := ⟨_, _, _, _, _, _, xcE, v2E, pfE⟩, cel := ⟨_, _, _, xccE⟩, mr := emrE,
      al := fun cd hc => by
        rw [hclE] at hc
        cases hc
        have e0 : (Value.ref CI :: bmE).dropWhile (fun x => x != Value.ref CI) = Value.ref CI :: bmE := by
          rw [List.dropWhile_cons, if_neg (by simp)]
        show PySem.W.alongIn K "__init__" (((Value.ref CI :: bmE).dropWhile (fun x => x != Value.ref CI)).drop 1) = _
        rw [e0]
        exact ealE
      sup := sup, opq := opq, ve := eveE, ei := eeiE, nf := enf0E, top := etop }
  have hclP : PySem.W.clsIn K CP = some { name := nmP, bases := bsP, mro := .ref CP :: bmP, ns := NNP, qualname := qP, hasDict := true, slotNames := snP, subclasses := subP, abstract := abP, collection := colP, hasDel := false } := by
    unfold PySem.W.clsIn
    rw [xLP]
  have ECP : ErrC l.prog K mg CP fP cdaP ccP "value" "InvalidPath.__init__" sPathErr :=
    { ox := ⟨⟨nmP, qP, NNP, bsP, bmP, snP, subP, abP, colP, ddP, m0P, m1P, m2P, m3P, m5P, xLP, rvP⟩, esaP, eexP, etyP, ekpP⟩, fi := efiP, ti := etiP, fn := ⟨_, _, _, _, _, _, _, _, lEP⟩, cd := ecdP, cod := ⟨_, _, _, _, _, _, xcP, v2P, pfP⟩, cel := ⟨_, _, _, xccP⟩, mr := emrP,
      al := fun cd hc => by
        rw [hclP] at hc
        cases hc
        have e0 : (Value.ref CP :: bmP).dropWhile (fun x => x != Value.ref CP) = Value.ref CP :: bmP := by
          rw [List.dropWhile_cons, if_neg (by simp)]
        show PySem.W.alongIn K "__init__" (((Value.ref CP :: bmP).dropWhile (fun x => x != Value.ref CP)).drop 1) = _
        rw [e0]
        exact ealP
      sup := sup, opq := opq, ve := eveP, ei := eeiP, nf := enf0P, top := etop }
  have own : ∀ a ∈ (Cl5.mk CT CL CV CW CR).all, Own K a := fun a ha => by
    simp only [Cl5.all, List.mem_cons, List.not_mem_nil, or_false] at ha
    rcases ha with rfl | rfl | rfl | rfl | rfl
    · exact ⟨⟨qTpg, qThd, qTpo, qTsa⟩, qTha, ecg, etk, qTmo⟩
    · exact ⟨⟨qLpg, qLhd, qLpo, qLsa⟩, qLha, ecg, etk, qLmo⟩
    · exact ⟨⟨qVpg, qVhd, qVpo, qVsa⟩, qVha, ecg, etk, qVmo⟩
    · exact ⟨⟨qWpg, qWhd, qWpo, qWsa⟩, qWha, ecg, etk, qWmo⟩
    · exact ⟨⟨qRpg, qRhd, qRpo, qRsa⟩, qRha, ecg, etk, qRmo⟩
  have kitP : ∀ a ∈ (Cl5.mk CT CL CV CW CR).all, ∀ b ∈ (Cl5.mk CT CL CV CW CR).all, PySem.W.kitOne K (.ref a) (.ref b) = some (decide (a = b)) := fun a ha b hb => by
    have nd := ndC
    simp only [List.nodup_cons, List.mem_cons, List.not_mem_nil, or_false, not_or, not_false_eq_true, List.nodup_nil, and_true] at nd
    obtain ⟨⟨n01, n02, n03, n04⟩, ⟨n12, n13, n14⟩, ⟨n23, n24⟩, n34⟩ := nd
    simp only [Cl5.all, List.mem_cons, List.not_mem_nil, or_false] at ha hb
    rcases ha with rfl | rfl | rfl | rfl | rfl
    · rcases hb with h | h | h | h | h
      · rw [h, decide_eq_true rfl]; exact ktTT
      · rw [h, decide_eq_false n01]; exact ktTL
      · rw [h, decide_eq_false n02]; exact ktTV
      · rw [h, decide_eq_false n03]; exact ktTW
      · rw [h, decide_eq_false n04]; exact ktTR
    · rcases hb with h | h | h | h | h
      · rw [h, decide_eq_false (Ne.symm n01)]; exact ktLT
      · rw [h, decide_eq_true rfl]; exact ktLL
      · rw [h, decide_eq_false n12]; exact ktLV
      · rw [h, decide_eq_false n13]; exact ktLW
      · rw [h, decide_eq_false n14]; exact ktLR
    · rcases hb with h | h | h | h | h
      · rw [h, decide_eq_false (Ne.symm n02)]; exact ktVT
      · rw [h, decide_eq_false (Ne.symm n12)]; exact ktVL
      · rw [h, decide_eq_true rfl]; exact ktVV
      · rw [h, decide_eq_false n23]; exact ktVW
      · rw [h, decide_eq_false n24]; exact ktVR
    · rcases hb with h | h | h | h | h
      · rw [h, decide_eq_false (Ne.symm n03)]; exact ktWT
      · rw [h, decide_eq_false (Ne.symm n13)]; exact ktWL
      · rw [h, decide_eq_false (Ne.symm n23)]; exact ktWV
      · rw [h, decide_eq_true rfl]; exact ktWW
      · rw [h, decide_eq_false n34]; exact ktWR
    · rcases hb with h | h | h | h | h
      · rw [h, decide_eq_false (Ne.symm n04)]; exact ktRT
      · rw [h, decide_eq_false (Ne.symm n14)]; exact ktRL
      · rw [h, decide_eq_false (Ne.symm n24)]; exact ktRV
      · rw [h, decide_eq_false (Ne.symm n34)]; exact ktRW
      · rw [h, decide_eq_true rfl]; exact ktRR
  have stP : ∀ a ∈ (Cl5.mk CT CL CV CW CR).all, PySem.W.kitOne K (.ref a) (.type "str") = some false := fun a ha => by
    simp only [Cl5.all, List.mem_cons, List.not_mem_nil, or_false] at ha
    rcases ha with rfl | rfl | rfl | rfl | rfl
    · exact stT
    · exact stL
    · exact stV
    · exact stW
    · exact stR
  have tuP : ∀ a ∈ (Cl5.mk CT CL CV CW CR).all, PySem.W.kitOne K (.ref a) (.type "tuple") = some false := fun a ha => by
    simp only [Cl5.all, List.mem_cons, List.not_mem_nil, or_false] at ha
    rcases ha with rfl | rfl | rfl | rfl | rfl
    · exact tuT
    · exact tuL
    · exact tuV
    · exact tuW
    · exact tuR
  have bsP : ∀ a ∈ (Cl5.mk CT CL CV CW CR).all, PySem.W.kitOne K (.type "str") (.ref a) = some false := fun a ha => by
    simp only [Cl5.all, List.mem_cons, List.not_mem_nil, or_false] at ha
    rcases ha with rfl | rfl | rfl | rfl | rfl
    · exact bsT
    · exact bsL
    · exact bsV
    · exact bsW
    · exact bsR
  have btP : ∀ a ∈ (Cl5.mk CT CL CV CW CR).all, PySem.W.kitOne K (.type "tuple") (.ref a) = some false := fun a ha => by
    simp only [Cl5.all, List.mem_cons, List.not_mem_nil, or_false] at ha
    rcases ha with rfl | rfl | rfl | rfl | rfl
    · exact btT
    · exact btL
    · exact btV
    · exact btW
    · exact btR
  have T5 : Ty5 K ⟨CT, CL, CV, CW, CR⟩ := ⟨own, ndC, kitP, stP, tuP, bsP, btP⟩
  have N5 : Na5 K ⟨CT, CL, CV, CW, CR⟩ := ⟨fun a ha f hf => by
    simp only [Cl5.all, List.mem_cons, List.not_mem_nil, or_false] at ha
    simp only [List.mem_cons, List.not_mem_nil, or_false] at hf
    rcases ha with rfl | rfl | rfl | rfl | rfl
    · rcases hf with h | h | h | h | h | h | h <;> rw [h]
      · exact naT0
      · exact naT1
      · exact naT2
      · exact naT3
      · exact naT4
      · exact naT5
      · exact naT6
    · rcases hf with h | h | h | h | h | h | h <;> rw [h]
      · exact naL0
      · exact naL1
      · exact naL2
      · exact naL3
      · exact naL4
      · exact naL5
      · exact naL6
    · rcases hf with h | h | h | h | h | h | h <;> rw [h]
      · exact naV0
      · exact naV1
      · exact naV2
      · exact naV3
      · exact naV4
      · exact naV5
      · exact naV6
    · rcases hf with h | h | h | h | h | h | h <;> rw [h]
      · exact naW0
      · exact naW1
      · exact naW2
      · exact naW3
      · exact naW4
      · exact naW5
      · exact naW6
    · rcases hf with h | h | h | h | h | h | h <;> rw [h]
      · exact naR0
      · exact naR1
      · exact naR2
      · exact naR3
      · exact naR4
      · exact naR5
      · exact naR6⟩
  have ER : ErrF l.prog K mg CI := ⟨⟨_, _, _, ECE⟩, PySem.W.mg_of X G aCE_⟩
  have gT := PySem.W.mg_of X G aCT
  have gL_ := PySem.W.mg_of X G aCL
  have gV := PySem.W.mg_of X G aCV
  have gW := PySem.W.mg_of X G aCW
  have gR_ := PySem.W.mg_of X G aCR
  have gRg := none_of zR
  have gTu := none_of zT
  have gLe := none_of zL
  have TT : TxtT mg ⟨CT, CL, CV, CW, CR⟩ := ⟨none_of zI, none_of zS, gTu, gLe, none_of zA, ⟨_, PySem.W.mg_of X G yMt⟩, gT, gL_, gV, gW, gR_⟩
  have ERP : ErrP l.prog K mg CP := ⟨⟨_, _, _, ECP⟩, PySem.W.mg_of X G aCP_⟩
  have CRT : ClX.CRead K CT mc := ⟨Trd, Tga⟩
  have MT : Mk K CT fIT := ⟨qTmk, iIT, nIT, qTkp⟩
  have OE : OwnC K CT "__eq__" fTe := ⟨iTe, nTe, wTe⟩
  have OL : OwnC K CT "__len__" fTl := ⟨iTl, nTl, wTl⟩
  have OH : OwnC K CT "__contains__" fTh := ⟨iTh, nTh, wTh⟩
  have OG : OwnC K CT "__getitem__" fTg := ⟨iTg, nTg, wTg⟩
  have ME : Meth K CT "each_path" fEp := ⟨iEp, nEp, kEp⟩
  have MPu : Meth K CT "put" fPu := ⟨iPu, nPu, kPu⟩
  have ELE : ExcL K CI := ⟨by rw [hclE]; rfl, egaE, eggE, eexE, ehdE, ecaE, ecg, etk, emoE⟩
  have ELP : ExcL K CP := ⟨by rw [hclP]; rfl, egaP, eggP, eexP, ehdP, ecaP, ecg, etk, emoP⟩
  have FA : TxtA K mg CI CP CS fFa _ := ⟨FFa, bFa, gFa, PySem.W.mg_of X G aCS, PySem.W.mg_of X G aCE_, PySem.W.mg_of X G aCP_, none_of zI, ELE, ELP, enf0E, enf0P, exmE, exmP, ekkE, ekIP, ekkP⟩
  have hd1 := PySem.W.codeHd_of_K X tOR
  have hd2 := PySem.W.codeHd_of_K X tPR
  have hd3 := PySem.W.codeHd_of_K X tLI
  obtain ⟨un1, un2, un3⟩ := uni3 (qa := qOR) (qb := qPR) (qc := qLI) np1 np2 np3
  refine ⟨[(cOR, pOR), (cPR, pPR), (cLI, pLI)], PySem.W.fnOf "law" "law" (defArgs sLaw) (defBody sLaw) (defScope sLaw) .none kVL dcL pmL anL cdL ctL, spLaw K [(pOR, qOR), (pPR, qPR), (pLI, qLI)], fun p hp => ?_, fun p hp => ?_, fun p hp => ?_, fun s v => .of_eq rfl, fun H a ns hl _ hT hS => ⟨a, ns, rfl, hS, hl, fun p hp => ?_, fun H' => rfl⟩, fun base X0 G0 hTB => ?_⟩
  · simp only [List.mem_cons, List.not_mem_nil, or_false] at hp
    rcases hp with z | z | z <;> rw [z]
    · exact h1T
    · exact h2T
    · exact h3T
  · simp only [List.mem_cons, List.not_mem_nil, or_false] at hp
    rcases hp with z | z | z <;> rw [z]
    · exact nTOR
    · exact nTPR
    · exact nTLI
  · simp only [List.mem_cons, List.not_mem_nil, or_false] at hp
    rcases hp with z | z | z <;> rw [z]
    · exact hd1
    · exact hd2
    · exact hd3
  · simp only [List.mem_cons, List.not_mem_nil, or_false] at hp
    rcases hp with z | z | z <;> rw [z]
    · exact TabS.nil (hT (cOR, pOR) (by simp))
    · exact TabS.nil (hT (cPR, pPR) (by simp))
    · exact TabS.nil (hT (cLI, pLI) (by simp))
  · have TB1 := hTB (cOR, pOR) (by simp)
    have TB2 := hTB (cPR, pPR) (by simp)
    have TB3 := hTB (cLI, pLI) (by simp)
    have GN := ok_name (P := l.prog) (w := w) (base := base) FN TN
    have GNd := ok_isNode (P := l.prog) (w := w) (base := base) FNd TT T5
    have GTP := ok_treePart (P := l.prog) (w := w) (base := base) FTP TT T5
    have GQ := ok_quoted (P := l.prog) (w := w) (mg := mg) (base := base) FQ
    have GPT := ok_partText (P := l.prog) (w := w) (base := base) FPT TT T5 N5 GQ gQ kQ bQ
    have GNX := ok_nodeText (P := l.prog) (w := w) (base := base) FNX GPT gPT kPT bPT
    have GMS := ok_measures (P := l.prog) (w := w) (mg := mg) (base := base) FMS T5 N5
    have GNA := ok_nodes (P := l.prog) (w := w) (base := base) FNA TT T5 GNd gNd kNd bNd
    have TI : TxtI l.prog w K mg base ⟨CT, CL, CV, CW, CR⟩ CI fN fTP fNA fMS fNX _ _ _ _ _ := ⟨ER, none_of zE, gT, ⟨mc, _, _, CRT, ⟨mxN, ⟨_, rfl⟩⟩, ⟨mxL, ⟨_, rfl⟩⟩⟩, GN, gN, kN, bN, GTP, gTP, kTP, bTP, GNA, gNA, kNA, bNA, GMS, gMS, kMS, bMS, GNX, gNX, kNX, bNX⟩
    have GIT := treeInit_fnR (P := l.prog) (w := w) (base := base) FIT TI T5 N5
    have GTe := ok_treeEq (P := l.prog) (w := w) (base := base) FTe TT T5 N5
    have GTl := ok_treeLen (P := l.prog) (w := w) (base := base) FTl gRg gLe T5 N5
    have GEp := gfn_each (P := l.prog) (w := w) (base := base) FEp (none_of zE) T5 N5
    have GNu := ok_number (P := l.prog) (w := w) (base := base) FNu (none_of zI) (none_of zInt) (none_of zBool)
    have GAt := ok_nodeAt (P := l.prog) (w := w) (base := base) FAt TT T5 N5 GNu ANu
    have GTh := ok_treeHas (P := l.prog) (w := w) (base := base) FTh GAt AAt
    have GTg := ok_treeGet (P := l.prog) (w := w) (base := base) FTg ERP GAt AAt
    have GRi := ok_rowG (P := l.prog) (w := w) (base := base) FRi TT T5
    have GEx := ok_with (P := l.prog) (w := w) (base := base) FEx TT T5 GNd ANd GRi ARi
    have GPu := ok_put (P := l.prog) (w := w) (base := base) (C := ⟨CT, CL, CV, CW, CR⟩) (CI := CI) FPu ⟨TT, T5, N5, ERP, OH, raw_of GTh bTh, GEx, AEx, MT, GIT, none_of zRv, none_of zLi, none_of zZip, none_of zE⟩
    have GDr := ok_draw (P := l.prog) (w := w) (base := base) FDr FM bM gM gLe
    have GBg := ok_begun (P := l.prog) (w := w) (base := base) FBg FFo bFo gFo gRg (none_of zE)
    have GBe := ok_below (P := l.prog) (w := w) (base := base) FBe (none_of zI) (none_of zLi) (none_of zS)
    have GLA := ok_at (P := l.prog) (w := w) (base := base) FLA GBe ABe
    have GPa := ok_paths (P := l.prog) (w := w) (base := base) FPa APa GBe ABe (none_of zE) 40
    have GMa := made_all (P := l.prog) (w := w) (base := base) (C := ⟨CT, CL, CV, CW, CR⟩) FMa FRo FCl TT (none_of zLi) AMa ARo ACl MT GIT 40
    have GPl := ok_placed (P := l.prog) (w := w) (base := base) (C := ⟨CT, CL, CV, CW, CR⟩) FPl APl TT (none_of zLi) 40
    have GTa := ok_table (P := l.prog) (w := w) (base := base) (mg := mg) FTa
    have GWo := ok_word (P := l.prog) (w := w) (base := base) FWo GDr ADr
    have GFm := ok_form (P := l.prog) (w := w) (base := base) FFm GDr ADr
    have GTr : FnOk l.prog w K mg base L2.CX0 7 fTr _ ["_law_m", "_law_take", "_law_deep"] spTreeR := fn_ex (I := Fin 4) (sp := fun j => spTree j.val) fun j => fn_mono (tree_all (P := l.prog) (w := w) (base := base) (C := ⟨CT, CL, CV, CW, CR⟩) FTr TT gRg GDr ADr GWo AWo GFm AFm GTa ATa ATr j.val) (by have := j.isLt; omega)
    have GD2 := ok_doubled (P := l.prog) (w := w) (base := base) FD2 gRg
    have kPu := mk_kPut (K := K) (kV := kVPu) (doc := dcPu) (pm := pmPu) (cdv := cdPu) (ct := ctPu) (an := anPu)
    have TRR : TxtRR l.prog w K mg base ⟨CT, CL, CV, CW, CR⟩ CP 40 ⟨fPa, fBe, fLA, fMa, fTl, fEp, fTh, fTg, fTe, _, _, _, _, _⟩ := ⟨TT, T5, N5, GPa, APa, GBe, ABe, GLA, ALA, GMa, AMa, OL, raw_of GTl bTl, ME, GEp, bEp, OH, raw_of GTh bTh, OG, raw_of GTg bTg, OE, raw_of GTe bTe, nf_T, none_of zLi, none_of zRp⟩
    have GRR := ok_readRight (P := l.prog) (w := w) (base := base) FRR TRR
    have TOR : TxtOR l.prog w K mg base ⟨CT, CL, CV, CW, CR⟩ CI CP CS ⟨fBe, fD2, fTh, fTg, fPu, fFa, _, _, _, _⟩ := ⟨TT, T5, N5, GBe, ABe, GD2, AD2, OH, raw_of GTh bTh, OG, raw_of GTg bTg, MPu, GPu, bPu, kPu, FA⟩
    have GOR := ok_oddsRight (P := l.prog) (w := w) (base := base) (T := [(pOR, qOR), (pPR, qPR), (pLI, qLI)]) FOR TOR TB1 (by simp) un1
    have TPR : TxtPR l.prog w K mg base ⟨CT, CL, CV, CW, CR⟩ CI CP CS ⟨fDr, fTr, fTa, fPl, fPu, fFa, _, _, _, _, _, _⟩ := ⟨GDr, ADr, GTr, ATr, GTa, ATa, GPl, APl, MPu, GPu, bPu, kPu, FA, gRg⟩
    have GPR := ok_putRight (P := l.prog) (w := w) (base := base) (T := [(pOR, qOR), (pPR, qPR), (pLI, qLI)]) FPR TRR TPR GRR ARR TB2 (by simp) un2
    have GLI := ok_limitsRight (P := l.prog) (w := w) (base := base) (T := [(pOR, qOR), (pPR, qPR), (pLI, qLI)]) FLI TRR TPR ⟨MT, GIT⟩ TB3 (by simp) un3
    have TLw : TxtLw l.prog w K mg base ⟨CT, CL, CV, CW, CR⟩ fBg fRR fOR fPR fLI _ _ _ _ _ [(pOR, qOR), (pPR, qPR), (pLI, qLI)] := ⟨GBg, ABg, GRR, ARR, GOR, AOR, GPR, APR, GLI, ALI⟩
    exact ok_law (T := [(pOR, qOR), (pPR, qPR), (pLI, qLI)]) FL TRR TPR TLw
end K3

open PySem PySem.W PyProof.Rows
set_option maxRecDepth 100000 in
set_option maxHeartbeats 0 in
theorem PySem.Challenge.cw_ruleengine_k04_whole_paths_and_put_holds : PySem.Challenge.rw_ruleengine_k04_whole_paths_and_put.Holds := by
  w_on; o_law
  refine HL.head_cut (r := OpenLaw.row PySem.Challenge.rw_ruleengine_k04_whole_paths_and_put) (q := KH.qvF) (H := PySem.W.kmHook KH.KF KH.asF KH.as_eq [472, 477, 484]) (M := KH.stepsF) (tr := KH.trF) (loose := KH.looseF) (kwd := []) (by kernel_rfl) (fun s => by kernel_rfl) KH.sizeF KH.runF KH.lookF (by rfl) (by rfl) (by rfl) (by rfl) (by first | assumption | decide +kernel) (by decide +kernel) ⟨rfl, rfl, rfl, rfl, rfl, by decide +kernel⟩ ?hw ?hc
  case hw => w_witness2
  case hc =>
  k_fill
  refine EG.walk_G (l := PySem.Challenge.rw_ruleengine_k04_whole_paths_and_put) (n := 63) (k := 98) (x := "_law_script") (CX := fun _ => L2.CX0) rfl (by decide) rfl ⟨rfl, by decide, by decide⟩ (fun w h Y => PySem.W.km_in_of Y) ?F (fun _ _ _ _ _ z => z)
  case F =>
    intro w mg fa h Y KX G hmg
    have t1 : h.get? 472 = some (tabObj #[]) := PySem.W.km_tabs_of Y 472 (by decide)
    have t2 : h.get? 477 = some (tabObj #[]) := PySem.W.km_tabs_of Y 477 (by decide)
    have t3 : h.get? 484 = some (tabObj #[]) := PySem.W.km_tabs_of Y 484 (by decide)
    refine' K3.all_mk (P := PySem.Challenge.pw_ruleengine_k04_whole_paths_and_put) (pOR := 472) (pPR := 477) (pLI := 484) (mc := .type "type") rfl KX G t1 t2 t3 hmg ?aN ?lN ?cNd ?kN ?aNd ?lNd ?cNdd ?kNd ?aTP ?lTP ?cTPd ?kTP ?aNA ?lNA ?cNAd ?kNA ?aMS ?lMS ?cMSd ?kMS ?aAt ?lAt ?cAtd ?kAt ?aEx ?lEx ?cExd ?kEx ?aRi ?lRi ?cRid ?kRi ?aNu ?lNu ?cNud ?kNu ?aNX ?lNX ?cNXd ?kNX ?aPT ?lPT ?cPTd ?kPT ?aQ ?lQ ?cQd ?kQ ?aM ?lM ?cMd ?kM ?aFo ?lFo ?cFod ?kFo ?aDr ?lDr ?cDrd ?kDr ?aBg ?lBg ?cBgd ?kBg ?aTa ?lTa ?cTad ?kTa ?aWo ?lWo ?cWod ?kWo ?aFm ?lFm ?cFmd ?kFm ?aTr ?lTr ?cTrd ?kTr ?aRo ?lRo ?cRod ?kRo ?aMa ?lMa ?cMad ?kMa ?aCl ?lCl ?cCld ?kCl ?aBe ?lBe ?cBed ?kBe ?aLA ?lLA ?cLAd ?kLA ?aPa ?lPa ?cPad ?kPa ?aD2 ?lD2 ?cD2d ?kD2 ?aFa ?lFa ?cFad ?kFa ?aPl ?lPl ?cPld ?kPl ?aRR ?lRR ?cRRd ?kRR ?aOR ?lOR ?cORd ?kOR ?aPR ?lPR ?cPRd ?kPR ?aLI ?lLI ?cLId ?kLI ?aL ?lL ?cLd ?kL ?aCT ?qTpg ?qThd ?qTpo ?qTsa ?qTha ?qTmo ?qTmk ?qTkp ?iIT ?nIT ?lIT ?cITd ?kIT ?naT0 ?naT1 ?naT2 ?naT3 ?naT4 ?naT5 ?naT6 ?stT ?tuT ?bsT ?btT ?ktTT ?ktTL ?ktTV ?ktTW ?ktTR ?aCL ?qLpg ?qLhd ?qLpo ?qLsa ?qLha ?qLmo ?qLmk ?qLkp ?naL0 ?naL1 ?naL2 ?naL3 ?naL4 ?naL5 ?naL6 ?stL ?tuL ?bsL ?btL ?ktLT ?ktLL ?ktLV ?ktLW ?ktLR ?aCV ?qVpg ?qVhd ?qVpo ?qVsa ?qVha ?qVmo ?qVmk ?qVkp ?naV0 ?naV1 ?naV2 ?naV3 ?naV4 ?naV5 ?naV6 ?stV ?tuV ?bsV ?btV ?ktVT ?ktVL ?ktVV ?ktVW ?ktVR ?aCW ?qWpg ?qWhd ?qWpo ?qWsa ?qWha ?qWmo ?qWmk ?qWkp ?naW0 ?naW1 ?naW2 ?naW3 ?naW4 ?naW5 ?naW6 ?stW ?tuW ?bsW ?btW ?ktWT ?ktWL ?ktWV ?ktWW ?ktWR ?aCR ?qRpg ?qRhd ?qRpo ?qRsa ?qRha ?qRmo ?qRmk ?qRkp ?naR0 ?naR1 ?naR2 ?naR3 ?naR4 ?naR5 ?naR6 ?stR ?tuR ?bsR ?btR ?ktRT ?ktRL ?ktRV ?ktRW ?ktRR ?ndC ?nf_T ?Trd ?Tga ?mxN ?mxL ?iTe ?nTe ?wTe ?lTe ?cTed ?kTe ?iTl ?nTl ?wTl ?lTl ?cTld ?kTl ?iEp ?nEp ?wEp ?lEp ?cEpd ?kEp ?iTh ?nTh ?wTh ?lTh ?cThd ?kTh ?iTg ?nTg ?wTg ?lTg ?cTgd ?kTg ?iPu ?nPu ?wPu ?lPu ?cPud ?kPu ?aCS ?aCE_ ?xLE ?rvE ?esaE ?eexE ?etyE ?ekpE ?efiE ?etiE ?lEE ?ecdE ?xcE ?v2E ?pfE ?xccE ?emrE ?ealE ?eveE ?eeiE ?enf0E ?egaE ?eggE ?ehdE ?ecaE ?emoE ?exmE ?ekkE ?aCP_ ?xLP ?rvP ?esaP ?eexP ?etyP ?ekpP ?efiP ?etiP ?lEP ?ecdP ?xcP ?v2P ?pfP ?xccP ?emrP ?ealP ?eveP ?eeiP ?enf0P ?egaP ?eggP ?ehdP ?ecaP ?emoP ?exmP ?ekkP ?ekIP ?sup ?opq ?etop ?ecg ?etk ?zI ?zS ?zL ?zA ?zT ?zR ?zE ?zLi ?zRp ?zRv ?zInt ?zBool ?zZip ?yMx ?yLt ?ySg ?yMt ?tOR ?nTOR ?tPR ?nTPR ?tLI ?nTLI ?np1 ?np2 ?np3
    (case aN => k_is)
    (case lN => k_is)
    (case cNd => k_is)
    (case kN => k_is)
    (case aNd => k_is)
    (case lNd => k_is)
    (case cNdd => k_is)
    (case kNd => k_is)
    (case aTP => k_is)
    (case lTP => k_is)
    (case cTPd => k_is)
    (case kTP => k_is)
    (case aNA => k_is)
    (case lNA => k_is)
    (case cNAd => k_is)
    (case kNA => k_is)
    (case aMS => k_is)
    (case lMS => k_is)
    (case cMSd => k_is)
    (case kMS => k_is)
    (case aAt => k_is)
    (case lAt => k_is)
    (case cAtd => k_is)
    (case kAt => k_is)
    (case aEx => k_is)
    (case lEx => k_is)
    (case cExd => k_is)
    (case kEx => k_is)
    (case aRi => k_is)
    (case lRi => k_is)
    (case cRid => k_is)
    (case kRi => k_is)
    (case aNu => k_is)
    (case lNu => k_is)
    (case cNud => k_is)
    (case kNu => k_is)
    (case aNX => k_is)
    (case lNX => k_is)
    (case cNXd => k_is)
    (case kNX => k_is)
    (case aPT => k_is)
    (case lPT => k_is)
    (case cPTd => k_is)
    (case kPT => k_is)
    (case aQ => k_is)
    (case lQ => k_is)
    (case cQd => k_is)
    (case kQ => k_is)
    (case aM => k_is)
    (case lM => k_is)
    (case cMd => k_is)
    (case kM => k_is)
    (case aFo => k_is)
    (case lFo => k_is)
    (case cFod => k_is)
    (case kFo => k_is)
    (case aDr => k_is)
    (case lDr => k_is)
    (case cDrd => k_is)
    (case kDr => k_is)
    (case aBg => k_is)
    (case lBg => k_is)
    (case cBgd => k_is)
    (case kBg => k_is)
    (case aTa => k_is)
    (case lTa => k_is)
    (case cTad => k_is)
    (case kTa => k_is)
    (case aWo => k_is)
    (case lWo => k_is)
    (case cWod => k_is)
    (case kWo => k_is)
    (case aFm => k_is)
    (case lFm => k_is)
    (case cFmd => k_is)
    (case kFm => k_is)
    (case aTr => k_is)
    (case lTr => k_is)
    (case cTrd => k_is)
    (case kTr => k_is)
    (case aRo => k_is)
    (case lRo => k_is)
    (case cRod => k_is)
    (case kRo => k_is)
    (case aMa => k_is)
    (case lMa => k_is)
    (case cMad => k_is)
    (case kMa => k_is)
    (case aCl => k_is)
    (case lCl => k_is)
    (case cCld => k_is)
    (case kCl => k_is)
    (case aBe => k_is)
    (case lBe => k_is)
    (case cBed => k_is)
    (case kBe => k_is)
    (case aLA => k_is)
    (case lLA => k_is)
    (case cLAd => k_is)
    (case kLA => k_is)
    (case aPa => k_is)
    (case lPa => k_is)
    (case cPad => k_is)
    (case kPa => k_is)
    (case aD2 => k_is)
    (case lD2 => k_is)
    (case cD2d => k_is)
    (case kD2 => k_is)
    (case aFa => k_is)
    (case lFa => k_is)
    (case cFad => k_is)
    (case kFa => k_is)
    (case aPl => k_is)
    (case lPl => k_is)
    (case cPld => k_is)
    (case kPl => k_is)
    (case aRR => k_is)
    (case lRR => k_is)
    (case cRRd => k_is)
    (case kRR => k_is)
    (case aOR => k_is)
    (case lOR => k_is)
    (case cORd => k_is)
    (case kOR => k_is)
    (case aPR => k_is)
    (case lPR => k_is)
    (case cPRd => k_is)
    (case kPR => k_is)
    (case aLI => k_is)
    (case lLI => k_is)
    (case cLId => k_is)
    (case kLI => k_is)
    (case aL => k_is)
    (case lL => k_is)
    (case cLd => k_is)
    (case kL => k_is)
    (case aCT => k_is)
    (case qTpg => k_is)
    (case qThd => k_is)
    (case qTpo => k_is)
    (case qTsa => k_is)
    (case qTha => k_is)
    (case qTmo => k_is)
    (case qTmk => k_is)
    (case qTkp => k_is)
    (case iIT => k_is)
    (case nIT => k_is)
    (case lIT => k_is)
    (case cITd => k_is)
    (case kIT => k_is)
    (case naT0 => k_is)
    (case naT1 => k_is)
    (case naT2 => k_is)
    (case naT3 => k_is)
    (case naT4 => k_is)
    (case naT5 => k_is)
    (case naT6 => k_is)
    (case stT => first | kernel_rfl | rfl)
    (case tuT => first | kernel_rfl | rfl)
    (case bsT => first | kernel_rfl | rfl)
    (case btT => first | kernel_rfl | rfl)
    (case ktTT => first | kernel_rfl | rfl)
    (case ktTL => first | kernel_rfl | rfl)
    (case ktTV => first | kernel_rfl | rfl)
    (case ktTW => first | kernel_rfl | rfl)
    (case ktTR => first | kernel_rfl | rfl)
    (case aCL => k_is)
    (case qLpg => k_is)
    (case qLhd => k_is)
    (case qLpo => k_is)
    (case qLsa => k_is)
    (case qLha => k_is)
    (case qLmo => k_is)
    (case qLmk => k_is)
    (case qLkp => k_is)
    (case naL0 => k_is)
    (case naL1 => k_is)
    (case naL2 => k_is)
    (case naL3 => k_is)
    (case naL4 => k_is)
    (case naL5 => k_is)
    (case naL6 => k_is)
    (case stL => first | kernel_rfl | rfl)
    (case tuL => first | kernel_rfl | rfl)
    (case bsL => first | kernel_rfl | rfl)
    (case btL => first | kernel_rfl | rfl)
    (case ktLT => first | kernel_rfl | rfl)
    (case ktLL => first | kernel_rfl | rfl)
    (case ktLV => first | kernel_rfl | rfl)
    (case ktLW => first | kernel_rfl | rfl)
    (case ktLR => first | kernel_rfl | rfl)
    (case aCV => k_is)
    (case qVpg => k_is)
    (case qVhd => k_is)
    (case qVpo => k_is)
    (case qVsa => k_is)
    (case qVha => k_is)
    (case qVmo => k_is)
    (case qVmk => k_is)
    (case qVkp => k_is)
    (case naV0 => k_is)
    (case naV1 => k_is)
    (case naV2 => k_is)
    (case naV3 => k_is)
    (case naV4 => k_is)
    (case naV5 => k_is)
    (case naV6 => k_is)
    (case stV => first | kernel_rfl | rfl)
    (case tuV => first | kernel_rfl | rfl)
    (case bsV => first | kernel_rfl | rfl)
    (case btV => first | kernel_rfl | rfl)
    (case ktVT => first | kernel_rfl | rfl)
    (case ktVL => first | kernel_rfl | rfl)
    (case ktVV => first | kernel_rfl | rfl)
    (case ktVW => first | kernel_rfl | rfl)
    (case ktVR => first | kernel_rfl | rfl)
    (case aCW => k_is)
    (case qWpg => k_is)
    (case qWhd => k_is)
    (case qWpo => k_is)
    (case qWsa => k_is)
    (case qWha => k_is)
    (case qWmo => k_is)
    (case qWmk => k_is)
    (case qWkp => k_is)
    (case naW0 => k_is)
    (case naW1 => k_is)
    (case naW2 => k_is)
    (case naW3 => k_is)
    (case naW4 => k_is)
    (case naW5 => k_is)
    (case naW6 => k_is)
    (case stW => first | kernel_rfl | rfl)
    (case tuW => first | kernel_rfl | rfl)
    (case bsW => first | kernel_rfl | rfl)
    (case btW => first | kernel_rfl | rfl)
    (case ktWT => first | kernel_rfl | rfl)
    (case ktWL => first | kernel_rfl | rfl)
    (case ktWV => first | kernel_rfl | rfl)
    (case ktWW => first | kernel_rfl | rfl)
    (case ktWR => first | kernel_rfl | rfl)
    (case aCR => k_is)
    (case qRpg => k_is)
    (case qRhd => k_is)
    (case qRpo => k_is)
    (case qRsa => k_is)
    (case qRha => k_is)
    (case qRmo => k_is)
    (case qRmk => k_is)
    (case qRkp => k_is)
    (case naR0 => k_is)
    (case naR1 => k_is)
    (case naR2 => k_is)
    (case naR3 => k_is)
    (case naR4 => k_is)
    (case naR5 => k_is)
    (case naR6 => k_is)
    (case stR => first | kernel_rfl | rfl)
    (case tuR => first | kernel_rfl | rfl)
    (case bsR => first | kernel_rfl | rfl)
    (case btR => first | kernel_rfl | rfl)
    (case ktRT => first | kernel_rfl | rfl)
    (case ktRL => first | kernel_rfl | rfl)
    (case ktRV => first | kernel_rfl | rfl)
    (case ktRW => first | kernel_rfl | rfl)
    (case ktRR => first | kernel_rfl | rfl)
    (case ndC => decide +kernel)
    (case nf_T => first | kernel_rfl | rfl)
    (case Trd => k_is)
    (case Tga => k_is)
    (case mxN => k_is)
    (case mxL => k_is)
    (case iTe => k_is)
    (case nTe => k_is)
    (case wTe => k_is)
    (case lTe => k_is)
    (case cTed => k_is)
    (case kTe => k_is)
    (case iTl => k_is)
    (case nTl => k_is)
    (case wTl => k_is)
    (case lTl => k_is)
    (case cTld => k_is)
    (case kTl => k_is)
    (case iEp => k_is)
    (case nEp => k_is)
    (case wEp => k_is)
    (case lEp => k_is)
    (case cEpd => k_is)
    (case kEp => k_is)
    (case iTh => k_is)
    (case nTh => k_is)
    (case wTh => k_is)
    (case lTh => k_is)
    (case cThd => k_is)
    (case kTh => k_is)
    (case iTg => k_is)
    (case nTg => k_is)
    (case wTg => k_is)
    (case lTg => k_is)
    (case cTgd => k_is)
    (case kTg => k_is)
    (case iPu => k_is)
    (case nPu => k_is)
    (case wPu => k_is)
    (case lPu => k_is)
    (case cPud => k_is)
    (case kPu => k_is)
    (case aCS => k_is)
    (case aCE_ => k_is)
    (case xLE => k_is)
    (case rvE => decide +kernel)
    (case esaE => k_is)
    (case eexE => k_is)
    (case etyE => k_is)
    (case ekpE => k_is)
    (case efiE => k_is)
    (case etiE => k_is)
    (case lEE => k_is)
    (case ecdE => k_is)
    (case xcE => k_is)
    (case v2E => rfl)
    (case pfE => decide +kernel)
    (case xccE => k_is)
    (case emrE => k_is)
    (case ealE => first | kernel_rfl | rfl)
    (case eveE => k_is)
    (case eeiE => first | kernel_rfl | rfl)
    (case enf0E => k_is)
    (case egaE => k_is)
    (case eggE => k_is)
    (case ehdE => k_is)
    (case ecaE => k_is)
    (case emoE => k_is)
    (case exmE => first | kernel_rfl | rfl)
    (case ekkE => first | kernel_rfl | rfl)
    (case aCP_ => k_is)
    (case xLP => k_is)
    (case rvP => decide +kernel)
    (case esaP => k_is)
    (case eexP => k_is)
    (case etyP => k_is)
    (case ekpP => k_is)
    (case efiP => k_is)
    (case etiP => k_is)
    (case lEP => k_is)
    (case ecdP => k_is)
    (case xcP => k_is)
    (case v2P => rfl)
    (case pfP => decide +kernel)
    (case xccP => k_is)
    (case emrP => k_is)
    (case ealP => first | kernel_rfl | rfl)
    (case eveP => k_is)
    (case eeiP => first | kernel_rfl | rfl)
    (case enf0P => k_is)
    (case egaP => k_is)
    (case eggP => k_is)
    (case ehdP => k_is)
    (case ecaP => k_is)
    (case emoP => k_is)
    (case exmP => first | kernel_rfl | rfl)
    (case ekkP => first | kernel_rfl | rfl)
    (case ekIP => first | kernel_rfl | rfl)
    (case sup => k_is)
    (case opq => k_is)
    (case etop => decide +kernel)
    (case ecg => k_is)
    (case etk => k_is)
    (case zI => k_is)
    (case zS => k_is)
    (case zL => k_is)
    (case zA => k_is)
    (case zT => k_is)
    (case zR => k_is)
    (case zE => k_is)
    (case zLi => k_is)
    (case zRp => k_is)
    (case zRv => k_is)
    (case zInt => k_is)
    (case zBool => k_is)
    (case zZip => k_is)
    (case yMx => k_is)
    (case yLt => k_is)
    (case ySg => k_is)
    (case yMt => k_is)
    (case tOR => first | kernel_rfl | rfl)
    (case nTOR => rfl)
    (case tPR => first | kernel_rfl | rfl)
    (case nTPR => rfl)
    (case tLI => first | kernel_rfl | rfl)
    (case nTLI => rfl)
    (case np1 => decide +kernel)
    (case np2 => decide +kernel)
    (case np3 => decide +kernel)
