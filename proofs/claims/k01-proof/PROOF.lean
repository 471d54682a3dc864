import PyProof.Rows.All
import Wide.All
import OpenK.AllK
import Wide.FinOn
import HandS.ForMost
import HandS.ForExc
import HandS.Wide
import HandS.IsInst
import HandS.Walk
import HandS.Iter
import HandS.Text
import HandS.ExcInit
import HandS.TryOnly
import KE.KExcSuper
import HandS.ExcValue
import HandS.ExcField
import HandS.ExcIs
import KE.KExcIs
import HandS.Lambda
import HandS.ClsMeth
import HandS.ListItems
import HandS.Conv
import KE.KItemsList
import HandS.Star
import PyProof.InstEq
import PyProof.NeKinds
import PyProof.P3Eq
import HandS.EndTab
import KE.KParD
import KE.KNestM
import PySem.Challenge.RW_ruleengine_k01_forms_checked
set_option Elab.async false
set_option maxRecDepth 100000
set_option maxHeartbeats 4000000
namespace K1
open PySem L2
def top (i : Nat) : Stmt := PySem.Challenge.pw_ruleengine_k01_forms_checked.main.body.getD i (.Pass ⟨0, 0, 0, 0⟩)
abbrev sMixed : Stmt := top 17
abbrev sFolded : Stmt := top 18
abbrev sDraw : Stmt := top 19
abbrev sBegun : Stmt := top 20
abbrev sFault : Stmt := top 21
abbrev sLName : Stmt := top 22
abbrev sLTaken : Stmt := top 23
abbrev sDoubled : Stmt := top 24
abbrev sDue : Stmt := top 25
abbrev sRight : Stmt := top 26
abbrev sHand : Stmt := top 27
abbrev sLaw : Stmt := top 28
abbrev sName : Stmt := top 9
abbrev sSort : Stmt := top 10
abbrev sTaken : Stmt := top 11
abbrev sSortTaken : Stmt := top 12
abbrev sErrInit : Stmt := inClass (top 2) 0
abbrev sFormInit : Stmt := inClass (top 14) 1
abbrev sFormOf : Stmt := inClass (top 14) 2
abbrev sChecked : Stmt := top 15

/-! ### readings, as equations for simp -/
@[simp] theorem x_tOp {r : R2} {ta tb : TE} {σ : L2.St} {H : Hp} {Q : VK} : tOp r ta tb σ H Q = ta σ H fun x H1 => tb σ H1 fun y H2 => r x y H2 Q := rfl
@[simp] theorem x_rI {C : Int → Int → Prop} {g : Int → Int → V} {x y : V} {H : Hp} {Q : VK} : rI C g x y H Q = ∃ i j, x = .int i ∧ y = .int j ∧ C i j ∧ Q (g i j) H := rfl
@[simp] theorem x_rI0 {g : Int → Int → V} {x y : V} {H : Hp} {Q : VK} : rI0 g x y H Q = ∃ i j, x = .int i ∧ y = .int j ∧ Q (g i j) H := rfl
@[simp] theorem x_rU {g : Int → V} {x : V} {H : Hp} {Q : VK} : rU g x H Q = ∃ i, x = .int i ∧ Q (g i) H := rfl
@[simp] theorem x_tVar {i : Nat} {σ : L2.St} {H : Hp} {Q : VK} : tVar i σ H Q = ∃ v, σ[i]? = some (some v) ∧ Q v H := rfl
@[simp] theorem x_tC {v : V} {σ : L2.St} {H : Hp} {Q : VK} : tC v σ H Q = Q v H := rfl
@[simp] theorem x_gName {i : Nat} {v : V} {σ : L2.St} {H : Hp} {Q : L2.St → Hp → Prop} : gName i v σ H Q = Q (σ.set i (some v)) H := rfl
@[simp] theorem x_tAsg {te : TE} {g : TG} {D : Ends} {σ : L2.St} {H : Hp} : tAsg te g D σ H = te σ H fun x H1 => g x σ H1 D.nx := rfl
@[simp] theorem x_tSeq {t u : TS} {D : Ends} {σ : L2.St} {H : Hp} : tSeq t u D σ H = t { D with nx := u D } σ H := rfl
@[simp] theorem x_tRet {te : TE} {D : Ends} {σ : L2.St} {H : Hp} : tRet te D σ H = te σ H D.rt := rfl
@[simp] theorem x_tNext {D : Ends} {σ : L2.St} {H : Hp} : tNext D σ H = D.nx σ H := rfl
@[simp] theorem x_tDrop {te : TE} {D : Ends} {σ : L2.St} {H : Hp} : tDrop te D σ H = te σ H fun _ H1 => D.nx σ H1 := rfl
@[simp] theorem x_tIfS {c : TT} {t u : TS} {D : Ends} {σ : L2.St} {H : Hp} : tIfS c t u D σ H = c σ H fun b H1 => if b = true then t D σ H1 else u D σ H1 := rfl
@[simp] theorem x_tIf {c : TT} {t u : TE} {Q : VK} {σ : L2.St} {H : Hp} : tIf c t u σ H Q = c σ H fun b H1 => if b = true then t σ H1 Q else u σ H1 Q := rfl
@[simp] theorem x_tB {t : TE} {σ : L2.St} {H : Hp} {Q : Bool → Hp → Prop} : tB t σ H Q = t σ H fun x H1 => ∃ c, x = .bl c ∧ Q c H1 := rfl
@[simp] theorem x_tTest {t : TE} {σ : L2.St} {H : Hp} {Q : Bool → Hp → Prop} : tTest t σ H Q = t σ H fun x H1 => ∃ c, x = .bl c ∧ Q c H1 := rfl
@[simp] theorem x_tAnd {t u : TT} {σ : L2.St} {H : Hp} {Q : Bool → Hp → Prop} : tAnd t u σ H Q = t σ H fun c H1 => if c = true then u σ H1 Q else Q false H1 := rfl
@[simp] theorem x_tOr {t u : TT} {σ : L2.St} {H : Hp} {Q : Bool → Hp → Prop} : tOr t u σ H Q = t σ H fun c H1 => if c = true then Q true H1 else u σ H1 Q := rfl
@[simp] theorem x_tNot {t : TT} {σ : L2.St} {H : Hp} {Q : Bool → Hp → Prop} : tNot t σ H Q = t σ H fun c H1 => Q (!c) H1 := rfl
@[simp] theorem x_tAndV {ta tb : TE} {σ : L2.St} {H : Hp} {Q : VK} : tAndV ta tb σ H Q = ta σ H fun x H1 => ∃ c, x = .bl c ∧ if c = true then tb σ H1 Q else Q (.bl false) H1 := rfl
@[simp] theorem x_tOrV {ta tb : TE} {σ : L2.St} {H : Hp} {Q : VK} : tOrV ta tb σ H Q = ta σ H fun x H1 => ∃ c, x = .bl c ∧ if c = true then Q (.bl true) H1 else tb σ H1 Q := rfl
@[simp] theorem x_tNotV {ta : TE} {σ : L2.St} {H : Hp} {Q : VK} : tNotV ta σ H Q = ta σ H fun x H1 => ∃ c, x = .bl c ∧ Q (.bl (!c)) H1 := rfl
@[simp] theorem x_tNil {σ : L2.St} {H : Hp} {Q : List V → Hp → Prop} : tNil σ H Q = Q [] H := rfl
@[simp] theorem x_tCons {ta : TE} {tr : TA} {σ : L2.St} {H : Hp} {Q : List V → Hp → Prop} : tCons ta tr σ H Q = ta σ H fun x H1 => tr σ H1 fun xs H2 => Q (x :: xs) H2 := rfl
@[simp] theorem x_tCB {r : List V → Hp → VK → Prop} {t : TA} {σ : L2.St} {H : Hp} {Q : VK} : tCB r t σ H Q = t σ H fun vs H1 => r vs H1 Q := rfl
@[simp] theorem x_tCall {sp : Sp} {dvs : List V} {E : XK} {t : TA} {σ : L2.St} {H : Hp} {Q : VK} : tCall sp dvs E t σ H Q = t σ H fun vs H1 => sp (vs ++ dvs) H1 Q E := rfl
@[simp] theorem x_tLst {t : TA} {σ : L2.St} {H : Hp} {Q : VK} : tLst t σ H Q = t σ H fun xs H1 => xs.length ≤ sizeLine ∧ ∀ p, H1 p = none → Q (.ref p) (upd H1 p (.lst xs)) := rfl
@[simp] theorem x_tTup {t : TA} {σ : L2.St} {H : Hp} {Q : VK} : tTup t σ H Q = t σ H fun xs H1 => xs.length ≤ sizeLine ∧ ∀ p, H1 p = none → Q (.ref p) (upd H1 p (.tup xs)) := rfl
@[simp] theorem x_tDGet {td ty : TE} {σ : L2.St} {H : Hp} {Q : VK} : tDGet td ty σ H Q = td σ H fun x H1 => ty σ H1 fun y H2 => ∃ a v, x = .ref a ∧ DGet H2 a y (some v) ∧ Q v H2 := rfl
@[simp] theorem x_sDPut {td ty tv : TE} {D : Ends} {σ : L2.St} {H : Hp} : sDPut td ty tv D σ H = tv σ H fun v H1 => td σ H1 fun x H2 => ty σ H2 fun y H3 => ∃ a H4, x = .ref a ∧ DPut H3 a y v H4 ∧ D.nx σ H4 := rfl
@[simp] theorem x_rNeD {K : PySem.W.Frag} {x y : V} {H : Hp} {Q : VK} : rNeD K x y H Q = ∃ d e, Dp K H x d ∧ Dp K H y e ∧ SeqAt.shaped d = true ∧ SeqAt.shaped e = true ∧ Q (.bl (!PyData.eqv d e)) H := rfl
@[simp] theorem x_rEqD {K : PySem.W.Frag} {x y : V} {H : Hp} {Q : VK} : rEqD K x y H Q = ∃ d e, Dp K H x d ∧ Dp K H y e ∧ SeqAt.shaped d = true ∧ SeqAt.shaped e = true ∧ Q (.bl (PyData.eqv d e)) H := rfl
@[simp] theorem x_rIxL {K : PySem.W.Frag} {x y : V} {H : Hp} {Q : VK} : rIxL K x y H Q = ∃ p xs i v, x = .ref p ∧ y = .int i ∧ SqL K H p xs ∧ atI xs i = some v ∧ Q v H := rfl
@[simp] theorem x_rSetL {o i v : V} {H : Hp} {Q : Hp → Prop} : rSetL o i v H Q = ∃ p xs k j, o = .ref p ∧ i = .int k ∧ H p = some (.lst xs) ∧ ixN xs.length k = some j ∧ Q (upd H p (.lst (xs.set j v))) := rfl
@[simp] theorem x_gSub {to ti : TE} {t : TSet} {v : V} {σ : L2.St} {H : Hp} {Q : L2.St → Hp → Prop} : gSub to ti t v σ H Q = to σ H fun o H1 => ti σ H1 fun i H2 => t o i v H2 fun H3 => Q σ H3 := rfl
@[simp] theorem x_rEq {x y : V} {H : Hp} {Q : VK} : rEq x y H Q = (scal x y = true ∧ Q (.bl (decide (x = y))) H) := rfl
@[simp] theorem x_rNe {x y : V} {H : Hp} {Q : VK} : rNe x y H Q = (scal x y = true ∧ Q (.bl (!decide (x = y))) H) := rfl
@[simp] theorem x_rIsi {K : PySem.W.Frag} {xs : List V} {H : Hp} {Q : VK} : rIsi K xs H Q = ∃ (x c : V) (t u : Value) (b : Bool), xs = [x, c] ∧ ClsV c u ∧ TyX K H x t ∧ PySem.W.kitOne K t u = some b ∧ Q (.bl b) H := rfl
@[simp] theorem x_start {N : List Str} {vs : List V} : L2.start N vs = vs.map some ++ List.replicate (N.length - vs.length) none := rfl
def mixed (c n : Int) : Int := ((c * (1 + 2 * n) * 48271 % 2147483647 + 7919 * n * n + 104729 * n) * 69621 % 2147483629) / 7
theorem mixed_nonneg (c n : Int) : 0 ≤ mixed c n := by
  unfold mixed
  exact Int.ediv_nonneg (Int.emod_nonneg _ (by decide)) (by decide)
theorem mixed_lt (c n : Int) : mixed c n < 2147483648 := by
  unfold mixed
  have h := Int.emod_lt_of_pos ((c * (1 + 2 * n) * 48271 % 2147483647 + 7919 * n * n + 104729 * n) * 69621) (show (0 : Int) < 2147483629 by decide)
  omega
def spMixed : Sp := fun vs H Q _ => ∃ c n : Int, vs = [.int c, .int n] ∧ -(2 ^ 62) ≤ c ∧ c ≤ 2 ^ 62 ∧ 0 ≤ n ∧ n ≤ 2 ^ 30 ∧ Q (.int (mixed c n)) H
theorem scMixed : FnScope ["_law_cell", "_law_n", "_law_turned"] ["_law_cell", "_law_n"] (defScope sMixed) := ⟨rfl, rfl, rfl, by decide +kernel, rfl, by decide +kernel, by decide +kernel⟩
section
variable {P : Program} {w : World} {K : PySem.W.Frag} {mg : Str → Option Value} {base : Heap}
theorem ok_mixed {f : Addr} {fd : FuncData} (F : Fun K "_law_mixed" "_law_mixed" sMixed f fd) : FnOk P w K mg base CX0 1 f fd ["_law_cell", "_law_n"] spMixed := by
  refine F.ok scMixed (fun vs H Q E h => ?_) (fun cdv A outer s H vs Q E hr h => ?_)
  · obtain ⟨c, n, rfl, _⟩ := h
    rfl
  · obtain ⟨c, n, rfl, c0, c1, n0, n1, k⟩ := h
    refine ⟨_, pss_cons (ps_set (i := 2) scMixed.nd rfl (Or.inl rfl)
        (pe_op op_add (pe_op op_add (pe_op op_mod (pe_op op_mul (pe_op op_mul (pv 0) (pe_op op_add pe_int (pe_op op_mul pe_int (pv 1)))) pe_int) pe_int)
          (pe_op op_mul (pe_op op_mul pe_int (pv 1)) (pv 1))) (pe_op op_mul pe_int (pv 1))))
      (pss_one (ps_ret (pe_op op_fdiv (pe_op op_mod (pe_op op_mul (pv 2) pe_int) pe_int) pe_int))), ?_⟩
    simp [CMul, CDiv]
    exact ⟨.inl ⟨by omega, by omega⟩, .inr ⟨by omega, by omega⟩, k⟩

theorem fm0 (a : Int) {b : Int} (h : 0 < b) : 0 ≤ Int.fmod a b := by
  rw [Int.fmod_eq_emod_of_nonneg _ (by omega)]
  exact Int.emod_nonneg _ (by omega)
theorem ixN_n {n j : Nat} (hj : j < n) : ixN n (j : Int) = some j := by
  unfold ixN
  rw [if_pos (by omega), if_pos (by omega)]
  simp
theorem dg {H : Hp} {a : Addr} {kvs : List (Key × V)} {k : Key} {v : V} (e : H a = some (.dK kvs)) (h : valV kvs k = some v) : DGet H a (kV k) (some v) := by
  rw [← h]
  exact DGet.k e
theorem dpInts {K : PySem.W.Frag} {H : Hp} : ∀ l : List Int, DpAll K H (l.map V.int) (l.map PyData.int)
  | [] => .nil
  | i :: l => .cons (.int i) (dpInts l)
theorem shInts (l : List Int) : SeqAt.shaped (.list (l.map PyData.int)) = true := by
  have h1 : ∀ l : List Int, PyData.canLayAll0 (l.map PyData.int) = true := fun l => by
    induction l with
    | nil => rfl
    | cons i l ih => simp [PyData.canLayAll0, PyData.canLay0, ih]
  have h2 : ∀ l : List Int, PyData.depthAll (l.map PyData.int) = 0 := fun l => by
    induction l with
    | nil => rfl
    | cons i l ih => simp [PyData.depthAll, PyData.depth, ih]
  simp [SeqAt.shaped, PyData.canLay0, PyData.depth, h1, h2]
theorem eqvNil (l : List Int) : PyData.eqv (.list (l.map PyData.int)) (.list []) = l.isEmpty := by
  cases l <;> rfl
theorem ce_ : ¬ ((Sum.inr "cells" : Key) = (Sum.inr "spot" : Key)) := by decide +kernel
theorem ge_ : ¬ ((Sum.inr "great" : Key) = (Sum.inr "spot" : Key)) := by decide +kernel
theorem cg_ : ¬ ((Sum.inr "cells" : Key) = (Sum.inr "great" : Key)) := by decide +kernel
theorem sg_ : ¬ ((Sum.inr "spot" : Key) = (Sum.inr "great" : Key)) := by decide +kernel
def mD (lc lg : Addr) (n : Int) : List (Key × V) := [(.inr "cells", .ref lc), (.inr "great", .ref lg), (.inr "spot", .int n)]
theorem mD_s {lc lg : Addr} {n : Int} : valV (mD lc lg n) (.inr "spot") = some (.int n) := by
  unfold mD
  rw [valV_neg ce_, valV_neg ge_, valV_pos rfl]
theorem mD_g {lc lg : Addr} {n : Int} : valV (mD lc lg n) (.inr "great") = some (.ref lg) := by
  unfold mD
  rw [valV_neg cg_, valV_pos rfl]
theorem mD_c {lc lg : Addr} {n : Int} : valV (mD lc lg n) (.inr "cells") = some (.ref lc) := by
  unfold mD
  rw [valV_pos rfl]
theorem mD_put {lc lg : Addr} {n k : Int} : putK (mD lc lg n) (.inr "spot") (.int k) = mD lc lg k := by
  simp only [putK, mD, List.any_cons, List.any_nil, List.map_cons, List.map_nil, if_neg ce_, if_neg ge_]
  simp
theorem mD_putg {lc lg l2 : Addr} {n : Int} : putK (mD lc lg n) (.inr "great") (.ref l2) = mD lc l2 n := by
  simp only [putK, mD, List.any_cons, List.any_nil, List.map_cons, List.map_nil, if_neg cg_, if_neg sg_]
  simp
/-! ### the drawing state -/
/-- at m: the dict of the drawing state, its lists at lc and lg, spot n -/
structure MA (m lc lg : Addr) (n : Int) (H : Hp) : Prop where
  hm : H m = some (.dK (mD lc lg n))
  ne : lc ≠ lg
  hc : ∃ cs : List Int, H lc = some (.lst (cs.map V.int)) ∧ cs.length = 64 ∧ ∀ c ∈ cs, 0 ≤ c ∧ c < 2147483648
  hg : ∃ gs : List Int, H lg = some (.lst (gs.map V.int)) ∧ gs.length ≤ 63
  n0 : 0 ≤ n
def spDraw : Sp := fun vs H Q _ => ∃ (m lc lg : Addr) (n t : Int), vs = [.ref m, .int t] ∧ MA m lc lg n H ∧ n ≤ 1000000 ∧ 0 < t ∧ t < 1000000 ∧
  ∀ H' d, 0 ≤ d → d < t → MA m lc lg (n + 1) H' → (∀ b o, b ≠ m → b ≠ lg → H b = some o → H' b = some o) → Q (.int d) H'
theorem scDraw : FnScope ["_law_m", "_law_top", "_law_n", "_law_at", "_law_cell"] ["_law_m", "_law_top"] (defScope sDraw) := ⟨rfl, rfl, rfl, by decide +kernel, rfl, by decide +kernel, by decide +kernel⟩
theorem ok_draw {f fM : Addr} {fd fdM : FuncData} (F : Fun K "_law_draw" "_law_draw" sDraw f fd) (FM : Fun K "_law_mixed" "_law_mixed" sMixed fM fdM) (bM : Binds K fdM ["_law_cell", "_law_n"] []) (gM : mg "_law_mixed" = some (.ref fM)) (gL : mg "len" = none) :
    FnOk P w K mg base CX0 2 f fd ["_law_m", "_law_top"] spDraw := by
  have GM : FnOk P w K mg base CX0 1 fM fdM ["_law_cell", "_law_n"] spMixed := ok_mixed FM
  refine F.ok scDraw (fun vs H Q E h => ?_) (fun cdv A outer s H vs Q E hr h => ?_)
  · obtain ⟨m, lc, lg, n, t, rfl, _⟩ := h
    rfl
  · obtain ⟨m, lc, lg, n, t, rfl, M, n1, t0, t1, k⟩ := h
    have hu := hu_of hr
    refine ⟨_, pss_cons (ps_set (i := 2) scDraw.nd rfl (Or.inl rfl) (pe_dget hu (pv 0) pe_str (fun _ _ => rfl)))
      (pss_cons (ps_dput hu (pv 0) pe_str (pe_op op_add (pv 2) pe_int) rfl)
      (pss_cons (ps_if (pt_cmpR (op_neD hr.units) (pe_dget hu (pv 0) pe_str (fun _ _ => rfl)) (pe_lst pa_nil) (nomark _))
        (pss_cons (ps_set (i := 3) scDraw.nd rfl (Or.inl rfl) (pe_op op_modN (pv 2) (pe_callB call_len_seq (by rfl) gL PySem.boot_len (pa_cons (pe_dget hu (pv 0) pe_str (fun _ _ => rfl)) pa_nil))))
        (pss_cons (ps_set (i := 4) scDraw.nd rfl (Or.inl rfl) (pe_ix ix_list (pe_dget hu (pv 0) pe_str (fun _ _ => rfl)) (pv 3) (fun _ _ => rfl)))
        (pss_one (ps_if (pt_cmpR op_gt (pv 4) pe_int (nomark _))
          (pss_cons (ps_asg (pe_op op_fdivN (pv 4) (pv 1)) (pg_sub (pe_dget hu (pv 0) pe_str (fun _ _ => rfl)) (pv 3) set_list))
          (pss_one (ps_ret (pe_op op_modN (pv 4) (pv 1)))))
          pss_nil))))
        pss_nil)
      (pss_one (ps_ret (pe_op op_modN (pe_call GM hr rfl gM FM.kp bM .nil pass0 (pa_cons
          (pe_call GM hr rfl gM FM.kp bM .nil pass0 (pa_cons (pe_op op_add (pe_ix ix_list (pe_dget hu (pv 0) pe_str (fun _ _ => rfl)) (pe_op op_modN (pv 2) pe_int) (fun _ _ => rfl)) (pe_op op_mul pe_int (pe_op op_fdivN (pv 2) pe_int))) (pa_cons (pv 2) pa_nil)))
          (pa_cons (pe_op op_add (pv 2) pe_int) pa_nil))) (pv 1))))))
      , ?_⟩
    obtain ⟨hm, ne, ⟨cs, hc, lcs, bcs⟩, ⟨gs, hg, lgs⟩, n0⟩ := M
    have nmc : m ≠ lc := ne_of hm hc (by intro q; cases q)
    have nmg : m ≠ lg := ne_of hm hg (by intro q; cases q)
    have tail : ∀ H2 : Hp, H2 m = some (.dK (mD lc lg (n + 1))) → H2 lc = some (.lst (cs.map V.int)) → H2 lg = some (.lst (gs.map V.int)) → (∀ b o, b ≠ m → H b = some o → H2 b = some o) → ∀ (v3 v4 : Option V),
        (fun σ H => tRet (tOp (rI (fun _ j => j ≠ 0) fun i j => V.int (i.fmod j)) (tCall spMixed [] E0 (tCons (tCall spMixed [] E0 (tCons (tOp (rI0 fun i j => V.int (i + j)) (tOp (rIxL K) (tDGet (tVar 0) (tC (.str "cells"))) (tOp (rI (fun _ j => j ≠ 0) fun i j => V.int (i.fmod j)) (tVar 2) (tC (.int 64)))) (tOp (rI CMul fun i j => V.int (i * j)) (tC (.int 31)) (tOp (rI CDivN fun i j => V.int (i.fdiv j)) (tVar 2) (tC (.int 64))))) (tCons (tVar 2) tNil))) (tCons (tOp (rI0 fun i j => V.int (i + j)) (tVar 2) (tC (.int 7))) tNil))) (tVar 1)) { nx := fun _ H' => Q .non H', rt := Q } σ H) [some (.ref m), some (.int t), some (.int n), v3, v4] H2 := by
      intro H2 hm2 hc2 hg2 o2 v3 v4
      have f0 : 0 ≤ Int.fmod n 64 := fm0 _ (by decide)
      have f1 : Int.fmod n 64 < 64 := Int.fmod_lt_of_pos n (by decide)
      obtain ⟨j, ej⟩ := Int.eq_ofNat_of_zero_le f0
      have jl : j < cs.length := by omega
      have hj : (cs.map V.int)[j]? = some (.int cs[j]) := by simp [jl]
      have bj := bcs cs[j] (List.getElem_mem jl)
      have ed : Int.fdiv n 64 = n / 64 := Int.fdiv_eq_ediv_of_nonneg n (by decide)
      refine ⟨_, rfl, m, _, rfl, dg (k := .inr "cells") hm2 mD_c, _, rfl, _, _, rfl, rfl, (by show (64 : Int) ≠ 0; decide), _, _, _, _, rfl, rfl, SqL.of hc2, at_of ej hj, _, rfl, _, _, rfl, rfl, ⟨by decide, by decide⟩, _, _, rfl, rfl, .inl ⟨by decide, by decide⟩, _, _, rfl, rfl, ?_⟩
      refine ⟨_, rfl, _, _, rfl, by omega, by omega, n0, by omega, ?_⟩
      refine ⟨_, rfl, _, _, rfl, rfl, ?_⟩
      have b0 := mixed_nonneg (cs[j] + 31 * Int.fdiv n 64) n
      have b1 := mixed_lt (cs[j] + 31 * Int.fdiv n 64) n
      refine ⟨_, _, rfl, by omega, by omega, by omega, by omega, ?_⟩
      refine ⟨_, rfl, _, _, rfl, rfl, (by omega), ?_⟩
      exact k _ _ (fm0 _ t0) (Int.fmod_lt_of_pos _ t0) ⟨hm2, ne, ⟨cs, hc2, lcs, bcs⟩, ⟨gs, hg2, lgs⟩, by omega⟩ (fun b o hb _ e => o2 b o hb e)
    -- n = m["spot"]; m["spot"] = n + 1
    refine ⟨_, rfl, m, _, rfl, dg (k := .inr "spot") hm mD_s, ?_⟩
    refine ⟨_, rfl, _, _, rfl, rfl, _, rfl, m, _, rfl, DPut.k (k := Sum.inr "spot") hm (by show 3 < sizeLine; decide), ?_⟩
    rw [mD_put]
    generalize eH1 : upd H m (.dK (mD lc lg (n + 1))) = H1
    have hm1 : H1 m = some (.dK (mD lc lg (n + 1))) := by rw [← eH1, upd_same]
    have hc1 : H1 lc = some (.lst (cs.map V.int)) := by rw [← eH1, upd_ne nmc.symm, hc]
    have hg1 : H1 lg = some (.lst (gs.map V.int)) := by rw [← eH1, upd_ne nmg.symm, hg]
    have o1 : ∀ b, b ≠ m → H1 b = H b := fun b hb => by rw [← eH1, upd_ne hb]
    -- m["great"] != []
    refine ⟨_, rfl, m, _, rfl, dg (k := .inr "great") hm1 mD_g, (by decide), fun p hp => ?_⟩
    generalize eH2 : upd H1 p (.lst []) = H2
    have np : ∀ b o, H1 b = some o → b ≠ p := fun b o h => ne_of_none h hp
    have hm2 : H2 m = some (.dK (mD lc lg (n + 1))) := by rw [← eH2, upd_ne (np _ _ hm1), hm1]
    have hc2 : H2 lc = some (.lst (cs.map V.int)) := by rw [← eH2, upd_ne (np _ _ hc1), hc1]
    have hg2 : H2 lg = some (.lst (gs.map V.int)) := by rw [← eH2, upd_ne (np _ _ hg1), hg1]
    have hp2 : H2 p = some (.lst []) := by rw [← eH2, upd_same]
    have o2 : ∀ b o, b ≠ m → H b = some o → H2 b = some o := fun b o hb e => by
      have e1 : H1 b = some o := (o1 b hb).trans e
      rw [← eH2, upd_ne (np _ _ e1), e1]
    have nlp : lg ≠ p := np _ _ hg1
    refine ⟨_, _, .lst (SqL.of hg2) (dpInts gs), .lst (xs := []) (SqL.of hp2) .nil, shInts gs, (by decide), _, rfl, ?_⟩
    rw [eqvNil]
    refine ite2 (fun h => ?_) (fun h => ?_)
    · have gl : 0 < gs.length := by
        cases gs with
        | nil => simp at h
        | cons a l => simp
      -- at = n % len(m["great"]); cell = m["great"][at]
      have gN : ((gs.map V.int).length : Int) ≠ 0 := by rw [List.length_map]; omega
      have f0 : 0 ≤ Int.fmod n ((gs.map V.int).length : Int) := fm0 _ (by rw [List.length_map]; omega)
      have f1 : Int.fmod n ((gs.map V.int).length : Int) < (gs.length : Int) := by
        have q := Int.fmod_lt_of_pos n (show (0 : Int) < ((gs.map V.int).length : Int) by rw [List.length_map]; omega)
        rw [List.length_map] at q ⊢
        exact q
      refine ⟨_, rfl, _, rfl, m, _, rfl, dg (k := .inr "great") hm2 mD_g, _, _, rfl, .inl (SqL.of hg2), _, _, rfl, rfl, gN, ?_⟩
      obtain ⟨j, ej⟩ := Int.eq_ofNat_of_zero_le f0
      have jl : j < gs.length := by omega
      have hj : (gs.map V.int)[j]? = some (.int gs[j]) := by simp [jl]
      refine ⟨_, rfl, m, _, rfl, dg (k := .inr "great") hm2 mD_g, _, rfl, _, _, _, _, rfl, rfl, SqL.of hg2, at_of ej hj, ?_⟩
      -- if cell > 0
      refine ⟨_, rfl, _, _, rfl, rfl, _, rfl, ?_⟩
      refine ite2 (fun h0 => ?_) (fun h0 => ?_)
      · refine ⟨_, rfl, _, rfl, _, _, rfl, rfl, ⟨by omega, by omega⟩, ?_⟩
        refine ⟨_, rfl, m, _, rfl, dg (k := .inr "great") hm2 mD_g, _, rfl, _, _, _, j, rfl, rfl, hg2, (by rw [ej]; exact ixN_n (by rw [List.length_map]; exact jl)), ?_⟩
        refine ⟨_, rfl, _, rfl, _, _, rfl, rfl, (by omega), ?_⟩
        refine k _ _ (fm0 _ t0) (Int.fmod_lt_of_pos _ t0) ⟨by rw [upd_ne nmg]; exact hm2, ne, ⟨cs, by rw [upd_ne ne]; exact hc2, lcs, bcs⟩, ⟨gs.set j ((gs[j]).fdiv t), ?_, by rw [List.length_set]; exact lgs⟩, by omega⟩ (fun b o hb hb2 e => ?_)
        · rw [upd_same, List.map_set]
        · rw [upd_ne hb2]
          exact o2 b o hb e
      · exact tail H2 hm2 hc2 hg2 o2 _ _
    · exact tail H2 hm2 hc2 hg2 o2 _ _
end
end K1

namespace K1
open PySem L2
section
variable {P : Program} {w : World} {K : PySem.W.Frag} {mg : Str → Option Value} {base : Heap}
def CellsOk (cs : List Int) : Prop := cs.length = 64 ∧ ∀ c ∈ cs, 0 ≤ c ∧ c < 2147483648
theorem CellsOk.set {cs : List Int} (h : CellsOk cs) (j : Nat) {v : Int} (h0 : 0 ≤ v) (h1 : v < 2147483648) : CellsOk (cs.set j v) := by
  refine ⟨by rw [List.length_set]; exact h.1, fun c hc => ?_⟩
  rcases List.mem_or_eq_of_mem_set hc with z | z
  · exact h.2 c z
  · rw [z]
    exact ⟨h0, h1⟩
theorem getI {cs : List Int} {j : Nat} (h : j < cs.length) : (cs.map V.int)[j]? = some (V.int cs[j]) := by simp [h]
def spFolded (K : PySem.W.Frag) : Sp := fun vs H Q _ => ∃ (a : Addr) (ns : List Int), vs = [.ref a] ∧ SqL K H a (ns.map V.int) ∧
  ∀ H' p cs, Same H H' → H p = none → H' p = some (.lst (cs.map V.int)) → CellsOk cs → Q (.ref p) H'
theorem scFolded : FnScope ["_law_script", "_law_n", "_law_found", "_law_cell"] ["_law_script"] (defScope sFolded) := ⟨rfl, rfl, rfl, by decide +kernel, rfl, by decide +kernel, by decide +kernel⟩
theorem same_upd {H0 H : Hp} {D : Addr} {o : HO} (s : Same H0 H) (n : H0 D = none) : Same H0 (upd H D o) := fun b x e => by
  rw [upd_ne (ne_of_none e n)]
  exact s b x e
theorem ok_folded {f : Addr} {fd : FuncData} (F : Fun K "_law_folded" "_law_folded" sFolded f fd) (gR : mg "range" = none) (gE : mg "enumerate" = none) :
    FnOk P w K mg base CX0 1 f fd ["_law_script"] (spFolded K) := by
  refine F.ok scFolded (fun vs H Q E h => ?_) (fun cdv A outer s H vs Q E hr h => ?_)
  · obtain ⟨a, ns, rfl, _⟩ := h
    rfl
  · obtain ⟨a, ns, rfl, hS, k⟩ := h
    refine ⟨_, pss_cons (ps_setLc (i := 2) (own := [("_law_n", 1)]) (g := gName 1) (tt := tYes) rfl scFolded.nd rfl rfl (sw_true rfl rfl rfl (by decide +kernel)) (pi_range1 rfl gR (pa_cons pe_int pa_nil))
          (blkOk_by (N := ["_law_script", "_law_n", "_law_found", "_law_cell"]) (sc := defScope sFolded) (by decide +kernel)) (fun _ _ _ _ _ => pg_name (i := 1) scFolded.nd rfl (Or.inl rfl)) (fun _ _ _ _ _ => pts_nil) (fun _ _ _ _ _ => pe_op op_add pe_int (pv 1)))
      (pss_cons (ps_for PassesOwn.never rfl (pi_enum rfl gE (pa_cons (pv 0) pa_nil)) (pg_tup (by rfl) (pgs_cons (pg_name (i := 1) scFolded.nd rfl (.inl rfl)) (pgs_cons (pg_name (i := 3) scFolded.nd rfl (.inl rfl)) pgs_nil)))
        (pss_one (ps_asg (pe_op op_mod (pe_op op_add (pe_op op_mul (pe_ix ix_list (pv 2) (pe_op op_mod (pv 1) pe_int) (fun _ _ => rfl)) pe_int) (pv 3)) pe_int) (pg_sub (pv 2) (pe_op op_mod (pv 1) pe_int) set_list))))
      (pss_cons (ps_for PassesOwn.never rfl (pi_range2 rfl gR (pa_cons pe_int (pa_cons pe_int pa_nil))) (pg_name (i := 1) scFolded.nd rfl (Or.inl rfl))
        (pss_one (ps_asg (pe_op op_mod (pe_op op_add (pe_ix ix_list (pv 2) (pv 1) (fun _ _ => rfl)) (pe_op op_mul (pe_ix ix_list (pv 2) (pe_op op_sub (pv 1) pe_int) (fun _ _ => rfl)) pe_int)) pe_int) (pg_sub (pv 2) (pv 1) set_list))))
      (pss_one (ps_ret (pv 2))))), ?_⟩
    refine ⟨64, rfl, by decide, by decide, fun D hD => lc_range (n := 64) (fun i H' => Same H H' ∧ H' D = some (.lst (((List.range i).map fun k : Nat => (17 + (k : Int))).map V.int))) ⟨same_upd (Same.refl H) hD, by rw [upd_same]; rfl⟩ ?_ ?_⟩
    · rintro i H' hi ⟨s1, h1⟩
      refine ⟨rfl, ?_⟩
      dsimp only [tYes]
      rw [if_pos rfl]
      refine ⟨_, rfl, _, _, rfl, rfl, _, h1, ?_, same_upd s1 hD, ?_⟩
      · rw [List.length_map, List.length_map, List.length_range]
        exact Nat.lt_trans hi (by decide)
      · rw [upd_same, List.range_succ]
        simp
    · rintro H' ⟨s1, h1⟩
      generalize ecs : ((List.range 64).map fun k : Nat => (17 + (k : Int))) = cs at h1
      have ok0 : CellsOk cs := by
        rw [← ecs]
        refine ⟨by simp, fun c hc => ?_⟩
        obtain ⟨k, hk, rfl⟩ := List.mem_map.mp hc
        have := List.mem_range.mp hk
        omega
      refine ⟨_, rfl, a, _, rfl, s1.seq hS, for_it walk_enum (fun _ σ H2 => ∃ (v1 v3 : Option V) (ds : List Int), σ = [some (.ref a), v1, some (.ref D), v3] ∧ Same H H2 ∧ H2 D = some (.lst (ds.map V.int)) ∧ CellsOk ds) ⟨_, _, cs, rfl, s1, h1, ok0⟩ (fun i σ H2 _ ⟨_, _, _, _, s2, _⟩ => s2.seq hS) ?_ ?_⟩
      · rintro i x σ H2 H3 hi ⟨v1, v3, ds, rfl, s2, h2, ok2⟩ ⟨T, y, z, rfl, hT, rfl, ey, ez⟩
        have ey : some (V.int (i : Nat)) = some y := ey
        cases ey
        have ez : (ns.map V.int)[i]? = some z := ez
        rw [List.length_map] at hi
        rw [getI hi] at ez
        cases ez
        have h2' : (upd H2 T (.tup [.int (i : Nat), .int ns[i]])) D = some (.lst (ds.map V.int)) := by rw [upd_ne (ne_of_none h2 hT)]; exact h2
        refine ⟨T, _, rfl, .inl (.inl upd_same), rfl, _, _, rfl, ?_⟩
        refine ⟨_, _, rfl, rfl, ?_⟩
        have j0 : ((i : Nat) : Int) % 64 = ((i % 64 : Nat) : Int) := by omega
        have jl : i % 64 < ds.length := by rw [ok2.1]; omega
        refine ⟨_, rfl, _, rfl, _, _, rfl, rfl, (by show (0 : Int) < 64; decide), _, _, _, _, rfl, rfl, SqL.of h2', at_of j0 (getI jl), _, _, rfl, rfl, .inr ⟨by decide, by decide⟩, _, rfl, _, _, rfl, rfl, _, _, rfl, rfl, (by show (0 : Int) < 2147483647; decide), ?_⟩
        refine ⟨_, rfl, _, rfl, _, _, rfl, rfl, (by show (0 : Int) < 64; decide), _, _, _, i % 64, rfl, rfl, h2', (by rw [j0]; exact ixN_n (by rw [List.length_map]; exact jl)), ?_⟩
        have b0 := Int.emod_nonneg (ds[i % 64] * 48271 + ns[i]) (show (2147483647 : Int) ≠ 0 by decide)
        have b1 := Int.emod_lt_of_pos (ds[i % 64] * 48271 + ns[i]) (show (0 : Int) < 2147483647 by decide)
        exact ⟨_, _, ds.set (i % 64) ((ds[i % 64] * 48271 + ns[i]) % 2147483647), rfl, same_upd (same_upd s2 (s2.free hT)) hD, by rw [upd_same, List.map_set], ok2.set _ b0 (by omega)⟩
      · rintro σ H2 ⟨v1, v3, ds, rfl, s2, h2, ok2⟩
        refine ⟨1, 64, rfl, ⟨by decide, by decide, by decide, by decide⟩, for_range (lo := 1) (n := 63) (fun _ σ H3 => ∃ (v1 v3 : Option V) (ds : List Int), σ = [some (.ref a), v1, some (.ref D), v3] ∧ Same H H3 ∧ H3 D = some (.lst (ds.map V.int)) ∧ CellsOk ds) ⟨_, _, ds, rfl, s2, h2, ok2⟩ ?_ ?_⟩
        · rintro i σ H3 hi ⟨v1, v3, es, rfl, s3, h3, ok3⟩
          have j0 : (1 + ((i : Nat) : Int)) = ((i + 1 : Nat) : Int) := by omega
          have j1 : (1 + ((i : Nat) : Int)) - 1 = ((i : Nat) : Int) := by omega
          have jl : i + 1 < es.length := by rw [ok3.1]; omega
          have jk : i < es.length := by omega
          refine ⟨_, rfl, _, rfl, _, _, _, _, rfl, rfl, SqL.of h3, at_of j0 (getI jl), _, rfl, _, rfl, _, _, rfl, rfl, _, _, _, _, rfl, rfl, SqL.of h3, at_of j1 (getI jk), _, _, rfl, rfl, .inr ⟨by decide, by decide⟩, _, _, rfl, rfl, _, _, rfl, rfl, (by show (0 : Int) < 2147483647; decide), ?_⟩
          refine ⟨_, rfl, _, rfl, _, _, _, i + 1, rfl, rfl, h3, (by rw [j0]; exact ixN_n (by rw [List.length_map]; exact jl)), ?_⟩
          have b0 := Int.emod_nonneg (es[i + 1] + es[i] * 16807) (show (2147483647 : Int) ≠ 0 by decide)
          have b1 := Int.emod_lt_of_pos (es[i + 1] + es[i] * 16807) (show (0 : Int) < 2147483647 by decide)
          exact ⟨_, _, es.set (i + 1) ((es[i + 1] + es[i] * 16807) % 2147483647), rfl, same_upd s3 hD, by rw [upd_same, List.map_set], ok3.set _ b0 (by omega)⟩
        · rintro σ H3 ⟨v1, v3, es, rfl, s3, h3, ok3⟩
          exact ⟨_, rfl, k _ _ _ s3 hD h3 ok3⟩
end
end K1

namespace K1
open PySem L2
section
variable {P : Program} {w : World} {K : PySem.W.Frag} {mg : Str → Option Value} {base : Heap}
def spBegun (K : PySem.W.Frag) : Sp := fun vs H Q _ => ∃ (a : Addr) (ns : List Int), vs = [.ref a] ∧ SqL K H a (ns.map V.int) ∧ ns.length ≤ 63 ∧
  ∀ H' m lc lg, Same H H' → H m = none → H lg = none → MA m lc lg 0 H' → Q (.ref m) H'
theorem scBegun : FnScope ["_law_script", "_law_m", "_law_cell"] ["_law_script"] (defScope sBegun) := ⟨rfl, rfl, rfl, by decide +kernel, rfl, by decide +kernel, by decide +kernel⟩
theorem ok_begun {f fM : Addr} {fd fdM : FuncData} (F : Fun K "_law_begun" "_law_begun" sBegun f fd) (FM : Fun K "_law_folded" "_law_folded" sFolded fM fdM) (bM : Binds K fdM ["_law_script"] []) (gM : mg "_law_folded" = some (.ref fM)) (gR : mg "range" = none) (gE : mg "enumerate" = none) :
    FnOk P w K mg base CX0 2 f fd ["_law_script"] (spBegun K) := by
  have GM : FnOk P w K mg base CX0 1 fM fdM ["_law_script"] (spFolded K) := ok_folded FM gR gE
  refine F.ok scBegun (fun vs H Q E h => ?_) (fun cdv A outer s H vs Q E hr h => ?_)
  · obtain ⟨a, ns, rfl, _⟩ := h
    rfl
  · obtain ⟨a, ns, rfl, hS, hl, k⟩ := h
    have hu := hu_of hr
    refine ⟨_, pss_cons (ps_set (i := 1) scBegun.nd rfl (Or.inl rfl) (pe_disp (pps_cons pe_str (pe_call GM hr rfl gM FM.kp bM .nil pass0 (pa_cons (pv 0) pa_nil)) (pps_cons pe_str (pe_lst pa_nil) (pps_cons pe_str pe_int pps_nil))) rfl rfl (by intro q; cases q) (by decide)))
      (pss_cons (ps_dput hu (pv 1) pe_str (pe_lc (own := [("_law_cell", 2)]) (g := gName 2) (tt := tYes) rfl scBegun.nd (pi_list (pv 0))
          (blkOk_by (N := ["_law_script", "_law_m", "_law_cell"]) (sc := defScope sBegun) (by decide +kernel)) (fun _ _ _ _ _ => pg_name (i := 2) scBegun.nd rfl (Or.inl rfl)) (fun _ _ _ _ _ => pts_nil)
          (fun _ _ _ _ _ => pe_ifExp (pt_cmpR op_ge (pv 2) (pe_op op_pow pe_int pe_int) (nomark _)) (pv 2) pe_int)) rfl)
      (pss_one (ps_ret (pv 1)))), ?_⟩
    intro m hm
    refine ⟨_, rfl, a, ns, rfl, (same_upd (Same.refl H) hm).seq hS, fun H1 lc cs s1 nlc hc okc => ?_⟩
    refine ⟨by decide, fun l0 nl0 => ?_⟩
    have s0 : Same H H1 := (same_upd (Same.refl H) hm).trans s1
    have nm1 : lc ≠ m := fun e => by
      rw [e, upd_same] at nlc
      cases nlc
    have hm1 : H1 m = some (.dK []) := s1 _ _ upd_same
    have e1 : (upd H1 l0 (.lst [])) m = some (.dK []) := by rw [upd_ne (ne_of_none hm1 nl0)]; exact hm1
    have e2 : (upd H1 l0 (.lst [])) lc = some (.lst (cs.map V.int)) := by rw [upd_ne (ne_of_none hc nl0)]; exact hc
    refine ⟨e1, mD lc l0 0, rfl, (by show 3 ≤ 15; decide), ?_⟩
    have em : mergeK [] (mD lc l0 0) = mD lc l0 0 := by
      simp only [mergeK, mD, List.foldl_cons, List.foldl_nil, putK, List.any_nil, List.any_cons, List.nil_append, List.cons_append, Bool.false_eq_true, if_false, decide_eq_false cg_, decide_eq_false ce_, decide_eq_false ge_, Bool.or_false]
    rw [em]
    generalize eH2 : upd (upd H1 l0 (.lst [])) m (.dK (mD lc l0 0)) = H2
    have hm2 : H2 m = some (.dK (mD lc l0 0)) := by rw [← eH2, upd_same]
    have hc2 : H2 lc = some (.lst (cs.map V.int)) := by rw [← eH2, upd_ne nm1]; exact e2
    have s2 : Same H H2 := fun b o e => by
      rw [← eH2, upd_ne (ne_of_none e hm)]
      exact same_upd s0 (s0.free nl0) b o e
    refine ⟨_, rfl, a, rfl, ⟨_, s2.seq hS⟩, fun D hD => lc_list (xs := ns.map V.int) (K := K) (a := a) (fun i H' => ∃ gs : List Int, Same H H' ∧ H' m = some (.dK (mD lc l0 0)) ∧ H' lc = some (.lst (cs.map V.int)) ∧ H' D = some (.lst (gs.map V.int)) ∧ gs.length = i) ⟨[], same_upd s2 (s2.free hD), by rw [upd_ne (ne_of_none hm2 hD)]; exact hm2, by rw [upd_ne (ne_of_none hc2 hD)]; exact hc2, upd_same, rfl⟩ (fun i H' _ ⟨_, s', _⟩ => s'.seq hS) ?_ ?_⟩
    · rintro i x H' hx ⟨gs, s', h1, h2, h3, h4⟩
      have hi : i < ns.length := by
        have q := (List.getElem?_eq_some_iff.mp hx).1
        rw [List.length_map] at q
        exact q
      rw [getI hi] at hx
      cases hx
      have go : ∀ z : Int, ∃ acc, H' D = some (.lst acc) ∧ acc.length < sizeLine ∧ ∃ gs : List Int, Same H (upd H' D (.lst (acc ++ [V.int z]))) ∧ (upd H' D (.lst (acc ++ [V.int z]))) m = some (.dK (mD lc l0 0)) ∧ (upd H' D (.lst (acc ++ [V.int z]))) lc = some (.lst (cs.map V.int)) ∧ (upd H' D (.lst (acc ++ [V.int z]))) D = some (.lst (gs.map V.int)) ∧ gs.length = i + 1 := fun z => by
        refine ⟨_, h3, ?_, gs ++ [z], same_upd s' (s2.free hD), ?_, ?_, ?_, ?_⟩
        · rw [List.length_map, h4]
          exact Nat.lt_of_lt_of_le hi (Nat.le_trans hl (by decide))
        · rw [upd_ne (ne_of_none hm2 hD)]; exact h1
        · rw [upd_ne (ne_of_none hc2 hD)]; exact h2
        · rw [upd_same, List.map_append]; rfl
        · rw [List.length_append, h4]; rfl
      refine ⟨rfl, ?_⟩
      dsimp only [tYes]
      rw [if_pos rfl]
      refine ⟨_, rfl, _, _, rfl, rfl, ⟨by decide, by decide, by decide⟩, _, _, rfl, rfl, _, rfl, ?_⟩
      refine ite2 (fun _ => ⟨_, rfl, go _⟩) (fun _ => go _)
    · rintro H' ⟨gs, s', h1, h2, h3, h4⟩
      refine ⟨_, rfl, m, _, rfl, DPut.k (k := Sum.inr "great") h1 (by show 3 < sizeLine; decide), ?_⟩
      rw [mD_putg]
      have nDm : D ≠ m := (ne_of_none hm2 hD).symm
      have nDc : D ≠ lc := (ne_of_none hc2 hD).symm
      refine ⟨_, rfl, k _ m lc D (fun b o e => ?_) hm (s2.free hD) ⟨upd_same, nDc.symm, ⟨cs, by rw [upd_ne nm1]; exact h2, okc.1, okc.2⟩, ⟨gs, by rw [upd_ne nDm]; exact h3, ?_⟩, by decide⟩⟩
      · rw [upd_ne (ne_of_none e hm)]
        exact s' b o e
      · rw [h4, List.length_map]
        exact hl
end
end K1

namespace K1
open PySem L2
/-! ### names -/
def LET : Str := "ABCDEFGHIJKLMNOPQRSTUVWXYZabcdefghijklmnopqrstuvwxyz"
def SIG : Str := "ABCDEFGHIJKLMNOPQRSTUVWXYZabcdefghijklmnopqrstuvwxyz0123456789_"
def LLET : Str := "abcdefghijklmnopqrstuvwxyzABCDEFGHIJKLMNOPQRSTUVWXYZ"
def DIG : Str := "0123456789_"
def inS (z : Str) (c : Nat) : Bool := decide (c ∈ z.cps.toList)
def nameS (z : Str) : Bool := decide (1 ≤ z.length) && decide (z.length ≤ 20) && (match z.cps.toList with | [] => false | c :: _ => inS LET c) && z.cps.toList.all (inS SIG)
def nameV : V → Bool
  | .str z => nameS z
  | _ => false
def NotStr (K : PySem.W.Frag) (H : Hp) (v : V) : Prop := (∀ z, v ≠ .str z) ∧ (∀ a, v = .ref a → ∃ o, H a = some o) ∧ ∃ t, TyX K H v t ∧ PySem.W.kitOne K t (.type "str") = some false
def Val (K : PySem.W.Frag) (H : Hp) (v : V) : Prop := (∃ z, v = .str z ∧ z.length ≤ 1000 ∧ PyData.strOk z = true) ∨ NotStr K H v
theorem NotStr.nameV {K : PySem.W.Frag} {H : Hp} {v : V} (h : NotStr K H v) : nameV v = false := by
  cases v with
  | str z => exact absurd rfl (h.1 z)
  | _ => rfl
section
variable {P : Program} {w : World} {K : PySem.W.Frag} {mg : Str → Option Value} {base : Heap}
def spName (K : PySem.W.Frag) : Sp := fun vs H Q _ => ∃ v, vs = [v] ∧ Val K H v ∧ ∀ H', Same H H' → Q (.bl (nameV v)) H'
structure TxtN (mg : Str → Option Value) : Prop where
  isi : mg "isinstance" = none
  str : mg "str" = none
  len : mg "len" = none
  all : mg "all" = none
  mx : ∃ t, mg "MAX_NAME" = some (.int 20 t)
  lt : ∃ t, mg "LETTERS" = some (.str LET t)
  sg : ∃ t, mg "NAME_SIGNS" = some (.str SIG t)
  tx : ∃ t, mg "TEXT" = some (.str "text" t)
  rw_ : ∃ t, mg "ROW_SIGN" = some (.str "*" t)
theorem scName : FnScope ["value", "sign"] ["value"] (defScope sName) := ⟨rfl, rfl, rfl, by decide +kernel, rfl, by decide +kernel, by decide +kernel⟩
theorem ok_name {f : Addr} {fd : FuncData} (F : Fun K "is_name" "is_name" sName f fd) (T : TxtN mg) : FnOk P w K mg base CX0 1 f fd ["value"] (spName K) := by
  refine F.ok scName (fun vs H Q E h => ?_) (fun cdv A outer s H vs Q E hr h => ?_)
  · obtain ⟨v, rfl, _⟩ := h
    rfl
  · obtain ⟨v, rfl, hv, k⟩ := h
    have hu := hu_of hr
    obtain ⟨tm, mx⟩ := T.mx
    obtain ⟨tl, lt⟩ := T.lt
    obtain ⟨tg, sg⟩ := T.sg
    refine ⟨_, pss_cons (ps_if (PW.pt (pw_or (pt_not (pt_val (pe_callB call_isi (by rfl) T.isi PyProof.Rows.boot_isinstance (pa_cons (pv 0) (pa_cons (pe_bltn (v := .ty "str") rfl T.str PyProof.Rows.boot_str rfl) pa_nil)))))
          (pw_or1 (pt_not (pt_chain op_le op_le pe_int (pe_callB call_len (by rfl) T.len PySem.boot_len (pa_cons (pv 0) pa_nil)) (pe_glob (v := .int 20) rfl mx ⟨_, rfl⟩))))))
        (pss_one (ps_ret pe_bl)) pss_nil)
      (pss_one (ps_ret (pe_and (pe_cmpR op_in_sign (pe_ix ix_str (pv 0) pe_int (fun _ _ => rfl)) (pe_glob (v := .str LET) rfl lt ⟨_, rfl⟩) (by rfl))
        (pe_one (pe_callB (cr_all rfl) (by rfl) T.all (show bootBuiltins "all" = some (.builtin "all") by decide +kernel) (pa_cons (pe_lc (own := [("sign", 1)]) (g := gName 1) (tt := tYes) rfl scName.nd (pi_str (pv 0)) (blkOk_by (N := ["value", "sign"]) (sc := defScope sName) (by decide +kernel))
          (fun _ _ _ _ _ => pg_name (i := 1) scName.nd rfl (Or.inl rfl)) (fun _ _ _ _ _ => pts_nil) (fun _ _ _ _ _ => pe_cmpR op_in_sign (pv 1) (pe_glob (v := .str SIG) rfl sg ⟨_, rfl⟩) (by rfl))) pa_nil)))))), ?_⟩
    rcases hv with ⟨z, rfl, hz, ho⟩ | hv
    · refine ⟨_, rfl, _, _, _, _, true, rfl, .ty "str", .base (.str z), kit_ty (by decide +kernel), _, rfl, ?_⟩
      refine iteF ?_
      -- 1 <= len(value) <= MAX_NAME
      have hz' : z.length ≤ sizeLine := Nat.le_trans hz (by decide)
      refine ⟨_, rfl, _, z.length, rfl, ⟨hz', rfl⟩, _, _, rfl, rfl, _, rfl, ?_⟩
      have eL : z.length = z.cps.toList.length := by simp [Str.length]
      have no : nameS z = false → Q (.bl false) H := fun e => by
        have q := k H (Same.refl H)
        change Q (V.bl (nameS z)) H at q
        rw [e] at q
        exact q
      refine ite2 (fun h1 => ?_) (fun h1 => ?_)
      · have h1' : 1 ≤ z.length := by have := of_decide_eq_true h1; omega
        refine ⟨_, _, rfl, rfl, _, rfl, ?_⟩
        by_cases h2 : ((z.length : Nat) : Int) ≤ 20
        · rw [decide_eq_true h2]
          refine iteF ?_
          have h2' : z.length ≤ 20 := by omega
          obtain ⟨c, l, ec⟩ : ∃ c l, z.cps.toList = c :: l := by
            cases q : z.cps.toList with
            | nil => rw [eL, q] at h1'; cases h1'
            | cons c l => exact ⟨c, l, rfl⟩
          have en : nameS z = (inS LET c && z.cps.toList.all (inS SIG)) := by
            unfold nameS
            rw [decide_eq_true h1', decide_eq_true h2', ec]
            rfl
          refine ⟨_, rfl, z, 0, c, rfl, rfl, hz', (atI_nat (j := 0) (by rw [ec]; rfl) : atI z.cps.toList ((0 : Nat) : Int) = some c), c, LET, rfl, rfl, _, rfl, ?_⟩
          refine ite2 (fun h3 => ?_) (fun h3 => ?_)
          · refine ⟨_, rfl, z, rfl, fun D hD => lc_it walk_str (fun i H' => Same H H' ∧ H' D = some (.lst (((z.cps.toList.take i).map (inS SIG)).map V.bl))) ⟨same_upd (Same.refl H) hD, by rw [upd_same]; rfl⟩ (fun _ _ _ _ => True.intro) ?_ ?_⟩
            · rintro i x H1 H2 hi ⟨s1, e1⟩ ⟨rfl, y, hy, rfl⟩
              have hy' : z.cps.toList[i]? = some y := by simpa using hy
              refine ⟨rfl, ?_⟩
              dsimp only [tYes]
              rw [if_pos rfl]
              refine ⟨_, rfl, y, SIG, rfl, rfl, _, e1, ?_, same_upd s1 hD, ?_⟩
              · rw [List.length_map, List.length_map]
                exact Nat.lt_of_le_of_lt (List.length_take_le _ _) (by
                  have : i < z.length := by rw [eL]; simpa using hi
                  exact Nat.lt_of_lt_of_le this hz')
              · rw [upd_same, List.take_add_one, hy']
                simp [inS]
            · rintro H1 ⟨s1, e1⟩
              rw [show z.cps.size = z.cps.toList.length by simp, List.take_length] at e1
              refine ⟨D, _, rfl, SqL.of e1, ?_⟩
              have q := k H1 s1
              change Q (V.bl (nameS z)) H1 at q
              rw [en, show inS LET c = true from h3] at q
              have e3 : ∀ l : List Nat, (l.map (inS SIG)).all id = l.all (inS SIG) := fun l => by
                induction l with
                | nil => rfl
                | cons a l ih => simp [ih]
              rw [e3]
              exact q
          · refine no ?_
            rw [en, show inS LET c = false from Bool.not_eq_true _ ▸ h3]
            rfl
        · rw [decide_eq_false h2]
          refine iteT ?_
          refine no ?_
          unfold nameS
          rw [decide_eq_false (show ¬ z.length ≤ 20 by omega)]
          simp
      · refine ⟨_, rfl, ?_⟩
        have e0 : z.length = 0 := by
          have : ¬ (1 : Int) ≤ z.length := fun q => h1 (decide_eq_true q)
          omega
        refine iteT ?_
        refine no ?_
        unfold nameS
        rw [e0]
        rfl
    · obtain ⟨t, ht, hk⟩ := hv.2.2
      refine ⟨_, rfl, _, _, _, _, false, rfl, .ty "str", ht, hk, _, rfl, ?_⟩
      refine iteT (iteT ?_)
      have q := k H (Same.refl H)
      rw [hv.nameV] at q
      exact q
end
end K1

namespace K1
open PySem L2
/-! ### the mathematics of names -/
theorem str_ext {a b : Str} (h : a.cps.toList = b.cps.toList) : a = b := by
  cases a; cases b; simp at h; subst h; rfl
theorem len_toList (z : Str) : z.length = z.cps.toList.length := by simp [Str.length]
theorem mem_same {a b : Str} (h1 : (a.cps.toList.all fun x => decide (x ∈ b.cps.toList)) = true) (h2 : (b.cps.toList.all fun x => decide (x ∈ a.cps.toList)) = true) (c : Nat) : inS a c = inS b c := by
  have e : c ∈ a.cps.toList ↔ c ∈ b.cps.toList := by
    rw [List.all_eq_true] at h1 h2
    exact ⟨fun h => of_decide_eq_true (h1 c h), fun h => of_decide_eq_true (h2 c h)⟩
  unfold inS
  exact decide_eq_decide.mpr e
theorem let_same (c : Nat) : inS LLET c = inS LET c := mem_same (by decide +kernel) (by decide +kernel) c
def LSIG : Str := LLET ++ DIG
theorem sig_same (c : Nat) : inS LSIG c = inS SIG c := mem_same (by decide +kernel) (by decide +kernel) c
def stk (z : Str) : Str := if Txt.endswith z "*" = true then cutS z none (some (-1)) else z
def sortS (z : Str) : Bool := nameS z && !decide (z = "text")
def takenS (z : Str) : Bool := decide (z = "text") || sortS (stk z)
def lTakenS (z : Str) : Bool := !decide (z = "text*") && (if Txt.endswith z "*" = true then nameS (cutS z none (some (-1))) else nameS z)
def sortV : V → Bool
  | .str z => sortS z
  | _ => false
def takenV : V → Bool
  | .str z => takenS z
  | _ => false
theorem cut_list (z : Str) : (cutS z none (some (-1))).cps.toList = z.cps.toList.dropLast := by
  unfold cutS
  have e0 : HT.sIx z.length 0 none = 0 := rfl
  have e1 : HT.sIx z.length z.length (some (-1)) = z.length - 1 := by
    show (if (-1 : Int) < 0 then ((-1 : Int) + (z.length : Int)).toNat else min (-1 : Int).toNat z.length) = z.length - 1
    rw [if_pos (by decide)]
    omega
  rw [e0, e1]
  simp [List.dropLast_eq_take, Str.length]
theorem ends_iff (z : Str) (h : Txt.endswith z "*" = true) : z.cps.toList = (cutS z none (some (-1))).cps.toList ++ [42] := by
  unfold Txt.endswith at h
  simp only [Bool.and_eq_true, decide_eq_true_eq] at h
  obtain ⟨h1, h2⟩ := h
  have l1 : ("*" : Str).length = 1 := by decide +kernel
  rw [l1] at h1 h2
  rw [StrLaws.subAt_eq, l1] at h2
  have h2 := eq_of_beq h2
  have l2 : ("*" : Str).cps.toList = [42] := by decide +kernel
  rw [l2] at h2
  rw [cut_list]
  have hl : z.cps.toList.length = z.length := (len_toList z).symm
  have h3 : z.cps.toList.drop (z.length - 1) = [42] := by
    have : (z.cps.toList.drop (z.length - 1)).length = 1 := by rw [List.length_drop, hl]; omega
    rw [← h2, List.take_of_length_le (by omega)]
  have h4 := List.take_append_drop (z.length - 1) z.cps.toList
  rw [h3] at h4
  rw [List.dropLast_eq_take, hl]
  exact h4.symm
theorem taken_same (z : Str) : takenS z = lTakenS z := by
  unfold takenS lTakenS stk sortS
  cases he : Txt.endswith z "*" with
  | false =>
    rw [if_neg Bool.false_ne_true, if_neg Bool.false_ne_true]
    have n1 : ¬ z = "text*" := fun q => by
      rw [q] at he
      exact absurd he (by decide +kernel)
    rw [decide_eq_false n1]
    by_cases ht : z = "text"
    · rw [decide_eq_true ht, ht]
      decide +kernel
    · rw [decide_eq_false ht]
      simp
  | true =>
    rw [if_pos rfl, if_pos rfl]
    have n1 : ¬ z = "text" := fun q => by
      rw [q] at he
      exact absurd he (by decide +kernel)
    rw [decide_eq_false n1]
    have e : cutS z none (some (-1)) = "text" ↔ z = "text*" := by
      constructor
      · intro q
        have := ends_iff z he
        rw [q] at this
        exact str_ext (this.trans (by decide +kernel))
      · intro q
        rw [q]
        decide +kernel
    have e2 : decide (cutS z none (some (-1)) = "text") = decide (z = "text*") := decide_eq_decide.mpr e
    rw [e2]
    simp [Bool.and_comm]
theorem cut_len (z : Str) : (cutS z none (some (-1))).length ≤ z.length := by
  rw [len_toList, cut_list, len_toList, List.length_dropLast]
  omega
theorem stk_len {z : Str} : (stk z).length ≤ z.length := by
  unfold stk
  split
  · exact cut_len z
  · exact Nat.le_refl _
theorem ok_iff {z : Str} : PyData.strOk z = true ↔ ∀ c ∈ z.cps.toList, c < 0x110000 := by
  unfold PyData.strOk
  rw [← Array.all_toList, List.all_eq_true]
  simp
theorem cut_ok {z : Str} (h : PyData.strOk z = true) : PyData.strOk (cutS z none (some (-1))) = true := by
  rw [ok_iff] at h ⊢
  rw [cut_list]
  exact fun c hc => h c (List.dropLast_subset _ hc)
theorem stk_ok {z : Str} (h : PyData.strOk z = true) : PyData.strOk (stk z) = true := by
  unfold stk
  split
  · exact cut_ok h
  · exact h
theorem NotStr.sortV {K : PySem.W.Frag} {H : Hp} {v : V} (h : NotStr K H v) : sortV v = false := by
  cases v with
  | str z => exact absurd rfl (h.1 z)
  | _ => rfl
theorem NotStr.takenV {K : PySem.W.Frag} {H : Hp} {v : V} (h : NotStr K H v) : takenV v = false := by
  cases v with
  | str z => exact absurd rfl (h.1 z)
  | _ => rfl
section
variable {P : Program} {w : World} {K : PySem.W.Frag} {mg : Str → Option Value} {base : Heap}
def spSort (K : PySem.W.Frag) : Sp := fun vs H Q _ => ∃ v, vs = [v] ∧ Val K H v ∧ ∀ H', Same H H' → Q (.bl (sortV v)) H'
def spSortTaken : Sp := fun vs H Q _ => ∃ z : Str, vs = [.str z] ∧ z.length ≤ 1000 ∧ Q (.str (stk z)) H
def spTaken (K : PySem.W.Frag) : Sp := fun vs H Q _ => ∃ v, vs = [v] ∧ Val K H v ∧ ∀ H', Same H H' → Q (.bl (takenV v)) H'
theorem scSort : FnScope ["value"] ["value"] (defScope sSort) := ⟨rfl, rfl, rfl, by decide +kernel, rfl, by decide +kernel, by decide +kernel⟩
theorem scTaken : FnScope ["value"] ["value"] (defScope sTaken) := ⟨rfl, rfl, rfl, by decide +kernel, rfl, by decide +kernel, by decide +kernel⟩
theorem scSortTaken : FnScope ["takes"] ["takes"] (defScope sSortTaken) := ⟨rfl, rfl, rfl, by decide +kernel, rfl, by decide +kernel, by decide +kernel⟩
theorem ok_sort {f fN : Addr} {fd fdN : FuncData} (F : Fun K "is_sort" "is_sort" sSort f fd) (T : TxtN mg) (FN : Fun K "is_name" "is_name" sName fN fdN) (bN : Binds K fdN ["value"] []) (gN : mg "is_name" = some (.ref fN)) :
    FnOk P w K mg base CX0 2 f fd ["value"] (spSort K) := by
  have GN : FnOk P w K mg base CX0 1 fN fdN ["value"] (spName K) := ok_name FN T
  refine F.ok scSort (fun vs H Q E h => ?_) (fun cdv A outer s H vs Q E hr h => ?_)
  · obtain ⟨v, rfl, _⟩ := h
    rfl
  · obtain ⟨v, rfl, hv, k⟩ := h
    obtain ⟨tt, tx⟩ := T.tx
    refine ⟨_, pss_one (ps_ret (pe_and (pe_call GN hr rfl gN FN.kp bN .nil pass0 (pa_cons (pv 0) pa_nil)) (pe_one (pe_cmpR op_ne (pv 0) (pe_glob (v := .str "text") rfl tx ⟨_, rfl⟩) (nomark _))))), ?_⟩
    refine ⟨_, rfl, v, rfl, hv, fun H1 s1 => ?_⟩
    rcases hv with ⟨z, rfl, hz, ho⟩ | hv
    · refine ⟨_, rfl, ?_⟩
      have q := k H1 s1
      change Q (V.bl (nameS z && !decide (z = "text"))) H1 at q
      refine ite2 (fun hn => ?_) (fun hn => ?_)
      · rw [show nameS z = true from hn] at q
        refine ⟨_, rfl, rfl, ?_⟩
        have e : decide (V.str z = V.str "text") = decide (z = "text") := decide_eq_decide.mpr ⟨fun h => V.str.inj h, fun h => by rw [h]⟩
        rw [e]
        exact q
      · rw [show nameS z = false from Bool.not_eq_true _ ▸ hn] at q
        exact q
    · refine ⟨_, rfl, ?_⟩
      rw [hv.nameV]
      refine iteF ?_
      have q := k H1 s1
      rw [hv.sortV] at q
      exact q
theorem ok_sortTaken {f : Addr} {fd : FuncData} (F : Fun K "sort_taken" "sort_taken" sSortTaken f fd) (T : TxtN mg) : FnOk P w K mg base CX0 1 f fd ["takes"] spSortTaken := by
  refine F.ok scSortTaken (fun vs H Q E h => ?_) (fun cdv A outer s H vs Q E hr h => ?_)
  · obtain ⟨v, rfl, _⟩ := h
    rfl
  · obtain ⟨z, rfl, hz, k⟩ := h
    obtain ⟨tr, rw_⟩ := T.rw_
    refine ⟨_, pss_cons (ps_if (pt_val (pe_bm PySem.F.plainAttrs_str PySem.F.slot_str_endswith PySem.F.type_str_endswith mt_endswith (pv 0) (pa_cons (pe_glob (v := .str "*") rfl rw_ ⟨_, rfl⟩) pa_nil)))
        (pss_one (ps_ret (pe_slice sl_str (pv 0) po_none (po_some (pe_un un_neg pe_int))))) pss_nil) (pss_one (ps_ret (pv 0))), ?_⟩
    refine ⟨_, rfl, rfl, z, "*", rfl, rfl, _, rfl, ?_⟩
    unfold stk at k
    refine ite2 (fun h => ?_) (fun h => ?_)
    · rw [if_pos h] at k
      refine ⟨_, rfl, _, rfl, _, rfl, z, rfl, Nat.le_trans hz (by decide), k⟩
    · rw [if_neg h] at k
      exact ⟨_, rfl, k⟩
end
end K1

namespace K1
open PySem L2
theorem dpStrs {K : PySem.W.Frag} {H : Hp} : ∀ l : List Str, DpAll K H (l.map V.str) (l.map PyData.str)
  | [] => .nil
  | i :: l => .cons (.str i) (dpStrs l)
theorem shStrs (l : List Str) (h : ∀ x ∈ l, PyData.strOk x = true) : SeqAt.shaped (.list (l.map PyData.str)) = true := by
  have h1 : ∀ l : List Str, (∀ x ∈ l, PyData.strOk x = true) → PyData.canLayAll0 (l.map PyData.str) = true := fun l => by
    induction l with
    | nil => intro _; rfl
    | cons i l ih =>
      intro h
      simp [PyData.canLayAll0, PyData.canLay0, ih (fun x hx => h x (List.mem_cons_of_mem _ hx)), h i (List.mem_cons_self ..)]
  have h2 : ∀ l : List Str, PyData.depthAll (l.map PyData.str) = 0 := fun l => by
    induction l with
    | nil => rfl
    | cons i l ih => simp [PyData.depthAll, PyData.depth, ih]
  simp [SeqAt.shaped, PyData.canLay0, PyData.depth, h1 l h, h2]
theorem eqvNilS (l : List Str) : PyData.eqv (.list (l.map PyData.str)) (.list []) = l.isEmpty := by
  cases l <;> rfl
def sgn (c : Nat) : Str := ⟨#[c]⟩
theorem filt_all (l : List Nat) : ((l.filter fun c => !inS SIG c).map sgn).isEmpty = l.all (inS SIG) := by
  induction l with
  | nil => rfl
  | cons a l ih =>
    cases h : inS SIG a <;> simp [h, List.filter_cons] at ih ⊢
    exact ih
section
variable {P : Program} {w : World} {K : PySem.W.Frag} {mg : Str → Option Value} {base : Heap}
theorem ok_taken {f fT fS fN : Addr} {fd fdT fdS fdN : FuncData} (F : Fun K "is_taken" "is_taken" sTaken f fd) (T : TxtN mg)
    (FN : Fun K "is_name" "is_name" sName fN fdN) (bN : Binds K fdN ["value"] []) (gN : mg "is_name" = some (.ref fN))
    (FS : Fun K "is_sort" "is_sort" sSort fS fdS) (bS : Binds K fdS ["value"] []) (gS : mg "is_sort" = some (.ref fS))
    (FT : Fun K "sort_taken" "sort_taken" sSortTaken fT fdT) (bT : Binds K fdT ["takes"] []) (gT : mg "sort_taken" = some (.ref fT)) :
    FnOk P w K mg base CX0 3 f fd ["value"] (spTaken K) := by
  have GS : FnOk P w K mg base CX0 2 fS fdS ["value"] (spSort K) := ok_sort FS T FN bN gN
  have GT : FnOk P w K mg base CX0 1 fT fdT ["takes"] spSortTaken := ok_sortTaken FT T
  refine F.ok scTaken (fun vs H Q E h => ?_) (fun cdv A outer s H vs Q E hr h => ?_)
  · obtain ⟨v, rfl, _⟩ := h
    rfl
  · obtain ⟨v, rfl, hv, k⟩ := h
    obtain ⟨tt, tx⟩ := T.tx
    have hr1 : Room 1 _ := hr.mono (by decide)
    refine ⟨_, pss_cons (ps_if (pt_not (pt_val (pe_callB call_isi (by rfl) T.isi PyProof.Rows.boot_isinstance (pa_cons (pv 0) (pa_cons (pe_bltn (v := .ty "str") rfl T.str PyProof.Rows.boot_str rfl) pa_nil)))))
        (pss_one (ps_ret pe_bl)) pss_nil)
      (pss_one (ps_ret (pe_or (pe_cmpR op_eq (pv 0) (pe_glob (v := .str "text") rfl tx ⟨_, rfl⟩) (nomark _)) (pe_one (pe_call GS hr rfl gS FS.kp bS .nil pass0 (pa_cons (pe_call GT hr1 rfl gT FT.kp bT .nil pass0 (pa_cons (pv 0) pa_nil)) pa_nil)))))), ?_⟩
    rcases hv with ⟨z, rfl, hz, ho⟩ | hv
    · refine ⟨_, rfl, _, _, _, _, true, rfl, .ty "str", .base (.str z), kit_ty (by decide +kernel), _, rfl, ?_⟩
      refine iteF ?_
      refine ⟨_, rfl, rfl, _, rfl, ?_⟩
      have e : decide (V.str z = V.str "text") = decide (z = "text") := decide_eq_decide.mpr ⟨fun h => V.str.inj h, fun h => by rw [h]⟩
      rw [e]
      refine ite2 (fun h => ?_) (fun h => ?_)
      · have q := k H (Same.refl H)
        change Q (V.bl (decide (z = "text") || sortS (stk z))) H at q
        rw [h] at q
        exact q
      · refine ⟨_, rfl, z, rfl, hz, _, rfl, .inl ⟨_, rfl, Nat.le_trans stk_len hz, stk_ok ho⟩, fun H1 s1 => ?_⟩
        have q := k H1 s1
        change Q (V.bl (decide (z = "text") || sortS (stk z))) H1 at q
        rw [show decide (z = "text") = false from Bool.not_eq_true _ ▸ h] at q
        exact q
    · obtain ⟨t, ht, hk⟩ := hv.2.2
      refine ⟨_, rfl, _, _, _, _, false, rfl, .ty "str", ht, hk, _, rfl, ?_⟩
      refine iteT ?_
      have q := k H (Same.refl H)
      rw [hv.takenV] at q
      exact q
theorem scLName : FnScope ["_law_thing", "_law_letters", "_law_sign"] ["_law_thing"] (defScope sLName) := ⟨rfl, rfl, rfl, by decide +kernel, rfl, by decide +kernel, by decide +kernel⟩
theorem ok_lName {f : Addr} {fd : FuncData} (F : Fun K "_law_is_name" "_law_is_name" sLName f fd) (T : TxtN mg) : FnOk P w K mg base CX0 1 f fd ["_law_thing"] (spName K) := by
  refine F.ok scLName (fun vs H Q E h => ?_) (fun cdv A outer s H vs Q E hr h => ?_)
  · obtain ⟨v, rfl, _⟩ := h
    rfl
  · obtain ⟨v, rfl, hv, k⟩ := h
    refine ⟨_, pss_cons (ps_set (i := 1) scLName.nd rfl (Or.inr rfl) pe_str)
      (pss_cons (ps_if (PW.pt (pw_or (pt_not (pt_val (pe_callB call_isi (by rfl) T.isi PyProof.Rows.boot_isinstance (pa_cons (pv 0) (pa_cons (pe_bltn (v := .ty "str") rfl T.str PyProof.Rows.boot_str rfl) pa_nil)))))
          (pw_or (pt_cmpR op_eq (pv 0) pe_str (nomark _)) (pw_or (pt_cmpR op_gt (pe_callB call_len (by rfl) T.len PySem.boot_len (pa_cons (pv 0) pa_nil)) pe_int (nomark _))
            (pw_or1 (pt_cmpR op_notIn_sign (pe_ix ix_str (pv 0) pe_int (fun _ _ => rfl)) (pv 1) (by rfl)))))))
        (pss_one (ps_ret pe_bl)) pss_nil)
      (pss_one (ps_ret (pe_cmpR (op_eqD hr.units) (pe_lc (own := [("_law_sign", 2)]) (g := gName 2) (tt := tTest _) rfl scLName.nd (pi_str (pv 0)) (blkOk_by (N := ["_law_thing", "_law_letters", "_law_sign"]) (sc := defScope sLName) (by decide +kernel))
          (fun _ _ _ _ _ => pg_name (i := 2) scLName.nd rfl (Or.inl rfl)) (fun _ _ _ _ _ => pts_one (pt_cmpR op_notIn_sign (pv 2) (pe_op op_add_str (pv 1) pe_str) (by rfl))) (fun _ _ _ _ _ => pv 2)) (pe_lst pa_nil) (nomark _))))), ?_⟩
    rcases hv with ⟨z, rfl, hz, ho⟩ | hv
    · refine ⟨_, rfl, _, _, _, _, true, rfl, .ty "str", .base (.str z), kit_ty (by decide +kernel), _, rfl, ?_⟩
      refine iteF ?_
      have no : nameS z = false → Q (.bl false) H := fun e => by
        have q := k H (Same.refl H)
        change Q (V.bl (nameS z)) H at q
        rw [e] at q
        exact q
      have hz' : z.length ≤ sizeLine := Nat.le_trans hz (by decide)
      have eL := len_toList z
      -- thing == ""
      refine ⟨_, rfl, rfl, _, rfl, ?_⟩
      refine ite2 (fun h => ?_) (fun h => ?_)
      · have e : z = "" := V.str.inj (of_decide_eq_true h)
        refine iteT (no ?_)
        rw [e]
        decide +kernel
      · have ne : ¬ z = "" := fun e => h (decide_eq_true (by rw [e]))
        obtain ⟨c, l, ec⟩ : ∃ c l, z.cps.toList = c :: l := by
          cases q : z.cps.toList with
          | nil => exact absurd (str_ext (q.trans (by decide +kernel))) ne
          | cons c l => exact ⟨c, l, rfl⟩
        have h1' : 1 ≤ z.length := by rw [eL, ec]; simp
        refine ⟨_, rfl, _, z.length, rfl, ⟨hz', rfl⟩, _, _, rfl, rfl, _, rfl, ?_⟩
        refine ite2 (fun h2 => ?_) (fun h2 => ?_)
        · refine iteT (no ?_)
          have : ¬ z.length ≤ 20 := by have := of_decide_eq_true h2; omega
          unfold nameS
          rw [decide_eq_false this]
          simp
        · have h2' : z.length ≤ 20 := by
            have : ¬ (20 : Int) < z.length := fun q => h2 (decide_eq_true q)
            omega
          have en : nameS z = (inS LET c && z.cps.toList.all (inS SIG)) := by
            unfold nameS
            rw [decide_eq_true h1', decide_eq_true h2', ec]
            rfl
          refine ⟨_, rfl, z, 0, c, rfl, rfl, hz', (atI_nat (j := 0) (by rw [ec]; rfl) : atI z.cps.toList ((0 : Nat) : Int) = some c), _, rfl, c, LLET, rfl, rfl, _, rfl, ?_⟩
          have el : decide (c ∈ LLET.cps.toList) = inS LET c := let_same c
          rw [el]
          cases h3 : inS LET c with
          | false =>
            refine iteT (no ?_)
            rw [en, h3]
            rfl
          | true =>
            refine iteF ?_
            refine ⟨_, rfl, z, rfl, fun D hD => lc_it walk_str (fun i H' => Same H H' ∧ H' D = some (.lst ((((z.cps.toList.take i).filter fun c => !inS SIG c).map sgn).map V.str))) ⟨same_upd (Same.refl H) hD, by rw [upd_same]; rfl⟩ (fun _ _ _ _ => True.intro) ?_ ?_⟩
            · rintro i x H1 H2 hi ⟨s1, e1⟩ ⟨rfl, y, hy, rfl⟩
              have hy' : z.cps.toList[i]? = some y := by simpa using hy
              refine ⟨rfl, ?_⟩
              refine ⟨_, rfl, _, rfl, _, _, rfl, rfl, (by decide +kernel), y, LSIG, rfl, rfl, _, rfl, ?_⟩
              have eg : decide (y ∈ LSIG.cps.toList) = inS SIG y := sig_same y
              rw [eg]
              have et : z.cps.toList.take (i + 1) = z.cps.toList.take i ++ [y] := by rw [List.take_add_one, hy']; rfl
              rw [et, List.filter_append, List.map_append, List.map_append]
              cases h4 : inS SIG y with
              | false =>
                refine iteT ?_
                refine ⟨_, rfl, _, e1, ?_, same_upd s1 hD, ?_⟩
                · rw [List.length_map, List.length_map]
                  refine Nat.lt_of_le_of_lt (List.length_filter_le _ _) (Nat.lt_of_le_of_lt (List.length_take_le _ _) ?_)
                  have : i < z.length := by rw [eL]; simpa using hi
                  exact Nat.lt_of_lt_of_le this hz'
                · rw [upd_same]
                  simp [h4, sgn]
              | true =>
                refine iteF ?_
                refine ⟨s1, ?_⟩
                rw [e1]
                simp [h4]
            · rintro H1 ⟨s1, e1⟩
              rw [show z.cps.size = z.cps.toList.length by simp, List.take_length] at e1
              refine ⟨by decide, fun l hl => ?_⟩
              have e2 : (upd H1 l (.lst [])) D = some (.lst (((z.cps.toList.filter fun c => !inS SIG c).map sgn).map V.str)) := by rw [upd_ne (ne_of_none e1 hl)]; exact e1
              refine ⟨_, _, .lst (SqL.of e2) (dpStrs _), .lst (xs := []) (SqL.of upd_same) .nil, shStrs _ (fun x hx => ?_), (by decide), ?_⟩
              · obtain ⟨c, hc, rfl⟩ := List.mem_map.mp hx
                have hc' := ok_iff.mp ho c (List.mem_filter.mp hc).1
                rw [ok_iff]
                intro d hd
                have e : d = c := by simpa [sgn] using hd
                rw [e]
                exact hc'
              rw [eqvNilS, filt_all]
              have q := k (upd H1 l (.lst [])) (same_upd s1 (s1.free hl))
              change Q (V.bl (nameS z)) _ at q
              rw [en, h3] at q
              exact q
    · obtain ⟨t, ht, hk⟩ := hv.2.2
      refine ⟨_, rfl, _, _, _, _, false, rfl, .ty "str", ht, hk, _, rfl, ?_⟩
      refine iteT (iteT ?_)
      have q := k H (Same.refl H)
      rw [hv.nameV] at q
      exact q
theorem scLTaken : FnScope ["_law_thing"] ["_law_thing"] (defScope sLTaken) := ⟨rfl, rfl, rfl, by decide +kernel, rfl, by decide +kernel, by decide +kernel⟩
theorem ok_lTaken {f fN : Addr} {fd fdN : FuncData} (F : Fun K "_law_is_taken" "_law_is_taken" sLTaken f fd) (T : TxtN mg) (FN : Fun K "_law_is_name" "_law_is_name" sLName fN fdN) (bN : Binds K fdN ["_law_thing"] []) (gN : mg "_law_is_name" = some (.ref fN)) :
    FnOk P w K mg base CX0 2 f fd ["_law_thing"] (spTaken K) := by
  have GN : FnOk P w K mg base CX0 1 fN fdN ["_law_thing"] (spName K) := ok_lName FN T
  refine F.ok scLTaken (fun vs H Q E h => ?_) (fun cdv A outer s H vs Q E hr h => ?_)
  · obtain ⟨v, rfl, _⟩ := h
    rfl
  · obtain ⟨v, rfl, hv, k⟩ := h
    refine ⟨_, pss_cons (ps_if (PW.pt (pw_or (pt_not (pt_val (pe_callB call_isi (by rfl) T.isi PyProof.Rows.boot_isinstance (pa_cons (pv 0) (pa_cons (pe_bltn (v := .ty "str") rfl T.str PyProof.Rows.boot_str rfl) pa_nil)))))
          (pw_or1 (pt_cmpR op_eq (pv 0) pe_str (nomark _)))))
        (pss_one (ps_ret pe_bl)) pss_nil)
      (pss_one (ps_ret (pe_ifExp (pt_val (pe_bm PySem.F.plainAttrs_str PySem.F.slot_str_endswith PySem.F.type_str_endswith mt_endswith (pv 0) (pa_cons pe_str pa_nil)))
        (pe_call GN hr rfl gN FN.kp bN .nil pass0 (pa_cons (pe_slice sl_str (pv 0) po_none (po_some (pe_un un_neg pe_int))) pa_nil))
        (pe_call GN hr rfl gN FN.kp bN .nil pass0 (pa_cons (pv 0) pa_nil))))), ?_⟩
    rcases hv with ⟨z, rfl, hz, ho⟩ | hv
    · refine ⟨_, rfl, _, _, _, _, true, rfl, .ty "str", .base (.str z), kit_ty (by decide +kernel), _, rfl, ?_⟩
      refine iteF ?_
      have q : ∀ H', Same H H' → Q (.bl (lTakenS z)) H' := fun H' s => by
        rw [← taken_same]
        exact k H' s
      refine ⟨_, rfl, rfl, _, rfl, ?_⟩
      have e : decide (V.str z = V.str "text*") = decide (z = "text*") := decide_eq_decide.mpr ⟨fun h => V.str.inj h, fun h => by rw [h]⟩
      rw [e]
      unfold lTakenS at q
      refine ite2 (fun h => ?_) (fun h => ?_)
      · have q := q H (Same.refl H)
        rw [h] at q
        exact q
      · rw [show decide (z = "text*") = false from Bool.not_eq_true _ ▸ h] at q
        refine ⟨_, rfl, rfl, z, "*", rfl, rfl, _, rfl, ?_⟩
        refine ite2 (fun he => ?_) (fun he => ?_)
        · rw [if_pos he] at q
          refine ⟨_, rfl, _, rfl, _, rfl, z, rfl, Nat.le_trans hz (by decide), _, rfl, .inl ⟨_, rfl, Nat.le_trans (cut_len z) hz, cut_ok ho⟩, fun H1 s1 => q H1 s1⟩
        · rw [if_neg he] at q
          exact ⟨_, rfl, _, rfl, .inl ⟨_, rfl, hz, ho⟩, fun H1 s1 => q H1 s1⟩
    · obtain ⟨t, ht, hk⟩ := hv.2.2
      refine ⟨_, rfl, _, _, _, _, false, rfl, .ty "str", ht, hk, _, rfl, ?_⟩
      refine iteT (iteT ?_)
      have q := k H (Same.refl H)
      rw [hv.takenV] at q
      exact q
end
end K1

namespace K1
open PySem L2
section
variable {P : Program} {w : World} {K : PySem.W.Frag} {mg : Str → Option Value} {base : Heap}
/-- what the written part says of an own exception class with one field, whose __init__ says super().__init__('..') -/
structure ErrC (P : Program) (K : PySem.W.Frag) (mg : Str → Option Value) (C fI cda cc : Addr) (fld qual : Str) (st : Stmt) : Prop where
  ox : OexC K C
  fi : PySem.W.findIn K (.ref C) "__init__" = some (some (.ref fI))
  ti : PySem.W.typeIn K (.ref fI) = some (.type "function")
  fn : ∃ (oc : Value) (od : Option Addr) (kV doc pm : Value) (an : Option Addr) (ct : Value) (osl : Array (Option Value)),
    K.lookup fI = some ⟨oc, od, .func (PySem.W.ksFn "__init__" qual (defArgs st) (defBody st) (defScope st) .none kV doc pm an (.ref cda) ct cc), osl⟩
  cd : PySem.W.codeIn K (.ref cda) qual = true
  cod : ∃ (ccl : Value) (cdd : Option Addr) (vs : Array Value) (ccs : Array (Option Value)) (file : Str) (tf : Tok), K.lookup cda = some ⟨ccl, cdd, .fields vs, ccs⟩ ∧ vs[2]? = some (.str file tf) ∧ ((P.main.file : Str) == file) = true
  cel : ∃ (cl : Value) (cld : Option Addr) (csl : Array (Option Value)), K.lookup cc = some ⟨cl, cld, .cell (some (.ref C)), csl⟩
  mr : PySem.W.mroIn K C (.ref C) = some true
  al : ∀ cd, PySem.W.clsIn K C = some cd → PySem.W.alongIn K "__init__" ((cd.mro.dropWhile (· != .ref C)).drop 1) = some (some (.builtin "ValueError.__init__"))
  sup : PySem.W.nsIn K mainGlobals "super" = some none
  opq : PySem.W.nsIn K cStatics "thirdparty.any" = some none
  ve : PySem.W.subIn K (.ref C) (.type "ValueError") = some true
  ei : PySem.W.excInitIn K C [.type "ValueError", .type "Exception", .type "BaseException", .type "object"] "ValueError.__new__" = true
  nf : PySem.W.findIn K (.ref C) fld = some none
  top : (P.main.scope.names.lookup ("super" : Str)).isSome = false
abbrev scErr : Scope := { kind := .function, names := [("self", .local), ("part", .local), ("__class__", .free), ("super", .globalImplicit)], isGenerator := false, isCoroutine := false }
def spErr (C : Addr) (fld : Str) : Sp := fun vs H Q _ => ∃ (a : Addr) (y : V), vs = [.ref a, y] ∧ H a = some (exo a C none) ∧
  ∀ dx, H dx = none → dx ≠ a → Q .non (upd (upd H dx (exd dx [(fld, y)])) a (exo a C (some dx)))
open PySem.W PySem.Calls in
/-- the __init__ of such a class, as the text has it: super().__init__('..'); self.fld = part -/
theorem ok_errInit {C fI cda cc : Addr} (T : ErrC P K mg C fI cda cc "part" "InvalidForm.__init__" sErrInit)
    {kV doc pm ct oc : Value} {od an : Option Addr} {osl : Array (Option Value)}
    (lk : K.lookup fI = some ⟨oc, od, .func (PySem.W.ksFn "__init__" "InvalidForm.__init__" (defArgs sErrInit) (defBody sErrInit) (defScope sErrInit) .none kV doc pm an (.ref cda) ct cc), osl⟩) :
    FnOk P w K mg base (L2.CX P w) 1 fI (PySem.W.ksFn "__init__" "InvalidForm.__init__" (defArgs sErrInit) (defBody sErrInit) (defScope sErrInit) .none kV doc pm an (.ref cda) ct cc) ["self", "part"] (spErr C "part") := by
  refine ⟨fun vs H Q E h => ?_, fun A outer s H args us vs Q E hr e0 hbd r h => ?_⟩
  · obtain ⟨a, y, rfl, _⟩ := h
    rfl
  · obtain ⟨a, y, rfl, ha, k⟩ := h
    obtain ⟨u0, u, rfl, r1, r2⟩ := vals2 r
    obtain rfl : u0 = Value.ref a := r1
    have KX : K.In s.heap := e0.mod.kin.keeps fun b o e => (e0.bs b o e).1
    have lim : s.heap.NoLimit := e0.mod.nolimit.keeps fun b o e => (e0.bs b o e).1
    obtain ⟨t1, hx⟩ := exo_at e0.hok ha
    obtain ⟨nm, q, N, bs, bm, sn, sub, ab, col, dd, k0, k1, k2, k3, k5, hC, hbm⟩ := T.ox.cls
    have hcl : clsIn K C = some { name := nm, bases := bs, mro := .ref C :: bm, ns := N, qualname := q, hasDict := true, slotNames := sn, subclasses := sub, abstract := ab, collection := col, hasDel := false } := by unfold clsIn; rw [hC] <;> rfl
    have hal := T.al _ hcl
    obtain ⟨ccl, cdd, cvs, ccs, file, tf, hcda, hvs, hfile⟩ := T.cod
    obtain ⟨cl, cld, csl, hcel⟩ := T.cel
    refine ks_codeAny_call_defAt (fd := ksFn "__init__" "InvalidForm.__init__" (defArgs sErrInit) (defBody sErrInit) (defScope sErrInit) .none kV doc pm an (.ref cda) ct cc) (body := defBody sErrInit) hr.depth (KX _ _ lk) rfl lim (codeRec_of KX T.cd) rfl hbd (show ∀ x ∈ (defScope sErrInit).names, x.2 ≠ .cell by decide +kernel) ?_ (fun h0 hns hk => ?_)
    · intro z hz
      rcases List.mem_cons.mp hz with e | hz
      · rw [e]; rfl
      · rcases List.mem_cons.mp hz with e | hz
        · rw [e]; rfl
        · cases hz
    · generalize eL : s.heap.objs.size = L at hns
      rw [show (callEnv (ksFn "__init__" "InvalidForm.__init__" (defArgs sErrInit) (defBody sErrInit) (defScope sErrInit) .none kV doc pm an (.ref cda) ct cc) L fI) = ksEnv "InvalidForm.__init__" (defScope sErrInit) L fI (.ref cda) cc from rfl]
      have up : ∀ {b o}, K.lookup b = some o → h0.get? b = some o := fun {b o} e => hk b o (KX b o e)
      have KX0 : K.In h0 := fun b o e => up e
      have hx0 := hk _ _ hx
      obtain ⟨mb, hmb, hbl⟩ := e0.mod.blt
      have hbk : ∀ b o, base.get? b = some o → h0.get? b = some o := fun b o e => hk b o (e0.bs b o e).1
      refine ks_wpAt_execs_cons (ks_wpAt_Expr_any (ks_wpAt_MethodCall (ks_wpAt_super_base (fd := ksFn "__init__" "InvalidForm.__init__" (defArgs sErrInit) (defBody sErrInit) (defScope sErrInit) .none kV doc pm an (.ref cda) ct cc) rfl rfl (by decide +kernel) rfl (up lk) rfl rfl rfl (up hcda) rfl hvs hfile T.top ?_)))
      refine ks_loadName_global rfl rfl (loadGlobal_builtin (env := ksEnv "InvalidForm.__init__" (defScope sErrInit) L fI (.ref cda) cc) (e0.mod.glob.keeps hbk) (mg_none_of e0.mod.kin e0.mod.glob T.sup) (hmb.keeps hbk) ((hbl _ (by decide +kernel)).trans PyProof.Rows.Boot.«super») ⟨rfl, ?_⟩)
      refine wpAny_loadName_free rfl rfl rfl ⟨_, up hcel, rfl⟩ ?_
      refine wpAny_loadName_local rfl rfl hns rfl ?_
      refine ks_wpAny_isType_cls (up hC) rfl ⟨rfl, ?_⟩
      refine ks_wpAny_call_super (up hC) rfl hx0 rfl (fun c e => by cases e) (looks_mroIn KX0 T.mr) (fun h1 so1 up1 => ?_)
      have KX1 : K.In h1 := fun b o e => up1 _ _ (up e)
      have hI1 : InstAt h1 a { cls := Value.ref C, data := Data.fields #[Value.ref t1, Value.none, Value.none, Value.none, Value.bool false, Value.none] } C none := ⟨up1 _ _ hx0, rfl, rfl, trivial⟩
      refine kxs_getMethod kxs_ValueError so1 (looks_opaque KX1 T.opq) (fun A Q E s k q => wpAny_bind ((looks_clsIn KX1 hcl) A _ E s k (wpAny_pure q))) rfl KX1 hal (hI1.type.andThen (looks_subIn KX1 T.ve)) (ks_ne KX1 hI1 hcl) (by decide +kernel) ?_
      generalize hu : h1.objs.size = z
      have lt1 : ∀ {b o}, h1.get? b = some o → b ≠ z := fun {b o} e q => by
        have w1 := Heap.lt_size e
        rw [q, ← hu] at w1
        exact Nat.lt_irrefl _ w1
      have up2 : ∀ b o, h1.get? b = some o → (h1.push (kxs_mw "ValueError.__init__" a)).get? b = some o := fun b o e => Heap.get?_push_of_some _ e
      have hmw : (h1.push (kxs_mw "ValueError.__init__" a)).get? z = some (kxs_mw "ValueError.__init__" a) := by
        rw [← hu]
        exact Heap.get?_push_size _ rfl
      generalize h1.push (kxs_mw "ValueError.__init__" a) = h2 at up2 hmw
      have all2 : ∀ b o, h0.get? b = some o → h2.get? b = some o := fun b o e => up2 b o (up1 b o e)
      refine kxs_callWith (i := "ValueError.__init__") (u := z) (x := a) (by rfl) (evalArgs_plain ?_)
      refine Calls.spliced_cons ?_
      refine Calls.Constant_str (pos := ⟨7, 25, 7, 39⟩) (k := 0) ?_
      refine Calls.spliced_nil ⟨hmw, ?_⟩
      have hbn : ∀ {b o}, h0.get? b = some o → H b ≠ none ∨ b = L → base.get? b = none := fun {b o} _ q => by
        cases e : base.get? b with
        | none => rfl
        | some v =>
          have w1 := e0.bs b v e
          rcases q with q | q
          · exact absurd w1.2 q
          · have w2 := Heap.lt_size w1.1
            rw [q, ← eL] at w2
            exact absurd w2 (Nat.lt_irrefl _)
      have aL : a ≠ L := fun q => by
        have w2 := Heap.lt_size hx
        rw [q, ← eL] at w2
        exact Nat.lt_irrefl _ w2
      have ba : base.get? a = none := hbn hx0 (.inl (by rw [ha]; exact fun q => nomatch q))
      have bz : base.get? z = none := by
        cases e : base.get? z with
        | none => rfl
        | some v => exact absurd rfl (lt1 (up1 _ _ (hbk _ _ e)))
      obtain ⟨oL, eL1, eL2, hoL, rL⟩ := id hns
      have F2 : PyProof.Rows.Fr base L h2 (fun x => List.lookup x ([("self" : Str), "part"].zip [Value.ref a, u]).reverse) := ⟨⟨oL, eL1, eL2, all2 _ _ hoL, rL⟩, fun b o e => all2 b o (hbk b o e), by rw [← eL]; exact e0.bsz⟩
      have za : z ≠ a := fun q => lt1 (up1 _ _ hx0) q.symm
      have zL : z ≠ L := fun q => lt1 (up1 _ _ hoL) q.symm
      refine kxs_call (t := t1) (dv := none) (c2 := .none) (s := ⟨h2, _, _, _, _⟩) F2 e0.mod.kin (news_at aL ba (all2 _ _ hx0)) F.excBase_ValueError T.ei (List.mem_cons_of_mem _ (mem_rest zL bz hmw za)) (.head rest_ne) (by show 1 ≤ sizeLine; decide) (fun t3 h3 F3 N3 _ => ?_)
      have k3 : ∀ b o, b ≠ L → b ≠ a → h2.get? b = some o → h3.get? b = some o := kept_of_news (fun b o e => all2 b o (hbk b o e)) F3 (fun p hp => N3 p (List.mem_cons_of_mem _ (List.mem_cons_of_mem _ hp)))
      have hx3 : h3.get? a = some ({ cls := .ref C, dict := none, data := .fields #[.ref t3, .none, .none, .none, .bool false, .none] } : Obj) := (N3 _ (List.mem_cons_of_mem _ (List.mem_cons_self ..))).1
      have all3 : ∀ b o, b ≠ a → s.heap.get? b = some o → h3.get? b = some o := fun b o hb e => k3 b o (fun q => by
        have w2 := Heap.lt_size e
        rw [q, ← eL] at w2
        exact Nat.lt_irrefl _ w2) hb (all2 b o (hk b o e))
      have KX3 : K.In h3 := e0.mod.kin.keeps F3.keep
      show wpAt _ _ _ (execs _ _) _ _ _
      refine ks_wpAt_execs_cons (ks_wpAt_Assign_Attr (wpAt_of_wpAny ?_))
      refine wpAny_Name (wpAny_loadName_local rfl rfl F3.ns rfl ?_) (by decide)
      refine wpAny_Name (wpAny_loadName_local rfl rfl F3.ns rfl ?_) (by decide)
      refine set_plain KX3 (ox := { cls := .ref C, dict := none, data := .fields #[.ref t3, .none, .none, .none, .bool false, .none] }) (od := none) ⟨hx3, rfl, rfl, trivial⟩ T.ox.sa ?_
      refine HandSPX.exc_osa KX3 hx3 hcl (show HandSPX.refsVE (.ref C :: bm) = true from hbm) rfl T.nf (fun hF tkF dx kF dn dne hxF hnF => ?_)
      have Ldx : s.heap.objs.size ≤ dx := by
        obtain ⟨o3, _, _, e3, _⟩ := F3.ns
        have w2 := Heap.lt_size e3
        rw [eL]
        exact Nat.le_trans (Nat.le_of_lt w2) dn
      have Hdx : H dx = none := e0.hok.fresh Ldx
      have keepF : ∀ b o, b ≠ a → s.heap.get? b = some o → hF.get? b = some o := fun b o nb e => kF b o nb (all3 b o nb e)
      have na : ∀ {b : Addr}, H b = none → b ≠ a := fun {b} n q => by
        rw [q, ha] at n
        cases n
      have nd : ∀ {b : Addr} {o : Obj}, s.heap.get? b = some o → b ≠ dx := fun {b o} e q => by
        have w2 := Heap.lt_size e
        rw [q] at w2
        exact absurd (Nat.lt_of_lt_of_le w2 Ldx) (Nat.lt_irrefl _)
      have same : ∀ b o, H b = some o → o ≠ exo a C none → (upd (upd H dx (exd dx [("part", y)])) a (exo a C (some dx))) b = some o := fun b o e ne => by
        rw [upd_ne (fun q => ne (by rw [q, ha] at e; exact (Option.some.inj e).symm)), upd_ne (ne_of_none e Hdx)]
        exact e
      have un : Un (frs outer) [] H (upd (upd H dx (exd dx [("part", y)])) a (exo a C (some dx))) s.heap hF := {
        keep := fun b o e n _ _ => keepF b o (na n) e
        slot := fun b o e n _ _ => ⟨o.slots, keepF b o (na n) e⟩
        free := fun b o e n _ => by
          rw [upd_ne (na n), upd_ne (nd e)]
          exact n
        there := fun b o e _ => by
          by_cases q : b = a
          · rw [q]
            exact ⟨_, hxF⟩
          · exact ⟨o, keepF b o q e⟩
        tups := fun b xs e => same b _ e (fun q => exo_tup q.symm)
        frzs := fun b o v e => same b _ e (fun q => exo_frz q.symm)
        tbls := fun b ps e => ⟨#[], by rw [same b _ e (fun q => exo_tbl q.symm)]; simp⟩ }
      have okF : HOk P w (upd (upd H dx (exd dx [("part", y)])) a (exo a C (some dx))) hF := fun b o e => by
        by_cases q : b = a
        · subst q
          rw [upd_same] at e
          cases e
          exact exo_ok hxF
        · rw [upd_ne q] at e
          by_cases q2 : b = dx
          · subst q2
            rw [upd_same] at e
            cases e
            exact exd_ok hnF (relO_put (fs := []) r2 fun g => True.intro)
          · rw [upd_ne q2] at e
            exact (e0.hok b o e).stay (fun c v hc z => keepF c v (by
                rcases hc with hc | hc
                · rw [hc]
                  exact q
                · exact at_ne ha hc exo_own) z) (fun c hc => same c _ hc (fun q => exo_own q.symm)) (fun c xs hc => same c _ hc (fun q => exo_tup q.symm))
      show wpAt _ _ _ (execs [] _) _ _ _
      refine wpAt_of_wpAny (wpAny_pure ?_)
      exact ⟨.non, _, rfl, e0.bare, un, okF, rfl, k dx Hdx dne⟩
end
end K1

namespace K1
open PySem L2
/-- at a: a caught exception of the class cls with its dict at d -/
def ExK (cls : Value) (d : Option Addr) (a : Addr) : HO := .ext fun h => ∃ (oe : Obj) (vs : Array Value), h.get? a = some oe ∧ Zc cls d oe ∧ oe.data = .fields vs
/-- what the body's exceptions are wished to do: caught by c, its object tracked behind the suite -/
def wKeep (K : PySem.W.Frag) (c : Value) (i j n : Nat) (D : Ends) : WX := fun cls d σ H =>
  PySem.W.exmOne K cls c = some true ∧ ∀ a, H a = none → σ.length = n → D.nx (((σ.set i (some (.ref a))).set j (some (.ref a))).set i none) (upd H a (ExK cls d a))
section
variable {X : Cx} {pins : List (Addr × Obj)} {σ : L2.St} {H : Hp} {s : Shared}
/-- an object that was not there at the entry, pinned till now, is tracked from now on -/
theorem Inv.takeUp {a : Addr} {oe : Obj} {vs : Array Value} {cls : Value} {d : Option Addr} (I : L2.Inv X pins σ H s) (ha : s.heap.get? a = some oe) (hz : Zc cls d oe) (hd : oe.data = .fields vs) (na : H a = none) (n0 : X.s_0.heap.get? a = none)
    (nL : a ≠ X.env.locals) (nC : ∀ x c, X.env.cells.lookup x = some c → c ≠ a) (nP : ∀ p ∈ X.pn ++ pins, p.1 ≠ a) : L2.Inv X pins σ (upd H a (ExK cls d a)) s := by
  have ne : ∀ b o, X.s_0.heap.get? b = some o → b ≠ a := fun b o e z => by
    rw [z, n0] at e
    cases e
  refine ⟨I.ok, I.os, I.bare, ⟨I.base.keep, I.base.slot, fun b o e n x => ?_, I.base.there, fun b xs e => ?_, fun b o u e => ?_, fun b ps e => ?_⟩, I.loc, I.cell, ?_, fun x c e => ?_, fun p hp => ?_, fun b u e => ?_, I.len⟩
  · rw [upd_ne (ne b o e)]
    exact I.base.free b o e n x
  · have q := I.base.tups b xs e
    rw [upd_ne (ne_of_none q na)]
    exact q
  · have q := I.base.frzs b o u e
    rw [upd_ne (ne_of_none q na)]
    exact q
  · obtain ⟨m, q⟩ := I.base.tbls b ps e
    exact ⟨m, by rw [upd_ne (ne_of_none q na)]; exact q⟩
  · rw [upd_ne nL.symm]
    exact I.free
  · rw [upd_ne (nC x c e)]
    exact I.freeC x c e
  · obtain ⟨q1, q2, q3⟩ := I.pin p hp
    exact ⟨q1, by rw [upd_ne (nP p hp)]; exact q2, q3⟩
  · by_cases q : b = a
    · subst q
      rw [upd_same] at e
      cases e
      exact ⟨⟨oe, vs, ha, hz, hd⟩, ⟨oe, ha⟩, fun h1 h2 ⟨o, v, w1, w2⟩ k => ⟨o, v, k o w1, w2⟩⟩
    · rw [upd_ne q] at e
      exact (I.hok b u e).stay (fun _ _ _ w => w) (fun c w => by rw [upd_ne (ne_of_none w na)]; exact w) fun c xs w => by rw [upd_ne (ne_of_none w na)]; exact w
end
section
variable {X : Cx} {x n : Str} {c : Value} {i j : Nat} {body : List Stmt} {np q1 q2 q3 pos pos' : Pos} {m : Str} {tb : WX → TS}
/-- try: body / except x as n: m = n -/
theorem ps_try_keep (hs : X.stack = X.env :: X.outer) (hf : X.env.frame = some X.env.locals) (hex : X.ex = []) (hN : X.N.Nodup) (hi : X.N[i]? = some n) (hj : X.N[j]? = some m) (hln : X.env.kindOf n = some .local) (hlm : X.env.kindOf m = some .local)
    (hij : i ≠ j) (hmb : X.fn m = true ∨ X.env.scope.names.lookup m = some .local) (hc : Names X x c)
    (hb : ∀ (W : WX) (pn : List (Addr × Obj)) (xe : Value → Shared → Prop), Takes (X.tr pn xe) W → PassesOwn (model X.prog X.w) X.A X.env xe → PSs (X.tr pn xe) body (tb W))
    (hd1 : (n == ("__debug__" : Str)) = false) (hd2 : (n == ("__classdict__" : Str)) = false) (hsw : swapsWith (.Name n q2) (some (.Name m q1)) q3.line X.env = pure false) :
    PS X (.Try body [.ExceptHandler (some (.Name x np)) (some n) [.Assign [.Name m q1] (.Name n q2) q3] pos'] [] [] pos) (fun D σ H => tb (wKeep X.K c i j X.N.length D) D σ H) := by
  refine ⟨fun pins s σ H D I h => ?_⟩
  have okX := I.ok
  have frX : X.A.frames = some (X.env :: X.outer) := by
    rw [okX.frames, hs]
  let clause : ExceptHandler := .ExceptHandler (some (.Name x np)) (some n) [.Assign [.Name m q1] (.Name n q2) q3] pos'
  refine wpAny_Try_except ?_
  refine wpAny_mono ((hb (wKeep X.K c i j X.N.length D) (X.pn ++ pins) (fun e s₁ => wpAny (model X.prog X.w) X.A (noteFrame e X.env) (fun _ s₂ => wpAny (model X.prog X.w) X.A (setFlight e none) (fun _ s₃ => wpAny (model X.prog X.w) X.A (handleBy e X.env [clause]) (SP X pins D) X.xe s₃) X.xe s₂) X.xe s₁)
    (fun u s' air => ?caught) PassesOwn.looking).run [] s σ H D (I.toTry _) h) (fun f s1 hsp => ?thru) (fun e s1 he => he)
  case thru =>
    cases f with
    | next =>
      obtain ⟨σ6, H6, S6, q6⟩ := hsp
      exact wpAny_execs_nil ⟨_, _, S6.ofTry okX, q6⟩
    | brk =>
      obtain ⟨σ6, H6, S6, q6⟩ := hsp
      exact ⟨_, _, S6.ofTry okX, q6⟩
    | cont =>
      obtain ⟨σ6, H6, S6, q6⟩ := hsp
      exact ⟨_, _, S6.ofTry okX, q6⟩
    | ret u =>
      obtain ⟨v6, σ6, H6, S6, r6, q6⟩ := hsp
      exact ⟨_, _, _, S6.ofTry okX, r6, q6⟩
  case caught =>
    obtain ⟨a, B, sI, pins1, σ1, H1, cls, d, rfl, J0, nb, up, sky, na, os, ag, hex1, hnx⟩ := air
    have J : L2.Inv X pins σ1 H1 sI := J0.ofTry okX
    rw [hs] at sky
    show wpAny (model X.prog X.w) X.A (noteFrame (.ref a) X.env) _ _ _
    refine Sky.land Zc.steady frX hf sky fun h3 fl3 up3 => ?_
    have J3 : L2.Inv X pins σ1 H1 { s' with heap := h3 } := J.landed nb fl3.1 (up.trans up3) os ag
    obtain ⟨oe3, vs3, he3, hz3, hd3⟩ := fl3.there
    have nfr : a ∉ frs (X.env :: X.outer) := fun hm => by
      obtain ⟨_, o1, e1, hnf⟩ := fl3.2.2.1.mem hm
      rw [he3] at e1
      cases e1
      exact hnf _ hd3
    have nL : a ≠ X.env.locals := fun z => nfr (List.mem_filterMap.mpr ⟨X.env, List.mem_cons_self, by rw [hf, z]⟩)
    have nF : a ∉ X.fs := fun hm => by
      obtain ⟨e1, he1, w1⟩ := List.mem_filterMap.mp hm
      exact nfr (List.mem_filterMap.mpr ⟨e1, List.mem_cons_of_mem _ he1, w1⟩)
    have nI : sI.heap.get? a = none := by
      cases e1 : sI.heap.get? a with
      | none => rfl
      | some o1 =>
        have w1 := nb a o1 e1 (by rw [hs]; exact nfr)
        rw [fl3.2.1] at w1
        cases w1
    have n0 : X.s_0.heap.get? a = none := by
      cases e1 : X.s_0.heap.get? a with
      | none => rfl
      | some o1 =>
        obtain ⟨o2, w1⟩ := J.base.there a o1 e1 (by rw [hex]; exact fun z => nomatch z)
        rw [nI] at w1
        cases w1
    have S3 := J3.suite he3 hd3 na nL nF
    refine wpAny_handleBy_cons (codeAny_handlers_test ?_) (by intro w1; cases w1)
    have LT : PySem.W.Looks (model X.prog X.w) h3 (typeOf (.ref a)) cls := fun A Q E s k w1 => wpAny_typeOf_ref (k _ _ he3) (by rw [hz3.1]; exact w1)
    have LM := PySem.W.exm_one (M := model X.prog X.w) (J3.kIn) LT hex1
    have test : ∀ {Q : Value → Shared → Prop} {E : Value → Shared → Prop}, Q c { s' with heap := h3 } →
        wpAny (model X.prog X.w) (X.A.mark (some (.ref a))) (eval (.Name x np) X.env) Q E { s' with heap := h3 } := fun {Q E} w1 => by
      obtain ⟨hg, hdbg, hm | ⟨hm, hv, hnn⟩⟩ := hc
      · exact ld_glob (X := X.suite a ((a, oe3) :: (X.pn ++ pins))) S3 hg hm w1 hdbg
      · exact ld_blt (X := X.suite a ((a, oe3) :: (X.pn ++ pins))) S3 hg hm hv w1 hnn hdbg
    refine test (LM.here ?_)
    refine codeAny_handlers_suite_as ?_
    refine HandSPX.lands_againZ fl3 fun h4 fl4 up4 => ?_
    have J4 : L2.Inv X pins σ1 H1 { s' with heap := h4 } := J.landed nb fl4.1 ((up.trans up3).trans up4) os ag
    obtain ⟨oe4, vs4, he4, hz4, hd4⟩ := fl4.there
    have S4 := J4.suite he4 hd4 na nL nF
    refine store_ok (X := X.suite a ((a, oe4) :: (X.pn ++ pins))) (v := .ref a) S4 hN hi (.inl hln) rfl (fun s5 S5 => ?_) (.inr hln)
    have hpa : PE (X.suite a ((a, oe4) :: (X.pn ++ pins))) (.Name n q2) (tVar i) := pe_var hi (.inl hln) hd1 hd2
    have hps : PS (X.suite a ((a, oe4) :: (X.pn ++ pins))) (.Assign [.Name m q1] (.Name n q2) q3) (tAsg (tVar i) (gName j)) := ps_asg hpa (pg_name hN hj (.inl hlm)) hsw
    have iσ : i < (σ1.set i (some (V.ref a))).length := by
      rw [List.length_set, J4.len]
      exact (List.getElem?_eq_some_iff.mp hi).1
    have at_i : (σ1.set i (some (V.ref a)))[i]? = some (some (V.ref a)) := by
      rw [List.length_set] at iσ
      exact List.getElem?_set_self iσ
    refine wpAny_mono ((pss_one hps).run [] s5 _ H1 { nx := fun σ6 H6 => σ6 = (σ1.set i (some (V.ref a))).set j (some (V.ref a)) ∧ H6 = H1, rt := fun _ _ => False } S5 ⟨V.ref a, at_i, rfl, rfl⟩) (fun f s6 hsp => ?_) (fun _ _ z => False.elim z)
    cases f with
    | next =>
      obtain ⟨σ6, H6, S6, e6, e7⟩ := hsp
      subst e6 e7
      have pa := S6.pin (a, oe4) (List.mem_append_left _ List.mem_cons_self)
      have U0 : L2.Inv X pins _ _ s6 := S6.unsuite okX
      have U := Inv.takeUp U0 pa.1 hz4 hd4 na n0 nL (fun x1 c1 w1 w2 => by
        obtain ⟨v1, o1, w3, w4⟩ := U0.cell x1 c1 w1
        rw [w2, pa.1] at w3
        cases w3
        rw [hd4] at w4
        cases w4) (fun p hp w2 => by
        have w3 := (J.pin p hp).1
        rw [w2, nI] at w3
        cases w3)
      exact gone_ok U hN hi hln (fun s7 J7 => ⟨_, _, J7, hnx a na J.len⟩)
    | brk =>
      obtain ⟨_, _, _, z⟩ := hsp
      exact z.elim
    | cont =>
      obtain ⟨_, _, _, z⟩ := hsp
      exact z.elim
    | ret u =>
      obtain ⟨_, _, _, _, _, z⟩ := hsp
      exact z.elim
end
end K1

namespace K1
open PySem L2
/-- what an own exception class says of its instances -/
structure ExcL (K : PySem.W.Frag) (C : Addr) : Prop where
  cl : (PySem.W.clsIn K C).isSome = true
  ga : PySem.W.findIn K (.ref C) "__getattribute__" = some (some (.builtin "BaseException.__getattribute__"))
  gg : PySem.W.findIn K (.ref C) "__getattr__" = some none
  ex : PySem.W.subIn K (.ref C) (.type "BaseException") = some true
  hd : PySem.W.hasDictIn K C = true
  ca : PySem.W.findIn K (.ref C) "__class__" = some (some (.builtin "object.__class__"))
  cg : PySem.W.specialIn K (.builtin "object.__class__") "__get__" = some (some (.builtin "getset_descriptor.__get__"))
  tk : PySem.W.takesIn K (.builtin "object.__class__") = some true
  mo : PySem.W.mroIn K C (.type "object") = some true
section
variable {X : Cx} {pins : List (Addr × Obj)} {σ : L2.St} {H : Hp} {s : Shared}
theorem exk_inst {a C dd : Addr} {fs : List (Str × V)} (I : L2.Inv X pins σ H s) (ha : H a = some (ExK (.ref C) (some dd) a)) (hd : H dd = some (.xd fs)) :
    ∃ oe od, PySem.W.InstAt s.heap a oe C (some od) ∧ (∀ f v, fs.lookup f = some v → ∃ u, PySem.W.lookIn f od = some (some u) ∧ RelV v u) := by
  obtain ⟨⟨oe, vs, e1, e2, e3⟩, _, _⟩ := I.hok a _ ha
  have hx : ObjOk X.prog X.w H s.heap dd (.xd fs) := I.hok dd _ hd
  obtain ⟨mA, hns, hr⟩ := hx
  obtain ⟨od, ho, hl⟩ := lookIn_ns hns
  refine ⟨oe, od, ⟨e1, e2.1, by unfold PySem.W.notCls; rw [e3] <;> rfl, by rw [e2.2]; exact ho⟩, fun f v l => ?_⟩
  obtain ⟨u, hu, ru⟩ := RelO.some_of (v := v) (o := mA f) (by rw [← l]; exact hr f)
  exact ⟨u, by rw [hl, hu], ru⟩
end
def tExk (K : PySem.W.Frag) (n : Str) (te : TE) : TE := fun σ H Q => te σ H fun x H1 => ∃ (a C dd : Addr) (fs : List (Str × V)) (v : V), x = .ref a ∧ H1 a = some (ExK (.ref C) (some dd) a) ∧ H1 dd = some (.xd fs) ∧ ExcL K C ∧ PySem.W.findIn K (.ref C) n = some none ∧ fs.lookup n = some v ∧ Q v H1
theorem pe_exk {X : Cx} {e : Expr} {te : TE} {pos : Pos} {n : Str} (he : PE X e te) (hb : attributeBase e n X.env (eval e X.env) = eval e X.env := by rfl) : PE X (.Attribute e n pos) (tExk X.K n te) := by
  refine ⟨fun pins s σ H Q I h => ?_⟩
  refine attr_of hb (thn (he.run pins s σ H _ I h) fun u s1 hh => ?_)
  obtain ⟨x, H1, I1, rx, a, C, dd, fs, v, ex, ha, hd, L, nf, l, q⟩ := hh
  subst ex
  obtain rfl : u = Value.ref a := rx
  obtain ⟨oe, od, J, look⟩ := exk_inst I1 ha hd
  obtain ⟨u, hu, ru⟩ := look n v l
  exact HandSPX.exc_get I1.kIn J L.ga L.gg L.ex (PySem.W.findObj_own L.hd nf rfl hu) (handed_of ru) ⟨v, H1, I1.tok _, ru, q⟩
def rIsK (K : PySem.W.Frag) : List V → Hp → VK → Prop := fun xs H Q => ∃ (a C C2 dd : Addr) (fs : List (Str × V)) (b : Bool), xs = [.ref a, .ref C2] ∧ H a = some (ExK (.ref C) (some dd) a) ∧ H dd = some (.xd fs) ∧ ExcL K C ∧ PySem.W.kitOne K (.ref C) (.ref C2) = some b ∧ Q (.bl b) H
theorem call_isK {X : Cx} : CallR X (.builtin "isinstance") (rIsK X.K) := by
  intro pins s σ H xs us Q I r h
  obtain ⟨a, C, C2, dd, fs, b, rfl, ha, hd, L, e, q⟩ := h
  obtain ⟨u1, u2, rfl, r1, r2⟩ := vals2 r
  obtain rfl : u1 = Value.ref a := r1
  obtain rfl : u2 = Value.ref C2 := r2
  obtain ⟨oe, od, J, _⟩ := exk_inst I ha hd
  exact PySem.W.kia_one (PySem.W.kitx_exc L.cl L.ga L.gg L.ex L.ca L.cg L.tk L.mo) I.kIn J e (fun z => nomatch z) fun tk => ⟨.bl b, H, I.tok tk, rfl, q⟩
@[simp] theorem x_tExk {K : PySem.W.Frag} {n : Str} {te : TE} {σ : L2.St} {H : Hp} {Q : VK} : tExk K n te σ H Q = te σ H fun x H1 => ∃ (a C dd : Addr) (fs : List (Str × V)) (v : V), x = .ref a ∧ H1 a = some (ExK (.ref C) (some dd) a) ∧ H1 dd = some (.xd fs) ∧ ExcL K C ∧ PySem.W.findIn K (.ref C) n = some none ∧ fs.lookup n = some v ∧ Q v H1 := rfl
/-! ### what _law_fault makes of a call -/
def TFault (CI : Addr) : (XK → Hp → VK → Prop) → Hp → VK → Prop := fun tl H Q => ∀ (E' : XK) (Q' : VK),
  (∀ (dd : Addr) (v : V) (H' : Hp), H' dd = some (.xd [("part", v)]) → (∀ H'' p, Same H' H'' → H' p = none → H'' p = some (.tup [.str "wrong", v]) → Q (.ref p) H'') → E' (.ref CI) (some dd) H') →
  (∀ v H', (∀ H'' p, Same H' H'' → H' p = none → H'' p = some (.tup []) → Q (.ref p) H'') → Q' v H') → tl E' H Q'
theorem scFault : FnScope ["_law_call", "_law_error", "e"] ["_law_call"] (defScope sFault) := ⟨rfl, rfl, rfl, by decide +kernel, rfl, by decide +kernel, by decide +kernel⟩
theorem fault_gives {X : Cx} {g CS CI : Addr} {cdg : Value} {q : Str} (hS : X.mg "RuleengineError" = some (.ref CS)) (hI : X.mg "InvalidForm" = some (.ref CI)) (hi : X.mg "isinstance" = none) (L : ExcL X.K CI) (nf : PySem.W.findIn X.K (.ref CI) "part" = some none)
    (hx : PySem.W.exmOne X.K (.ref CI) (.ref CS) = some true) (hk : PySem.W.kitOne X.K (.ref CI) (.ref CI) = some true) :
    LamX.GivesTo X ["_law_call", "_law_error", "e"] "_law_fault" (defScope sFault) g cdg (defBody sFault) "_law_call" q (TFault CI) := by
  intro f c' s H Q tl act hc h
  refine ⟨_, pss_cons (ps_set (i := 1) scFault.nd rfl (Or.inl rfl) pe_non)
    (pss_cons (ps_try_keep (i := 2) (j := 1) (c := .ref CS) (tb := fun W D σ H => ∃ Ech : XK, (∀ cls d σ' H', Ech cls d H' → W cls d σ' H') ∧ σ[0]? = some (some (.ref f)) ∧ H c' = some (LamX.CodeO c' q) ∧ tl Ech H (fun _ H' => D.nx σ H'))
        rfl rfl rfl scFault.nd rfl rfl rfl rfl (by decide) (Or.inr rfl) ⟨rfl, by decide, .inl hS⟩ (fun W pn xe tk _ => ?_) (by decide) (by decide) rfl)
    (pss_cons (ps_if (pt_cmpR op_isN (pv 1) pe_non (nomark _)) (pss_one (ps_ret (pe_tup pa_nil))) pss_nil)
    (pss_one (ps_ret (pe_ifExp (pt_val (pe_callB call_isK (by rfl) hi PyProof.Rows.boot_isinstance (pa_cons (pv 1) (pa_cons (pe_glob (v := .ref CI) rfl hI rfl) pa_nil)))) (pe_tup (pa_cons pe_str (pa_cons (pe_exk (pv 1)) pa_nil))) (pe_tup (pa_cons pe_str (pa_cons pe_non pa_nil)))))))), ?_⟩
  · refine ⟨fun pins s' σ H' D I h' => ?_⟩
    obtain ⟨Ech, hW, h1, h2, h3⟩ := h'
    exact (pss_one (ps_expr (act W pn xe Ech _ _ tk hW))).run pins s' σ H' D I ⟨h1, h2, h3⟩
  · have hKI : X.mg "InvalidForm" = some (.ref CI) := hI
    refine ⟨fun cls d H' => cls = .ref CI ∧ ∃ (dd : Addr) (v : V), d = some dd ∧ H' dd = some (.xd [("part", v)]) ∧ ∀ H'' p, Same H' H'' → H' p = none → H'' p = some (.tup [.str "wrong", v]) → Q (.ref p) H'', ?_, rfl, hc, ?_⟩
    · rintro cls d σ' H' ⟨rfl, dd, v, rfl, hd, k⟩
      refine ⟨hx, fun a na hlen => ?_⟩
      have hlen : σ'.length = 3 := hlen
      obtain ⟨s0, s1, s2, rfl⟩ : ∃ s0 s1 s2, σ' = [s0, s1, s2] := by
        match σ', hlen with
        | [s0, s1, s2], _ => exact ⟨s0, s1, s2, rfl⟩
      have nda : dd ≠ a := ne_of_none hd na
      have hd' : (upd H' a (ExK (.ref CI) (some dd) a)) dd = some (.xd [("part", v)]) := by rw [upd_ne nda]; exact hd
      refine ⟨_, rfl, rfl, _, rfl, ?_⟩
      refine iteF ?_
      refine ⟨_, rfl, a, CI, CI, dd, _, true, rfl, upd_same, hd', L, hk, _, rfl, ?_⟩
      refine iteT ?_
      refine ⟨_, rfl, a, CI, dd, _, v, rfl, upd_same, hd', L, nf, by simp [List.lookup], (by show 2 ≤ sizeLine; decide), fun p hp => ?_⟩
      have npa : p ≠ a := fun e => by
        rw [e, upd_same] at hp
        cases hp
      refine k _ p (same_upd (same_upd (Same.refl H') na) ?_) ?_ upd_same
      · rw [upd_ne npa] at hp
        exact hp
      · rw [upd_ne npa] at hp
        exact hp
    · refine h _ _ (fun dd v H' hd k => ⟨rfl, dd, v, rfl, hd, k⟩) (fun v H' k => ?_)
      refine ⟨_, rfl, rfl, _, rfl, ?_⟩
      refine iteT ?_
      exact ⟨by decide, fun p hp => k _ p (same_upd (Same.refl H') hp) hp upd_same⟩
end K1

namespace K1
open PySem L2
section
variable {X : Cx} {C fI cda cc : Addr}
/-- the facts that a raise of InvalidForm asks -/
structure ErrF (P : Program) (K : PySem.W.Frag) (mg : Str → Option Value) (C : Addr) : Prop where
  ex : ∃ fI cda cc, ErrC P K mg C fI cda cc "part" "InvalidForm.__init__" sErrInit
  mgC : mg "InvalidForm" = some (.ref C)
theorem pmk_form {e : Expr} {te : TE} {p pos : Pos} (T : ErrF X.prog X.K X.mg C) (hr : Room 2 X.A) (hg : Gl X "InvalidForm") (he : PE X e te)
    (hs : starEach [e] X.env = (false, eval e X.env) :: starEach [] X.env := by rfl) :
    PMk X (.Call (.Name "InvalidForm" p) [e] [] pos) (tMkO C (spErr C "part") [] (tCons te tNil)) := by
  obtain ⟨fI, cda, cc, TC⟩ := T.ex
  obtain ⟨oc, od, kV, doc, pm, an, ct, osl, lk⟩ := TC.fn
  exact pmk_oex TC.ox TC.fi TC.ti (ok_errInit TC lk) hr (.all fun us hl => match us, hl with | [_, _], _ => rfl) .nil passL hg T.mgC (pa_cons he pa_nil (by exact hs)) (by decide) hs (by rfl)
theorem raise_ans {H1 : Hp} {v : V} {Q : XK} (k : ∀ d, H1 d = none → Q (.ref C) (some d) (upd H1 d (.xd [("part", v)]))) :
    ([v] : List V).length ≤ 1000 ∧ ∀ a, H1 a = none → spErr C "part" (.ref a :: ([v] ++ [])) (upd H1 a (exo a C none))
      (fun u H2 => u = .non ∧ ∃ (d : Addr) (fs : List (Str × V)), H2 a = some (exo a C (some d)) ∧ H2 d = some (exd d fs) ∧ H1 d = none ∧ Q (.ref C) (some d) (upd (del H2 a) d (.xd fs))) (fun _ _ _ => False) := by
  refine ⟨by show 1 ≤ 1000; decide, fun a na => ⟨a, v, rfl, upd_same, fun dx ndx ne => ?_⟩⟩
  rw [upd_ne ne] at ndx
  refine ⟨rfl, dx, [("part", v)], upd_same, by rw [upd_ne ne, upd_same], ndx, ?_⟩
  have e : upd (del (upd (upd (upd H1 a (exo a C none)) dx (exd dx [("part", v)])) a (exo a C (some dx))) a) dx (.xd [("part", v)]) = upd H1 dx (.xd [("part", v)]) := by
    funext b
    by_cases q : b = dx
    · rw [q, upd_same, upd_same]
    · rw [upd_ne q, upd_ne q]
      by_cases q2 : b = a
      · rw [q2, del_same, na]
      · rw [del_ne q2, upd_ne q2, upd_ne q, upd_ne q2]
  rw [e]
  exact k dx ndx
end
/-! ### values stand while their own object stands -/
theorem TyOf.keep {K : PySem.W.Frag} {H H' : Hp} {v : V} {t : Value} (h : TyOf K H v t) (k : ∀ a o, v = .ref a → H a = some o → H' a = some o) : TyOf K H' v t := by
  cases h with
  | non => exact .non
  | bl x => exact .bl x
  | int i => exact .int i
  | str x => exact .str x
  | flt x => exact .flt x
  | lst e => exact .lst (k _ _ rfl e)
  | frz e => exact .frz (k _ _ rfl e)
  | tup e => exact .tup (k _ _ rfl e)
  | dK e => exact .dK (k _ _ rfl e)
  | dT e => exact .dT (k _ _ rfl e)
  | ins e cl ha hn htk hm => exact .ins (k _ _ rfl e) cl ha hn htk hm
theorem TyX.keep {K : PySem.W.Frag} {H H' : Hp} {v : V} {t : Value} (h : TyX K H v t) (k : ∀ a o, v = .ref a → H a = some o → H' a = some o) : TyX K H' v t := by
  cases h with
  | base h => exact .base (TyOf.keep h k)
  | byt b => exact .byt b
  | set e => exact .set (k _ _ rfl e)
  | kList e c => exact .kList e c
  | kTuple e c => exact .kTuple e c
  | kDict e c => exact .kDict e c
  | fTuple e => exact .fTuple (k _ _ rfl e)
  | fDict e => exact .fDict (k _ _ rfl e)
theorem Val.keep {K : PySem.W.Frag} {H H' : Hp} {v : V} (h : Val K H v) (k : ∀ a o, v = .ref a → H a = some o → H' a = some o) : Val K H' v := by
  rcases h with h | ⟨h1, h0, t, h2, h3⟩
  · exact .inl h
  · exact .inr ⟨h1, fun a e => let ⟨o, q⟩ := h0 a e; ⟨o, k a o e q⟩, t, TyX.keep h2 k, h3⟩
theorem Val.ne {K : PySem.W.Frag} {H : Hp} {v : V} {x : Addr} (h : Val K H v) (n : H x = none) : v ≠ .ref x := fun e => by
  rcases h with ⟨z, e2, _⟩ | h
  · rw [e] at e2
    cases e2
  · obtain ⟨o, q⟩ := h.2.1 x e
    rw [n] at q
    cases q
theorem Val.same {K : PySem.W.Frag} {H H' : Hp} {v : V} (h : Val K H v) (s : Same H H') : Val K H' v := Val.keep h fun a o _ e => s a o e
end K1

namespace K1
open PySem L2
section
open PySem.Calls PySem.W PyProof.Rows
variable {prog : Program} {w : World} {A : Around} {E : Value → Shared → Prop} {s : Shared} {r d : Addr} {kvs : List (Key × Value)} {ep : Nat}
theorem tup_items_new {Q1 : Value → Shared → Prop} (hh : A.handled = none) (hv : s.heap.IsItemsView r d) (hm : s.heap.DictAt (mixKind prog w) d kvs ep) (hn : kvs.length ≤ sizeLine)
    (h : ∀ (h' : Heap) (tk : Nat) (as : List Addr), (∀ b o, s.heap.get? b = some o → h'.get? b = some o) → as.length = kvs.length → KdxG (mixKind prog w) kvs s.heap.objs.size h' as →
      Q1 (.ref h'.objs.size) { s with heap := h'.push { cls := .type "tuple", data := .seq (as.map Value.ref).toArray }, toks := tk }) :
    codeAny (model prog w) A (.call (.builtin "tuple.__new__") ⟨[.type "tuple", .ref r], []⟩) (wants Q1 E) s := by
  refine codeAny_of_tree ?_
  show wpAny _ A.in1
    (do checkBuiltinCall "tuple.__new__" ⟨[.type "tuple", .ref r], []⟩
        again (.builtin "tuple.__new__" ⟨[.type "tuple", .ref r], []⟩)) _ _ s
  refine wpAny_bind (wpAny_of_eq (F.newCall_tuple_1 _) ?_)
  refine wpAny_pure ⟨plainId_quiet F.plain_tuple_new _, ?_⟩
  refine codeAny_builtin F.entry_tuple_new ?_
  rw [Around.under_plainId F.plain_tuple_new _]
  have w1 := sub_tuple_self
  have w2 := init_tuple_lookup
  have w3 := madeHere_tuple
  have w4 : s.TypeIs (.ref r) "dict_items" := hv.typeIs
  have w5 : A.in1.handled = none := hh
  wp_walk using wpAny_typeOf w4, kdx_collect (A := A.in1) w5 hv hm hn
  intro h' tk as hk hl hG
  show wpAny _ _ (Builtin.Tuple.tupleExact (as.map Value.ref).toArray >>= fun v => ret v) _ _ _
  unfold Builtin.Tuple.tupleExact
  refine wpAny_bind (wpAny_newObj_type ?_ (by show (List.map Value.ref as).toArray.size ≤ sizeLine; rw [List.size_toArray, List.length_map, hl]; exact hn))
  exact wpAny_pure (h h' tk as hk hl hG)
theorem call_tup_items {Q : Value → Shared → Prop} (hh : A.handled = none) (hv : s.heap.IsItemsView r d) (hm : s.heap.DictAt (mixKind prog w) d kvs ep) (hn : kvs.length ≤ sizeLine)
    (h : ∀ (h' : Heap) (tk : Nat) (as : List Addr), (∀ b o, s.heap.get? b = some o → h'.get? b = some o) → as.length = kvs.length → KdxG (mixKind prog w) kvs s.heap.objs.size h' as →
      Q (.ref h'.objs.size) { s with heap := h'.push { cls := .type "tuple", data := .seq (as.map Value.ref).toArray }, toks := tk }) :
    wpAny (model prog w) A (call (.type "tuple") [.ref r]) Q E s := by
  refine callType_codes (Q₁ := fun o s1 => s1.TypeIs o "tuple" ∧ Q o s1) F.called_tuple (F.typeCall_tuple_1 _) F.entry_object_init
    (tup_items_new (A := A.in1) hh hv hm hn fun h' tk as hk hl hG => ⟨⟨_, Heap.get?_push_size _ rfl, rfl⟩, h h' tk as hk hl hG⟩) fun o s1 h1 => ?_
  refine ⟨h1.1, F.args_object_init_2 o _, ?_⟩
  exact object_init_meets F.called_tuple.init.lookup F.called_tuple.made (by decide) prog w A.in1 _ s1 ⟨h1.1, rfl, h1.2⟩
end
/-- the pairs that were made are tracked -/
theorem tups_laid {X : Cx} {pins : List (Addr × Obj)} {σ : L2.St} {H : Hp} {s : Shared} {h' : Heap} {tk : Nat} {kvs : List (Key × V)} {vs : List (Key × Value)} {as : List Addr} (I : L2.Inv X pins σ H s) (kv : KV kvs vs)
    (hk : ∀ b o, s.heap.get? b = some o → h'.get? b = some o) (hl : as.length = vs.length) (hG : PySem.W.KdxG (mixKind X.prog X.w) vs s.heap.objs.size h' as) :
    Same H (LiI.putT H as kvs) ∧ Paired (fun (t : Addr) (q : Key × V) => LiI.putT H as kvs t = some (.tup [kV q.1, q.2])) as kvs ∧ L2.Inv X pins σ (LiI.putT H as kvs) { s with heap := h', toks := tk } := by
  have lk : kvs.length = vs.length := Paired.length kv
  have nd : as.Nodup := List.Pairwise.imp (fun {a b} (q : a < b) => Nat.ne_of_lt q) hG.rise
  have new : ∀ t ∈ as, H t = none := fun t ht => I.hok.fresh (Nat.le_of_lt (hG.above t ht))
  have atP := LiI.putT_at as kvs H (hl.trans lk.symm) nd
  have low : ∀ b o, s.heap.get? b = some o → b ∉ as := fun b o e z => absurd (Heap.lt_size e) (Nat.not_lt.mpr (Nat.le_of_lt (hG.above b z)))
  have kp : Same H (LiI.putT H as kvs) := fun b u e => by
    rw [LiI.putT_off as kvs _ (fun z => by rw [new b z] at e; cases e)]
    exact e
  refine ⟨kp, atP, ?_⟩
  refine I.call' (ch := []) rfl ⟨fun b o q _ _ _ => hk b o q, fun b o q _ _ _ => ⟨o.slots, hk b o q⟩, fun b o q n _ => ?_, fun b o q _ => ⟨o, hk b o q⟩, fun b xs q => kp b _ q, fun b o u q => kp b _ q, fun b ps q => ⟨#[], by rw [kp b _ q]; simp⟩⟩
    (fun b u q => ?_) I.bare (fun b z => by simp at z)
  · rw [LiI.putT_off as kvs _ (low b o q)]
    exact n
  · by_cases hb : b ∈ as
    · obtain ⟨j, pk, e1, e2, e3⟩ := LiI.paired_ix atP hb
      rw [e3] at q
      cases q
      obtain ⟨key, k, x, f1, f2, f3⟩ := hG.pairs j b e1
      obtain ⟨qv, g1, g2, g3⟩ := LiI.paired_get kv e2
      rw [f1] at g1
      cases g1
      refine ⟨by show 2 ≤ sizeLine; decide, [key, x], .cons ?_ (.cons g3 .nil), ⟨_, f3, rfl, _, rfl⟩⟩
      rw [g2]
      exact relV_key (show keyIs k key = true from f2)
    · rw [LiI.putT_off as kvs _ hb] at q
      exact (I.hok b u q).stay (fun d v _ y => hk d v y) (fun d y => kp d _ y) fun d xs y => kp d _ y
def tTupItems (te : TE) : TE := fun σ H Q => te σ H fun x H1 => ∃ (d : Addr) (kvs : List (Key × V)), x = .ref d ∧ H1 d = some (.dK kvs) ∧
  ∀ (H' : Hp) (p : Addr) (ts : List Addr), Same H1 H' → H1 p = none → H' p = some (.tup (ts.map V.ref)) → Paired (fun (t : Addr) (q : Key × V) => H' t = some (.tup [kV q.1, q.2])) ts kvs → Q (.ref p) H'
open PySem.Calls PySem.W PyProof.Rows in
theorem pe_tupItems {X : Cx} {e : Expr} {te : TE} {p apos cpos pos : Pos} (hc : X.calm = true) (he : PE X e te) (hg : Gl X "tuple") (hm : X.mg "tuple" = none) (hbase : attributeBase e "items" X.env (eval e X.env) = eval e X.env := by rfl) (hline : (apos.endLine == cpos.line) = true := by rfl)
    (hs : starEach [.Call (.Attribute e "items" apos) [] [] cpos] X.env = (false, eval (.Call (.Attribute e "items" apos) [] [] cpos) X.env) :: starEach [] X.env := by rfl) :
    PE X (.Call (.Name "tuple" p) [.Call (.Attribute e "items" apos) [] [] cpos] [] pos) (tTupItems te) := by
  refine ⟨fun pins s σ H Q I hq => ?_⟩
  refine wpAny_Call_Name_kw (ld_blt I hg hm boot_tuple ?_)
  refine PyProof.Rows.callWith_type1 ?_ hs rfl
  rw [hs]
  show wpAny _ _ (spliced ((false, eval (.Call (.Attribute e "items" apos) [] [] cpos) X.env) :: backTo pos (starEach [] X.env))) _ _ s
  refine Calls.spliced_cons ?_
  refine wpAny_Call_method (T := "dict") (id := "dict.items") hbase rfl hline F.plainAttrs_dict F.slot_dict_items F.type_dict_items
    (thn (he.run pins s σ H _ I hq) fun u s1 ⟨x, H1, I1, rx, d, kvs, ex, hd, q⟩ => ?_)
  subst ex
  obtain rfl : u = Value.ref d := rx
  obtain ⟨hz, hs0, vs, kv, hdo⟩ := I1.hok d _ hd
  obtain ⟨ep, hat⟩ := hdo.dictAt
  have lk : kvs.length = vs.length := Paired.length kv
  have I2 : L2.Inv X pins σ H1 { s1 with heap := s1.heap.push { cls := .type "dict_items", data := .fields #[.ref d] } } :=
    I1.kept (t' := s1.toks) fun b ob q => Heap.get?_push_of_some _ q
  refine ⟨hdo.typeIs, hdo.mapOf.noDict, ?_⟩
  show wpAny _ _ (callWith cpos (.builtin "dict.items") [.ref d] [] []) _ X.xe s1
  refine method_meetsIn F.slot_dict_items F.entry_dict_items rfl
    (PySem.evalArgs_none ⟨rfl, hdo.typeIs, F.args_dict_items_1 _, _, meets_dict_items (mixKind X.prog X.w) d hs0, ⟨vs, hdo⟩, ?_⟩)
  refine Calls.spliced_nil ?_
  refine call_tup_items (kvs := vs) (ep := ep) (I1.ok.hd hc) ⟨_, Heap.get?_push_size _ rfl, rfl, rfl⟩ (hat.push _) (by omega) fun h' tk as hk hl hG => ?_
  obtain ⟨k1, k2, J⟩ := tups_laid (tk := tk) I2 kv hk hl hG
  have hlen : as.length ≤ sizeLine := by
    rw [hl, ← lk]
    exact hz
  have J2 : L2.Inv X pins σ (upd (LiI.putT H1 as kvs) h'.objs.size (.tup (as.map V.ref))) { s1 with heap := h'.push { cls := .type "tuple", data := .seq (as.map Value.ref).toArray }, toks := tk } :=
    J.laid (t' := tk) (fun b o e => Heap.get?_push_of_some _ e) (Nat.le_refl _) ⟨by rw [List.length_map]; exact hlen, as.map Value.ref, LiI.vals_refs as, IsTup.new _ _⟩
  have nn : LiI.putT H1 as kvs h'.objs.size = none := J.hok.fresh (Nat.le_refl _)
  refine ⟨.ref h'.objs.size, _, J2, rfl, q _ _ as (fun b o e => ?_) (k1.free nn) upd_same ?_⟩
  · rw [upd_ne (ne_of_none (k1 b o e) nn)]
    exact k1 b o e
  · exact Paired.mapP k2 fun t qv e => by
      rw [upd_ne (ne_of_none e nn)]
      exact e
end K1

namespace K1
open PySem L2
/-- what a dict of slots must be like -/
structure SlotsOk (K : PySem.W.Frag) (H : Hp) (d : Addr) (kvs : List (Key × V)) : Prop where
  key : ∀ p ∈ kvs, ∃ z, p.1 = .inr z ∧ z.length ≤ 1000 ∧ PyData.strOk z = true
  val : ∀ p ∈ kvs, Val K H p.2 ∧ p.2 ≠ .ref d
  len : kvs.length ≤ 1000
def goodP (p : Key × V) : Bool := (match p.1 with | .inr z => nameS z | _ => false) && takenV p.2
def badK (kvs : List (Key × V)) : Option V := (kvs.find? fun p => !goodP p).map fun p => kV p.1
theorem SlotsOk.keep {K : PySem.W.Frag} {H H' : Hp} {d : Addr} {kvs : List (Key × V)} (s : SlotsOk K H d kvs) (k : ∀ b o, b ≠ d → H b = some o → H' b = some o) : SlotsOk K H' d kvs :=
  ⟨s.key, fun p hp => ⟨Val.keep (s.val p hp).1 fun a o e q => k a o (fun z => (s.val p hp).2 (by rw [e, z])) q, (s.val p hp).2⟩, s.len⟩
/-- an exception that leaves a locked walk finds the thing unlocked -/
theorem takes_unlock {X : Cx} {W : WX} {d : Addr} {u : HO} (tk : Takes X W) (hn : ∀ o' u', X.H_0 d ≠ some (.frz o' u')) : Takes X (fun cls dd σ H' => ∃ od, H' d = some (.frz od u) ∧ W cls dd σ (upd H' d u)) := fun v s' x => by
  obtain ⟨a, B, sI, pins, σ, H, cls, dd, e, I, nb, up, sky, na, os, ag, od, hd, w⟩ := x
  refine tk v s' ⟨a, B, sI, pins, σ, upd H d u, cls, dd, e, I.unlock hd hn, nb, up, sky, ?_, os, ag, w⟩
  rw [upd_ne (ne_of_none hd na).symm]
  exact na
structure TxtF (P : Program) (K : PySem.W.Frag) (mg : Str → Option Value) (CI CF fN fT : Addr) (fdN fdT : FuncData) : Prop where
  N : TxtN mg
  er : ErrF P K mg CI
  gN : mg "is_name" = some (.ref fN)
  kN : PySem.W.keepIn K (.ref fN) = true
  bN : Binds K fdN ["value"] []
  gT : mg "is_taken" = some (.ref fT)
  kT : PySem.W.keepIn K (.ref fT) = true
  bT : Binds K fdT ["value"] []
  tup : mg "tuple" = none
  gF : mg "Form" = some (.ref CF)
  mx : ∃ mc t, ClX.CRead K CF mc ∧ ClX.CVal K CF mc "MAX_SLOTS" (.int 5) (.int 5 t)
section
variable {P : Program} {w : World} {K : PySem.W.Frag} {mg : Str → Option Value} {base : Heap}
def spChecked (K : PySem.W.Frag) (CI : Addr) : Sp := fun vs H Q E => ∃ (d : Addr) (kvs : List (Key × V)), vs = [.ref d] ∧ SlotsOk K H d kvs ∧ H d = some (.dK kvs) ∧
  (match badK kvs with
   | some k => ∀ H' dd, Same H H' → H dd = none → H' dd = some (.xd [("part", k)]) → E (.ref CI) (some dd) H'
   | none => if 5 < kvs.length then ∀ H' dd, Same H H' → H dd = none → H' dd = some (.xd [("part", .str "size")]) → E (.ref CI) (some dd) H'
     else ∀ (H' : Hp) (p : Addr) (ts : List Addr), Same H H' → H p = none → H' p = some (.tup (ts.map V.ref)) → Paired (fun (t : Addr) (q : Key × V) => H' t = some (.tup [kV q.1, q.2])) ts kvs → Q (.ref p) H')
theorem scChecked : FnScope ["slots", "slot", "takes"] ["slots"] (defScope sChecked) := ⟨rfl, rfl, rfl, by decide +kernel, rfl, by decide +kernel, by decide +kernel⟩
theorem find_pre {α : Type} {p : α → Bool} : ∀ {l : List α} {i : Nat} {x : α}, l[i]? = some x → (∀ j y, j < i → l[j]? = some y → p y = false) → p x = true → l.find? p = some x
  | [], _, _, h, _, _ => by cases h
  | a :: l, 0, x, h, _, q => by
    have e := Option.some.inj h
    subst e
    rw [List.find?_cons, q]
  | a :: l, i + 1, x, h, k, q => by
    rw [List.find?_cons, k 0 a (Nat.zero_lt_succ _) rfl]
    exact find_pre (l := l) (i := i) h (fun j y hj hy => k (j + 1) y (Nat.succ_lt_succ hj) hy) q
theorem find_all {α : Type} {p : α → Bool} {l : List α} (k : ∀ j y, j < l.length → l[j]? = some y → p y = false) : l.find? p = none := by
  rw [List.find?_eq_none]
  intro x hx
  obtain ⟨j, hj, e⟩ := List.getElem_of_mem hx
  have := k j x hj (by rw [← e]; exact List.getElem?_eq_getElem hj)
  rw [this]
  decide
theorem ok_checked {f fN fT CI CF : Addr} {fd fdN fdT : FuncData} (F : Fun K "_checked_slots" "_checked_slots" sChecked f fd) (T : TxtF P K mg CI CF fN fT fdN fdT)
    (GN : FnOk P w K mg base CX0 1 fN fdN ["value"] (spName K)) (GT : FnOk P w K mg base CX0 3 fT fdT ["value"] (spTaken K)) :
    FnOk P w K mg base (L2.CX P w) 4 f fd ["slots"] (spChecked K CI) := by
  refine F.okX scChecked (fun vs H Q E h => ?_) (fun cdv A outer s H vs Q E hr h => ?_)
  · obtain ⟨d, kvs, rfl, _⟩ := h
    rfl
  · obtain ⟨d, kvs, rfl, ok, hd, k⟩ := h
    obtain ⟨mc, mt, cr, cv⟩ := T.mx
    have hr1 : Room 1 _ := hr.mono (by decide)
    have hr2 : Room 2 _ := hr.mono (by decide)
    have tkE : Takes (cxOf (L2.CX P w) P w K mg base ["slots", "slot", "takes"] "_checked_slots" (defScope sChecked) f cdv A outer s H E) (fun cls dd _ H => E cls dd H) := takes_of rfl rfl rfl rfl
    refine ⟨_, pss_cons (ps_lock (ps_for (passes_of rfl) rfl (pi_items (pv 0)) (pg_tup (by rfl) (pgs_cons (pg_name (i := 1) scChecked.nd rfl (.inl rfl)) (pgs_cons (pg_name (i := 2) scChecked.nd rfl (.inl rfl)) pgs_nil)))
        (pss_one (ps_if (PW.pt (pw_or (pt_not (pt_val (pe_call GN hr1 rfl T.gN T.kN T.bN .nil pass0 (pa_cons (pv 1) pa_nil)))) (pw_or1 (pt_not (pt_val (pe_call GT hr rfl T.gT T.kT T.bT .nil pass0 (pa_cons (pv 2) pa_nil)))))))
          (pss_one (ps_raise rfl (takes_unlock (d := d) (u := .dK kvs) tkE (fun o' u' e => by have e' : H d = some (.frz o' u') := e; rw [hd] at e'; cases e')) (pmk_form T.er hr2 rfl (pv 1)))) pss_nil))))
      (pss_cons (ps_if (pt_cmpR op_gt (pe_callB call_lenD (by rfl) T.N.len PySem.boot_len (pa_cons (pv 0) pa_nil)) (ClX.pe_cval (pe_glob (v := .ref CF) rfl T.gF rfl)) (nomark _))
        (pss_one (ps_raise rfl tkE (pmk_form T.er hr2 rfl pe_str))) pss_nil)
      (pss_one (ps_ret (pe_tupItems rfl (pv 0) rfl T.tup)))), ?_⟩
    refine ⟨d, .dK kvs, hd, True.intro, fun od => ?_⟩
    have hu0 : (upd H d (.frz od (.dK kvs))) d = some (.frz od (.dK kvs)) := upd_same
    have unl : ∀ H' : Hp, (∀ b o, b ≠ d → H b = some o → H' b = some o) → Same H (upd H' d (.dK kvs)) := fun H' k b o e => by
      by_cases q : b = d
      · rw [q, upd_same]
        rw [q, hd] at e
        exact e
      · rw [upd_ne q]
        exact k b o q e
    refine ⟨_, rfl, d, od, kvs, rfl, hu0, for_it walk_items (fun i σ H' => ∃ v1 v2 : Option V, σ = [some (.ref d), v1, v2] ∧ (∀ b o, b ≠ d → H b = some o → H' b = some o) ∧ H' d = some (.frz od (.dK kvs)) ∧ ∀ j y, j < i → kvs[j]? = some y → (!goodP y) = false)
      ⟨_, _, rfl, fun b o q e => by rw [upd_ne q]; exact e, hu0, fun j y hj => by omega⟩ (fun i σ H' _ ⟨_, _, _, _, e, _⟩ => e) ?_ ?_⟩
    · rintro i x σ H1 H2 hi ⟨v1, v2, rfl, s1, hf, pre⟩ ⟨Tp, y, z, rfl, hT, rfl, ey, ez⟩
      obtain ⟨p, ep⟩ : ∃ p, kvs[i]? = some p := ⟨kvs[i], List.getElem?_eq_getElem hi⟩
      have ey : kvs[i]?.map (fun kv => kV kv.1) = some y := ey
      have ez : kvs[i]?.map Prod.snd = some z := ez
      rw [ep] at ey ez
      have ey : some (kV p.1) = some y := ey
      have ez : some p.2 = some z := ez
      cases ey
      cases ez
      have hp : p ∈ kvs := List.mem_of_getElem? ep
      obtain ⟨zs, ek, hz, ho⟩ := ok.key p hp
      have s2 : ∀ b o, b ≠ d → H b = some o → (upd H1 Tp (.tup [kV p.1, p.2])) b = some o := fun b o q e => by
        have e1 := s1 b o q e
        rw [upd_ne (ne_of_none e1 hT)]
        exact e1
      have hf2 : (upd H1 Tp (.tup [kV p.1, p.2])) d = some (.frz od (.dK kvs)) := by rw [upd_ne (ne_of_none hf hT)]; exact hf
      have ok2 := ok.keep s2
      refine ⟨Tp, _, rfl, .inl (.inl upd_same), rfl, _, _, rfl, ?_⟩
      refine ⟨_, _, rfl, rfl, ?_⟩
      have ekv : kV p.1 = .str zs := by rw [ek]; rfl
      have hgood : goodP p = (nameS zs && takenV p.2) := by
        unfold goodP
        rw [ek]
      refine ⟨_, rfl, _, rfl, .inl ⟨zs, ekv, hz, ho⟩, fun H3 s3 => ⟨_, rfl, ?_⟩⟩
      have bad : goodP p = false → ∀ H4 : Hp, Same (upd H1 Tp (.tup [kV p.1, p.2])) H4 → ∀ dd, H4 dd = none → ∃ od', (upd H4 dd (.xd [("part", kV p.1)])) d = some (.frz od' (.dK kvs)) ∧ E (.ref CI) (some dd) (upd (upd H4 dd (.xd [("part", kV p.1)])) d (.dK kvs)) := fun hb H4 s4 dd hdd => by
        have ebad : badK kvs = some (kV p.1) := by
          unfold badK
          rw [find_pre ep pre (by rw [hb]; rfl)]
          rfl
        rw [ebad] at k
        have hf4 : H4 d = some (.frz od (.dK kvs)) := s4 _ _ hf2
        have ndd : dd ≠ d := (ne_of_none hf4 hdd).symm
        refine ⟨od, by rw [upd_ne ndd.symm]; exact hf4, k _ dd (unl _ fun b o q e => ?_) ?_ ?_⟩
        · have e4 := s4 b o (s2 b o q e)
          rw [upd_ne (ne_of_none e4 hdd)]
          exact e4
        · cases e : H dd with
          | none => rfl
          | some o => rw [s4 dd o (s2 dd o ndd e)] at hdd; cases hdd
        · rw [upd_ne ndd, upd_same]
      rw [show nameV (kV p.1) = nameS zs by rw [ekv]; rfl]
      cases hn : nameS zs with
      | false =>
        refine iteT (iteT ?_)
        refine ⟨_, rfl, ?_⟩
        exact raise_ans (C := CI) (v := kV p.1) (H1 := H3) (Q := fun cls dd H' => ∃ od', H' d = some (.frz od' (.dK kvs)) ∧ E cls dd (upd H' d (.dK kvs))) (bad (by rw [hgood, hn]; rfl) H3 s3)
      | true =>
        refine iteF ?_
        refine ⟨_, rfl, p.2, rfl, Val.same (ok2.val p hp).1 s3, fun H4 s4 => ⟨_, rfl, ?_⟩⟩
        cases ht : takenV p.2 with
        | false =>
          refine iteT ?_
          refine ⟨_, rfl, ?_⟩
          exact raise_ans (C := CI) (v := kV p.1) (H1 := H4) (Q := fun cls dd H' => ∃ od', H' d = some (.frz od' (.dK kvs)) ∧ E cls dd (upd H' d (.dK kvs))) (bad (by rw [hgood, hn, ht]; rfl) H4 (s3.trans s4))
        | true =>
          refine iteF ?_
          refine ⟨_, _, rfl, fun b o q e => s4 _ _ (s3 _ _ (s2 b o q e)), s4 _ _ (s3 _ _ hf2), fun j y hj ey => ?_⟩
          rcases Nat.lt_succ_iff_lt_or_eq.mp hj with q | q
          · exact pre j y q ey
          · rw [q, ep] at ey
            cases ey
            rw [hgood, hn, ht]
            rfl
    · rintro σ H1 ⟨v1, v2, rfl, s1, hf, pre⟩
      have nob : badK kvs = none := by
        unfold badK
        rw [find_all pre]
        rfl
      rw [nob] at k
      refine ⟨hf, ?_⟩
      have s5 := unl H1 s1
      generalize eH5 : upd H1 d (.dK kvs) = H5 at s5
      have hd5 : H5 d = some (.dK kvs) := by rw [← eH5, upd_same]
      refine ⟨_, rfl, d, kvs, rfl, hd5, CF, mc, .int 5, _, rfl, cr, cv, _, _, rfl, rfl, _, rfl, ?_⟩
      refine ite2 (fun h5 => ?_) (fun h5 => ?_)
      · have h5' : 5 < kvs.length := by have := of_decide_eq_true h5; omega
        simp only [if_pos h5'] at k
        refine raise_ans fun dd hdd => k _ dd (same_upd s5 (s5.free hdd)) (s5.free hdd) upd_same
      · have h5' : ¬ 5 < kvs.length := fun q => h5 (decide_eq_true (by omega))
        simp only [if_neg h5'] at k
        exact ⟨_, rfl, d, kvs, rfl, hd5, fun H' p ts s6 np e1 e2 => k H' p ts (s5.trans s6) (s5.free np) e1 e2⟩
end
end K1

namespace K1
open PySem L2
def dueV (n s : V) (kvs : List (Key × V)) : Option V :=
  if nameV n = false then some (.str "name") else if sortV s = false then some (.str "sort") else match badK kvs with
    | some k => some k
    | none => if 5 < kvs.length then some (.str "size") else none
/-- all but x is kept -/
def SameX (x : Addr) (H H' : Hp) : Prop := ∀ b o, b ≠ x → H b = some o → H' b = some o
theorem Same.x {x : Addr} {H H' : Hp} (s : Same H H') : SameX x H H' := fun b o _ e => s b o e
theorem SameX.trans {x : Addr} {H H1 H2 : Hp} (a : SameX x H H1) (b : SameX x H1 H2) : SameX x H H2 := fun c o n e => b c o n (a c o n e)
theorem SameX.upd {x : Addr} {H : Hp} {o : HO} : SameX x H (upd H x o) := fun b u n e => by rw [upd_ne n]; exact e
theorem SameX.free {x : Addr} {H H' : Hp} (e : SameX x H H') {l : Addr} (n : l ≠ x) (h : H' l = none) : H l = none := by
  cases q : H l with
  | none => rfl
  | some o =>
    rw [e l o n q] at h
    cases h
/-- the tuple of the slots stands at p -/
def SlotTup (H : Hp) (p : Addr) (kvs : List (Key × V)) : Prop := ∃ ts : List Addr, H p = some (.tup (ts.map V.ref)) ∧ Paired (fun (t : Addr) (q : Key × V) => H t = some (.tup [kV q.1, q.2])) ts kvs
theorem SlotTup.same {H H' : Hp} {p : Addr} {kvs : List (Key × V)} (h : SlotTup H p kvs) (s : Same H H') : SlotTup H' p kvs := by
  obtain ⟨ts, e1, e2⟩ := h
  exact ⟨ts, s _ _ e1, Paired.mapP e2 fun t q e => s _ _ e⟩
theorem SlotTup.upd {H : Hp} {p x : Addr} {o : HO} {kvs : List (Key × V)} (h : SlotTup H p kvs) (hx : ∀ xs, H x ≠ some (.tup xs)) : SlotTup (upd H x o) p kvs := by
  obtain ⟨ts, e1, e2⟩ := h
  exact ⟨ts, by rw [upd_ne (fun q => hx _ (by rw [← q]; exact e1))]; exact e1, Paired.mapP e2 fun t q e => by rw [upd_ne (fun z => hx _ (by rw [← z]; exact e))]; exact e⟩
structure TxtC (P : Program) (K : PySem.W.Frag) (mg : Str → Option Value) (CI CF fN fT fS fC fI : Addr) (fdN fdT fdS fdC : FuncData) extends TxtF P K mg CI CF fN fT fdN fdT where
  gS : mg "is_sort" = some (.ref fS)
  kS : PySem.W.keepIn K (.ref fS) = true
  bS : Binds K fdS ["value"] []
  gC : mg "_checked_slots" = some (.ref fC)
  kC : PySem.W.keepIn K (.ref fC) = true
  bC : Binds K fdC ["slots"] []
  cl : Cls K CF
  nN : NoAttr K CF "name"
  nK : NoAttr K CF "kin"
  nS : NoAttr K CF "slots"
  mkF : Mk K CF fI
section
variable {P : Program} {w : World} {K : PySem.W.Frag} {mg : Str → Option Value} {base : Heap}
def spInit (K : PySem.W.Frag) (CI CF : Addr) : Sp := fun vs H Q E => ∃ (x dx d : Addr) (n s : V) (kvs : List (Key × V)), vs = [.ref x, n, s, .ref d] ∧ H x = some (.ins CF dx []) ∧ Val K H n ∧ Val K H s ∧ n ≠ .ref x ∧ s ≠ .ref x ∧ SlotsOk K H d kvs ∧ (∀ p ∈ kvs, p.2 ≠ .ref x) ∧ H d = some (.dK kvs) ∧
  (match dueV n s kvs with
   | some k => ∀ H' dd, SameX x H H' → H dd = none → H' dd = some (.xd [("part", k)]) → E (.ref CI) (some dd) H'
   | none => ∀ (H' : Hp) (p : Addr) (fs : List (Str × V)), SameX x H H' → H' x = some (.ins CF dx fs) → H p = none → SlotTup H' p kvs → fs = putF "slots" (.ref p) (putF "kin" s (putF "name" n [])) → Q .non H')
theorem scInit : FnScope ["self", "name", "sort", "slots"] ["self", "name", "sort", "slots"] (defScope sFormInit) := ⟨rfl, rfl, rfl, by decide +kernel, rfl, by decide +kernel, by decide +kernel⟩
theorem body_init {f fN fT fS fC fI CI CF : Addr} {fdN fdT fdS fdC : FuncData} (T : TxtC P K mg CI CF fN fT fS fC fI fdN fdT fdS fdC)
    (GN : FnOk P w K mg base CX0 1 fN fdN ["value"] (spName K)) (GS : FnOk P w K mg base CX0 2 fS fdS ["value"] (spSort K)) (GC : FnOk P w K mg base (L2.CX P w) 4 fC fdC ["slots"] (spChecked K CI))
    {qual : Str} {cdv : Value} {A : Around} {outer : List Env} {s : Shared} {H : Hp} {vs : List V} {Q : VK} {E : XK} (hr : Room 4 (A.deeper (PyProof.Rows.envOfC qual (defScope sFormInit) s.heap.objs.size f cdv))) (h : spInit K CI CF vs H Q E) :
    ∃ t, PSs (cxOf (L2.CX P w) P w K mg base ["self", "name", "sort", "slots"] qual (defScope sFormInit) f cdv A outer s H E) (defBody sFormInit) t ∧ t { nx := fun _ H' => Q .non H', rt := Q } (L2.start ["self", "name", "sort", "slots"] vs) H := by
  obtain ⟨x, dx, d, n, so, kvs, rfl, hx, hn, hs, nx, sx, ok, vx, hd, k⟩ := h
  have hr1 : Room 1 _ := hr.mono (by decide)
  have hr2 : Room 2 _ := hr.mono (by decide)
  have tkE : Takes (cxOf (L2.CX P w) P w K mg base ["self", "name", "sort", "slots"] qual (defScope sFormInit) f cdv A outer s H E) (fun cls dd _ H => E cls dd H) := takes_of rfl rfl rfl rfl
  refine ⟨_, pss_cons (ps_if (pt_not (pt_val (pe_call GN hr1 (by rfl) T.gN T.kN T.bN .nil pass0 (pa_cons (pv 1) pa_nil)))) (pss_one (ps_raise rfl tkE (pmk_form T.er hr2 rfl pe_str))) pss_nil)
    (pss_cons (ps_if (pt_not (pt_val (pe_call GS hr2 (by rfl) T.gS T.kS T.bS .nil pass0 (pa_cons (pv 2) pa_nil)))) (pss_one (ps_raise rfl tkE (pmk_form T.er hr2 rfl pe_str))) pss_nil)
    (pss_cons (ps_fld (pv 0) (pv 1) rfl) (pss_cons (ps_fld (pv 0) (pv 2) rfl)
    (pss_one (ps_fld (pv 0) (pe_call GC hr (by rfl) T.gC T.kC T.bC .nil (passes_call tkE (fun _ _ _ _ q => q)) (pa_cons (pv 3) pa_nil)) rfl))))), ?_⟩
  have ex := k
  -- the raises
  have rs : ∀ (w1 : Str) (H1 : Hp), dueV n so kvs = some (.str w1) → Same H H1 → ∀ dd, H1 dd = none → E (.ref CI) (some dd) (upd H1 dd (.xd [("part", .str w1)])) := fun w1 H1 e s1 dd hdd => by
    rw [e] at k
    exact k _ dd (Same.x (same_upd s1 (s1.free hdd))) (s1.free hdd) upd_same
  refine ⟨_, rfl, n, rfl, hn, fun H1 s1 => ⟨_, rfl, ?_⟩⟩
  cases en : nameV n with
  | false =>
    refine iteT ?_
    exact raise_ans (rs "name" H1 (by unfold dueV; rw [if_pos en]) s1)
  | true =>
    refine iteF ?_
    refine ⟨_, rfl, so, rfl, Val.same hs s1, fun H2 s2 => ⟨_, rfl, ?_⟩⟩
    have s12 := s1.trans s2
    cases es : sortV so with
    | false =>
      refine iteT ?_
      exact raise_ans (rs "sort" H2 (by unfold dueV; rw [if_neg (by rw [en]; decide), if_pos es]) s12)
    | true =>
      refine iteF ?_
      refine ⟨_, rfl, _, rfl, x, CF, dx, _, rfl, s12 _ _ hx, T.cl, T.nN, (by show 0 < 1000; decide), ?_⟩
      refine ⟨_, rfl, _, rfl, x, CF, dx, _, rfl, upd_same, T.cl, T.nK, (by show 1 < 1000; decide), ?_⟩
      rw [upd_upd]
      generalize eH3 : upd H2 x (.ins CF dx (putF "kin" so (putF "name" n []))) = H3
      have hx3 : H3 x = some (.ins CF dx (putF "kin" so (putF "name" n []))) := by rw [← eH3, upd_same]
      have s3 : SameX x H H3 := by
        rw [← eH3]
        exact SameX.trans (Same.x s12) SameX.upd
      have xd : d ≠ x := ne_of hd hx (by intro q; cases q)
      have hd3 : H3 d = some (.dK kvs) := s3 d _ xd hd
      have ok3 : SlotsOk K H3 d kvs := ⟨ok.key, fun p hp => ⟨Val.keep (ok.val p hp).1 fun a o e q => s3 a o (fun z => vx p hp (by rw [e, z])) q, (ok.val p hp).2⟩, ok.len⟩
      have due3 : dueV n so kvs = (match badK kvs with | some k => some k | none => if 5 < kvs.length then some (.str "size") else none) := by
        unfold dueV
        rw [if_neg (by rw [en]; decide), if_neg (by rw [es]; decide)]
      rw [due3] at k
      refine ⟨_, rfl, d, kvs, rfl, ok3, hd3, ?_⟩
      cases eb : badK kvs with
      | some kb =>
        rw [eb] at k
        intro H' dd s4 hdd e
        refine k H' dd (SameX.trans s3 (Same.x s4)) ?_ e
        exact SameX.free s3 (fun q => by rw [q, hx3] at hdd; cases hdd) hdd
      | none =>
        rw [eb] at k
        dsimp only at k ⊢
        by_cases h5 : 5 < kvs.length
        · rw [if_pos h5] at k ⊢
          intro H' dd s4 hdd e
          refine k H' dd (SameX.trans s3 (Same.x s4)) ?_ e
          exact SameX.free s3 (fun q => by rw [q, hx3] at hdd; cases hdd) hdd
        · rw [if_neg h5] at k ⊢
          intro H' p ts s4 hp e1 e2
          have hx4 := s4 _ _ hx3
          refine ⟨_, rfl, x, CF, dx, _, rfl, hx4, T.cl, T.nS, (by show 2 < 1000; decide), ?_⟩
          refine k _ p _ (SameX.trans (SameX.trans s3 (Same.x s4)) SameX.upd) upd_same ?_ ?_ rfl
          · exact SameX.free s3 (fun q => by rw [q, hx3] at hp; cases hp) hp
          · exact SlotTup.upd ⟨ts, e1, e2⟩ (fun xs q => by rw [hx4] at q; cases q)
end
end K1

namespace K1
open PySem L2
section
variable {P : Program} {w : World} {K : PySem.W.Frag} {mg : Str → Option Value} {base : Heap}
/-- Form's __init__ called without keywords: the dict of the slots is new and empty -/
def spInit0 (K : PySem.W.Frag) (CI CF : Addr) : Sp := fun vs H Q E => vs.length = 3 ∧ ∀ d, H d = none → spInit K CI CF (vs ++ [.ref d]) (upd H d (.dK [])) Q E
open StX in
theorem init_fnR {f fN fT fS fC fI CI CF : Addr} {fdN fdT fdS fdC : FuncData} {fd : FuncData} (F : Fun K "__init__" "Form.__init__" sFormInit f fd) (T : TxtC P K mg CI CF fN fT fS fC fI fdN fdT fdS fdC)
    (GN : FnOk P w K mg base CX0 1 fN fdN ["value"] (spName K)) (GS : FnOk P w K mg base CX0 2 fS fdS ["value"] (spSort K)) (GC : FnOk P w K mg base (L2.CX P w) 4 fC fdC ["slots"] (spChecked K CI)) :
    FnR P w K mg base (L2.CX P w) 5 f (spInit0 K CI CF) := by
  obtain ⟨oc, od, kV, doc, pm, an, cdv, ct, osl, rfl, lk, hcd⟩ := F.ex
  intro A outer s H us vs Q E hr e0 r hsp
  obtain ⟨hl, hq⟩ := hsp
  have hl1 : us.length = 3 := by rw [← r.length]; exact hl
  have hn : H s.heap.objs.size = Option.none := e0.hok.fresh (Nat.le_refl _)
  refine run_bnd lk hcd scInit hr e0 (G := fun xs H2 => ∃ d, H d = none ∧ xs = vs ++ [V.ref d] ∧ H2 = upd H d (.dK [])) (fun A' Ex Q' h => ?_) fun s2 H2 xs ⟨d, hd, ex, eH⟩ hr' => ?_
  · have hb : ∀ us : List Value, us.length = 3 → bindArgs (PySem.W.fnOf "__init__" "Form.__init__" (defArgs sFormInit) (defBody sFormInit) (defScope sFormInit) .none kV doc pm an cdv ct) ⟨us, []⟩ =
        ((alloc ({ cls := .type "dict", data := .dict #[] } : Obj) : Sem Addr) >>= fun d => pure ((["self", "name", "sort"] : List Str).zip us ++ [(("slots" : Str), Value.ref d)])) := fun us hl => by
      match us, hl with
      | [_, _, _], _ => rfl
    rw [hb us hl1]
    refine wpAny_bind (wpAny_alloc (wpAny_pure ?_))
    have z := h _ _ (vs ++ [V.ref s.heap.objs.size]) (us ++ [Value.ref s.heap.objs.size]) (env0_laid (u := .dK []) (o := ({ cls := .type "dict", data := .dict #[] } : Obj)) e0 (dk_empty _ (env0_big e0))) (un_laid hn) rfl
      (fun e s' => cxUp outer s H _ _ E e s' (un_laid hn) (fun b o q => Heap.get?_push_of_some _ q) rfl) (r.append (.cons rfl .nil)) (by rw [List.length_append, hl] <;> rfl) ⟨_, hn, rfl, rfl⟩
    match us, hl1, z with
    | [_, _, _], _, z => exact z
  · subst ex eH
    exact body_init T GN GS GC hr' (hq d hd)
end
/-! ### a class that a local name holds, called -/
def tMakeL (i : Nat) (C : Addr) (sp : Sp) (E : XK) (t : TA) : TE := fun σ H Q => σ[i]? = some (some (.ref C)) ∧ StX.tMakeR C sp E t σ H Q
theorem pe_makeL {X : Cx} {CX : CXT} {k i : Nat} {f C : Addr} {sp : Sp} {E : XK} {x : Str} {e : Expr} {es : List Expr} {t : TA} {p pos : Pos} (M : Mk X.K C f) (F : FnR X.prog X.w X.K X.mg X.base CX k f sp) (hr : Room (k + 1) X.A) (hN : X.N[i]? = some x) (hv : Vis X.env.scope x)
    (hx : Passes CX X E) (ha : PA X (e :: es) t) (hdb : (x == ("__debug__" : Str)) = false := by decide) (hcd : (x == ("__classdict__" : Str)) = false := by decide)
    (he : starEach (e :: es) X.env = (false, eval e X.env) :: starEach es X.env := by rfl) (hpl : (backTo pos (starEach es X.env)).any (·.1) = false := by rfl) : PE X (.Call (.Name x p) (e :: es) [] pos) (tMakeL i C sp E t) := by
  refine ⟨fun pins s σ H Q I h => ?_⟩
  obtain ⟨hs, h⟩ := h
  refine wpAny_Call_Name_kw (thn ((pe_var (pos := p) (i := i) hN hv hdb hcd).run pins s σ H (fun v H1 => v = .ref C ∧ H1 = H) I ⟨.ref C, hs, rfl, rfl⟩) fun u s1 ⟨v, H1, I1, r1, q1⟩ => ?_)
  obtain ⟨ev, eH⟩ := q1
  subst ev eH
  obtain rfl : u = Value.ref C := r1
  refine PySem.W.callWith_K (h₀ := X.base) I.ok.mod.kin M.kp (thn (ha.run pos pins s1 σ H1 _ I1 h) fun us s2 ⟨vs, H2, I2, r, q⟩ => ⟨I2.kIn, ?_⟩) he hpl
  exact StX.run_makeR M F hr hx I2 r q
end K1

namespace K1
open PySem L2
section
variable {P : Program} {w : World} {K : PySem.W.Frag} {mg : Str → Option Value} {base : Heap}
/-- a form as it stands behind Form.of -/
structure FormAt (CF : Addr) (H : Hp) (x : Addr) (n s : V) (kvs : List (Key × V)) : Prop where
  ex : ∃ (dx p : Addr) (fs : List (Str × V)), H x = some (.ins CF dx fs) ∧ fs.lookup ("name" : Str) = some n ∧ fs.lookup ("kin" : Str) = some s ∧ fs.lookup ("slots" : Str) = some (.ref p) ∧ SlotTup H p kvs
theorem FormAt.same {CF x : Addr} {H H' : Hp} {n s : V} {kvs : List (Key × V)} (h : FormAt CF H x n s kvs) (e : Same H H') : FormAt CF H' x n s kvs := by
  obtain ⟨dx, p, fs, h1, h2, h3, h4, h5⟩ := h.ex
  exact ⟨dx, p, fs, e _ _ h1, h2, h3, h4, h5.same e⟩
def spOf (K : PySem.W.Frag) (CI CF : Addr) : Sp := fun vs H Q E => ∃ (d : Addr) (n s : V) (kvs : List (Key × V)), vs = [.ref CF, n, s, .ref d] ∧ Val K H n ∧ Val K H s ∧ SlotsOk K H d kvs ∧ H d = some (.dK kvs) ∧
  (match dueV n s kvs with
   | some k => ∀ H' dd, Same H H' → H dd = none → H' dd = some (.xd [("part", k)]) → E (.ref CI) (some dd) H'
   | none => ∀ (H' : Hp) (x : Addr), Same H H' → H x = none → FormAt CF H' x n s kvs → Q (.ref x) H')
theorem scOf : FnScope ["cls", "name", "sort", "slots", "form"] ["cls", "name", "sort", "slots"] (defScope sFormOf) := ⟨rfl, rfl, rfl, by decide +kernel, rfl, by decide +kernel, by decide +kernel⟩
theorem lk_put3 {f g : Str} {v : V} {fs : List (Str × V)} (h : ¬ g = f) : (putF f v fs).lookup g = fs.lookup g := by rw [lookup_putF, if_neg h]
theorem lk_put1 {f : Str} {v : V} {fs : List (Str × V)} : (putF f v fs).lookup f = some v := by rw [lookup_putF, if_pos rfl]
theorem ns_ : ¬ (("name" : Str) = "slots") := by decide +kernel
theorem nk_ : ¬ (("name" : Str) = "kin") := by decide +kernel
theorem ks_ : ¬ (("kin" : Str) = "slots") := by decide +kernel
theorem badK_nil : badK [] = none := rfl
theorem slots_nil {K : PySem.W.Frag} {H : Hp} {d : Addr} : SlotsOk K H d [] := ⟨fun _ h => (nomatch h), fun _ h => (nomatch h), Nat.zero_le _⟩
theorem ok_of {f fN fT fS fC fI CI CF : Addr} {fd fdN fdT fdS fdC fdI : FuncData} (F : Fun K "of" "Form.of" sFormOf f fd) (FI : Fun K "__init__" "Form.__init__" sFormInit fI fdI) (T : TxtC P K mg CI CF fN fT fS fC fI fdN fdT fdS fdC)
    (GN : FnOk P w K mg base CX0 1 fN fdN ["value"] (spName K)) (GS : FnOk P w K mg base CX0 2 fS fdS ["value"] (spSort K)) (GC : FnOk P w K mg base (L2.CX P w) 4 fC fdC ["slots"] (spChecked K CI)) :
    FnOk P w K mg base (L2.CX P w) 7 f fd ["cls", "name", "sort", "slots"] (spOf K CI CF) := by
  refine F.okX scOf (fun vs H Q E h => ?_) (fun cdv A outer s H vs Q E hr h => ?_)
  · obtain ⟨d, n, s, kvs, rfl, _⟩ := h
    rfl
  · obtain ⟨d, n, so, kvs, rfl, hn, hs, ok, hd, k⟩ := h
    have hr4 : Room 4 _ := hr.mono (by decide)
    have tkE : Takes (cxOf (L2.CX P w) P w K mg base ["cls", "name", "sort", "slots", "form"] "Form.of" (defScope sFormOf) f cdv A outer s H E) (fun cls dd _ H => E cls dd H) := takes_of rfl rfl rfl rfl
    have GI := init_fnR FI T GN GS GC
    refine ⟨_, pss_cons (ps_set (i := 4) scOf.nd rfl (Or.inl rfl) (pe_makeL (i := 0) T.mkF GI hr rfl (Or.inl rfl) (passes_call tkE (fun _ _ _ _ q => q)) (pa_cons (pv 1) (pa_cons (pv 2) pa_nil))))
      (pss_cons (ps_fld (pv 4) (pe_call GC hr4 (by rfl) T.gC T.kC T.bC .nil (passes_call tkE (fun _ _ _ _ q => q)) (pa_cons (pv 3) pa_nil)) rfl)
      (pss_one (ps_ret (pv 4)))), ?_⟩
    refine ⟨rfl, _, rfl, _, rfl, fun x dx nx ndx nex => ⟨rfl, fun d0 nd0 => ?_⟩⟩
    generalize eH1 : upd (upd H dx (.own x)) x (.ins CF dx []) = H1 at nd0 ⊢
    have s1 : Same H H1 := fun b o e => by
      rw [← eH1, upd_ne (ne_of_none e nx), upd_ne (ne_of_none e ndx)]
      exact e
    have hx1 : H1 x = some (.ins CF dx []) := by rw [← eH1, upd_same]
    have s2 : Same H1 (upd H1 d0 (.dK [])) := same_upd (Same.refl H1) nd0
    have s02 := s1.trans s2
    refine ⟨x, dx, d0, n, so, [], rfl, s2 _ _ hx1, Val.same hn s02, Val.same hs s02, Val.ne hn nx, Val.ne hs nx, slots_nil, (fun _ h => nomatch h), upd_same, ?_⟩
    have due0 : dueV n so [] = if nameV n = false then some (.str "name") else if sortV so = false then some (.str "sort") else none := rfl
    -- behind the making, where its exceptions go
    have sx : ∀ H', SameX x (upd H1 d0 (.dK [])) H' → Same H H' := fun H' sX b o e => sX b o (ne_of_none e nx) (s02 b o e)
    have bad : ∀ w1, dueV n so [] = some w1 → dueV n so kvs = some w1 := fun w1 e => by
      rw [due0] at e
      unfold dueV
      by_cases h1 : nameV n = false
      · rw [if_pos h1] at e ⊢
        exact e
      · rw [if_neg h1] at e ⊢
        by_cases h2 : sortV so = false
        · rw [if_pos h2] at e ⊢
          exact e
        · rw [if_neg h2] at e
          cases e
    cases e0 : dueV n so [] with
    | some w1 =>
      rw [bad w1 e0] at k
      exact fun H' dd s3 hdd e => k H' dd (sx H' s3) (s02.free hdd) e
    | none =>
      have due1 : dueV n so kvs = (match badK kvs with | some k => some k | none => if 5 < kvs.length then some (.str "size") else none) := by
        rw [due0] at e0
        unfold dueV
        by_cases h1 : nameV n = false
        · rw [if_pos h1] at e0
          cases e0
        · rw [if_neg h1] at e0 ⊢
          by_cases h2 : sortV so = false
          · rw [if_pos h2] at e0
            cases e0
          · rw [if_neg h2]
            all_goals (cases badK kvs <;> rfl)
      rw [due1] at k
      intro H2 p0 fs s3 hx2 np0 st0 efs
      have s4 := sx H2 s3
      refine ⟨rfl, ?_⟩
      refine ⟨_, rfl, d, kvs, rfl, ok.keep (fun b o _ e => s4 b o e), s4 _ _ hd, ?_⟩
      have fr : ∀ {b}, H2 b = none → H b = none := fun {b} q => s4.free q
      cases eb : badK kvs with
      | some kb =>
        rw [eb] at k
        exact fun H' dd s5 hdd e => k H' dd (s4.trans s5) (fr hdd) e
      | none =>
        rw [eb] at k
        dsimp only at k ⊢
        by_cases h5 : 5 < kvs.length
        · rw [if_pos h5] at k ⊢
          exact fun H' dd s5 hdd e => k H' dd (s4.trans s5) (fr hdd) e
        · rw [if_neg h5] at k ⊢
          intro H3 p ts s5 np e1 e2
          have hx3 := s5 _ _ hx2
          refine ⟨_, rfl, x, CF, dx, _, rfl, hx3, T.cl, T.nS, (by rw [efs]; show 3 < 1000; decide), ?_⟩
          refine ⟨_, rfl, k _ x (fun b o e => ?_) nx ⟨dx, p, _, upd_same, ?_, ?_, lk_put1, ?_⟩⟩
          · rw [upd_ne (ne_of_none e nx)]
            exact s5 _ _ (s4 b o e)
          · rw [lk_put3 ns_, efs, lk_put3 ns_, lk_put3 nk_, lk_put1]
          · rw [lk_put3 ks_, efs, lk_put3 ks_, lk_put1]
          · exact SlotTup.upd ⟨ts, e1, e2⟩ (fun xs q => by rw [hx3] at q; cases q)
end
end K1

namespace K1
open PySem L2
/-- at a: the row of the slots, each a list of a name and what it takes -/
def RowAt (K : PySem.W.Frag) (H : Hp) (a : Addr) (kvs : List (Key × V)) : Prop := ∃ rs : List Addr, SqL K H a (rs.map V.ref) ∧ Paired (fun (r : Addr) (q : Key × V) => H r = some (.lst [kV q.1, q.2])) rs kvs
theorem RowAt.same {K : PySem.W.Frag} {H H' : Hp} {a : Addr} {kvs : List (Key × V)} (h : RowAt K H a kvs) (s : Same H H') : RowAt K H' a kvs := by
  obtain ⟨rs, e1, e2⟩ := h
  exact ⟨rs, s.seq e1, Paired.mapP e2 fun t q e => s _ _ e⟩
/-- what the slots' names and values are like -/
structure KvOk (K : PySem.W.Frag) (H : Hp) (kvs : List (Key × V)) : Prop where
  key : ∀ p ∈ kvs, ∃ z, p.1 = .inr z ∧ z.length ≤ 1000 ∧ PyData.strOk z = true
  val : ∀ p ∈ kvs, Val K H p.2
  len : kvs.length ≤ 1000
theorem KvOk.same {K : PySem.W.Frag} {H H' : Hp} {kvs : List (Key × V)} (h : KvOk K H kvs) (s : Same H H') : KvOk K H' kvs := ⟨h.key, fun p hp => Val.same (h.val p hp) s, h.len⟩
def dueT (n s : V) (kvs : List (Key × V)) : List V := match dueV n s kvs with
  | some k => [.str "wrong", k]
  | none => []
def restV (kvs : List (Key × V)) : Option V := match badK kvs with
  | some k => some k
  | none => if 5 < kvs.length then some (.str "size") else none
theorem dueV_eq (n s : V) (kvs : List (Key × V)) : dueV n s kvs = if nameV n = false then some (.str "name") else if sortV s = false then some (.str "sort") else restV kvs := by
  unfold dueV restV
  cases badK kvs <;> rfl
section
variable {P : Program} {w : World} {K : PySem.W.Frag} {mg : Str → Option Value} {base : Heap}
def spDue (K : PySem.W.Frag) : Sp := fun vs H Q _ => ∃ (a : Addr) (n s : V) (kvs : List (Key × V)), vs = [n, s, .ref a] ∧ Val K H n ∧ Val K H s ∧ RowAt K H a kvs ∧ KvOk K H kvs ∧
  ∀ H' p, Same H H' → H p = none → H' p = some (.tup (dueT n s kvs)) → Q (.ref p) H'
theorem scDue : FnScope ["_law_word", "_law_take", "_law_row", "_law_slot_so", "_law_takes"] ["_law_word", "_law_take", "_law_row"] (defScope sDue) := ⟨rfl, rfl, rfl, by decide +kernel, rfl, by decide +kernel, by decide +kernel⟩
theorem ok_due {f fN fT : Addr} {fd fdN fdT : FuncData} (F : Fun K "_law_due" "_law_due" sDue f fd) (T : TxtN mg)
    (FN : Fun K "_law_is_name" "_law_is_name" sLName fN fdN) (bN : Binds K fdN ["_law_thing"] []) (gN : mg "_law_is_name" = some (.ref fN))
    (FT : Fun K "_law_is_taken" "_law_is_taken" sLTaken fT fdT) (bT : Binds K fdT ["_law_thing"] []) (gT : mg "_law_is_taken" = some (.ref fT)) :
    FnOk P w K mg base CX0 3 f fd ["_law_word", "_law_take", "_law_row"] (spDue K) := by
  have GN : FnOk P w K mg base CX0 1 fN fdN ["_law_thing"] (spName K) := ok_lName FN T
  have GT : FnOk P w K mg base CX0 2 fT fdT ["_law_thing"] (spTaken K) := ok_lTaken FT T FN bN gN
  refine F.ok scDue (fun vs H Q E h => ?_) (fun cdv A outer s H vs Q E hr h => ?_)
  · obtain ⟨a, n, s, kvs, rfl, _⟩ := h
    rfl
  · obtain ⟨a, n, so, kvs, rfl, hn, hs, row, ok, k⟩ := h
    have hr1 : Room 1 _ := hr.mono (by decide)
    refine ⟨_, pss_cons (ps_if (pt_not (pt_val (pe_call GN hr1 rfl gN FN.kp bN .nil pass0 (pa_cons (pv 0) pa_nil)))) (pss_one (ps_ret (pe_tup (pa_cons pe_str (pa_cons pe_str pa_nil))))) pss_nil)
      (pss_cons (ps_if (PW.pt (pw_or (pt_not (pt_val (pe_call GN hr1 rfl gN FN.kp bN .nil pass0 (pa_cons (pv 1) pa_nil)))) (pw_or1 (pt_cmpR op_eq (pv 1) pe_str (nomark _))))) (pss_one (ps_ret (pe_tup (pa_cons pe_str (pa_cons pe_str pa_nil))))) pss_nil)
      (pss_cons (ps_for PassesOwn.never rfl (pi_list (pv 2)) (pg_lst (by rfl) (pgs_cons (pg_name (i := 3) scDue.nd rfl (.inl rfl)) (pgs_cons (pg_name (i := 4) scDue.nd rfl (.inl rfl)) pgs_nil)))
        (pss_one (ps_if (PW.pt (pw_or (pt_not (pt_val (pe_call GN hr1 rfl gN FN.kp bN .nil pass0 (pa_cons (pv 3) pa_nil)))) (pw_or1 (pt_not (pt_val (pe_call GT hr rfl gT FT.kp bT .nil pass0 (pa_cons (pv 4) pa_nil)))))))
          (pss_one (ps_ret (pe_tup (pa_cons pe_str (pa_cons (pv 3) pa_nil))))) pss_nil)))
      (pss_one (ps_ret (pe_ifExp (pt_cmpR op_gt (pe_callB call_len_seq (by rfl) T.len PySem.boot_len (pa_cons (pv 2) pa_nil)) pe_int (nomark _)) (pe_tup (pa_cons pe_str (pa_cons pe_str pa_nil))) (pe_tup pa_nil)))))), ?_⟩
    -- what is handed back as wrong
    have wr : ∀ (k1 : V) (H1 : Hp), dueV n so kvs = some k1 → Same H H1 → ([V.str "wrong", k1] : List V).length ≤ sizeLine ∧ ∀ p, H1 p = none → Q (.ref p) (upd H1 p (.tup [V.str "wrong", k1])) := fun k1 H1 e s1 => by
      refine ⟨by show 2 ≤ sizeLine; decide, fun p hp => k _ p (same_upd s1 (s1.free hp)) (s1.free hp) ?_⟩
      unfold dueT
      rw [e]
      exact upd_same
    refine ⟨_, rfl, n, rfl, hn, fun H1 s1 => ⟨_, rfl, ?_⟩⟩
    cases en : nameV n with
    | false => exact iteT (wr _ H1 (by unfold dueV; rw [if_pos en]) s1)
    | true =>
      refine iteF ?_
      have d1 : dueV n so kvs = if sortV so = false then some (.str "sort") else restV kvs := by
        rw [dueV_eq, if_neg (by rw [en]; decide)]
      refine ⟨_, rfl, so, rfl, Val.same hs s1, fun H2 s2 => ⟨_, rfl, ?_⟩⟩
      have s12 := s1.trans s2
      cases e2 : nameV so with
      | false =>
        refine iteT (iteT (wr _ H2 ?_ s12))
        rw [d1, if_pos]
        cases so with
        | str z => exact (show (nameS z && _) = false by rw [show nameS z = false from e2]; rfl)
        | _ => rfl
      | true =>
        refine iteF ?_
        obtain ⟨z, rfl⟩ : ∃ z, so = .str z := by
          cases so with
          | str z => exact ⟨z, rfl⟩
          | _ => cases e2
        have es : sortV (.str z) = !decide (z = "text") := by
          show (nameS z && !decide (z = "text")) = _
          rw [show nameS z = true from e2]
          rfl
        have e : decide (V.str z = V.str "text") = decide (z = "text") := decide_eq_decide.mpr ⟨fun h => V.str.inj h, fun h => by rw [h]⟩
        refine ⟨_, rfl, rfl, _, rfl, ?_⟩
        rw [e]
        cases e3 : decide (z = "text") with
        | true =>
          refine iteT (wr _ H2 ?_ s12)
          rw [d1, es, e3]
          rfl
        | false =>
          refine iteF ?_
          have d2 : dueV n (.str z) kvs = restV kvs := by
            rw [d1, es, e3]
            rfl
          obtain ⟨rs, hrow, hp⟩ := row.same s12
          have hrl : rs.length = kvs.length := hp.length
          refine ⟨_, rfl, a, rfl, ⟨_, hrow⟩, for_list (K := K) (a := a) (xs := rs.map V.ref) (fun i σ H' => ∃ v1 v2 : Option V, σ = [some n, some (.str z), some (.ref a), v1, v2] ∧ Same H2 H' ∧ ∀ j y, j < i → kvs[j]? = some y → (!goodP y) = false)
            ⟨_, _, rfl, Same.refl H2, fun j y hj => by omega⟩ (fun i σ H' _ ⟨_, _, _, s', _⟩ => s'.seq hrow) ?_ ?_⟩
          · rintro i y σ H3 hi ⟨v1, v2, rfl, s3, pre⟩
            obtain ⟨r, er, rfl⟩ : ∃ r, rs[i]? = some r ∧ y = V.ref r := by
              rw [List.getElem?_map] at hi
              cases q : rs[i]? with
              | none => rw [q] at hi; cases hi
              | some r => rw [q] at hi; exact ⟨r, rfl, (Option.some.inj hi).symm⟩
            obtain ⟨p, ep, hr3⟩ := LiI.paired_get hp er
            have hpm : p ∈ kvs := List.mem_of_getElem? ep
            obtain ⟨zs, ek, hz, ho⟩ := ok.key p hpm
            have ekv : kV p.1 = .str zs := by rw [ek]; rfl
            have hgood : goodP p = (nameS zs && takenV p.2) := by
              unfold goodP
              rw [ek]
            have bad : goodP p = false → dueV n (.str z) kvs = some (kV p.1) := fun hb => by
              rw [d2]
              unfold restV badK
              rw [find_pre ep pre (by rw [hb]; rfl)]
              rfl
            have s13 := s12.trans s3
            refine ⟨r, _, rfl, SqL.of (s3 _ _ hr3), rfl, _, _, rfl, ?_⟩
            refine ⟨_, _, rfl, rfl, ?_⟩
            refine ⟨_, rfl, _, rfl, .inl ⟨zs, ekv, hz, ho⟩, fun H4 s4 => ⟨_, rfl, ?_⟩⟩
            rw [show nameV (kV p.1) = nameS zs by rw [ekv]; rfl]
            cases hnm : nameS zs with
            | false =>
              refine iteT (iteT ⟨_, rfl, ?_⟩)
              exact wr _ H4 (bad (by rw [hgood, hnm]; rfl)) (s13.trans s4)
            | true =>
              refine iteF ?_
              refine ⟨_, rfl, p.2, rfl, Val.same (ok.val p hpm) (s13.trans s4), fun H5 s5 => ⟨_, rfl, ?_⟩⟩
              cases ht : takenV p.2 with
              | false =>
                refine iteT ⟨_, rfl, ?_⟩
                exact wr _ H5 (bad (by rw [hgood, hnm, ht]; rfl)) ((s13.trans s4).trans s5)
              | true =>
                refine iteF ?_
                refine ⟨_, _, rfl, (s3.trans s4).trans s5, fun j y hj ey => ?_⟩
                rcases Nat.lt_succ_iff_lt_or_eq.mp hj with q | q
                · exact pre j y q ey
                · rw [q, ep] at ey
                  cases ey
                  rw [hgood, hnm, ht]
                  rfl
          · rintro σ H3 ⟨v1, v2, rfl, s3, pre⟩
            rw [List.length_map, hrl] at pre
            have nob : badK kvs = none := by
              unfold badK
              rw [find_all pre]
              rfl
            have d3 : dueV n (.str z) kvs = if 5 < kvs.length then some (.str "size") else none := by
              rw [d2]
              unfold restV
              rw [nob]
            have s13 := s12.trans s3
            refine ⟨_, rfl, a, _, rfl, .inl (s3.seq hrow), _, _, rfl, rfl, _, rfl, ?_⟩
            have el : ((rs.map V.ref).length : Int) = (kvs.length : Int) := by rw [List.length_map, hrl]
            rw [el]
            refine ite2 (fun h5 => ?_) (fun h5 => ?_)
            · have h5' : 5 < kvs.length := by have := of_decide_eq_true h5; omega
              exact wr _ H3 (by rw [d3, if_pos h5']) s13
            · have h5' : ¬ 5 < kvs.length := fun q => h5 (decide_eq_true (by omega))
              refine ⟨by decide, fun p hp => k _ p (same_upd s13 (s13.free hp)) (s13.free hp) ?_⟩
              unfold dueT
              rw [d3, if_neg h5']
              exact upd_same
end
end K1

namespace K1
open PySem L2
section
variable {P : Program} {w : World} {K : PySem.W.Frag} {mg : Str → Option Value} {base : Heap}
def spDoubled : Sp := fun vs H Q _ => ∃ k : Nat, k < 2 ∧ vs = [.int (k : Int)] ∧ ∀ H' p xs, Same H H' → H p = none → H' p = some (if k = 0 then .tup xs else .lst xs) → Q (.ref p) H'
theorem scDoubled : FnScope ["_law_kind_of", "_law_found", "_law_n"] ["_law_kind_of"] (defScope sDoubled) := ⟨rfl, rfl, rfl, by decide +kernel, rfl, by decide +kernel, by decide +kernel⟩
theorem ok_doubled {f : Addr} {fd : FuncData} (F : Fun K "_law_doubled" "_law_doubled" sDoubled f fd) (gR : mg "range" = none) : FnOk P w K mg base CX0 1 f fd ["_law_kind_of"] spDoubled := by
  refine F.ok scDoubled (fun vs H Q E h => ?_) (fun cdv A outer s H vs Q E hr h => ?_)
  · obtain ⟨k, _, rfl, _⟩ := h
    rfl
  · obtain ⟨k, hk, rfl, q⟩ := h
    refine ⟨_, pss_cons (ps_set (i := 1) scDoubled.nd rfl (Or.inl rfl) (pe_tup pa_nil))
      (pss_cons (ps_for PassesOwn.never rfl (pi_range1 rfl gR (pa_cons pe_int pa_nil)) (pg_name (i := 2) scDoubled.nd rfl (Or.inl rfl))
        (pss_one (ps_set (i := 1) scDoubled.nd rfl (Or.inl rfl) (pe_ix ix_list (pe_lst (pa_cons (pe_tup (pa_cons (pv 1) (pa_cons (pv 1) pa_nil))) (pa_cons (pe_lst (pa_cons (pv 1) (pa_cons (pv 1) pa_nil))) pa_nil))) (pv 0) (fun _ _ => rfl)))))
      (pss_one (ps_ret (pv 1)))), ?_⟩
    refine ⟨by decide, fun p0 hp0 => ?_⟩
    refine ⟨40, rfl, by decide, by decide, for_range (n := 40) (fun i σ H' => ∃ (v2 : Option V) (p : Addr), σ = [some (.int (k : Int)), some (.ref p), v2] ∧ Same H H' ∧ H p = none ∧ (0 < i → ∃ xs, H' p = some (if k = 0 then .tup xs else .lst xs)))
      ⟨_, p0, rfl, same_upd (Same.refl H) hp0, hp0, fun h => by omega⟩ ?_ ?_⟩
    · rintro i σ H1 hi ⟨v2, p, rfl, s1, hp, hx⟩
      refine ⟨_, rfl, _, rfl, (by show 2 ≤ sizeLine; decide), fun t ht => ?_⟩
      refine ⟨_, rfl, _, rfl, (by show 2 ≤ sizeLine; decide), fun l hl => ?_⟩
      refine ⟨by show 2 ≤ sizeLine; decide, fun r hr' => ?_⟩
      generalize eH4 : upd (upd (upd H1 t (.tup [.ref p, .ref p])) l (.lst [.ref p, .ref p])) r (.lst [.ref t, .ref l]) = H4
      have a1 : (upd H1 t (.tup [.ref p, .ref p])) t = some (.tup [.ref p, .ref p]) := upd_same
      have a2 : (upd (upd H1 t (.tup [.ref p, .ref p])) l (.lst [.ref p, .ref p])) t = some (.tup [.ref p, .ref p]) := by rw [upd_ne (ne_of_none a1 hl)]; exact a1
      have a3 : H4 t = some (.tup [.ref p, .ref p]) := by rw [← eH4, upd_ne (ne_of_none a2 hr')]; exact a2
      have b2 : (upd (upd H1 t (.tup [.ref p, .ref p])) l (.lst [.ref p, .ref p])) l = some (.lst [.ref p, .ref p]) := upd_same
      have b3 : H4 l = some (.lst [.ref p, .ref p]) := by rw [← eH4, upd_ne (ne_of_none b2 hr')]; exact b2
      have c3 : H4 r = some (.lst [.ref t, .ref l]) := by rw [← eH4, upd_same]
      have s2 : Same H1 (upd H1 t (.tup [.ref p, .ref p])) := same_upd (Same.refl H1) ht
      have s3 : Same H1 (upd (upd H1 t (.tup [.ref p, .ref p])) l (.lst [.ref p, .ref p])) := same_upd s2 (s2.free hl)
      have s4 : Same H1 H4 := by rw [← eH4]; exact same_upd s3 (s3.free hr')
      have nt : H t = none := s1.free ht
      have nl : H l = none := s1.free (s2.free hl)
      match k, hk with
      | 0, _ =>
        refine ⟨_, rfl, r, _, _, .ref t, rfl, rfl, SqL.of c3, atI_nat (j := 0) rfl, ?_⟩
        exact ⟨_, t, rfl, s1.trans s4, nt, fun _ => ⟨_, a3⟩⟩
      | 1, _ =>
        refine ⟨_, rfl, r, _, _, .ref l, rfl, rfl, SqL.of c3, atI_nat (j := 1) rfl, ?_⟩
        exact ⟨_, l, rfl, s1.trans s4, nl, fun _ => ⟨_, b3⟩⟩
    · rintro σ H1 ⟨v2, p, rfl, s1, hp, hx⟩
      obtain ⟨xs, e⟩ := hx (by decide)
      exact ⟨_, rfl, q _ p xs s1 hp e⟩
end
end K1

namespace K1
open PySem PySem.Spec PyProof.Rows PySem.SeqAt L2
/-! ### == and != of instances that are equal to themselves only -/
structure PlainEq (K : PySem.W.Frag) (C : Addr) : Prop where
  mo : PySem.W.mroIn K C (.type "object") = some true
  eq : PySem.W.findIn K (.ref C) "__eq__" = some (some (.builtin "object.__eq__"))
  ne : PySem.W.findIn K (.ref C) "__ne__" = some (some (.builtin "object.__ne__"))
/-- object.__eq__ of x and u hands r back -/
def Hands (prog : Program) (w : World) (s : Shared) (x : Addr) (u r : Value) : Prop := ∀ (A : Around) (E : Value → Shared → Prop) (Q : Value → Shared → Prop), Q r s → wpAny (model prog w) A (call (.builtin "object.__eq__") [.ref x, u]) Q E s
/-- the same thing? -/
def Apart (s : Shared) (u v : Value) (b : Bool) : Prop := ∀ (M : Model) (A : Around) (E : Value → Shared → Prop) (R : Bool → Shared → Prop), R b s → wpAny M A (isSame u v) R E s
section
variable {prog : Program} {w : World} {A : Around} {E : Value → Shared → Prop} {s : Shared} {K : PySem.W.Frag} {x y C : Addr} {ox oy : Obj} {od oe : Option Obj} {u : Value}
theorem same_ap {M : Model} {u v : Value} {b : Bool} {R : Bool → Shared → Prop} (ap : Apart s u v b) (h : R b s) : wpAny M A (isSame u v) R E s := ap M A E R h
theorem entry_of {M : Model} {b : Bool} {Q : Fin → Shared → Prop} (ap : Apart s (.ref x) u b) (hq : Q (.done (.ret (if b = true then .bool true else .notImplemented))) s) : wpAny M A (Builtin.«object.__eq__» ⟨[.ref x, u], []⟩) Q E s := by
  unfold Builtin.«object.__eq__»
  repeat (first | with_reducible refine same_ap ap ?_ | wp_step)
  cases b
  · repeat (first | exact hq | wp_step)
  · repeat (first | exact hq | wp_step)
theorem hands {b : Bool} (X : K.In s.heap) (I : PySem.W.InstAt s.heap x ox C od) (T : PlainEq K C) (ap : Apart s (.ref x) u b) : Hands prog w s x u (if b = true then .bool true else .notImplemented) := fun A E Q hq =>
  wpAny_call (codeAny_call_builtin F.cmp_object.eq.plain F.cmpEntry_eq (PySem.W.check_slot F.cmpKind_eq F.cmpSplit_eq (I.type.andThen (PySem.W.looks_mroIn X T.mo)) (F.cmpArgs_eq _ _) (entry_of ap hq)))
theorem ifB_ne {M : Model} {args : List Value} {Q : Option Value → Shared → Prop} (X : K.In s.heap) (I : PySem.W.InstAt s.heap x ox C od) (hs : PySem.W.findIn K (.ref C) "__ne__" = some (some (.builtin "object.__ne__")))
    (h : wpAny M A (call (.builtin "object.__ne__") (.ref x :: args)) (fun v => Q (some v)) E s) : wpAny M A (callSpecialIfBound? (.ref x) "__ne__" args) Q E s := by
  simp only [callSpecialIfBound?, bindSpecialIfBound?]
  refine wpAny_holding (wpAny_bind (wpAny_bind (wpAny_bind (I.type.here ((PySem.W.looks_findIn X hs).here ?_)))))
  refine wpAny_bind (wpAny_askSetting (wpAny_ite ?_))
  have fin : wpAny M A (call (.builtin "object.__ne__") ([.ref x] ++ args) >>= fun v => pure (some v)) Q E s := wpAny_bind (wpAny_mono h (fun v s' h' => wpAny_pure h') fun _ _ h' => h')
  split
  · exact wpAny_bind (wpAny_of_eq (F.cmp_object.ne.bind _) (wpAny_pure (by exact fin)))
  · exact wpAny_tryCatch (wpAny_bind (wpAny_of_eq (F.cmp_object.ne.bind _) (wpAny_pure (by exact fin))))
theorem ifB_eq {b : Bool} {Q : Option Value → Shared → Prop} (X : K.In s.heap) (I : PySem.W.InstAt s.heap x ox C od) (T : PlainEq K C) (ap : Apart s (.ref x) u b) (hq : Q (some (if b = true then .bool true else .notImplemented)) s) :
    wpAny (model prog w) A (callSpecialIfBound? (.ref x) "__eq__" [u]) Q E s := HN.ifBound_objEq X I T.eq (hands X I T ap _ _ _ hq)
theorem ifB_eqT {Q : Option Value → Shared → Prop} (X : K.In s.heap) (I : PySem.W.InstAt s.heap x ox C od) (T : PlainEq K C) (ap : Apart s (.ref x) u true) (hq : Q (some (.bool true)) s) : wpAny (model prog w) A (callSpecialIfBound? (.ref x) "__eq__" [u]) Q E s := ifB_eq X I T ap hq
theorem ifB_eqF {Q : Option Value → Shared → Prop} (X : K.In s.heap) (I : PySem.W.InstAt s.heap x ox C od) (T : PlainEq K C) (ap : Apart s (.ref x) u false) (hq : Q (some .notImplemented) s) : wpAny (model prog w) A (callSpecialIfBound? (.ref x) "__eq__" [u]) Q E s := ifB_eq X I T ap hq
/-- what a trial says -/
def said (b neg : Bool) : Option Value := if b = true then some (.bool (!neg)) else none
theorem try_eq {b : Bool} {Q : Option Value → Shared → Prop} (X : K.In s.heap) (I : PySem.W.InstAt s.heap x ox C od) (T : PlainEq K C) (ap : Apart s (.ref x) u b) (hq : Q (said b false) s) : wpAny (model prog w) A (tryCompare (.ref x) "__eq__" u) Q E s := by
  unfold tryCompare
  refine wpAny_bind (HN.ifBound_objEq X I T.eq (hands X I T ap _ _ _ ?_))
  cases b
  · exact wpAny_pure hq
  · exact wpAny_pure hq
theorem entry_ne {b : Bool} {Q : Fin → Shared → Prop} (X : K.In s.heap) (I : PySem.W.InstAt s.heap x ox C od) (T : PlainEq K C) (ap : Apart s (.ref x) u b) (hu : A.units < cLine) (hq : Q (.done (.ret (if b = true then .bool false else .notImplemented))) s) :
    wpAny (model prog w) A (Builtin.«object.__ne__» ⟨[.ref x, u], []⟩) Q E s := by
  unfold Builtin.«object.__ne__»
  cases b
  · repeat (first | with_reducible refine wpAny_cRoomFor hu ?_ | with_reducible refine ifB_eqF X I T ap ?_ | wp_step)
    exact hq
  · repeat (first | with_reducible refine wpAny_cRoomFor hu ?_ | with_reducible refine ifB_eqT X I T ap ?_ | wp_step)
    exact hq
theorem try_ne {b : Bool} {Q : Option Value → Shared → Prop} (X : K.In s.heap) (I : PySem.W.InstAt s.heap x ox C od) (T : PlainEq K C) (ap : Apart s (.ref x) u b) (hu : A.units + 1 < cLine) (hq : Q (said b true) s) : wpAny (model prog w) A (tryCompare (.ref x) "__ne__" u) Q E s := by
  unfold tryCompare
  refine wpAny_bind (ifB_ne X I T.ne (wpAny_call (codeAny_call_builtin F.cmp_object.ne.plain F.cmpEntry_ne (PySem.W.check_slot F.cmpKind_ne F.cmpSplit_ne (I.type.andThen (PySem.W.looks_mroIn X T.mo)) (F.cmpArgs_ne _ _) (entry_ne (A := A.in1) X I T ap hu ?_)))))
  cases b
  · exact wpAny_pure hq
  · exact wpAny_pure hq
/-- two instances of one class -/
theorem rc_eq {b : Bool} {Q : Value → Shared → Prop} (hu : A.units < cLine) (X : K.In s.heap) (I : PySem.W.InstAt s.heap x ox C od) (J : PySem.W.InstAt s.heap y oy C oe) (T : PlainEq K C) (ap : Apart s (.ref x) (.ref y) b) (aq : Apart s (.ref y) (.ref x) b) (h : Q (.bool b) s) :
    wpAny (model prog w) A (richCompare .Eq (.ref x) (.ref y)) Q E s := by
  simp only [richCompare, cmpInfo_Eq, oneThing_ref]
  refine wpAny_holding (wpAny_bind (wpAny_cRoomFor hu ?_))
  refine wpAny_bind (I.type.here ?_)
  refine wpAny_bind (J.type.here ?_)
  rw [show (Value.ref C != Value.ref C) = false from by simp]
  simp only [Bool.false_eq_true, if_false, Bool.not_false, if_true]
  refine wpAny_bind (wpAny_pure ?_)
  simp only [Bool.false_eq_true, if_false, Bool.not_false, if_true]
  refine wpAny_bind (try_eq X I T ap ?_)
  cases b
  · refine wpAny_bind (try_eq X J T aq ?_)
    exact wpAny_bind (wpAny_rule (wpAny_bind (ap _ _ _ _ (wpAny_pure h))))
  · exact wpAny_pure h
theorem rc_ne {b : Bool} {Q : Value → Shared → Prop} (hu : A.units + 1 < cLine) (X : K.In s.heap) (I : PySem.W.InstAt s.heap x ox C od) (J : PySem.W.InstAt s.heap y oy C oe) (T : PlainEq K C) (ap : Apart s (.ref x) (.ref y) b) (aq : Apart s (.ref y) (.ref x) b) (h : Q (.bool (!b)) s) :
    wpAny (model prog w) A (richCompare .NotEq (.ref x) (.ref y)) Q E s := by
  simp only [richCompare, cmpInfo_NotEq, oneThing_ref]
  refine wpAny_holding (wpAny_bind (wpAny_cRoomFor (Nat.lt_of_succ_lt hu) ?_))
  refine wpAny_bind (I.type.here ?_)
  refine wpAny_bind (J.type.here ?_)
  rw [show (Value.ref C != Value.ref C) = false from by simp]
  simp only [Bool.false_eq_true, if_false, Bool.not_false, if_true]
  refine wpAny_bind (wpAny_pure ?_)
  simp only [Bool.false_eq_true, if_false, Bool.not_false, if_true]
  refine wpAny_bind (try_ne X I T ap hu ?_)
  cases b
  · refine wpAny_bind (try_ne X J T aq hu ?_)
    exact wpAny_bind (wpAny_rule (wpAny_bind (ap _ _ _ _ (wpAny_pure h))))
  · exact wpAny_pure h
theorem sub_str : PySem.W.subIn K (.type "str") (.ref C) = some false := by
  have e : fastBuiltinMro "str" = some [.type "str", .type "object"] := by decide +kernel
  show (fastBuiltinMro "str").map (·.contains (.ref C)) = some false
  rw [e]
  first
    | rfl
    | simp
theorem str_ne_inst (b : Str) (t : Tok) (x dx C : Addr) : Meets (Builtin.«str.__ne__» ⟨[.str b t, .ref x], []⟩) (fun _ R s => s.heap.get? x = some (PySem.W.instObj C dx) ∧ R (.ok (.ret .notImplemented)) s) :=
  .of_wp fun prog w A R s h => by
    obtain ⟨hp, g, d, tk, os⟩ := s
    obtain ⟨hl, h⟩ := h
    have hl' := hl
    unfold PySem.W.instObj at hl'
    wp_walk using AutoSeq1.wpAny_loadPart' hl', wpAny_load hl'
    exact ⟨_, rfl, h⟩
/-- an instance and a text -/
theorem rc_ne_str {z : Str} {t : Tok} {dx : Addr} {Q : Value → Shared → Prop} (hu : A.units + 1 < cLine) (X : K.In s.heap) (I : PySem.W.InstAt s.heap x (PySem.W.instObj C dx) C od) (T : PlainEq K C) (h : Q (.bool true) s) :
    wpAny (model prog w) A (richCompare .NotEq (.ref x) (.str z t)) Q E s := by
  have ap : Apart s (.ref x) (.str z t) false := fun M A E R h => wpAny_of_eq (rfl : isSame (.ref x) (.str z t) = pure false) h
  simp only [richCompare, cmpInfo_NotEq, oneThing_ref]
  refine wpAny_holding (wpAny_bind (wpAny_cRoomFor (Nat.lt_of_succ_lt hu) ?_))
  refine wpAny_bind (I.type.here ?_)
  refine wpAny_bind (wpAny_typeOf (typeIs_str s z t) ?_)
  rw [show (Value.ref C != Value.type "str") = true from by simp]
  simp only [Bool.false_eq_true, if_false, Bool.not_false, if_true]
  refine wpAny_bind ((PySem.W.looks_subIn X sub_str).here ?_)
  simp only [Bool.false_eq_true, if_false, Bool.not_false, if_true]
  refine wpAny_bind (try_ne X I T ap hu ?_)
  refine wpAny_bind (wpAny_tryCompare_declines (typeIs_str s z t) F.slot_str_ne_refl (call_meets F.slot_str_ne_refl (typeIs_str s z t) F.entry_str_ne (F.args_str_ne_2 _ _) (str_ne_inst z t x dx C) ⟨I.at_, rfl, ?_⟩))
  exact wpAny_bind (wpAny_rule (wpAny_bind (ap _ _ _ _ (wpAny_pure h))))
end
end K1

namespace K1
open PySem PySem.Spec PyProof.Rows L2
section
variable {X : Cx}
/-- two instances of one class that has no comparing of its own -/
def rEqI (K : PySem.W.Frag) (g : Bool → Bool) : R2 := fun x y H Q => ∃ (a b C dx dy : Addr) (fs gs : List (Str × V)), x = .ref a ∧ y = .ref b ∧ H a = some (.ins C dx fs) ∧ H b = some (.ins C dy gs) ∧ PlainEq K C ∧ Q (.bl (g (decide (a = b)))) H
theorem apart_ins {pins : List (Addr × Obj)} {σ : L2.St} {H : Hp} {s : Shared} {a b C D dx dy : Addr} {fs gs : List (Str × V)} (I : L2.Inv X pins σ H s) (ha : H a = some (.ins C dx fs)) (hb : H b = some (.ins D dy gs)) : Apart s (.ref a) (.ref b) (decide (a = b)) := fun M A E R h => by
  by_cases q : a = b
  · subst q
    rw [decide_eq_true rfl] at h
    exact wpAny_isSame_ref_self h
  · rw [decide_eq_false q] at h
    obtain ⟨_, O, _⟩ := ins_get I.hok ha
    obtain ⟨_, O2, _⟩ := ins_get I.hok hb
    exact wpAny_isSame_ref_other q O.obj O2.obj (by unfold PySem.W.instObj; intro z; cases z) h
theorem op_eqI (hu : X.A.units + 64 < cLine) : OpR X (compareOp .Eq) (rEqI X.K id) := by
  intro pins s σ H x y v u Q I rx ry h
  obtain ⟨a, b, C, dx, dy, fs, gs, rfl, rfl, ha, hb, T, q⟩ := h
  cases rx
  cases ry
  obtain ⟨_, O, _⟩ := ins_get I.hok ha
  obtain ⟨_, O2, _⟩ := ins_get I.hok hb
  obtain ⟨_, J, _⟩ := O.look
  obtain ⟨_, J2, _⟩ := O2.look
  have aq := apart_ins I hb ha
  rw [show decide (b = a) = decide (a = b) from decide_eq_decide.mpr eq_comm] at aq
  exact rc_eq (by omega) I.kIn J J2 T (apart_ins I ha hb) aq ⟨.bl _, H, I, rfl, q⟩
theorem op_neI (hu : X.A.units + 64 < cLine) : OpR X (compareOp .NotEq) (rEqI X.K not) := by
  intro pins s σ H x y v u Q I rx ry h
  obtain ⟨a, b, C, dx, dy, fs, gs, rfl, rfl, ha, hb, T, q⟩ := h
  cases rx
  cases ry
  obtain ⟨_, O, _⟩ := ins_get I.hok ha
  obtain ⟨_, O2, _⟩ := ins_get I.hok hb
  obtain ⟨_, J, _⟩ := O.look
  obtain ⟨_, J2, _⟩ := O2.look
  have aq := apart_ins I hb ha
  rw [show decide (b = a) = decide (a = b) from decide_eq_decide.mpr eq_comm] at aq
  exact rc_ne (by omega) I.kIn J J2 T (apart_ins I ha hb) aq ⟨.bl _, H, I, rfl, q⟩
/-- an instance against a text -/
def rNeIS (K : PySem.W.Frag) : R2 := fun x y H Q => ∃ (a C dx : Addr) (fs : List (Str × V)) (z : Str), x = .ref a ∧ y = .str z ∧ H a = some (.ins C dx fs) ∧ PlainEq K C ∧ Q (.bl true) H
theorem op_neIS (hu : X.A.units + 64 < cLine) : OpR X (compareOp .NotEq) (rNeIS X.K) := by
  intro pins s σ H x y v u Q I rx ry h
  obtain ⟨a, C, dx, fs, z, rfl, rfl, ha, T, q⟩ := h
  cases rx
  obtain ⟨t, rfl⟩ := ry
  obtain ⟨_, O, _⟩ := ins_get I.hok ha
  obtain ⟨_, J, _⟩ := O.look
  exact rc_ne_str (by omega) I.kIn J T ⟨.bl _, H, I, rfl, q⟩
end
@[simp] theorem x_rEqI {K : PySem.W.Frag} {g : Bool → Bool} {x y : V} {H : Hp} {Q : VK} : rEqI K g x y H Q = ∃ (a b C dx dy : Addr) (fs gs : List (Str × V)), x = .ref a ∧ y = .ref b ∧ H a = some (.ins C dx fs) ∧ H b = some (.ins C dy gs) ∧ PlainEq K C ∧ Q (.bl (g (decide (a = b)))) H := rfl
/-! ### a classmethod called with keywords alone -/
def tCMethK (C : Addr) (sp : Sp) (gV : List V → List V → List V) (E : XK) (ta : TE) (tk : TA) : TE := fun σ H Q => ta σ H fun x H1 => x = .ref C ∧ tk σ H1 fun zs H2 => sp (gV [.ref C] zs) H2 Q E
section
variable {X : Cx} {CX : CXT} {k : Nat} {C p g : Addr} {mc : Value} {fd : FuncData} {ps ks : List Str} {sp : Sp} {E : XK} {o : Expr} {kws : List Keyword} {m : Str} {pos apos : Pos} {ta : TE} {tk : TA} {pl : Sem Bool} {g2 : List Value → List Value → List Value} {gV : List V → List V → List V}
theorem run_cmK {pins : List (Addr × Obj)} {σ : L2.St} {H : Hp} {s : Shared} {q : Addr} {Q : VK} {ws : List Value} {zs : List V} (F : FnOk X.prog X.w X.K X.mg X.base CX k g fd ps sp) (hb : KBinds X.K fd ps ks g2 gV) (hr : Room k X.A) (hx : Passes CX X E)
    (I : L2.Inv X ((q, PySem.W.methodObj (.ref g) (.ref C)) :: pins) σ H s) (rz : Vals zs ws) (h : sp (gV [.ref C] zs) H Q E) : wpAny (model X.prog X.w) X.A (call (.ref q) [] (ks.zip ws)) (EP X pins σ Q) X.xe s := by
  have r2 := hb.rel (vs := [V.ref C]) (us := [Value.ref C]) (.cons rfl .nil) rz
  have hl : (g2 [Value.ref C] ws).length = ps.length := by rw [← r2.length]; exact F.len _ _ _ _ h
  have z : wpAny (model X.prog X.w) X.A (call (.ref q) [] (ks.zip ws)) (EP X ((q, PySem.W.methodObj (.ref g) (.ref C)) :: pins) σ Q) X.xe s := by
    refine wpAny_call (PySem.W.method_call (ClX.pin_at I) (codeAny_mono (F.run X.A X.stack s H ⟨[.ref C], ks.zip ws⟩ (g2 [.ref C] ws) (gV [.ref C] zs) Q E hr I.env0 (hb.to s [.ref C] ws I.kIn hl) r2 h) fun r s' hq => ?_))
    cases r with
    | error e => exact hx _ σ H s e s' I hq
    | ok fl =>
      cases fl with
      | ret u => exact I.after hq
      | next => exact False.elim hq
      | brk => exact False.elim hq
      | cont => exact False.elim hq
  exact thn z fun _ _ y => ClX.unpinE y
theorem pe_cmethK (he : PE X o ta) (r : ClX.CRead X.K C mc) (c : ClX.CMet X.K C mc m p g) (F : FnOk X.prog X.w X.K X.mg X.base CX k g fd ps sp) (hb : KBinds X.K fd ps ks g2 gV) (hr : Room k X.A) (hx : Passes CX X E) (hkw : PK X kws tk)
    (hall : (backToKw pos (keywordEach kws X.env)).all (·.1.isSome) = true := by rfl) (hks : (backToKw pos (keywordEach kws X.env)).filterMap (·.1) = ks := by rfl)
    (hpl : ((backTo pos (starEach [] X.env)).any (·.1) || (backToKw pos (keywordEach kws X.env)).any (·.1.isNone)) = false := by rfl)
    (ht : eval (.Call (.Attribute o m apos) [] kws pos) X.env = (do
      let ov ← eval o X.env
      standAt apos.atName
      let (f, first) ← holding [ov] (getMethod ov m pl)
      callWith pos f first (backTo pos (starEach [] X.env)) (backToKw pos (keywordEach kws X.env))) := by rfl) :
    PE X (.Call (.Attribute o m apos) [] kws pos) (tCMethK C sp gV E ta tk) := by
  refine ⟨fun pins s σ H Q I h => ?_⟩
  refine PySem.W.methodCall_KW (pl := pl) (thn (he.run pins s σ H _ I h) fun u s1 ⟨x, H1, I1, rx, ex, q⟩ => ?_) ht
  subst ex
  obtain rfl : u = Value.ref C := rx
  refine ClX.getmethcm_ok I1 r c fun s2 I2 => ?_
  refine PySem.W.callWith_of (P := PySem.W.MethP X.K s1.heap.objs.size g (.ref C)) hpl (PySem.W.keeps_M c.fi) (evalArgs_kw2_nil hall (thn (hkw.run pos _ s2 σ H1 _ I2 q) fun ws s3 ⟨zs, H2, I3, rz, q2⟩ => ⟨⟨ClX.pin_at I3, I3.kIn⟩, ?_⟩))
  rw [hks]
  exact run_cmK F hb hr hx I3 rz q2
end
end K1

namespace K1
open PySem L2
open LamX (ExtN Tabs TabS TabB LamS lamS_by lamSB)
/-! ### what stands while tables of code grow -/
theorem rd_ext {H H' : Hp} {a : Addr} {xs : List V} (e : ExtN H H') (h : Rd H a (.lst xs)) : Rd H' a (.lst xs) := by
  rcases h with h | ⟨o, h⟩
  · exact .inl (e _ _ h fun ps q => by cases q)
  · exact .inr ⟨o, e _ _ h fun ps q => by cases q⟩
theorem seq_ext {K : PySem.W.Frag} {H H' : Hp} {a : Addr} {xs : List V} (e : ExtN H H') (h : SqL K H a xs) : SqL K H' a xs := by
  rcases h with h | h
  · exact .inl (rd_ext e h)
  · exact .inr h
/-- a text, or another thing whose own object stands -/
def ValB (K : PySem.W.Frag) (H : Hp) (v : V) : Prop := (∃ z, v = .str z ∧ z.length ≤ 1000 ∧ PyData.strOk z = true) ∨ ((∀ z, v ≠ .str z) ∧ (∀ a, v = .ref a → ∃ o, H a = some o ∧ ∀ ps, o ≠ .tbl ps) ∧ ∃ t, TyX K H v t ∧ PySem.W.kitOne K t (.type "str") = some false)
theorem ValB.val {K : PySem.W.Frag} {H : Hp} {v : V} (h : ValB K H v) : Val K H v := by
  rcases h with h | ⟨h1, h2, h3⟩
  · exact .inl h
  · exact .inr ⟨h1, fun a e => let ⟨o, q, _⟩ := h2 a e; ⟨o, q⟩, h3⟩
theorem ValB.ext {K : PySem.W.Frag} {H H' : Hp} {v : V} (h : ValB K H v) (e : ExtN H H') : ValB K H' v := by
  rcases h with h | ⟨h1, h2, t, h3, h4⟩
  · exact .inl h
  · refine .inr ⟨h1, fun a q => ?_, t, TyX.keep h3 fun a o q1 q2 => ?_, h4⟩
    · obtain ⟨o, q1, q2⟩ := h2 a q
      exact ⟨o, e _ _ q1 q2, q2⟩
    · obtain ⟨o', q3, q4⟩ := h2 a q1
      rw [q2] at q3
      cases q3
      exact e _ _ q2 q4
theorem ValB.same {K : PySem.W.Frag} {H H' : Hp} {v : V} (h : ValB K H v) (e : Same H H') : ValB K H' v := h.ext (ExtN.of e)
theorem RowAt.ext {K : PySem.W.Frag} {H H' : Hp} {a : Addr} {kvs : List (Key × V)} (h : RowAt K H a kvs) (e : ExtN H H') : RowAt K H' a kvs := by
  obtain ⟨rs, e1, e2⟩ := h
  exact ⟨rs, seq_ext e e1, Paired.mapP e2 fun t q z => e _ _ z fun ps q => by cases q⟩
structure KvB (K : PySem.W.Frag) (H : Hp) (kvs : List (Key × V)) : Prop where
  key : ∀ p ∈ kvs, ∃ z, p.1 = .inr z ∧ z.length ≤ 1000 ∧ PyData.strOk z = true
  val : ∀ p ∈ kvs, ValB K H p.2
  len : kvs.length ≤ 1000
  nd : (kvs.map Prod.fst).Nodup
theorem KvB.ext {K : PySem.W.Frag} {H H' : Hp} {kvs : List (Key × V)} (h : KvB K H kvs) (e : ExtN H H') : KvB K H' kvs := ⟨h.key, fun p hp => (h.val p hp).ext e, h.len, h.nd⟩
theorem KvB.same {K : PySem.W.Frag} {H H' : Hp} {kvs : List (Key × V)} (h : KvB K H kvs) (e : Same H H') : KvB K H' kvs := h.ext (ExtN.of e)
theorem KvB.ok {K : PySem.W.Frag} {H : Hp} {kvs : List (Key × V)} (h : KvB K H kvs) : KvOk K H kvs := ⟨h.key, fun p hp => (h.val p hp).val, h.len⟩
/-! ### what is told is made of texts -/
theorem dueT_strs {K : PySem.W.Frag} {H : Hp} {n s : V} {kvs : List (Key × V)} (ok : KvOk K H kvs) : ∃ l : List Str, dueT n s kvs = l.map V.str ∧ l.length ≤ 2 ∧ ∀ x ∈ l, PyData.strOk x = true := by
  have two : ∀ k : Str, PyData.strOk k = true → ∃ l : List Str, ([V.str "wrong", V.str k] : List V) = l.map V.str ∧ l.length ≤ 2 ∧ ∀ x ∈ l, PyData.strOk x = true := fun k hk =>
    ⟨["wrong", k], rfl, by show 2 ≤ 2; decide, fun x hx => by
      rcases List.mem_cons.mp hx with e | hx
      · rw [e]; decide +kernel
      · rcases List.mem_cons.mp hx with e | hx
        · rw [e]; exact hk
        · cases hx⟩
  unfold dueT
  rw [dueV_eq]
  by_cases h1 : nameV n = false
  · rw [if_pos h1]
    exact two "name" (by decide +kernel)
  · rw [if_neg h1]
    by_cases h2 : sortV s = false
    · rw [if_pos h2]
      exact two "sort" (by decide +kernel)
    · rw [if_neg h2]
      unfold restV badK
      cases e : kvs.find? (fun p => !goodP p) with
      | some p =>
        obtain ⟨z, ez, _, hz⟩ := ok.key p (List.mem_of_find?_eq_some e)
        have ek : kV p.1 = .str z := by rw [ez]; rfl
        show ∃ l : List Str, ([V.str "wrong", kV p.1] : List V) = l.map V.str ∧ l.length ≤ 2 ∧ ∀ x ∈ l, PyData.strOk x = true
        rw [ek]
        exact two z hz
      | none =>
        show ∃ l : List Str, (match (if 5 < kvs.length then some (V.str "size") else none) with | some k => [V.str "wrong", k] | none => []) = l.map V.str ∧ l.length ≤ 2 ∧ ∀ x ∈ l, PyData.strOk x = true
        by_cases h5 : 5 < kvs.length
        · rw [if_pos h5]
          exact two "size" (by decide +kernel)
        · rw [if_neg h5]
          exact ⟨[], rfl, Nat.zero_le _, fun x hx => by cases hx⟩
theorem layStrs : ∀ l : List Str, (∀ x ∈ l, PyData.strOk x = true) → PyData.canLayAll0 (l.map PyData.str) = true := fun l => by
  induction l with
  | nil => intro _; rfl
  | cons i l ih =>
    intro h
    simp [PyData.canLayAll0, PyData.canLay0, ih (fun x hx => h x (List.mem_cons_of_mem _ hx)), h i (List.mem_cons_self ..)]
theorem depStrs : ∀ l : List Str, PyData.depthAll (l.map PyData.str) = 0 := fun l => by
  induction l with
  | nil => rfl
  | cons i l ih => simp [PyData.depthAll, PyData.depth, ih]
theorem shTup {l : List Str} (h : ∀ x ∈ l, PyData.strOk x = true) : SeqAt.shaped (.tuple (l.map PyData.str)) = true := by
  simp [SeqAt.shaped, PyData.canLay0, PyData.depth, layStrs l h, depStrs]
/-- a list of tuples of texts -/
theorem shLT {ls : List (List Str)} (h : ∀ l ∈ ls, ∀ x ∈ l, PyData.strOk x = true) : SeqAt.shaped (.list (ls.map fun l => .tuple (l.map PyData.str))) = true := by
  have h1 : ∀ ls : List (List Str), (∀ l ∈ ls, ∀ x ∈ l, PyData.strOk x = true) → PyData.canLayAll0 (ls.map fun l => PyData.tuple (l.map PyData.str)) = true := fun ls => by
    induction ls with
    | nil => intro _; rfl
    | cons i l ih =>
      intro h
      simp [PyData.canLayAll0, PyData.canLay0, ih (fun x hx => h x (List.mem_cons_of_mem _ hx)), layStrs i (h i (List.mem_cons_self ..))]
  have h2 : ∀ ls : List (List Str), PyData.depthAll (ls.map fun l => PyData.tuple (l.map PyData.str)) ≤ 1 := fun ls => by
    induction ls with
    | nil => exact Nat.zero_le _
    | cons i l ih => 
      simp only [PyData.depthAll, PyData.depth, depStrs, List.map_cons]
      omega
  have := h2 ls
  have e : PyData.depthAll (ls.map fun l => PyData.tuple (l.map PyData.str)) + 1 ≤ 64 := by omega
  simp [SeqAt.shaped, PyData.canLay0, PyData.depth, h1 ls h]
  omega
theorem eqvNilT (l : List Str) : PyData.eqv (.tuple (l.map PyData.str)) (.tuple []) = l.isEmpty := by
  cases l <;> rfl
theorem lay_of {d : PyData} (h : SeqAt.shaped d = true) : d.canLay0 = true := by
  unfold SeqAt.shaped at h
  exact (Bool.and_eq_true _ _ ▸ h).1
/-! ### a def whose code object is known -/
structure FunC (K : PySem.W.Frag) (x qual : Str) (st : Stmt) (f : Addr) (fd : FuncData) (c : Addr) : Prop where
  ex : ∃ (oc : Value) (od : Option Addr) (kV doc pm : Value) (an : Option Addr) (ct : Value) (osl : Array (Option Value)),
    fd = PySem.W.fnOf x qual (defArgs st) (defBody st) (defScope st) .none kV doc pm an (.ref c) ct ∧ K.lookup f = some ⟨oc, od, .func fd, osl⟩ ∧ PySem.W.codeIn K (.ref c) qual = true
  kp : PySem.W.keepIn K (.ref f) = true
section
variable {P : Program} {w : World} {K : PySem.W.Frag} {mg : Str → Option Value} {base : Heap}
theorem FunC.ok {x qual : Str} {st : Stmt} {f c : Addr} {fd : FuncData} {N ps : List Str} {k : Nat} {sp : Sp} (F : FunC K x qual st f fd c) (S : FnScope N ps (defScope st)) (len : ∀ vs H Q E, sp vs H Q E → vs.length = ps.length)
    (hbody : ∀ (A : Around) (outer : List Env) (s : Shared) (H : Hp) (vs : List V) (Q : VK) (E : XK), Room k (A.deeper (PyProof.Rows.envOfC qual (defScope st) s.heap.objs.size f (.ref c))) → sp vs H Q E →
      ∃ t, PSs (cxOf CX0 P w K mg base N qual (defScope st) f (.ref c) A outer s H E).nox (defBody st) t ∧ t { nx := fun _ H' => Q .non H', rt := Q } (L2.start N vs) H) : FnOk P w K mg base CX0 (k + 1) f fd ps sp := by
  obtain ⟨oc, od, kV, doc, pm, an, ct, osl, rfl, lk, hcd⟩ := F.ex
  refine fn_of lk hcd S len fun A outer s H vs Q E hr hsp => ?_
  obtain ⟨t, h, q⟩ := hbody A outer s H vs Q E hr hsp
  exact ⟨t, h.nox, q⟩
end
theorem TFault.mono {CI : Addr} {t1 t2 : XK → Hp → VK → Prop} {H : Hp} {Q : VK} (m : ∀ E H Q, t1 E H Q → t2 E H Q) (h : TFault CI t1 H Q) : TFault CI t2 H Q := fun E' Q' a b => m _ _ _ (h E' Q' a b)
/-- a call of Form.of under _law_fault -/
theorem fault_of {K : PySem.W.Frag} {CI CF d : Addr} {n s : V} {kvs : List (Key × V)} {H : Hp} {Q : VK} (vn : Val K H n) (vs : Val K H s) (ok : SlotsOk K H d kvs) (hd : H d = some (.dK kvs))
    (k : ∀ H' p, Same H H' → H p = none → H' p = some (.tup (dueT n s kvs)) → Q (.ref p) H') : TFault CI (fun E' H' Q' => spOf K CI CF [.ref CF, n, s, .ref d] H' Q' E') H Q := by
  intro E' Q' hE hQ
  refine ⟨d, n, s, kvs, rfl, vn, vs, ok, hd, ?_⟩
  cases e : dueV n s kvs with
  | some w =>
    intro H' dd s' hdd hx
    exact hE dd w H' hx fun H'' p s'' np hp => k H'' p (s'.trans s'') (s'.free np) (by unfold dueT; rw [e]; exact hp)
  | none =>
    intro H' x s' nx F
    exact hQ _ H' fun H'' p s'' np hp => k H'' p (s'.trans s'') (s'.free np) (by unfold dueT; rw [e]; exact hp)
theorem putK_new {kvs : List (Key × V)} {k : Key} {v : V} (h : k ∉ kvs.map Prod.fst) : putK kvs k v = kvs ++ [(k, v)] := by
  unfold putK
  rw [if_neg]
  intro q
  rw [List.any_eq_true] at q
  obtain ⟨p, hp, e⟩ := q
  exact h (List.mem_map.mpr ⟨p, hp, of_decide_eq_true e⟩)
end K1

namespace K1
open PySem L2
open LamX (ExtN Tabs TabS TabB LamS lamS_by lamSB)
/-- what a call of _law_fault asks of the text -/
structure TxtA (K : PySem.W.Frag) (mg : Str → Option Value) (CI CS fA : Addr) (fdA : FuncData) : Prop where
  F : Fun K "_law_fault" "_law_fault" sFault fA fdA
  b : Binds K fdA ["_law_call"] []
  g : mg "_law_fault" = some (.ref fA)
  gS : mg "RuleengineError" = some (.ref CS)
  gI : mg "InvalidForm" = some (.ref CI)
  isi : mg "isinstance" = none
  L : ExcL K CI
  nf : PySem.W.findIn K (.ref CI) "part" = some none
  hx : PySem.W.exmOne K (.ref CI) (.ref CS) = some true
  hk : PySem.W.kitOne K (.ref CI) (.ref CI) = some true
theorem pe_fault {X : Cx} {T : List (Addr × Str)} {CI CS fA c Pt : Addr} {fdA : FuncData} {k : Nat} {params : Arguments} {body : Expr} {scope : Scope} {t : XK → TE} {p lpos pos : Pos} (A : TxtA X.K X.mg CI CS fA fdA) (hg : Gl X "_law_fault")
    (TB : TabB X.base X.mg c Pt) (hcode : X.env.code = .ref c) (hmT : (Pt, X.env.qual ++ "<lambda>") ∈ T) (hu : ∀ p ∈ T, p.1 = Pt → p.2 = X.env.qual ++ "<lambda>") (hr : Room (k + 2) X.A) (L : LamS X.env.scope scope) (hdef : defaultsOf params X.env = ([], []))
    (hbind : ∀ (q : Str) (cl : List (Str × Addr)) (pm cv ctv : Value), bindArgs (PySem.W.kla_fn "<lambda>" q params body scope cl pm cv ctv) ⟨[], []⟩ = pure [])
    (hbody : ∀ (A : Around) (outer : List Env) (s : Shared) (H : Hp) (E : XK) (f c' : Addr), Room k (A.deeper (LamX.lamEnv X scope s.heap.objs.size f c')) → PE (LamX.lamCx X A outer s H E scope f c') body (t E)) :
    PE X (.Call (.Name "_law_fault" p) [.Lambda params body scope lpos] [] pos) (LamX.tLam T (TFault CI) t) := by
  obtain ⟨oc, od, kV, doc, pm, an, cdv, ct, osl, e, lk, hcd⟩ := A.F.ex
  subst e
  exact LamX.pe_lamcall (a := "_law_call") (Ng := ["_law_call", "_law_error", "e"]) hg A.g A.F.kp lk hcd A.b scFault rfl (Or.inl rfl) (fault_gives A.gS A.gI A.isi A.L A.nf A.hx A.hk) TB hcode hmT hu hr L hdef hbind hbody
end K1

namespace K1
open PySem L2
open LamX (ExtN Tabs TabS TabB LamS lamS_by lamSB)
/-- the order of the keywords of Form.of, turned into that of its parameters -/
def gK : List Value → List Value → List Value := fun us ws => match us, ws with
  | [a], [x, y, z] => [a, z, y, x]
  | _, _ => []
def gV : List V → List V → List V := fun us ws => match us, ws with
  | [a], [x, y, z] => [a, z, y, x]
  | _, _ => []
theorem gK_rel {vs : List V} {us : List Value} {zs : List V} {ws : List Value} (h1 : Vals vs us) (h2 : Vals zs ws) : Vals (gV vs zs) (gK us ws) := by
  cases h1 with
  | nil => exact .nil
  | cons r1 t1 =>
    cases t1 with
    | cons _ _ => exact .nil
    | nil =>
      cases h2 with
      | nil => exact .nil
      | cons a t =>
        cases t with
        | nil => exact .nil
        | cons b t =>
          cases t with
          | nil => exact .nil
          | cons c t =>
            cases t with
            | nil => exact .cons r1 (.cons c (.cons b (.cons a .nil)))
            | cons _ _ => exact .nil
structure TxtR (P : Program) (K : PySem.W.Frag) (mg : Str → Option Value) (CI CS CF fN fT fS fC fI fO pO fA : Addr) (fdN fdT fdS fdC fdI fdO fdA : FuncData) : Prop where
  C : TxtC P K mg CI CF fN fT fS fC fI fdN fdT fdS fdC
  A : TxtA K mg CI CS fA fdA
  FI : Fun K "__init__" "Form.__init__" sFormInit fI fdI
  FO : Fun K "of" "Form.of" sFormOf fO fdO
  bO : Binds K fdO ["cls", "name", "sort", "slots"] []
  kO : KBinds K fdO ["cls", "name", "sort", "slots"] ["slots", "sort", "name"] gK gV
  rd : ∃ mc, ClX.CRead K CF mc ∧ ClX.CMet K CF mc "of" pO fO
  pe : PlainEq K CF
  tup : mg "tuple" = none
def NR : List Str := ["_law_word", "_law_take", "_law_row", "_law_due_here", "_law_slot_so", "_law_takes", "_law_told", "_law_one", "_law_other_one", "_law_plan"]
theorem scRight : FnScope NR ["_law_word", "_law_take", "_law_row"] (defScope sRight) := ⟨rfl, rfl, rfl, by decide +kernel, rfl, by decide +kernel, by decide +kernel⟩
def qR : Str := (PyProof.Rows.envOfC "_law_form_right" (defScope sRight) 0 0 .none).qual ++ "<lambda>"
def spRight (K : PySem.W.Frag) (T : List (Addr × Str)) : Sp := fun vs H Q _ => ∃ (a : Addr) (n s : V) (kvs : List (Key × V)), vs = [n, s, .ref a] ∧ ValB K H n ∧ ValB K H s ∧ RowAt K H a kvs ∧ KvB K H kvs ∧ Tabs T H ∧ ∀ H', ExtN H H' → Tabs T H' → Q (.bl true) H'
theorem ext_upd {H H1 H2 : Hp} {l : Addr} {u : HO} (e1 : ExtN H H1) (n : H1 l = none) (e2 : ExtN H H2) : ExtN H (upd H2 l u) := fun b o e nt => by
  have nb : b ≠ l := fun q => by
    have z := e1 b o e nt
    rw [q, n] at z
    cases z
  rw [upd_ne nb]
  exact e2 b o e nt
theorem tabs_upd {T : List (Addr × Str)} {H : Hp} {l : Addr} {u : HO} (t : Tabs T H) (h1 : ∀ ps, H l ≠ some (.tbl ps)) (h2 : ∀ c q, H l ≠ some (LamX.CodeO c q)) : Tabs T (upd H l u) := fun p hp => by
  obtain ⟨ps, a, b, c⟩ := t p hp
  refine ⟨ps, by rw [upd_ne (fun q => h1 ps (by rw [← q]; exact a))]; exact a, b, fun pos cv hcv => ?_⟩
  obtain ⟨c0, e1, e2⟩ := c pos cv hcv
  exact ⟨c0, e1, by rw [upd_ne (fun q => h2 c0 _ (by rw [← q]; exact e2))]; exact e2⟩
theorem tabs_lst {T : List (Addr × Str)} {H : Hp} {l : Addr} {u : HO} {xs : List V} (t : Tabs T H) (h : H l = some (.lst xs)) : Tabs T (upd H l u) :=
  tabs_upd t (fun ps z => by rw [h] at z; cases z) fun c q z => by
    rw [h] at z
    unfold LamX.CodeO at z
    cases z
theorem tabs_dK {T : List (Addr × Str)} {H : Hp} {l : Addr} {u : HO} {xs : List (Key × V)} (t : Tabs T H) (h : H l = some (.dK xs)) : Tabs T (upd H l u) :=
  tabs_upd t (fun ps z => by rw [h] at z; cases z) fun c q z => by
    rw [h] at z
    unfold LamX.CodeO at z
    cases z
def mkP (p : Str × Str) : Key × V := (.inr p.1, .str p.2)
def dpP (p : Str × Str) : PyData := .tuple [.str p.1, .str p.2]
theorem pairs_of {K : PySem.W.Frag} {H : Hp} {kvs : List (Key × V)} (ok : KvB K H kvs) (nb : badK kvs = none) : ∃ ps : List (Str × Str), kvs = ps.map mkP ∧ ∀ p ∈ ps, PyData.strOk p.1 = true ∧ PyData.strOk p.2 = true := by
  have good : ∀ p ∈ kvs, goodP p = true := fun p hp => by
    unfold badK at nb
    rw [Option.map_eq_none_iff, List.find?_eq_none] at nb
    have z := nb p hp
    cases q : goodP p with
    | true => rfl
    | false => rw [q] at z; exact absurd rfl z
  have each : ∀ p ∈ kvs, ∃ q : Str × Str, p = mkP q ∧ PyData.strOk q.1 = true ∧ PyData.strOk q.2 = true := fun p hp => by
    obtain ⟨z, ez, _, oz⟩ := ok.key p hp
    have g := good p hp
    rcases ok.val p hp with ⟨v, ev, _, ov⟩ | ⟨h1, _⟩
    · exact ⟨(z, v), Prod.ext ez ev, oz, ov⟩
    · exfalso
      unfold goodP at g
      rw [Bool.and_eq_true] at g
      have t := g.2
      cases e : p.2 with
      | str v => exact h1 v e
      | _ => rw [e] at t; cases t
  clear good nb ok
  induction kvs with
  | nil => exact ⟨[], rfl, fun p hp => by cases hp⟩
  | cons p l ih =>
    obtain ⟨q, e, o1, o2⟩ := each p (List.mem_cons_self ..)
    obtain ⟨ps, e2, o3⟩ := ih fun p hp => each p (List.mem_cons_of_mem _ hp)
    refine ⟨q :: ps, by rw [e, e2]; rfl, fun r hr => ?_⟩
    rcases List.mem_cons.mp hr with z | z
    · rw [z]; exact ⟨o1, o2⟩
    · exact o3 r z
theorem dpPairs {K : PySem.W.Frag} {H : Hp} : ∀ {ps : List (Str × Str)} {ts : List Addr}, Paired (fun (t : Addr) (q : Key × V) => H t = some (.tup [kV q.1, q.2])) ts (ps.map mkP) → DpAll K H (ts.map V.ref) (ps.map dpP)
  | [], _, h => by
    cases h
    exact .nil
  | p :: ps, _, h => by
    cases h with
    | cons a t => exact .cons (.tup (SqT.of a) (.cons (.str _) (.cons (.str _) .nil))) (dpPairs t)
theorem shForm {a b : Str} {ps : List (Str × Str)} (ha : PyData.strOk a = true) (hb : PyData.strOk b = true) (h : ∀ p ∈ ps, PyData.strOk p.1 = true ∧ PyData.strOk p.2 = true) : SeqAt.shaped (.list [.str a, .str b, .tuple (ps.map dpP)]) = true := by
  have h1 : ∀ ps : List (Str × Str), (∀ p ∈ ps, PyData.strOk p.1 = true ∧ PyData.strOk p.2 = true) → PyData.canLayAll0 (ps.map dpP) = true := fun ps => by
    induction ps with
    | nil => intro _; rfl
    | cons i l ih =>
      intro h
      simp [PyData.canLayAll0, PyData.canLay0, dpP, ih (fun x hx => h x (List.mem_cons_of_mem _ hx)), h i (List.mem_cons_self ..)]
  have h2 : ∀ ps : List (Str × Str), PyData.depthAll (ps.map dpP) ≤ 1 := fun ps => by
    induction ps with
    | nil => exact Nat.zero_le _
    | cons i l ih =>
      have e : PyData.depth (dpP i) = 1 := by simp [dpP, PyData.depth, PyData.depthAll]
      rw [List.map_cons]
      simp only [PyData.depthAll, e]
      omega
  have h3 := h2 ps
  have e : PyData.depthAll (ps.map dpP) + 1 + 1 ≤ 64 := by omega
  simp [SeqAt.shaped, PyData.canLay0, PyData.canLayAll0, PyData.depth, PyData.depthAll, h1 ps h, ha, hb]
  omega
theorem dueV_none {n s : V} {kvs : List (Key × V)} (h : dueV n s kvs = none) : nameV n = true ∧ sortV s = true ∧ badK kvs = none ∧ dueV n s [] = none := by
  rw [dueV_eq] at h
  by_cases h1 : nameV n = false
  · rw [if_pos h1] at h; cases h
  · rw [if_neg h1] at h
    by_cases h2 : sortV s = false
    · rw [if_pos h2] at h; cases h
    · rw [if_neg h2] at h
      refine ⟨Bool.not_eq_false _ ▸ h1, Bool.not_eq_false _ ▸ h2, ?_, ?_⟩
      · unfold restV at h
        cases e : badK kvs with
        | none => rfl
        | some k => rw [e] at h; cases h
      · rw [dueV_eq, if_neg h1, if_neg h2]
        rfl
theorem dueT_nil {n s : V} {kvs : List (Key × V)} (h : dueT n s kvs = []) : dueV n s kvs = none := by
  unfold dueT at h
  cases e : dueV n s kvs with
  | none => rfl
  | some k => rw [e] at h; cases h
theorem ValB.str_of {K : PySem.W.Frag} {H : Hp} {v : V} (h : ValB K H v) (t : nameV v = true ∨ sortV v = true) : ∃ z, v = .str z ∧ PyData.strOk z = true := by
  rcases h with ⟨z, e, _, o⟩ | ⟨h1, _⟩
  · exact ⟨z, e, o⟩
  · exfalso
    cases v with
    | str z => exact h1 z rfl
    | _ => rcases t with t | t <;> cases t
section
variable {P : Program} {w : World} {K : PySem.W.Frag} {mg : Str → Option Value} {base : Heap}
theorem ok_right {f c Pt fN fT fS fC fI fO pO fA CI CS CF fD : Addr} {fd fdN fdT fdS fdC fdI fdO fdA fdD : FuncData} {T : List (Addr × Str)} (F : FunC K "_law_form_right" "_law_form_right" sRight f fd c) (R : TxtR P K mg CI CS CF fN fT fS fC fI fO pO fA fdN fdT fdS fdC fdI fdO fdA)
    (TB : TabB base mg c Pt) (hmT : (Pt, qR) ∈ T) (hu : ∀ p ∈ T, p.1 = Pt → p.2 = qR)
    (GO : FnOk P w K mg base (L2.CX P w) 7 fO fdO ["cls", "name", "sort", "slots"] (spOf K CI CF))
    (GD : FnOk P w K mg base CX0 3 fD fdD ["_law_word", "_law_take", "_law_row"] (spDue K)) (gD : mg "_law_due" = some (.ref fD)) (kD : PySem.W.keepIn K (.ref fD) = true) (bD : Binds K fdD ["_law_word", "_law_take", "_law_row"] []) :
    FnOk P w K mg base CX0 10 f fd ["_law_word", "_law_take", "_law_row"] (spRight K T) := by
  refine F.ok scRight (fun vs H Q E h => ?_) (fun A outer s H vs Q E hr h => ?_)
  · obtain ⟨a, n, s, kvs, rfl, _⟩ := h
    rfl
  · obtain ⟨a, n, so, kvs, rfl, hn, hs, row, ok, tabs, k⟩ := h
    have hr3 : Room 3 _ := hr.mono (by decide)
    have hr7 : Room 7 _ := hr.mono (by decide)
    have hU := hu_of hr
    obtain ⟨mc, rd, met⟩ := R.rd
    have GR : FnR P w K mg base (L2.CX P w) 7 fO (spOf K CI CF) := (GO.raw R.bO .nil).imp fun vs H Q E h => by rw [List.append_nil]; exact h
    refine ⟨_, pss_cons (ps_asg (pe_tup (pa_cons pe_dnewK (pa_cons (pe_call GD hr3 rfl gD kD bD .nil pass0 (pa_cons (pv 0) (pa_cons (pv 1) (pa_cons (pv 2) pa_nil)))) pa_nil)))
          (pg_tup (by rfl) (pgs_cons (pg_name (i := 9) scRight.nd rfl (Or.inr rfl)) (pgs_cons (pg_name (i := 3) scRight.nd rfl (Or.inl rfl)) pgs_nil))))
      (pss_cons (ps_for PassesOwn.never rfl (pi_list (pv 2)) (pg_lst (by rfl) (pgs_cons (pg_name (i := 4) scRight.nd rfl (.inl rfl)) (pgs_cons (pg_name (i := 5) scRight.nd rfl (.inl rfl)) pgs_nil)))
        (pss_one (ps_dput hU (pv 9) (pv 4) (pv 5) rfl)))
      (pss_cons (ps_set (i := 6) scRight.nd rfl (Or.inl rfl) (pe_lst (pa_cons (pe_fault (k := 7) R.A rfl TB rfl hmT hu hr (lamS_by (sc := defScope sRight) (by decide +kernel)) rfl (fun _ _ _ _ _ => rfl)
          (fun _ _ _ _ E _ _ hr' => ClX.pe_cmeth (E := E) (pe_glob (v := .ref CF) rfl R.C.gF rfl) rd met GR hr' (passes_call (takes_of rfl rfl rfl rfl) (fun _ _ _ _ q => q)) (pa_cons (pv 0) (pa_cons (pv 1) (pa_cons (pv 9) pa_nil))))) pa_nil)))
      (pss_cons (ps_expr (pe_bm PySem.F.plainAttrs_list PySem.F.slot_list_append PySem.F.type_list_append mt_append (pv 6) (pa_cons (pe_fault (k := 7) R.A rfl TB rfl hmT hu hr (lamS_by (sc := defScope sRight) (by decide +kernel)) rfl (fun _ _ _ _ _ => rfl)
          (fun _ _ _ _ E _ _ hr' => pe_cmethK (E := E) (pe_glob (v := .ref CF) rfl R.C.gF rfl) rd met GO R.kO hr' (passes_call (takes_of rfl rfl rfl rfl) (fun _ _ _ _ q => q)) (pk_cons (pv 9) (pk_cons (pv 1) (pk_cons (pv 0) pk_nil))))) pa_nil)))
      (pss_cons (ps_if (pt_cmpR (op_neD hr.units) (pv 6) (pe_op op_rep (pe_lst (pa_cons (pv 3) pa_nil)) pe_int) (nomark _)) (pss_one (ps_ret pe_bl)) pss_nil)
      (pss_cons (ps_if (pt_cmpR (op_neD hr.units) (pv 3) (pe_tup pa_nil) (nomark _)) (pss_one (ps_ret pe_bl)) pss_nil)
      (pss_cons (ps_set (i := 7) scRight.nd rfl (Or.inl rfl) (ClX.pe_cmeth (E := E0) (pe_glob (v := .ref CF) rfl R.C.gF rfl) rd met GR hr7 passL (pa_cons (pv 0) (pa_cons (pv 1) (pa_cons (pv 9) pa_nil)))))
      (pss_cons (ps_dput hU (pv 9) pe_str pe_str rfl)
      (pss_cons (ps_if (pt_cmpR (op_neD hr.units) (pe_lst (pa_cons (pe_fld (pv 7) rfl) (pa_cons (pe_fld (pv 7) rfl) (pa_cons (pe_fld (pv 7) rfl) pa_nil))))
          (pe_lst (pa_cons (pv 0) (pa_cons (pv 1) (pa_cons (pe_tupleOf rfl R.tup (pe_lc (own := [("_law_slot_so", 4), ("_law_takes", 5)]) (g := gLst K 2 (gCons (gName 4) (gCons (gName 5) gNil))) (tt := tYes) rfl scRight.nd (pi_list (pv 2))
            (blkOk_by (N := NR) (sc := defScope sRight) (by decide +kernel)) (fun _ _ _ _ _ => pg_lst (by rfl) (pgs_cons (pg_name (i := 4) scRight.nd rfl (.inl rfl)) (pgs_cons (pg_name (i := 5) scRight.nd rfl (.inl rfl)) pgs_nil))) (fun _ _ _ _ _ => pts_nil)
            (fun _ _ _ _ _ => pe_tup (pa_cons (pv 4) (pa_cons (pv 5) pa_nil))))) pa_nil)))) (nomark _)) (pss_one (ps_ret pe_bl)) pss_nil)
      (pss_cons (ps_set (i := 8) scRight.nd rfl (Or.inl rfl) (ClX.pe_cmeth (E := E0) (pe_glob (v := .ref CF) rfl R.C.gF rfl) rd met GR hr7 passL (pa_cons (pv 0) (pa_cons (pv 1) (pa_cons pe_dnewK pa_nil)))))
      (pss_one (ps_ret (pe_and (pe_cmpR (op_eqI hr.units) (pv 7) (pv 7) (nomark _)) (pe_and (pe_not (pe_cmpR (op_neI hr.units) (pv 7) (pv 7) (nomark _))) (pe_and (pe_cmpR (op_neI hr.units) (pv 7) (pv 8) (nomark _))
        (pe_and (pe_not (pe_cmpR (op_eqI hr.units) (pv 7) (pv 8) (nomark _))) (pe_one (pe_cmpR (op_neIS hr.units) (pv 7) (pv 0) (nomark _)))))))))))))))))), ?_⟩
    -- the plan and what is due
    intro d hd
    have s1 : Same H (upd H d (.dK [])) := same_upd (Same.refl H) hd
    refine ⟨_, rfl, _, rfl, _, rfl, a, n, so, kvs, rfl, hn.val.same s1, hs.val.same s1, row.same s1, ok.ok.same s1, fun H2 p0 s2 np0 hp0 => ?_⟩
    refine ⟨by show 2 ≤ sizeLine; decide, fun t ht => ?_⟩
    refine ⟨t, _, rfl, .inl (.inl upd_same), rfl, _, _, rfl, ?_⟩
    refine ⟨_, _, rfl, rfl, ?_⟩
    have s02 : Same H H2 := s1.trans s2
    have hd2 : H2 d = some (.dK []) := s2 _ _ upd_same
    have s3 : Same H2 (upd H2 t (.tup [.ref d, .ref p0])) := same_upd (Same.refl H2) ht
    generalize eH3 : upd H2 t (.tup [.ref d, .ref p0]) = H3 at s3
    have s03 : Same H H3 := s02.trans s3
    have hd3 : H3 d = some (.dK []) := s3 _ _ hd2
    have hp3 : H3 p0 = some (.tup (dueT n so kvs)) := s3 _ _ hp0
    have ndp : p0 ≠ d := ne_of hp3 hd3 (by intro q; cases q)
    obtain ⟨rs, hrow, hp⟩ := row.same s03
    have hrl : rs.length = kvs.length := hp.length
    have okH : KvB K H kvs := ok
    have vd : ∀ p ∈ kvs, p.2 ≠ .ref d := fun p hpm => (ok.val p hpm).val.ne hd
    refine ⟨_, rfl, a, rfl, ⟨_, hrow⟩, for_list (K := K) (a := a) (xs := rs.map V.ref) (fun i σ H' => ∃ v4 v5 : Option V, σ = [some n, some so, some (.ref a), some (.ref p0), v4, v5, none, none, none, some (.ref d)] ∧ SameX d H3 H' ∧ H' d = some (.dK (kvs.take i)))
      ⟨_, _, rfl, fun b o _ e => e, hd3⟩ (fun i σ H' _ ⟨_, _, _, sx, hx⟩ => ?_) ?_ ?_⟩
    · rcases hrow with z | z
      · refine .inl ?_
        rcases z with z | ⟨o, z⟩
        · exact .inl (sx _ _ (ne_of z hd3 (by intro q; cases q)) z)
        · exact .inr ⟨o, sx _ _ (ne_of z hd3 (by intro q; cases q)) z⟩
      · exact .inr z
    · rintro i y σ H4 hi ⟨v4, v5, rfl, sx, hx⟩
      obtain ⟨r, er, rfl⟩ : ∃ r, rs[i]? = some r ∧ y = V.ref r := by
        rw [List.getElem?_map] at hi
        cases q : rs[i]? with
        | none => rw [q] at hi; cases hi
        | some r => rw [q] at hi; exact ⟨r, rfl, (Option.some.inj hi).symm⟩
      obtain ⟨p, ep, hr3'⟩ := LiI.paired_get hp er
      have hr4 := sx _ _ (ne_of hr3' hd3 (by intro q; cases q)) hr3'
      have hpm : p ∈ kvs := List.mem_of_getElem? ep
      obtain ⟨zs, ek, hz, ho⟩ := ok.key p hpm
      refine ⟨r, _, rfl, SqL.of hr4, rfl, _, _, rfl, ?_⟩
      refine ⟨_, _, rfl, rfl, ?_⟩
      have hil : i < kvs.length := (List.getElem?_eq_some_iff.mp ep).1
      have hlen : (kvs.take i).length < sizeLine := Nat.lt_of_le_of_lt (List.length_take_le _ _) (by have := ok.len; exact Nat.lt_of_lt_of_le hil (Nat.le_trans this (by decide)))
      refine ⟨_, rfl, _, rfl, _, rfl, d, _, rfl, DPut.k (k := p.1) hx hlen, ?_⟩
      refine ⟨_, _, rfl, SameX.trans sx SameX.upd, ?_⟩
      rw [upd_same, putK_new, List.take_add_one, ep]
      · rfl
      · intro q
        have nd := ok.nd
        have e1 : (kvs.map Prod.fst)[i]? = some p.1 := by rw [List.getElem?_map, ep]; rfl
        obtain ⟨q1, hq1, e2⟩ := List.mem_map.mp q
        obtain ⟨j, hj, e3⟩ := List.getElem_of_mem hq1
        have hj' : j < i := by rw [List.length_take] at hj; omega
        have e4 : (kvs.map Prod.fst)[j]? = some p.1 := by
          rw [List.getElem_take] at e3
          rw [List.getElem?_map, List.getElem?_eq_getElem (by omega), e3]
          exact congrArg some e2
        obtain ⟨l1, m1⟩ := List.getElem?_eq_some_iff.mp e1
        obtain ⟨l2, m2⟩ := List.getElem?_eq_some_iff.mp e4
        exact (List.pairwise_iff_getElem.mp nd) j i l2 l1 hj' (m2.trans m1.symm)
    · rintro σ H4 ⟨v4, v5, rfl, sx, hx⟩
      rw [List.length_map, hrl, List.take_length] at hx
      have s04 : Same H H4 := fun b o e => sx b o (ne_of_none e hd) (s03 b o e)
      have mkS : ∀ H', ExtN H H' → SlotsOk K H' d kvs := fun H' e => ⟨ok.key, fun p hpm => ⟨((ok.val p hpm).ext e).val, vd p hpm⟩, ok.len⟩
      have T4 : Tabs T H4 := tabs.ext s04
      have hp4 := sx _ _ ndp hp3
      have X4 : ExtN H H4 := ExtN.of s04
      -- the first way
      refine ⟨T4, fun H5 e5 T5 => TFault.mono (fun E' H' Q' h => ⟨rfl, _, rfl, _, rfl, _, rfl, h⟩) (fault_of (hn.ext (X4.trans e5)).val (hs.ext (X4.trans e5)).val (mkS _ (X4.trans e5)) (e5 _ _ hx fun ps q => by cases q) fun H6 q1 s6 n6 h6 => ?_)⟩
      have X6 : ExtN H H6 := (X4.trans e5).trans (ExtN.of s6)
      have hd6 : H6 d = some (.dK kvs) := s6 _ _ (e5 _ _ hx fun ps q => by cases q)
      have hp6 : H6 p0 = some (.tup (dueT n so kvs)) := s6 _ _ (e5 _ _ hp4 fun ps q => by cases q)
      have T6 : Tabs T H6 := T5.ext s6
      refine ⟨by show 1 ≤ sizeLine; decide, fun l hl => ?_⟩
      have s7 : Same H6 (upd H6 l (.lst [.ref q1])) := same_upd (Same.refl H6) hl
      -- the second way
      refine ⟨_, rfl, .inl ⟨rfl, _, SqL.of upd_same⟩, T6.ext s7, fun H8 e8 T8 => TFault.mono (fun E' H' Q' h => ⟨rfl, _, rfl, _, rfl, _, rfl, h⟩) (fault_of (hn.ext ((X6.trans (ExtN.of s7)).trans e8)).val (hs.ext ((X6.trans (ExtN.of s7)).trans e8)).val (mkS _ ((X6.trans (ExtN.of s7)).trans e8)) (e8 _ _ (s7 _ _ hd6) fun ps q => by cases q) fun H9 q2 s9 n9 h9 => ?_)⟩
      have X69 : ∀ b o, H6 b = some o → (∀ ps, o ≠ .tbl ps) → H9 b = some o := fun b o e nt => s9 _ _ (e8 _ _ (s7 _ _ e) nt)
      have hl9 : H9 l = some (.lst [.ref q1]) := s9 _ _ (e8 _ _ upd_same fun ps q => by cases q)
      have X9 : ExtN H H9 := X6.trans X69
      have hd9 := X69 _ _ hd6 fun ps q => by cases q
      have hp9 := X69 _ _ hp6 fun ps q => by cases q
      have hq9 := X69 _ _ h6 fun ps q => by cases q
      have T9 : Tabs T H9 := T8.ext s9
      refine ⟨l, _, _, rfl, rfl, hl9, (by show 1 < sizeLine; decide), ?_⟩
      have nl : ∀ b xs, H9 b = some (.tup xs) → b ≠ l := fun b xs e => ne_of e hl9 (by intro q; cases q)
      have X10 : ExtN H (upd H9 l (.lst ([.ref q1] ++ [.ref q2]))) := ext_upd X6 hl X9
      have T10 : Tabs T (upd H9 l (.lst ([.ref q1] ++ [.ref q2]))) := tabs_lst T9 hl9
      generalize eH10 : upd H9 l (.lst ([.ref q1] ++ [.ref q2])) = H10 at X10 T10
      have hl10 : H10 l = some (.lst [.ref q1, .ref q2]) := by rw [← eH10, upd_same]; rfl
      have hd10 : H10 d = some (.dK kvs) := by rw [← eH10, upd_ne (ne_of hd9 hl9 (by intro q; cases q))]; exact hd9
      have hp10 : H10 p0 = some (.tup (dueT n so kvs)) := by rw [← eH10, upd_ne (nl _ _ hp9)]; exact hp9
      have hq10 : H10 q1 = some (.tup (dueT n so kvs)) := by rw [← eH10, upd_ne (nl _ _ hq9)]; exact hq9
      have hr10 : H10 q2 = some (.tup (dueT n so kvs)) := by rw [← eH10, upd_ne (nl _ _ h9)]; exact h9
      obtain ⟨ls, els, _, ols⟩ := dueT_strs (n := n) (s := so) ok.ok
      rw [els] at hp10 hq10 hr10
      have shD : SeqAt.shaped (.list [.tuple (ls.map PyData.str), .tuple (ls.map PyData.str)]) = true := shLT (ls := [ls, ls]) fun l hl x hx => by
        rcases List.mem_cons.mp hl with e | hl
        · rw [e] at hx; exact ols x hx
        · rcases List.mem_cons.mp hl with e | hl
          · rw [e] at hx; exact ols x hx
          · cases hl
      -- are both what is due?
      refine ⟨_, rfl, _, rfl, (by show 1 ≤ sizeLine; decide), fun m hm => ⟨m, 2, [.ref p0], rfl, rfl, upd_same, by decide, by decide, (by show 1 * 2 ≤ sizeLine; decide), fun g hg => ?_⟩⟩
      have s11 : Same H10 (upd H10 m (.lst [.ref p0])) := same_upd (Same.refl H10) hm
      have s12 : Same H10 (upd (upd H10 m (.lst [.ref p0])) g (.lst (List.replicate (2 : Int).toNat [V.ref p0]).flatten)) := same_upd s11 (s11.free hg)
      have hg12 : (upd (upd H10 m (.lst [.ref p0])) g (.lst (List.replicate (2 : Int).toNat [V.ref p0]).flatten)) g = some (.lst [.ref p0, .ref p0]) := upd_same
      generalize eH12 : upd (upd H10 m (.lst [.ref p0])) g (.lst (List.replicate (2 : Int).toNat [V.ref p0]).flatten) = H12 at s12 hg12
      have dt : ∀ q, H10 q = some (.tup (ls.map V.str)) → Dp K H12 (.ref q) (.tuple (ls.map PyData.str)) := fun q e => .tup (SqT.of (s12 _ _ e)) (dpStrs ls)
      refine ⟨_, _, .lst (SqL.of (s12 _ _ hl10)) (.cons (dt _ hq10) (.cons (dt _ hr10) .nil)), .lst (SqL.of hg12) (.cons (dt _ hp10) (.cons (dt _ hp10) .nil)), shD, shD, _, rfl, ?_⟩
      rw [SeqAt.eqv_refl _ (lay_of shD)]
      refine iteF ?_
      have X12 : ExtN H H12 := X10.trans (ExtN.of s12)
      have T12 : Tabs T H12 := T10.ext s12
      -- is a form due?
      refine ⟨_, rfl, (by show 0 ≤ sizeLine; decide), fun e0 he0 => ?_⟩
      have s13 : Same H12 (upd H12 e0 (.tup [])) := same_upd (Same.refl H12) he0
      refine ⟨_, _, .tup (SqT.of (s13 _ _ (s12 _ _ hp10))) (dpStrs ls), .tup (xs := []) (SqT.of upd_same) .nil, shTup ols, by decide, _, rfl, ?_⟩
      have X13 : ExtN H (upd H12 e0 (.tup [])) := X12.trans (ExtN.of s13)
      have T13 : Tabs T (upd H12 e0 (.tup [])) := T12.ext s13
      have s1013 : Same H10 (upd H12 e0 (.tup [])) := s12.trans s13
      generalize eH13 : upd H12 e0 (.tup []) = H13 at X13 T13 s1013
      rw [eqvNilT]
      refine ite2 (fun _ => k _ X13 T13) (fun hne => ?_)
      have els0 : ls = [] := by
        cases ls with
        | nil => rfl
        | cons z l => exact absurd rfl hne
      have due0 : dueV n so kvs = none := dueT_nil (by rw [els, els0]; rfl)
      obtain ⟨nn, ss, nb, due1⟩ := dueV_none due0
      obtain ⟨zn, rfl, on⟩ := hn.str_of (.inl nn)
      obtain ⟨zs, rfl, os⟩ := hs.str_of (.inr ss)
      obtain ⟨ps, eps, ops⟩ := pairs_of ok nb
      have hd13 := s1013 _ _ hd10
      -- the form
      refine ⟨rfl, _, rfl, _, rfl, _, rfl, d, _, _, kvs, rfl, (hn.ext X13).val, (hs.ext X13).val, mkS _ X13, hd13, ?_⟩
      rw [due0]
      intro H14 x s14 nx ⟨dx, p, fs, hx14, ln, lk, ls14, st14⟩
      have hd14 := s14 _ _ hd13
      have X14 : ExtN H H14 := X13.trans (ExtN.of s14)
      have T14 : Tabs T H14 := T13.ext s14
      refine ⟨_, rfl, d, _, rfl, DPut.k (k := .inr "later") hd14 (Nat.lt_of_le_of_lt ok.len (by decide)), ?_⟩
      have X15 : ExtN H (upd H14 d (.dK (putK kvs (.inr "later") (.str "text")))) := ext_upd (ExtN.refl H) hd X14
      have T15 : Tabs T (upd H14 d (.dK (putK kvs (.inr "later") (.str "text")))) := tabs_dK T14 hd14
      have hx15 : (upd H14 d (.dK (putK kvs (.inr "later") (.str "text")))) x = some (.ins CF dx fs) := by rw [upd_ne (ne_of hx14 hd14 (by intro q; cases q))]; exact hx14
      have st15 : SlotTup (upd H14 d (.dK (putK kvs (.inr "later") (.str "text")))) p kvs := st14.upd fun xs q => by rw [hd14] at q; cases q
      generalize eH15 : upd H14 d (.dK (putK kvs (.inr "later") (.str "text"))) = H15 at X15 T15 hx15 st15
      -- what it tells
      refine ⟨_, rfl, x, CF, dx, fs, _, rfl, hx15, R.C.cl, R.C.nN, ln, _, rfl, x, CF, dx, fs, _, rfl, hx15, R.C.cl, R.C.nK, lk, _, rfl, x, CF, dx, fs, _, rfl, hx15, R.C.cl, R.C.nS, ls14, (by show 3 ≤ sizeLine; decide), fun l1 hl1 => ?_⟩
      have s16 : Same H15 (upd H15 l1 (.lst [.str zn, .str zs, .ref p])) := same_upd (Same.refl H15) hl1
      have hl16 : (upd H15 l1 (.lst [.str zn, .str zs, .ref p])) l1 = some (.lst [.str zn, .str zs, .ref p]) := upd_same
      generalize eH16 : upd H15 l1 (.lst [.str zn, .str zs, .ref p]) = H16 at s16 hl16
      have X16 : ExtN H H16 := X15.trans (ExtN.of s16)
      have T16 : Tabs T H16 := T15.ext s16
      obtain ⟨rs, hrow, hp⟩ := row.ext X16
      have hrl : rs.length = kvs.length := hp.length
      refine ⟨_, rfl, _, rfl, _, rfl, a, rfl, ⟨_, hrow⟩, fun D hD => lc_list (xs := rs.map V.ref) (K := K) (a := a) (fun i H' => ∃ ts : List Addr, Same H16 H' ∧ H' D = some (.lst (ts.map V.ref)) ∧ ts.length = i ∧ Paired (fun (t : Addr) (q : Key × V) => H' t = some (.tup [kV q.1, q.2])) ts (kvs.take i))
        ⟨[], same_upd (Same.refl H16) hD, upd_same, rfl, .nil⟩ (fun i H' _ ⟨_, s', _⟩ => s'.seq hrow) ?_ ?_⟩
      · rintro i y H17 hi ⟨ts, s17, hD17, tl, pt⟩
        obtain ⟨r, er, rfl⟩ : ∃ r, rs[i]? = some r ∧ y = V.ref r := by
          rw [List.getElem?_map] at hi
          cases q : rs[i]? with
          | none => rw [q] at hi; cases hi
          | some r => rw [q] at hi; exact ⟨r, rfl, (Option.some.inj hi).symm⟩
        obtain ⟨q, ep, hr16⟩ := LiI.paired_get hp er
        refine ⟨r, _, rfl, SqL.of (s17 _ _ hr16), rfl, _, _, rfl, ?_⟩
        refine ⟨_, _, rfl, rfl, rfl, ?_⟩
        dsimp only [tYes]
        rw [if_pos rfl]
        refine ⟨_, rfl, _, rfl, (by show 2 ≤ sizeLine; decide), fun t' ht' => ?_⟩
        have hil : i < kvs.length := (List.getElem?_eq_some_iff.mp ep).1
        have hD18 : (upd H17 t' (.tup [kV q.1, q.2])) D = some (.lst (ts.map V.ref)) := by rw [upd_ne (ne_of_none hD17 ht')]; exact hD17
        have ntD : t' ≠ D := (ne_of_none hD17 ht').symm
        refine ⟨_, hD18, ?_, ts ++ [t'], same_upd (same_upd s17 (s17.free ht')) hD, ?_, ?_, ?_⟩
        · rw [List.length_map, tl]
          exact Nat.lt_of_lt_of_le hil (Nat.le_trans ok.len (by decide))
        · rw [upd_same, List.map_append]; rfl
        · rw [List.length_append, tl]; rfl
        · rw [List.take_add_one, ep]
          refine Paired.snoc (Paired.mapP pt fun t q e => ?_) ?_
          · rw [upd_ne (ne_of e hD17 (by intro z; cases z)), upd_ne (ne_of_none e ht')]
            exact e
          · rw [upd_ne ntD, upd_same]
      · rintro H17 ⟨ts, s17, hD17, tl, pt⟩
        rw [List.length_map, hrl, List.take_length] at pt
        refine .inl ⟨D, _, rfl, SqL.of hD17, fun tp htp => ?_⟩
        have s18 : Same H17 (upd H17 tp (.tup (ts.map V.ref))) := same_upd (Same.refl H17) htp
        have htp18 : (upd H17 tp (.tup (ts.map V.ref))) tp = some (.tup (ts.map V.ref)) := upd_same
        generalize eH18 : upd H17 tp (.tup (ts.map V.ref)) = H18 at s18 htp18
        refine ⟨by show 3 ≤ sizeLine; decide, fun l2 hl2 => ?_⟩
        have s19 : Same H18 (upd H18 l2 (.lst [.str zn, .str zs, .ref tp])) := same_upd (Same.refl H18) hl2
        have hl19 : (upd H18 l2 (.lst [.str zn, .str zs, .ref tp])) l2 = some (.lst [.str zn, .str zs, .ref tp]) := upd_same
        generalize eH19 : upd H18 l2 (.lst [.str zn, .str zs, .ref tp]) = H19 at s19 hl19
        have s1619 : Same H16 H19 := (s17.trans s18).trans s19
        have s1519 : Same H15 H19 := s16.trans s1619
        obtain ⟨ts0, p15, pp15⟩ := st15
        have shF := shForm on os ops
        rw [eps] at pp15 pt
        have d1 : Dp K H19 (.ref l1) (.list [.str zn, .str zs, .tuple (ps.map dpP)]) := .lst (SqL.of (s1619 _ _ hl16)) (.cons (.str _) (.cons (.str _) (.cons (.tup (SqT.of (s1519 _ _ p15)) (dpPairs (Paired.mapP pp15 fun t q e => s1519 _ _ e))) .nil)))
        have d2 : Dp K H19 (.ref l2) (.list [.str zn, .str zs, .tuple (ps.map dpP)]) := .lst (SqL.of hl19) (.cons (.str _) (.cons (.str _) (.cons (.tup (SqT.of (s19 _ _ htp18)) (dpPairs (Paired.mapP pt fun t q e => s19 _ _ (s18 _ _ e)))) .nil)))
        refine ⟨_, _, d1, d2, shF, shF, _, rfl, ?_⟩
        rw [SeqAt.eqv_refl _ (lay_of shF)]
        refine iteF ?_
        have X19 : ExtN H H19 := X16.trans (ExtN.of s1619)
        have T19 : Tabs T H19 := T16.ext s1619
        have hx19 := s1519 _ _ hx15
        -- another form
        refine ⟨rfl, _, rfl, _, rfl, fun d2 hd2 => ⟨d2, _, _, [], rfl, ?_, ?_, slots_nil, upd_same, ?_⟩⟩
        · exact ((hn.ext X19).same (same_upd (Same.refl H19) hd2)).val
        · exact ((hs.ext X19).same (same_upd (Same.refl H19) hd2)).val
        rw [due1]
        have s20 : Same H19 (upd H19 d2 (.dK [])) := same_upd (Same.refl H19) hd2
        intro H21 x2 s21 nx2 ⟨dx2, p2, fs2, hx2, _, _, _, _⟩
        have s1921 := s20.trans s21
        have hx21 := s1921 _ _ hx19
        have nxx : x ≠ x2 := ne_of_none (s20 _ _ hx19) nx2
        refine ⟨_, rfl, _, rfl, x, x, CF, dx, dx, fs, fs, rfl, rfl, hx21, hx21, R.pe, _, rfl, ?_⟩
        rw [decide_eq_true (rfl : x = x)]
        refine iteT ?_
        refine ⟨_, rfl, _, rfl, x, x, CF, dx, dx, fs, fs, rfl, rfl, hx21, hx21, R.pe, _, rfl, _, rfl, ?_⟩
        rw [decide_eq_true (rfl : x = x)]
        refine iteT ?_
        refine ⟨_, rfl, _, rfl, x, x2, CF, dx, dx2, fs, fs2, rfl, rfl, hx21, hx2, R.pe, _, rfl, ?_⟩
        rw [decide_eq_false nxx]
        refine iteT ?_
        refine ⟨_, rfl, _, rfl, x, x2, CF, dx, dx2, fs, fs2, rfl, rfl, hx21, hx2, R.pe, _, rfl, _, rfl, ?_⟩
        rw [decide_eq_false nxx]
        refine iteT ?_
        exact ⟨_, rfl, _, rfl, x, CF, dx, fs, zn, rfl, rfl, hx21, R.pe, k _ (X19.trans (ExtN.of s1921)) (T19.ext s1921)⟩
end
end K1

namespace K1
open PySem PySem.Spec PyProof.Rows L2
open PySem.W (dictOf kwEs)
/-! ### keywords that go into the dict of the rest -/
section
variable {prog : Program} {w : World} {A : Around} {E : Value → Shared → Prop} {D : Addr}
theorem nsSet_new {s : Shared} {es : List DictEntry} {n : Nat} {k : Str} {v : Value} {Q : Unit → Shared → Prop} (hD : s.heap.get? D = some (dictOf es n)) (hs : ∀ e ∈ es, e.key.isStr k = false) (hr : ∀ e ∈ es, e.refKey = false)
    (h : ∀ h', (∀ b o, b ≠ D → s.heap.get? b = some o → h'.get? b = some o) → h'.objs.size = s.heap.objs.size → h'.get? D = some (dictOf (es ++ [⟨PyData.keyHash w.params k, .str k s.toks, v⟩]) (n + 1)) → Q () { s with heap := h', toks := s.toks + 1 }) :
    wpAny (model prog w) A (nsSet D k v) Q E s := by
  have none_of : ∀ f : DictEntry → Bool, (∀ e ∈ es, f e = false) → es.any f = false := fun f hf => by
    rw [List.any_eq_false]
    intro e he
    rw [hf e he]
    decide
  have e1 := none_of (fun e => e.key.isStr k) hs
  have e2 := none_of (fun e => e.refKey) hr
  have e : Obj.putName k (PyData.keyHash w.params k) (.str k s.toks) v (dictOf es n) = dictOf (es ++ [⟨PyData.keyHash w.params k, .str k s.toks, v⟩]) (n + 1) := by
    rw [PySem.W.putName_dict, PySem.W.putL_new hs]
    show dictOf _ (if es.any (fun e => e.key.isStr k) then n else n + 1) = _
    rw [e1, if_neg Bool.false_ne_true]
  have c : aRefKeyMayBeTheName k es.toArray = false := by
    rw [aRefKeyMayBeTheName_at, ← Array.any_toList, ← Array.any_toList]
    show (!es.any (fun e => e.key.isStr k) && es.any (fun e => e.refKey)) = false
    rw [e2, Bool.and_false]
  unfold nsSet
  refine wpAny_bind (wpAny_bind (wpAny_askSetting (wpAny_pure (wpAny_bind (wpAny_mkText (wpAny_bind (wpAny_loadPart hD ?_)))))))
  dsimp only
  rw [c]
  refine wpAny_updatePart hD (h _ (fun b o nb q => ?_) (Heap.size_update _ _ _) ?_)
  · exact (Heap.get?_update_ne _ _ _ _ nb).trans q
  · exact (Heap.get?_update_self (Obj.putName k (PyData.keyHash w.params k) (.str k s.toks) v) hD (by rw [e]; rfl)).trans (congrArg some e)
theorem fill_new {Q : PUnit → Shared → Prop} : ∀ (ex : List (Str × Value)) (s : Shared) (es : List DictEntry) (n : Nat), s.heap.get? D = some (dictOf es n) → (∀ e ∈ es, ∀ x ∈ ex, e.key.isStr x.1 = false) → (∀ e ∈ es, e.refKey = false) → (ex.map (·.1)).Nodup →
    (∀ h' tk, (∀ b o, b ≠ D → s.heap.get? b = some o → h'.get? b = some o) → h'.objs.size = s.heap.objs.size → h'.get? D = some (dictOf (es ++ kwEs w.params s.toks ex) (n + ex.length)) → Q ⟨⟩ { s with heap := h', toks := tk }) →
    wpAny (model prog w) A (forIn ex PUnit.unit fun x _ => (nsSet D x.1 x.2 >>= fun _ => pure (ForInStep.yield PUnit.unit))) Q E s
  | [], s, es, n, hD, _, _, _, h => by
    rw [List.forIn_nil]
    refine wpAny_pure (h s.heap s.toks (fun _ _ _ q => q) rfl ?_)
    show s.heap.get? D = some (dictOf (es ++ []) n)
    rw [List.append_nil]
    exact hD
  | x :: r, s, es, n, hD, hs, hr, hn, h => by
    have hn' : (x.1 :: r.map (·.1)).Nodup := hn
    obtain ⟨n1, n2⟩ := List.nodup_cons.mp hn'
    rw [List.forIn_cons]
    refine wpAny_bind (wpAny_bind (nsSet_new hD (fun e he => hs e he x (.head _)) hr fun h1 k1 z1 d1 => wpAny_pure ?_))
    refine fill_new r { s with heap := h1, toks := s.toks + 1 } _ _ d1 (fun e he y hy => ?_) (fun e he => ?_) n2 fun h2 t2 k2 z2 d2 => ?_
    · rcases List.mem_append.mp he with he | he
      · exact hs e he y (.tail _ hy)
      · rw [List.mem_singleton.mp he]
        show (x.1 == y.1) = false
        exact beq_eq_false_iff_ne.mpr fun q => n1 (List.mem_map.mpr ⟨y, hy, q.symm⟩)
    · rcases List.mem_append.mp he with he | he
      · exact hr e he
      · rw [List.mem_singleton.mp he]
        rfl
    · refine h h2 t2 (fun b o nb q => k2 b o nb (k1 b o nb q)) (z2.trans z1) ?_
      rw [d2, List.append_assoc]
      have e : n + 1 + r.length = n + (x :: r).length := by rw [List.length_cons]; omega
      rw [e]
      rfl
/-- the dict that was filled, as a tracked one -/
theorem kw_pairs {P : Program} : ∀ (ex : List (Str × Value)) (t : Tok), Pairs (mixKind P w) (kwEs w.params t ex) (ex.map fun x => ((.inr x.1 : Key), x.2))
  | [], _ => Pairs.nil
  | x :: r, t => Pairs.cons (mixKind_str P w x.1 t) rfl (kw_pairs r (t + 1))
theorem kw_dict {P : Program} {h : Heap} {ex : List (Str × Value)} {t : Tok} {n : Nat} (hD : h.get? D = some (dictOf (kwEs w.params t ex) n)) (nd : (ex.map (·.1)).Nodup) : h.DictOf (mixKind P w) D (ex.map fun x => ((.inr x.1 : Key), x.2)) := by
  refine ⟨_, (kwEs w.params t ex).toArray, n, hD, ⟨rfl, rfl, rfl⟩, rfl, fun e he => ?_, kw_pairs ex t, ?_⟩
  · obtain ⟨k, u, hk, hh⟩ := PySem.W.kwEs_key ex t e (List.mem_toArray.mp he)
    exact ⟨.inr k, by rw [hk]; exact mixKind_str P w k u, hh⟩
  · rw [List.map_map]
    have e : ((fun x : Key × Value => x.1) ∘ fun x : Str × Value => ((.inr x.1 : Key), x.2)) = (fun z : Str => (.inr z : Key)) ∘ fun x : Str × Value => x.1 := rfl
    have e2 : (ex.map ((fun x : Key × Value => x.1) ∘ fun x : Str × Value => ((.inr x.1 : Key), x.2))) = (ex.map (·.1)).map (fun z : Str => (.inr z : Key)) := by rw [List.map_map, ← e]
    rw [e2]
    exact List.Pairwise.map _ (fun a b ne q => ne (Sum.inr.inj q)) nd
end
section
variable {P : Program} {w : World} {K : PySem.W.Frag} {mg : Str → Option Value} {base : Heap} {A : Around} {outer : List Env} {s : Shared} {H : Hp}
theorem env0_more {h' : Heap} {tk : Tok} {D : Addr} {u : HO} (e0 : Env0 P w K mg base A outer s H) (kp : ∀ b x, s.heap.get? b = some x → h'.get? b = some x) (hz : s.heap.objs.size ≤ h'.objs.size) (hD : s.heap.objs.size ≤ D) (new : ObjOk P w (upd H D u) h' D u) :
    Env0 P w K mg base A outer { s with heap := h', toks := tk } (upd H D u) := by
  have nD : ∀ b x, s.heap.get? b = some x → b ≠ D := fun b x e => Nat.ne_of_lt (Nat.lt_of_lt_of_le (Heap.lt_size e) hD)
  refine ⟨e0.frames, e0.mod, fun b x e => ⟨kp b x (e0.bs b x e).1, ?_⟩, Nat.le_trans e0.bsz hz, Heap.FunFrames.of_keeps (fun b x e _ => ⟨x, kp b x e, rfl⟩) e0.funs, fun b hb => ?_, e0.hok.laid kp hD new, e0.bare⟩
  · rw [upd_ne (nD _ _ (e0.bs b x e).1)]
    exact (e0.bs b x e).2
  · obtain ⟨_, x, hx, _⟩ := e0.funs.mem hb
    rw [upd_ne (nD _ _ hx)]
    exact e0.frf b hb
/-- a promise by positional values and keywords -/
def FnRK (P : Program) (w : World) (K : PySem.W.Frag) (mg : Str → Option Value) (base : Heap) (k : Nat) (f : Addr) (ks : List Str) (sp : List V → Sp) : Prop :=
  ∀ (A : Around) (outer : List Env) (s : Shared) (H : Hp) (us ws : List Value) (vs zs : List V) (Q : VK) (E : XK), Room k A → Env0 P w K mg base A outer s H → Vals vs us → Vals zs ws → sp vs zs H Q E →
    codeAny (model P w) A (.call (.ref f) ⟨us, ks.zip ws⟩) (CR (L2.CX P w) outer P w H s Q E) s
def kwD (ks : List Str) (zs : List V) : List (Key × V) := (ks.zip zs).map fun p => ((.inr p.1 : Key), p.2)
def spInitK (K : PySem.W.Frag) (CI CF : Addr) (ks : List Str) : List V → Sp := fun vs zs H Q E => vs.length = 3 ∧ zs.length = ks.length ∧ ∀ d, H d = none → spInit K CI CF (vs ++ [.ref d]) (upd H d (.dK (kwD ks zs))) Q E
theorem kv_zip : ∀ {ks : List Str} {zs : List V} {ws : List Value}, Vals zs ws → KV (kwD ks zs) ((ks.zip ws).map fun x => ((.inr x.1 : Key), x.2))
  | [], _, _, _ => .nil
  | _ :: _, _, _, .nil => .nil
  | _ :: ks, _, _, .cons r t => .cons ⟨rfl, r⟩ (kv_zip (ks := ks) t)
/-- how Form's __init__ binds these keywords -/
def KwB (fd : FuncData) (ks : List Str) : Prop := ∀ us ws : List Value, us.length = 3 → ws.length = ks.length → bindArgs fd ⟨us, ks.zip ws⟩ =
  ((alloc ({ cls := .type "dict", data := .dict #[] } : Obj) : Sem Addr) >>= fun d => (forIn (ks.zip ws) PUnit.unit fun x _ => (nsSet d x.1 x.2 >>= fun _ => pure (ForInStep.yield PUnit.unit))) >>= fun _ => pure ((["self", "name", "sort"] : List Str).zip us ++ [(("slots" : Str), Value.ref d)]))
open StX in
theorem init_kw {f fN fT fS fC fI CI CF : Addr} {fdN fdT fdS fdC : FuncData} {fd : FuncData} {ks : List Str} (F : Fun K "__init__" "Form.__init__" sFormInit f fd) (T : TxtC P K mg CI CF fN fT fS fC fI fdN fdT fdS fdC) (hk : KwB fd ks) (nd : ks.Nodup) (hkl : ks.length ≤ 100)
    (GN : FnOk P w K mg base CX0 1 fN fdN ["value"] (spName K)) (GS : FnOk P w K mg base CX0 2 fS fdS ["value"] (spSort K)) (GC : FnOk P w K mg base (L2.CX P w) 4 fC fdC ["slots"] (spChecked K CI)) :
    FnRK P w K mg base 5 f ks (spInitK K CI CF ks) := by
  obtain ⟨oc, od, kV, doc, pm, an, cdv, ct, osl, rfl, lk, hcd⟩ := F.ex
  intro A outer s H us ws vs zs Q E hr e0 r rz hsp
  obtain ⟨hl, hlz, hq⟩ := hsp
  have hl1 : us.length = 3 := by rw [← r.length]; exact hl
  have hl2 : ws.length = ks.length := by rw [← rz.length]; exact hlz
  have hn : H s.heap.objs.size = Option.none := e0.hok.fresh (Nat.le_refl _)
  refine run_bnd lk hcd scInit hr e0 (G := fun xs H2 => ∃ d, H d = none ∧ xs = vs ++ [V.ref d] ∧ H2 = upd H d (.dK (kwD ks zs))) (fun A' Ex Q' h => ?_) fun s2 H2 xs ⟨d, hd, ex, eH⟩ hr' => ?_
  · rw [hk us ws hl1 hl2]
    have hz1 : (ks.zip ws).map (·.1) = ks := by
      rw [List.map_fst_zip]
      rw [hl2]
      exact Nat.le_refl _
    refine wpAny_bind (wpAny_alloc (wpAny_bind (fill_new (D := s.heap.objs.size) (ks.zip ws) _ [] 0 (Heap.get?_push_size _ rfl) (fun e he => (nomatch he)) (fun e he => (nomatch he)) (by rw [hz1]; exact nd) fun h1 tk k1 z1 d1 => wpAny_pure ?_)))
    have kp : ∀ b x, s.heap.get? b = some x → h1.get? b = some x := fun b x e => k1 b x (Nat.ne_of_lt (Heap.lt_size e)) (Heap.get?_push_of_some _ e)
    have new : ObjOk P w (upd H s.heap.objs.size (.dK (kwD ks zs))) h1 s.heap.objs.size (.dK (kwD ks zs)) := by
      refine ⟨?_, beq_eq_false_iff_ne.mpr (Ne.symm (Nat.ne_of_lt (env0_big e0))), _, kv_zip rz, kw_dict (t := s.toks) d1 (by rw [hz1]; exact nd)⟩
      unfold kwD
      rw [List.length_map, List.length_zip, hlz, Nat.min_self]
      exact Nat.le_trans hkl (by decide)
    have un : Un (frs outer) [] H (upd H s.heap.objs.size (.dK (kwD ks zs))) s.heap h1 := Un.laid kp (Nat.le_refl _) hn
    have z := h { s with heap := h1, toks := tk } _ (vs ++ [V.ref s.heap.objs.size]) (us ++ [Value.ref s.heap.objs.size]) (env0_more e0 kp (by rw [z1, Heap.size_push]; exact Nat.le_succ _) (Nat.le_refl _) new) un rfl
      (fun e s' => cxUp outer s H _ _ E e s' un kp rfl) (r.append (.cons rfl .nil)) (by rw [List.length_append, hl] <;> rfl) ⟨_, hn, rfl, rfl⟩
    match us, hl1, z with
    | [_, _, _], _, z => exact z
  · subst ex eH
    exact body_init T GN GS GC hr' (hq d hd)
end
/-! ### an instance made with keywords -/
def tMakeKW (C : Addr) (sp : List V → Sp) (E : XK) (t tk : TA) : TE := fun σ H Q => t σ H fun vs H1 => tk σ H1 fun zs H2 => ∀ x dx, H2 x = none → H2 dx = none → dx ≠ x → sp (.ref x :: vs) zs (upd (upd H2 dx (.own x)) x (.ins C dx [])) (fun v H3 => v = .non ∧ Q (.ref x) H3) E
section
variable {X : Cx} {k : Nat} {f C : Addr} {ks : List Str} {sp : List V → Sp} {E : XK} {x : Str} {p pos : Pos} {e : Expr} {es : List Expr} {kws : List Keyword} {t tk : TA}
theorem run_makeKW {pins : List (Addr × Obj)} {σ : L2.St} {H : Hp} {s : Shared} {Q : VK} {us ws : List Value} {vs zs : List V} (M : Mk X.K C f) (F : FnRK X.prog X.w X.K X.mg X.base k f ks sp) (hr : Room (k + 1) X.A) (hx : Passes (L2.CX X.prog X.w) X E) (I : L2.Inv X pins σ H s) (r : Vals vs us) (rz : Vals zs ws)
    (h : ∀ x dx, H x = none → H dx = none → dx ≠ x → sp (.ref x :: vs) zs (upd (upd H dx (.own x)) x (.ins C dx [])) (fun v H2 => v = .non ∧ Q (.ref x) H2) E) : wpAny (model X.prog X.w) X.A (call (.ref C) us (ks.zip ws)) (EP X pins σ Q) X.xe s := by
  have hq := h (s.heap.objs.size + 1) s.heap.objs.size (I.hok.fresh (Nat.le_succ _)) (I.hok.fresh (Nat.le_refl _)) (Nat.ne_of_lt (Nat.lt_succ_self _))
  have I2 := Inv.made (C := C) I
  have r1 : Vals (V.ref (s.heap.objs.size + 1) :: vs) (Value.ref (s.heap.objs.size + 1) :: us) := .cons rfl r
  refine wpAny_call (make_map (f := f) I.kIn M.makes M.init (beq_iff_eq.mp M.fn) (codeAny_mono (F _ X.stack _ _ (Value.ref (s.heap.objs.size + 1) :: us) ws _ _ _ E (hr.make C us (ks.zip ws)) (I2.env0.make C us (ks.zip ws)) r1 rz hq) fun r s' hq' => ?_))
  cases r with
  | error e => exact hx pins σ _ _ e s' I2 hq'
  | ok fl =>
    cases fl with
    | ret u =>
      obtain ⟨v, H', I3, rv, ev, q3⟩ := I2.after hq'
      subst ev
      exact ⟨rv, ⟨V.ref (s.heap.objs.size + 1), H', I3, rfl, q3⟩⟩
    | next => exact False.elim hq'
    | brk => exact False.elim hq'
    | cont => exact False.elim hq'
theorem pe_makeKW (M : Mk X.K C f) (F : FnRK X.prog X.w X.K X.mg X.base k f ks sp) (hr : Room (k + 1) X.A) (hg : Gl X x) (hm : X.mg x = some (.ref C)) (hx : Passes (L2.CX X.prog X.w) X E) (ha : PA X (e :: es) t) (hkw : PK X kws tk)
    (hall : (backToKw pos (keywordEach kws X.env)).all (·.1.isSome) = true := by rfl) (hks : (backToKw pos (keywordEach kws X.env)).filterMap (·.1) = ks := by rfl)
    (hdb : (x == ("__debug__" : Str)) = false := by decide) (he : starEach (e :: es) X.env = (false, eval e X.env) :: starEach es X.env := by rfl)
    (hpl : ((backTo pos (starEach (e :: es) X.env)).any (·.1) || (backToKw pos (keywordEach kws X.env)).any (·.1.isNone)) = false := by rfl) : PE X (.Call (.Name x p) (e :: es) kws pos) (tMakeKW C sp E t tk) := by
  refine ⟨fun pins s σ H Q I h => ?_⟩
  refine wpAny_Call_Name_kw (ld_glob I hg hm ?_ hdb)
  refine PySem.W.callWith_KW (h₀ := X.base) I.ok.mod.kin M.kp hall (thn (ha.run pos pins s σ H _ I h) fun us s1 ⟨vs, H1, I1, r, q⟩ => ?_) hpl he
  refine thn (hkw.run pos pins s1 σ H1 _ I1 q) fun ws s2 ⟨zs, H2, I2, rz, q2⟩ => ⟨I2.kIn, ?_⟩
  rw [hks]
  exact run_makeKW M F hr hx I2 r rz q2
end
end K1

namespace K1
open PySem PySem.Spec PyProof.Rows L2
open LamX (ExtN Tabs TabS TabB CodeO lamEnv lamCx codeO_ne)
open PySem.W (CodeHd tabObj)
/-! ### a lambda that captures nothing, with one default that is a whole number -/
abbrev dfFn (q : Str) (params : Arguments) (body : Expr) (scope : Scope) (dV pm cdv ct : Value) : FuncData := { PySem.W.kla_fn "<lambda>" q params body scope [] pm cdv ct with defaults := dV }
abbrev dfObj (q : Str) (params : Arguments) (body : Expr) (scope : Scope) (dV pm cdv ct : Value) : Obj := { cls := .type "function", data := .func (dfFn q params body scope dV pm cdv ct) }
section
variable {M : Model} {A : Around} {E : Value → Shared → Prop} {s : Shared} {q : Str} {params : Arguments} {body : Expr} {scope : Scope} {env : Env} {c P : Addr} {ps : Array Value} {pos : Pos} {ln : Nat} {mg : Str → Option Value} {dV : Value} {Q : Value → Shared → Prop}
theorem tail_new (hcl : closureFor scope env = pure []) (hge : env.globals = mainGlobals) (hg : s.heap.Ns mainGlobals mg) (hcode : env.code = .ref c) (C : CodeHd s.heap c P) (hP : s.heap.get? P = some (tabObj ps)) (ht : TriplesOk ps.toList) (hnf : codeAmong pos ps.toList = none) (hgP : mainGlobals ≠ P)
    (hb : s.heap.BuiltinsAt mg P)
    (h : ∀ c' h' tk, Heap.ExtBut P s.heap h' → s.heap.objs.size ≤ c' → c' < h'.objs.size → h'.CodeRec (.ref c') q → h'.get? P = some (tabObj (ps ++ #[rawInt pos.line, rawInt pos.col, .ref c'])) →
      Q (.ref h'.objs.size) { s with heap := h'.push (dfObj q params body scope dV ((mg "__name__").getD .none) (.ref c') .none), toks := tk }) :
    wpAny M A (makeTail "<lambda>" q params (.expr body) scope env dV .none none pos ln) Q E s := by
  obtain ⟨bm, ob, b1, b2, _, b3, b4, b5, b6, b7⟩ := hb
  unfold makeTail
  rw [hcl, hge]
  refine wpAny_bind (wpAny_pure ?_)
  simp only [List.isEmpty_nil, if_true]
  refine wpAny_bind (wpAny_pure ?_)
  refine wpAny_bind (wpAny_functionCodeX hcode (C.code hP ht) (C.tab hP) hnf fun c' h' tk hx h1 h2 _ hrec htb _ => ?_)
  have hg' := hg.extBut hx hgP
  refine wpAny_bind (wpAny_builtinsFor hg' b1 b2 (hx _ _ b3 b4) b5 b6 b7 ?_)
  refine wpAny_bind (wpAny_nsGet hg' ?_)
  exact wpAny_bind (wpAny_pure (wpAny_newObj_type (h c' h' tk hx h1 h2 hrec htb.2) (by size_fits)))
theorem tail_hit {cv : Value} (hcl : closureFor scope env = pure []) (hge : env.globals = mainGlobals) (hg : s.heap.Ns mainGlobals mg) (hcode : env.code = .ref c) (C : CodeHd s.heap c P) (hP : s.heap.get? P = some (tabObj ps)) (ht : TriplesOk ps.toList) (hf : codeAmong pos ps.toList = some cv)
    (hb : s.heap.BuiltinsAt mg P)
    (h : Q (.ref s.heap.objs.size) { s with heap := s.heap.push (dfObj q params body scope dV ((mg "__name__").getD .none) cv .none) }) :
    wpAny M A (makeTail "<lambda>" q params (.expr body) scope env dV .none none pos ln) Q E s := by
  obtain ⟨bm, ob, b1, b2, _, b3, b4, b5, b6, b7⟩ := hb
  unfold makeTail
  rw [hcl, hge]
  refine wpAny_bind (wpAny_pure ?_)
  simp only [List.isEmpty_nil, if_true]
  refine wpAny_bind (wpAny_pure ?_)
  refine wpAny_bind (wpAny_functionCode_hit hcode (C.code hP ht) hf ?_)
  refine wpAny_bind (wpAny_builtinsFor hg b1 b2 b4 b5 b6 b7 ?_)
  refine wpAny_bind (wpAny_nsGet hg ?_)
  exact wpAny_bind (wpAny_pure (wpAny_newObj_type h (by size_fits)))
end
section
variable {X : Cx} {pins : List (Addr × Obj)} {σ : L2.St} {H : Hp} {s : Shared}
/-- what stands behind the making -/
structure MadeD (X : Cx) (T : List (Addr × Str)) (params : Arguments) (body : Expr) (scope : Scope) (i : Int) (H H1 : Hp) (f c' T0 : Addr) (pm : Value) (t0 : Tok) (s' : Shared) : Prop where
  ext : ExtN H H1
  tabs : Tabs T H1
  at_ : s'.heap.get? f = some (dfObj (X.env.qual ++ "<lambda>") params body scope (.ref T0) pm (.ref c') .none)
  fn : H1 f = none
  ff : f ∉ frs X.stack
  tup : s'.heap.get? T0 = some { cls := .type "tuple", data := .seq #[Value.int i t0] }
  tn : H1 T0 = none
  tf : T0 ∉ frs X.stack
  co : H1 c' = some (CodeO c' (X.env.qual ++ "<lambda>"))
theorem nofr (I : L2.Inv X pins σ H s) {f : Addr} (hf : s.heap.objs.size ≤ f) : f ∉ frs X.stack := fun z => by
  rcases List.mem_cons.mp (I.stkSub _ z) with e | e
  · have h1 := I.lt
    rw [← e] at h1
    exact Nat.lt_irrefl _ (Nat.lt_of_lt_of_le h1 hf)
  · exact I.nofs hf e
theorem lamD_make {T : List (Addr × Str)} {c P : Addr} {params : Arguments} {body : Expr} {scope : Scope} {pos pd : Pos} {i : Int} {j : Nat} {E : Value → Shared → Prop} {Q : Value → Shared → Prop} (I : L2.Inv X pins σ H s) (TB : TabB X.base X.mg c P) (hcode : X.env.code = .ref c)
    (hm : (P, X.env.qual ++ "<lambda>") ∈ T) (hu : ∀ p ∈ T, p.1 = P → p.2 = X.env.qual ++ "<lambda>") (hT : Tabs T H) (hdef : defaultsOf params X.env = ([eval (.Constant (.int i) j pd) X.env], [])) (hko : params.kwonlyargs = []) (hcl : closureFor scope X.env = pure [])
    (hE : E = X.xe)
    (h : ∀ (f c' T0 : Addr) (pm : Value) (t0 : Tok) (H1 : Hp) (s' : Shared), L2.Inv X pins σ H1 s' → MadeD X T params body scope i H H1 f c' T0 pm t0 s' → Q (.ref f) s') :
    wpAny (model X.prog X.w) X.A (eval (.Lambda params body scope pos) X.env) Q E s := by
  subst hE
  obtain ⟨ps, hP, ht, ha⟩ := hT _ hm
  rw [arm_eval_Lambda, hdef]
  show wpAny _ X.A (do let dv ← evalAll [eval (.Constant (.int i) j pd) X.env]; let kdv ← holding dv (evalAllOpt []); makeFunction "<lambda>" (X.env.qual ++ "<lambda>") params (.expr body) scope X.env dv kdv [] pos pos.line) Q X.xe s
  refine wpAny_bind (wpAny_evalAll_cons (thn ((pe_int (X := X) (i := i)).run pins s σ H (fun v H1 => v = .int i ∧ H1 = H) I ⟨rfl, rfl⟩) fun u s1 ⟨v, H1, I1, r1, q1⟩ => ?_))
  obtain ⟨ev, eH⟩ := q1
  subst ev
  rw [eH] at I1
  obtain ⟨t0, rfl⟩ : ∃ t, u = Value.int i t := r1
  refine wpAny_evalAll_nil (wpAny_bind (wpAny_holding (wpAny_pure ?_)))
  rw [makeFunction_eq]
  simp only [hko, List.zip_nil_left, List.filterMap_nil, List.isEmpty_nil, List.isEmpty_cons, if_true, Bool.false_eq_true, if_false, pure_bind]
  refine wpAny_bind (wpAny_newTextTuple ?_)
  have kp2 : ∀ b o, s1.heap.get? b = some o → (s1.heap.push ({ cls := .type "tuple", data := .seq #[Value.int i t0] } : Obj)).get? b = some o := fun b o e => Heap.get?_push_of_some _ e
  have I2 : L2.Inv X pins σ H { s1 with heap := s1.heap.push ({ cls := .type "tuple", data := .seq #[Value.int i t0] } : Obj) } := I1.kept (t' := s1.toks) kp2
  have tup2 : (s1.heap.push ({ cls := .type "tuple", data := .seq #[Value.int i t0] } : Obj)).get? s1.heap.objs.size = some { cls := .type "tuple", data := .seq #[Value.int i t0] } := Heap.get?_push_size _ rfl
  have tn2 : H s1.heap.objs.size = none := I1.hok.fresh (Nat.le_refl _)
  have tf2 := nofr I1 (Nat.le_refl _)
  generalize eT : s1.heap.objs.size = T0 at tup2 tn2 tf2
  generalize eh : s1.heap.push ({ cls := .type "tuple", data := .seq #[Value.int i t0] } : Obj) = h2 at I2 tup2
  have goal2 : wpAny (model X.prog X.w) X.A (makeTail "<lambda>" (X.env.qual ++ "<lambda>") params (.expr body) scope X.env (.ref T0) .none none pos pos.line) Q X.xe { s1 with heap := h2 } := by
    have bP : h2.BuiltinsAt X.mg P := TB.bm.keeps I2.bk
    have hP' : h2.get? P = some { cls := .none, data := .fields ps } := I2.hok P _ hP
    have hg := I2.mod.glob.keeps I2.bk
    cases hc : codeAmong pos ps.toList with
    | none =>
      refine tail_new (s := { s1 with heap := h2 }) (mg := X.mg) (c := c) (P := P) (ps := ps) hcl I2.ok.glob hg hcode (TB.code.keeps I2.bk) hP' ht hc TB.gP bP fun c' h' tk hx hge hlt hrec htb => ?_
      obtain ⟨c2, oc, vs, t, e2, hoc, hd, hv⟩ := hrec
      cases e2
      have hsz : h2.objs.size ≤ h'.objs.size := Nat.le_trans hge (Nat.le_of_lt hlt)
      have nC : H c' = none := I2.hok.fresh hge
      have I3 := LamX.inv_table (t' := tk) (more := #[rawInt pos.line, rawInt pos.col, .ref c']) (h' := h'.push (dfObj (X.env.qual ++ "<lambda>") params body scope (.ref T0) ((X.mg "__name__").getD .none) (.ref c') .none)) I2 hP
        (fun b o hb e => Heap.get?_push_of_some _ (hx b o hb e)) (Heap.get?_push_of_some _ htb) hge ⟨oc, vs, t, Heap.get?_push_of_some _ hoc, hd, hv⟩
      have hE : ExtN H (upd (upd H P (.tbl (ps ++ #[rawInt pos.line, rawInt pos.col, .ref c']))) c' (CodeO c' (X.env.qual ++ "<lambda>"))) := fun b o e n => by
        rw [upd_ne (ne_of_none e nC), upd_ne (fun z => n ps (Option.some.inj (e.symm.trans (by rw [z]; exact hP))))]
        exact e
      have eL : (ps ++ #[rawInt pos.line, rawInt pos.col, .ref c']).toList = ps.toList ++ [rawInt pos.line, rawInt pos.col, .ref c'] := by simp
      have nPc : P ≠ c' := ne_of_none hP nC
      have nTP : T0 ≠ P := fun z => by rw [z, hP] at tn2; cases tn2
      have nTc : T0 ≠ c' := Nat.ne_of_lt (Nat.lt_of_lt_of_le (Heap.lt_size tup2) hge)
      refine h h'.objs.size c' T0 ((X.mg "__name__").getD .none) t0 _ _ I3 ⟨hE, fun p hp => ?_, Heap.get?_push_size _ rfl, ?_, nofr I2 hsz, Heap.get?_push_of_some _ (hx _ _ nTP tup2), ?_, tf2, upd_same⟩
      · by_cases hb : p.1 = P
        · rw [hu p hp hb, hb]
          refine ⟨_, by rw [upd_ne nPc, upd_same], by rw [eL]; exact PySem.TriplesOk_snoc _ _ _ _ ht, fun p' cv hcv => ?_⟩
          rw [eL] at hcv
          rcases LamX.among_app _ ht hcv with z | z
          · obtain ⟨c0, e1, e2⟩ := ha p' cv z
            exact ⟨c0, e1, hE _ _ e2 codeO_ne⟩
          · exact ⟨c', z, upd_same⟩
        · obtain ⟨ps', a1, a2, a3⟩ := hT p hp
          refine ⟨ps', by rw [upd_ne (ne_of_none a1 nC), upd_ne hb]; exact a1, a2, fun p' cv hcv => ?_⟩
          obtain ⟨c0, e1, e2⟩ := a3 p' cv hcv
          exact ⟨c0, e1, hE _ _ e2 codeO_ne⟩
      · have n1 : h'.objs.size ≠ c' := Nat.ne_of_gt hlt
        have n2 : h'.objs.size ≠ P := Nat.ne_of_gt (Nat.lt_of_lt_of_le (Heap.lt_size hP') hsz)
        rw [upd_ne n1, upd_ne n2]
        exact I2.hok.fresh hsz
      · rw [upd_ne nTc, upd_ne nTP]
        exact tn2
    | some cv =>
      obtain ⟨c', e, hco⟩ := ha pos cv hc
      subst e
      refine tail_hit (s := { s1 with heap := h2 }) (mg := X.mg) (c := c) (P := P) (ps := ps) hcl I2.ok.glob hg hcode (TB.code.keeps I2.bk) hP' ht hc bP ?_
      have I3 : L2.Inv X pins σ H { s1 with heap := h2.push (dfObj (X.env.qual ++ "<lambda>") params body scope (.ref T0) ((X.mg "__name__").getD .none) (.ref c') .none) } := I2.kept (t' := s1.toks) fun b o e => Heap.get?_push_of_some _ e
      exact h h2.objs.size c' T0 ((X.mg "__name__").getD .none) t0 H _ I3 ⟨ExtN.refl H, hT, Heap.get?_push_size _ rfl, I2.hok.fresh (Nat.le_refl _), nofr I2 (Nat.le_refl _), Heap.get?_push_of_some _ tup2, tn2, tf2, hco⟩
  exact goal2
end
end K1

namespace K1
open PySem PySem.Spec PyProof.Rows L2
open LamX (ExtN Tabs TabS TabB CodeO lamEnv lamCx)
/-- the lambda's names: its parameter and globals -/
structure LamD (N : List Str) (scope : Scope) (y : Str) : Prop where
  kind : scope.kind = .function
  co : scope.isCoroutine = false
  gen : scope.isGenerator = false
  names : ∀ z ∈ scope.names, (z.2 = .local ∧ z.1 ∉ N) ∨ z.2 = .globalImplicit
  par : scope.names.lookup y = some .local
def lamDB (N : List Str) (scope : Scope) (y : Str) : Bool := decide (scope.kind = .function) && !scope.isCoroutine && !scope.isGenerator && (scope.names.all fun z => (decide (z.2 = .local) && !decide (z.1 ∈ N)) || decide (z.2 = .globalImplicit)) && decide (scope.names.lookup y = some .local)
theorem lamD_by {N : List Str} {scope : Scope} {y : Str} (h : lamDB N scope y = true) : LamD N scope y := by
  unfold lamDB at h
  simp only [Bool.and_eq_true, Bool.not_eq_true', decide_eq_true_eq] at h
  obtain ⟨⟨⟨⟨h1, h2⟩, h3⟩, h4⟩, h5⟩ := h
  refine ⟨h1, h2, h3, fun z hz => ?_, h5⟩
  have q := List.all_eq_true.mp h4 z hz
  rw [Bool.or_eq_true, Bool.and_eq_true, Bool.not_eq_true', decide_eq_true_eq, decide_eq_true_eq, decide_eq_false_iff_not] at q
  exact q
theorem LamD.noFree {N : List Str} {scope : Scope} {y : Str} (L : LamD N scope y) {z : Str} (h : scope.names.lookup z = some .cell ∨ scope.names.lookup z = some .free) : False := by
  rcases h with h | h
  · rcases L.names _ (PySem.mem_of_lookup h) with ⟨q, _⟩ | q <;> cases q
  · rcases L.names _ (PySem.mem_of_lookup h) with ⟨q, _⟩ | q <;> cases q
theorem LamD.clo {N : List Str} {scope : Scope} {y : Str} (L : LamD N scope y) (cells : List (Str × Addr)) : cloFrom cells scope.names [] = [] := by
  cases e : cloFrom cells scope.names [] with
  | nil => rfl
  | cons p l =>
    exfalso
    have hm : p ∈ cloFrom cells scope.names [] := by rw [e]; exact List.mem_cons_self ..
    rcases cloFrom_mem (show (p.1, p.2) ∈ cloFrom cells scope.names [] from hm) with z | ⟨z, _⟩
    · cases z
    · rcases L.names _ z with ⟨q, _⟩ | q <;> cases q
section
variable {X : Cx} {pins : List (Addr × Obj)} {σ : L2.St} {H HZ : Hp} {s s1 : Shared}
theorem lamD_start {A : Around} {outer : List Env} {E : XK} {scope : Scope} {y : Str} {bs : List (Str × Value)} {f c' : Addr} {h₁ : Heap} {tk : Nat} (I : L2.Inv X pins σ H s) (L : LamD X.N scope y) (e0 : Env0 X.prog X.w X.K X.mg X.base A outer s1 HZ) (hd : A.handled = none)
    (hns : h₁.Ns s1.heap.objs.size fun z => bs.reverse.lookup z) (kp : ∀ b o, s1.heap.get? b = some o → h₁.get? b = some o) :
    L2.Inv (lamCx X A outer s1 HZ E scope f c') [] σ HZ { s1 with heap := h₁, toks := tk } := by
  have noA : ∀ b : Addr, b ∉ (lamCx X A outer s1 HZ E scope f c').ex := fun b z => absurd (show b ∈ ([] : List Addr) from z) (by simp)
  have noC : ∀ {z : Str} {c : Addr}, (cloFrom X.env.cells scope.names []).lookup z = some c → False := fun {z c} e => by
    rw [L.clo] at e
    cases e
  refine ⟨⟨e0.mod, L.kind, rfl, rfl, Nat.le_refl _, fun y z c e1 e2 => (noC e1).elim, fun y hy => (L.noFree hy).elim, fun y c z _ => ?_, fun _ => hd, Around.frames_deeper e0.frames, .inr ⟨rfl, rfl⟩, fun b z => absurd z (noA b), e0.bs, e0.bsz, fun b _ _ => noA b,
      fun b z => absurd z (noA b), e0.funs, e0.frf⟩,
    rfl, e0.bare, Un.kept kp, ⟨_, hns, fun i z v e1 e2 e3 => ?_⟩, fun y c e => (noC e).elim, e0.hok.fresh (Nat.le_refl _), fun y c e => (noC e).elim, fun q hq => absurd (show q ∈ ([] : List (Addr × Obj)) ++ [] from hq) (by simp), e0.hok.kept kp, I.len⟩
  · have z : false = true := z
    cases z
  · exfalso
    have e3 : Vis scope z := e3
    rcases e3 with k | k | k
    · rcases L.names _ (PySem.mem_of_lookup k) with ⟨_, q⟩ | q
      · exact q (List.mem_of_getElem? (show X.N[i]? = some z from e1))
      · cases q
    · exact L.noFree (.inl k)
    · exact L.noFree (.inr k)
/-- x(), in the def that got the lambda -/
theorem pe_actD {CXg : CXT} {Eg : XK} {Ng : List Str} {qg : Str} {sg : Scope} {g f c' T0 : Addr} {cdg pm : Value} {params : Arguments} {body : Expr} {scope : Scope} {k i : Nat} {a y : Str} {n0 : Int} {t0 : Tok} {T : List (Addr × Str)} {H0 : Hp} {pn : List (Addr × Obj)} {xe : Value → Shared → Prop} {W : WX} {E : XK} {tb : TE} {p1 p2 : Pos}
    (I : L2.Inv X pins σ H s) (L : LamD X.N scope y) (MD : MadeD X T params body scope n0 H0 H f c' T0 pm t0 s)
    (hbind : ∀ (q : Str) (D : Addr) (pm cv : Value) (v : Value), ∃ kk, bindArgs (dfFn q params body scope (.ref D) pm cv .none) ⟨[], []⟩ = seqItems? (.ref D) >>= kk ∧ kk (some #[v]) = pure [(y, v)])
    (tk : Takes ((cxOf CXg X.prog X.w X.K X.mg X.base Ng qg sg g cdg X.A X.stack s H Eg).tr pn xe) W) (hW : ∀ cls d σ' H', E cls d H' → W cls d σ' H') (hr : Room (k + 1) (X.A.deeper (envOfC qg sg s.heap.objs.size g cdg)))
    (hbody : ∀ (A : Around) (outer : List Env) (s : Shared) (H : Hp), Room k (A.deeper (lamEnv X scope s.heap.objs.size f c')) → PE (lamCx X A outer s H E scope f c') body tb)
    (hN : Ng[i]? = some a) (hv : Vis sg a) (hd : (a == ("__debug__" : Str)) = false := by decide) (hcd : (a == ("__classdict__" : Str)) = false := by decide) :
    PE ((cxOf CXg X.prog X.w X.K X.mg X.base Ng qg sg g cdg X.A X.stack s H Eg).tr pn xe) (.Call (.Name a p1) [] [] p2) (fun σZ HZ Q => σZ[i]? = some (some (.ref f)) ∧ HZ c' = some (CodeO c' (X.env.qual ++ "<lambda>")) ∧ tb σ HZ Q) := by
  refine ⟨fun pinsZ sZ σZ HZ Q IZ h => ?_⟩
  obtain ⟨hs, hc, ht⟩ := h
  refine wpAny_Call_Name_kw (thn ((pe_var (pos := p1) (i := i) hN hv hd hcd).run pinsZ sZ σZ HZ (fun v H1 => v = .ref f ∧ H1 = HZ) IZ ⟨.ref f, hs, rfl, rfl⟩) fun u s1 ⟨v, H1, I1, r1, q1⟩ => ?_)
  obtain ⟨ev, eH⟩ := q1
  subst ev
  rw [eH] at I1
  obtain rfl : u = Value.ref f := r1
  have of1 := I1.base.keep f _ MD.at_ MD.fn MD.ff (fun z => nomatch (show f ∈ ([] : List Addr) from z))
  have oT1 := I1.base.keep T0 _ MD.tup MD.tn MD.tf (fun z => nomatch (show T0 ∈ ([] : List Addr) from z))
  refine PySem.W.callWith_F0 ⟨_, _, _, _, of1⟩ ?_
  obtain ⟨⟨oc, vs, t, hoc, hdc, hvc⟩, _, _⟩ := I1.hok c' _ hc
  have rc : codeAny (model X.prog X.w) (X.A.deeper (envOfC qg sg s.heap.objs.size g cdg)) (.call (.ref f) ⟨[], []⟩) (CR (L2.CX X.prog X.w) (envOfC qg sg s.heap.objs.size g cdg :: X.stack) X.prog X.w HZ s1 Q E) s1 := by
    refine PySem.W.kla_callFunE hr.depth of1 rfl L.co L.gen rfl ⟨c', oc, vs, t, rfl, hoc, hdc, hvc⟩ ?_
    obtain ⟨kk, e1, e2⟩ := hbind (X.env.qual ++ "<lambda>") T0 pm (.ref c') (.int n0 t0)
    refine BindsTo.of_defaults (T := T0) (k := kk) rfl oT1 rfl e1 e2 _ _ _ _ ?_
    refine wpAny_newFunctionEnv (fun z hz q => ?_) (fun z hz => ?_) (fun h₁ hns hsb => ⟨I1.nolimit.fresh _ hsb, ?_⟩) L.kind
    · rcases L.names z hz with ⟨q2, _⟩ | q2 <;> rw [q2] at q <;> cases q
    · rw [List.mem_singleton.mp hz]
      exact L.par
    · have eC : ([] : List (Str × Addr)) = cloFrom X.env.cells scope.names [] := (L.clo _).symm
      show codeAny _ _ (.expr body (PySem.W.envX (X.env.qual ++ "<lambda>") scope s1.heap.objs.size f (.ref c') [])) _ _
      rw [eC]
      show codeAny _ _ (.expr body (lamEnv X scope s1.heap.objs.size f c')) _ _
      have kp : ∀ b o, s1.heap.get? b = some o → h₁.get? b = some o := fun b o e => hsb.extBut b o (Nat.ne_of_lt (Heap.lt_size e)) (Heap.get?_push_of_some _ e)
      have J : L2.Inv (lamCx X (X.A.deeper (envOfC qg sg s.heap.objs.size g cdg)) (envOfC qg sg s.heap.objs.size g cdg :: X.stack) s1 HZ E scope f c') [] σ HZ { s1 with heap := h₁, toks := s1.toks + ([(y, Value.int n0 t0)] : List (Str × Value)).length } :=
        lamD_start I L I1.env0 hr.hd hns kp
      refine PySem.W.kla_codeExpr (wpAny_mono ((hbody _ _ s1 HZ (hr.deeper _)).run [] _ _ HZ Q J ht) (fun v s' hq => ?_) fun e s' hq => hq)
      obtain ⟨w', H', J', rv, q⟩ := hq
      exact ⟨w', H', J'.os, J'.bare, J'.base, J'.hok, rv, q⟩
  have hx : Passes (L2.CX X.prog X.w) ((cxOf CXg X.prog X.w X.K X.mg X.base Ng qg sg g cdg X.A X.stack s H Eg).tr pn xe) E := passes_call tk hW
  refine wpAny_call (codeAny_mono rc fun r s' hq => ?_)
  cases r with
  | error e => exact hx pinsZ σZ HZ s1 e s' I1 hq
  | ok fl =>
    cases fl with
    | ret u => exact I1.after hq
    | next => exact False.elim hq
    | brk => exact False.elim hq
    | cont => exact False.elim hq
end
section
variable {X : Cx}
/-- _law_fault(lambda y=n0: body) -/
theorem pe_faultD {T : List (Addr × Str)} {CI CS fA c Pt : Addr} {fdA : FuncData} {k : Nat} {params : Arguments} {body : Expr} {scope : Scope} {t : XK → TE} {y : Str} {n0 : Int} {j : Nat} {p lpos pos pd : Pos} (AA : TxtA X.K X.mg CI CS fA fdA) (hg : Gl X "_law_fault")
    (TB : TabB X.base X.mg c Pt) (hcode : X.env.code = .ref c) (hmT : (Pt, X.env.qual ++ "<lambda>") ∈ T) (hu : ∀ p ∈ T, p.1 = Pt → p.2 = X.env.qual ++ "<lambda>") (hr : Room (k + 2) X.A) (L : LamD X.N scope y) (hdef : defaultsOf params X.env = ([eval (.Constant (.int n0) j pd) X.env], [])) (hko : params.kwonlyargs = [])
    (hbind : ∀ (q : Str) (D : Addr) (pm cv : Value) (v : Value), ∃ kk, bindArgs (dfFn q params body scope (.ref D) pm cv .none) ⟨[], []⟩ = seqItems? (.ref D) >>= kk ∧ kk (some #[v]) = pure [(y, v)])
    (hbody : ∀ (A : Around) (outer : List Env) (s : Shared) (H : Hp) (E : XK) (f c' : Addr), Room k (A.deeper (lamEnv X scope s.heap.objs.size f c')) → PE (lamCx X A outer s H E scope f c') body (t E)) :
    PE X (.Call (.Name "_law_fault" p) [.Lambda params body scope lpos] [] pos) (LamX.tLam T (TFault CI) t) := by
  obtain ⟨oc, od, kV, doc, pm, an, cdv, ct, osl, e, lk, hcg⟩ := AA.F.ex
  subst e
  refine ⟨fun pins s σ H Q I h => ?_⟩
  obtain ⟨hT, h⟩ := h
  refine wpAny_Call_Name_kw (ld_glob I hg AA.g ?_ (by decide))
  refine PySem.W.callWith_K (h₀ := X.base) I.ok.mod.kin AA.F.kp ?_ (by rfl) (by rfl)
  show wpAny _ _ (spliced ((false, eval (.Lambda params body scope lpos) X.env) :: backTo pos (starEach [] X.env))) _ _ s
  have hcl : closureFor scope X.env = pure [] := by
    have z := closure_ok (env := X.env) (scope := scope) (fun y hy e => by
      rcases L.names y hy with ⟨q, _⟩ | q <;> rw [q] at e <;> cases e)
    rw [L.clo] at z
    exact z
  refine Calls.spliced_cons (lamD_make I TB hcode hmT hu hT hdef hko hcl rfl fun f c' T0 pm' t0 H1 s' I1 MD => ?_)
  refine Calls.spliced_nil ⟨I1.kIn, ?_⟩
  have rc : codeAny (model X.prog X.w) X.A (.call (.ref fA) ⟨[.ref f], []⟩) (CR C8.CX0 X.stack X.prog X.w H1 s' Q C8.E0) s' := by
    refine LamX.run_ofS (N := ["_law_call", "_law_error", "e"]) (ps := ["_law_call"]) (us := [.ref f]) (vs := [.ref f]) lk hcg scFault hr I1.env0 (AA.b s' [.ref f] I1.kIn rfl) (.cons rfl .nil) rfl fun hr' => ?_
    obtain ⟨t', ht', hq'⟩ := fault_gives (q := X.env.qual ++ "<lambda>") AA.gS AA.gI AA.isi AA.L AA.nf AA.hx AA.hk f c' s' H1 Q (fun E H' Q' => t E σ H' Q')
      (fun W pn xe E p1 p2 tk hW => pe_actD (i := 0) I1 L MD hbind tk hW hr' (fun A outer s H hr2 => hbody A outer s H E f c' hr2) rfl (Or.inl rfl)) MD.co (h H1 MD.ext MD.tabs)
    exact ⟨t', ht'.nox, hq'⟩
  refine wpAny_call (codeAny_mono rc fun r s2 hq => ?_)
  cases r with
  | error e => exact (show False from hq).elim
  | ok fl =>
    cases fl with
    | ret u => exact I1.after hq
    | next => exact False.elim hq
    | brk => exact False.elim hq
    | cont => exact False.elim hq
end
end K1

namespace K1
open PySem L2
open LamX (ExtN Tabs TabS TabB LamS lamS_by lamSB)
/-! ### which values are right and wrong -/
section
variable {K : PySem.W.Frag} {H : Hp}
theorem valB_str {z : Str} (h : z.length ≤ 1000) (o : PyData.strOk z = true) : ValB K H (.str z) := .inl ⟨z, rfl, h, o⟩
theorem valB_other {v : V} {a : String} (h1 : ∀ z, v ≠ .str z) (h2 : ∀ b, v = .ref b → ∃ o, H b = some o ∧ ∀ ps, o ≠ .tbl ps) (h3 : TyOf K H v (.type a)) (h4 : kitB a "str" = some false) : ValB K H v := .inr ⟨h1, h2, _, .base h3, kit_ty h4⟩
theorem valB_non : ValB K H .non := valB_other (fun _ => nofun) (fun _ => nofun) .non (by decide +kernel)
theorem valB_bl {b : Bool} : ValB K H (.bl b) := valB_other (fun _ => nofun) (fun _ => nofun) (.bl b) (by decide +kernel)
theorem valB_int {i : Int} : ValB K H (.int i) := valB_other (fun _ => nofun) (fun _ => nofun) (.int i) (by decide +kernel)
theorem valB_tup {a : Addr} {xs : List V} (e : H a = some (.tup xs)) : ValB K H (.ref a) := valB_other (fun _ => nofun) (fun b q => by cases q; exact ⟨_, e, fun _ => nofun⟩) (.tup e) (by decide +kernel)
theorem valB_lst {a : Addr} {xs : List V} (e : H a = some (.lst xs)) : ValB K H (.ref a) := valB_other (fun _ => nofun) (fun b q => by cases q; exact ⟨_, e, fun _ => nofun⟩) (.lst e) (by decide +kernel)
theorem valB_dK {a : Addr} {xs : List (Key × V)} (e : H a = some (.dK xs)) : ValB K H (.ref a) := valB_other (fun _ => nofun) (fun b q => by cases q; exact ⟨_, e, fun _ => nofun⟩) (.dK e) (by decide +kernel)
end
/-- a written value: a text or a whole number -/
def litB : V → Bool
  | .str z => decide (z.length ≤ 1000) && PyData.strOk z
  | .int _ => true
  | _ => false
theorem litB.val {K : PySem.W.Frag} {H : Hp} {v : V} (h : litB v = true) : ValB K H v ∧ ∀ a, v ≠ .ref a := by
  cases v with
  | str z =>
    unfold litB at h
    rw [Bool.and_eq_true] at h
    exact ⟨valB_str (of_decide_eq_true h.1) h.2, fun _ => nofun⟩
  | int i => exact ⟨valB_int, fun _ => nofun⟩
  | _ => cases h
def keyB (z : Str) : Bool := decide (z.length ≤ 1000) && PyData.strOk z
theorem mem_kwD : ∀ {ks : List Str} {zs : List V} {p : Key × V}, p ∈ kwD ks zs → ∃ k z, k ∈ ks ∧ z ∈ zs ∧ p = (.inr k, z)
  | k :: ks, z :: zs, p, h => by
    rcases List.mem_cons.mp (show p ∈ ((.inr k : Key), z) :: kwD ks zs from h) with e | h
    · exact ⟨k, z, List.mem_cons_self .., List.mem_cons_self .., e⟩
    · obtain ⟨k', z', a, b, c⟩ := mem_kwD h
      exact ⟨k', z', List.mem_cons_of_mem _ a, List.mem_cons_of_mem _ b, c⟩
  | [], _, _, h => by cases h
  | _ :: _, [], _, h => by cases h
theorem slots_kw {K : PySem.W.Frag} {H : Hp} {d : Addr} {ks : List Str} {zs : List V} (hk : ks.all keyB = true) (hz : zs.all litB = true) (hl : ks.length ≤ 1000) : SlotsOk K H d (kwD ks zs) := by
  refine ⟨fun p hp => ?_, fun p hp => ?_, ?_⟩
  · obtain ⟨k, z, a, b, rfl⟩ := mem_kwD hp
    have q := List.all_eq_true.mp hk k a
    unfold keyB at q
    rw [Bool.and_eq_true] at q
    exact ⟨k, rfl, of_decide_eq_true q.1, q.2⟩
  · obtain ⟨k, z, a, b, rfl⟩ := mem_kwD hp
    have q := litB.val (K := K) (H := H) (List.all_eq_true.mp hz z b)
    exact ⟨q.1.val, q.2 d⟩
  · unfold kwD
    rw [List.length_map, List.length_zip]
    omega
theorem kw_ne {x : Addr} {ks : List Str} {zs : List V} (hz : zs.all litB = true) : ∀ p ∈ kwD ks zs, p.2 ≠ .ref x := fun p hp => by
  obtain ⟨k, z, a, b, rfl⟩ := mem_kwD hp
  exact (litB.val (K := []) (H := fun _ => none) (List.all_eq_true.mp hz z b)).2 x
/-- behind the making of the instance and the dict -/
theorem made_same {H : Hp} {x dx d CF : Addr} {kvs : List (Key × V)} (nx : H x = none) (ndx : H dx = none) (nd : (upd (upd H dx (.own x)) x (.ins CF dx [])) d = none) : Same H (upd (upd (upd H dx (.own x)) x (.ins CF dx [])) d (.dK kvs)) ∧ (upd (upd (upd H dx (.own x)) x (.ins CF dx [])) d (.dK kvs)) x = some (.ins CF dx []) := by
  have s1 : Same H (upd (upd H dx (.own x)) x (.ins CF dx [])) := fun b o e => by
    rw [upd_ne (ne_of_none e nx), upd_ne (ne_of_none e ndx)]
    exact e
  have hx : (upd (upd H dx (.own x)) x (.ins CF dx [])) x = some (.ins CF dx []) := upd_same
  refine ⟨same_upd s1 (s1.free nd), ?_⟩
  rw [upd_ne (ne_of_none hx nd)]
  exact hx
/-- a form of written values under _law_fault -/
theorem fault_kw {K : PySem.W.Frag} {CI CF : Addr} {n s : V} {ks : List Str} {zs : List V} {H : Hp} {Q : VK} (hn : litB n = true) (hs : litB s = true) (hk : ks.all keyB = true) (hz : zs.all litB = true) (hl : ks.length ≤ 1000) (hlz : zs.length = ks.length)
    (k : ∀ H' p, Same H H' → H p = none → H' p = some (.tup (dueT n s (kwD ks zs))) → Q (.ref p) H') :
    TFault CI (fun E' H Q' => ∀ x dx, H x = none → H dx = none → dx ≠ x → spInitK K CI CF ks [.ref x, n, s] zs (upd (upd H dx (.own x)) x (.ins CF dx [])) (fun v H3 => v = .non ∧ Q' (.ref x) H3) E') H Q := by
  intro E' Q' hE hQ x dx nx ndx nex
  refine ⟨rfl, hlz, fun d nd => ?_⟩
  obtain ⟨s2, hx2⟩ := made_same (CF := CF) (kvs := kwD ks zs) nx ndx nd
  refine ⟨x, dx, d, n, s, kwD ks zs, rfl, hx2, (litB.val hn).1.val, (litB.val hs).1.val, (litB.val (K := K) (H := H) hn).2 x, (litB.val (K := K) (H := H) hs).2 x, slots_kw hk hz hl, kw_ne hz, upd_same, ?_⟩
  have sx : ∀ H', SameX x (upd (upd (upd H dx (.own x)) x (.ins CF dx [])) d (.dK (kwD ks zs))) H' → Same H H' := fun H' sX b o e => sX b o (ne_of_none e nx) (s2 b o e)
  cases e : dueV n s (kwD ks zs) with
  | some w =>
    intro H' dd s' hdd hx
    exact hE dd w H' hx fun H'' p s'' np hp => k H'' p ((sx H' s').trans s'') ((sx H' s').free np) (by unfold dueT; rw [e]; exact hp)
  | none =>
    intro H' p fs s' hx hp st efs
    exact ⟨rfl, hQ _ H' fun H'' p s'' np hp => k H'' p ((sx H' s').trans s'') ((sx H' s').free np) (by unfold dueT; rw [e]; exact hp)⟩
/-- a form of written values that is right -/
theorem form_kw {K : PySem.W.Frag} {CI CF : Addr} {n s : V} {ks : List Str} {zs : List V} {H : Hp} {R : VK} {E : XK} {x dx : Addr} (hn : litB n = true) (hs : litB s = true) (hk : ks.all keyB = true) (hz : zs.all litB = true) (hl : ks.length ≤ 1000) (hlz : zs.length = ks.length) (hd : dueV n s (kwD ks zs) = none)
    (k : ∀ H', Same H H' → FormAt CF H' x n s (kwD ks zs) → R .non H') (nx : H x = none) (ndx : H dx = none) :
    spInitK K CI CF ks [.ref x, n, s] zs (upd (upd H dx (.own x)) x (.ins CF dx [])) R E := by
  refine ⟨rfl, hlz, fun d nd => ?_⟩
  obtain ⟨s2, hx2⟩ := made_same (CF := CF) (kvs := kwD ks zs) nx ndx nd
  refine ⟨x, dx, d, n, s, kwD ks zs, rfl, hx2, (litB.val hn).1.val, (litB.val hs).1.val, (litB.val (K := K) (H := H) hn).2 x, (litB.val (K := K) (H := H) hs).2 x, slots_kw hk hz hl, kw_ne hz, upd_same, ?_⟩
  rw [hd]
  intro H' p fs s' hx hp st efs
  refine k H' (fun b o e => s' b o (ne_of_none e nx) (s2 b o e)) ⟨dx, p, fs, hx, ?_, ?_, ?_, st⟩
  · rw [efs, lk_put3 ns_, lk_put3 nk_, lk_put1]
  · rw [efs, lk_put3 ks_, lk_put1]
  · rw [efs, lk_put1]
/-! ### the list of what was told -/
structure Told (H : Hp) (l : Addr) (qs : List Addr) (ls : List (List Str)) : Prop where
  at_ : H l = some (.lst (qs.map V.ref))
  all : Paired (fun (q : Addr) (t : List Str) => H q = some (.tup (t.map V.str))) qs ls
theorem Told.ext {H H' : Hp} {l : Addr} {qs : List Addr} {ls : List (List Str)} (t : Told H l qs ls) (e : ExtN H H') : Told H' l qs ls := ⟨e _ _ t.at_ fun _ => nofun, Paired.mapP t.all fun _ _ q => e _ _ q fun _ => nofun⟩
theorem Told.add {H : Hp} {l q : Addr} {qs : List Addr} {ls : List (List Str)} {t2 : List Str} (t : Told H l qs ls) (h : H q = some (.tup (t2.map V.str))) : Told (upd H l (.lst (qs.map V.ref ++ [.ref q]))) l (qs ++ [q]) (ls ++ [t2]) := by
  refine ⟨by rw [upd_same, List.map_append]; rfl, Paired.snoc (Paired.mapP t.all fun a b e => ?_) ?_⟩
  · rw [upd_ne (ne_of e t.at_ (by intro z; cases z))]
    exact e
  · rw [upd_ne (ne_of h t.at_ (by intro z; cases z))]
    exact h
def dpT (t : List Str) : PyData := .tuple (t.map PyData.str)
theorem dpTold {K : PySem.W.Frag} {H : Hp} : ∀ {qs : List Addr} {ls : List (List Str)}, Paired (fun (q : Addr) (t : List Str) => H q = some (.tup (t.map V.str))) qs ls → DpAll K H (qs.map V.ref) (ls.map dpT)
  | _, _, .nil => .nil
  | _, _, .cons a t => .cons (.tup (SqT.of a) (dpStrs _)) (dpTold t)
end K1

namespace K1
open PySem L2
open LamX (ExtN Tabs TabS TabB LamS lamS_by lamSB)
structure KwF (fd : FuncData) : Prop where
  k1 : KwB fd ["what", "args", "later"]
  k2 : KwB fd ["a"]
  k3 : KwB fd ["a", "b", "c"]
  k4 : KwB fd ["a", "b", "c", "d", "f", "g"]
  k5 : KwB fd ["text", "item", "rows"]
def NH : List Str := ["_law_one", "_law_told", "_law_due_here"]
theorem scHand : FnScope NH [] (defScope sHand) := ⟨rfl, rfl, rfl, by decide +kernel, rfl, by decide +kernel, by decide +kernel⟩
def qH : Str := (PyProof.Rows.envOfC "_law_hand_right" (defScope sHand) 0 0 .none).qual ++ "<lambda>"
def spHand (T : List (Addr × Str)) : Sp := fun vs H Q _ => vs = [] ∧ Tabs T H ∧ ∀ H', ExtN H H' → Tabs T H' → Q (.bl true) H'
def psCall : List (Str × Str) := [("what", "text"), ("args", "expr*"), ("later", "statement")]
def dueH : List (List Str) := [["wrong", "name"], ["wrong", "sort"], ["wrong", "b"], ["wrong", "size"], ["wrong", "g"], []]
theorem form_0 {K : PySem.W.Frag} {CI CF : Addr} {n s : V} {H : Hp} {R : VK} {E : XK} {x dx : Addr} (hn : litB n = true) (hs : litB s = true) (hd : dueV n s [] = none) (k : ∀ H', Same H H' → FormAt CF H' x n s [] → R .non H') (nx : H x = none) (ndx : H dx = none) :
    spInit0 K CI CF [.ref x, n, s] (upd (upd H dx (.own x)) x (.ins CF dx [])) R E :=
  let h := form_kw (K := K) (CI := CI) (E := E) (ks := []) (zs := []) hn hs rfl rfl (Nat.zero_le _) rfl hd k nx ndx
  ⟨h.1, h.2.2⟩
section
variable {P : Program} {w : World} {K : PySem.W.Frag} {mg : Str → Option Value} {base : Heap}
theorem ok_hand {f c Pt fN fT fS fC fI fO pO fA CI CS CF : Addr} {fd fdN fdT fdS fdC fdI fdO fdA : FuncData} {T : List (Addr × Str)} (F : FunC K "_law_hand_right" "_law_hand_right" sHand f fd c) (R : TxtR P K mg CI CS CF fN fT fS fC fI fO pO fA fdN fdT fdS fdC fdI fdO fdA) (KF : KwF fdI)
    (TB : TabB base mg c Pt) (hmT : (Pt, qH) ∈ T) (hu : ∀ p ∈ T, p.1 = Pt → p.2 = qH)
    (GN : FnOk P w K mg base CX0 1 fN fdN ["value"] (spName K)) (GS : FnOk P w K mg base CX0 2 fS fdS ["value"] (spSort K)) (GC : FnOk P w K mg base (L2.CX P w) 4 fC fdC ["slots"] (spChecked K CI)) :
    FnOk P w K mg base CX0 10 f fd [] (spHand T) := by
  have G0 := init_fnR R.FI R.C GN GS GC
  have G1 := init_kw R.FI R.C KF.k1 (by decide +kernel) (by decide) GN GS GC
  have G2 := init_kw R.FI R.C KF.k2 (by decide +kernel) (by decide) GN GS GC
  have G3 := init_kw R.FI R.C KF.k3 (by decide +kernel) (by decide) GN GS GC
  have G4 := init_kw R.FI R.C KF.k4 (by decide +kernel) (by decide) GN GS GC
  have G5 := init_kw R.FI R.C KF.k5 (by decide +kernel) (by decide) GN GS GC
  obtain ⟨mc, mt, cr, cv⟩ := R.C.mx
  refine F.ok scHand (fun vs H Q E h => ?_) (fun A outer s H vs Q E hr h => ?_)
  · obtain ⟨rfl, _⟩ := h
    rfl
  · obtain ⟨rfl, tabs, k⟩ := h
    have hr6 : Room 6 _ := hr.mono (by decide)
    have hr8 : Room 8 _ := hr.mono (by decide)
    refine ⟨_, pss_cons (ps_set (i := 0) scHand.nd rfl (Or.inl rfl) (pe_makeKW (E := E0) R.C.mkF G1 hr6 rfl R.C.gF passL (pa_cons pe_str (pa_cons pe_str pa_nil)) (pk_cons pe_str (pk_cons pe_str (pk_cons pe_str pk_nil)))))
      (pss_cons (ps_if (PW.pt (pw_or (pt_cmpR (op_neD hr.units) (pe_fld (pv 0) rfl) (pe_tup (pa_cons (pe_tup (pa_cons pe_str (pa_cons pe_str pa_nil))) (pa_cons (pe_tup (pa_cons pe_str (pa_cons pe_str pa_nil))) (pa_cons (pe_tup (pa_cons pe_str (pa_cons pe_str pa_nil))) pa_nil)))) (nomark _))
          (pw_or1 (pt_cmpR (op_neD hr.units) (pe_fld (StX.pe_makeR (E := E0) R.C.mkF G0 hr6 rfl R.C.gF passL (pa_cons pe_str (pa_cons pe_str pa_nil))) rfl) (pe_tup pa_nil) (nomark _))))) (pss_one (ps_ret pe_bl)) pss_nil)
      (pss_cons (ps_set (i := 1) scHand.nd rfl (Or.inl rfl) (pe_lst (pa_cons (pe_fault (k := 6) R.A rfl TB rfl hmT hu hr8 (lamS_by (sc := defScope sHand) (by decide +kernel)) rfl (fun _ _ _ _ _ => rfl)
            (fun _ _ _ _ E _ _ hr' => pe_makeKW (E := E) R.C.mkF G2 hr' rfl R.C.gF (passes_call (takes_of rfl rfl rfl rfl) (fun _ _ _ _ q => q)) (pa_cons pe_str (pa_cons pe_str pa_nil)) (pk_cons pe_int pk_nil)))
          (pa_cons (pe_faultD (k := 6) (y := "_law_n") (n0 := 0) R.A rfl TB rfl hmT hu hr8 (lamD_by (N := NH) (by decide +kernel)) rfl rfl (fun _ _ _ _ _ => ⟨_, rfl, rfl⟩)
            (fun _ _ _ _ E _ _ hr' => pe_makeKW (E := E) R.C.mkF G2 hr' rfl R.C.gF (passes_call (takes_of rfl rfl rfl rfl) (fun _ _ _ _ q => q)) (pa_cons pe_str (pa_cons pe_str pa_nil)) (pk_cons pe_int pk_nil))) pa_nil))))
      (pss_cons (ps_expr (pe_bm PySem.F.plainAttrs_list PySem.F.slot_list_append PySem.F.type_list_append mt_append (pv 1) (pa_cons (pe_fault (k := 6) R.A rfl TB rfl hmT hu hr8 (lamS_by (sc := defScope sHand) (by decide +kernel)) rfl (fun _ _ _ _ _ => rfl)
            (fun _ _ _ _ E _ _ hr' => pe_makeKW (E := E) R.C.mkF G3 hr' rfl R.C.gF (passes_call (takes_of rfl rfl rfl rfl) (fun _ _ _ _ q => q)) (pa_cons pe_str (pa_cons pe_str pa_nil)) (pk_cons pe_str (pk_cons pe_str (pk_cons pe_int pk_nil))))) pa_nil)))
      (pss_cons (ps_expr (pe_bm PySem.F.plainAttrs_list PySem.F.slot_list_append PySem.F.type_list_append mt_append (pv 1) (pa_cons (pe_fault (k := 6) R.A rfl TB rfl hmT hu hr8 (lamS_by (sc := defScope sHand) (by decide +kernel)) rfl (fun _ _ _ _ _ => rfl)
            (fun _ _ _ _ E _ _ hr' => pe_makeKW (E := E) R.C.mkF G4 hr' rfl R.C.gF (passes_call (takes_of rfl rfl rfl rfl) (fun _ _ _ _ q => q)) (pa_cons pe_str (pa_cons pe_str pa_nil)) (pk_cons pe_str (pk_cons pe_str (pk_cons pe_str (pk_cons pe_str (pk_cons pe_str (pk_cons pe_str pk_nil)))))))) pa_nil)))
      (pss_cons (ps_expr (pe_bm PySem.F.plainAttrs_list PySem.F.slot_list_append PySem.F.type_list_append mt_append (pv 1) (pa_cons (pe_fault (k := 6) R.A rfl TB rfl hmT hu hr8 (lamS_by (sc := defScope sHand) (by decide +kernel)) rfl (fun _ _ _ _ _ => rfl)
            (fun _ _ _ _ E _ _ hr' => pe_makeKW (E := E) R.C.mkF G4 hr' rfl R.C.gF (passes_call (takes_of rfl rfl rfl rfl) (fun _ _ _ _ q => q)) (pa_cons pe_str (pa_cons pe_str pa_nil)) (pk_cons pe_str (pk_cons pe_str (pk_cons pe_str (pk_cons pe_str (pk_cons pe_str (pk_cons pe_str pk_nil)))))))) pa_nil)))
      (pss_cons (ps_expr (pe_bm PySem.F.plainAttrs_list PySem.F.slot_list_append PySem.F.type_list_append mt_append (pv 1) (pa_cons (pe_fault (k := 6) R.A rfl TB rfl hmT hu hr8 (lamS_by (sc := defScope sHand) (by decide +kernel)) rfl (fun _ _ _ _ _ => rfl)
            (fun _ _ _ _ E _ _ hr' => pe_makeKW (E := E) R.C.mkF G5 hr' rfl R.C.gF (passes_call (takes_of rfl rfl rfl rfl) (fun _ _ _ _ q => q)) (pa_cons pe_str (pa_cons pe_str pa_nil)) (pk_cons pe_str (pk_cons pe_str (pk_cons pe_str pk_nil))))) pa_nil)))
      (pss_cons (ps_set (i := 2) scHand.nd rfl (Or.inl rfl) (pe_lst (pa_cons (pe_tup (pa_cons pe_str (pa_cons pe_str pa_nil))) (pa_cons (pe_tup (pa_cons pe_str (pa_cons pe_str pa_nil))) (pa_cons (pe_tup (pa_cons pe_str (pa_cons pe_str pa_nil))) (pa_cons (pe_tup (pa_cons pe_str (pa_cons pe_str pa_nil)))
          (pa_cons (pe_tup (pa_cons pe_str (pa_cons pe_str pa_nil))) (pa_cons (pe_tup pa_nil) pa_nil))))))))
      (pss_one (ps_ret (pe_and (pe_cmpR (op_eqD hr.units) (pv 1) (pv 2) (nomark _)) (pe_one (pe_cmpR op_eq (ClX.pe_cval (pe_glob (v := .ref CF) rfl R.C.gF rfl)) pe_int (nomark _))))))))))))), ?_⟩
    intro x dx nx ndx _
    refine form_kw (K := K) (CI := CI) (CF := CF) (n := .str "Call") (s := .str "expr") (ks := ["what", "args", "later"]) (zs := [.str "text", .str "expr*", .str "statement"]) (by decide +kernel) (by decide +kernel) (by decide +kernel) (by decide +kernel) (by decide) rfl (by decide +kernel) (fun H1 s1 ⟨dx1, p1, fs1, hx1, _, _, l1, st1⟩ => ⟨rfl, ?_⟩) nx ndx
    obtain ⟨ts1, hp1, pp1⟩ := st1
    refine ⟨_, rfl, x, CF, dx1, fs1, _, rfl, hx1, R.C.cl, R.C.nS, l1, (by show 2 ≤ sizeLine; decide), fun t1 ht1 => ⟨by show 2 ≤ sizeLine; decide, fun t2 ht2 => ⟨by show 2 ≤ sizeLine; decide, fun t3 ht3 => ⟨by show 3 ≤ sizeLine; decide, fun t4 ht4 => ?_⟩⟩⟩⟩
    have a1 : Same H1 (upd H1 t1 (.tup [.str "what", .str "text"])) := same_upd (Same.refl H1) ht1
    have b1 : (upd H1 t1 (.tup [.str "what", .str "text"])) t1 = some (.tup [.str "what", .str "text"]) := upd_same
    generalize upd H1 t1 (.tup [.str "what", .str "text"]) = J1 at ht2 ht3 ht4 a1 b1 ⊢
    have a2 : Same J1 (upd J1 t2 (.tup [.str "args", .str "expr*"])) := same_upd (Same.refl J1) ht2
    have b2 : (upd J1 t2 (.tup [.str "args", .str "expr*"])) t2 = some (.tup [.str "args", .str "expr*"]) := upd_same
    generalize upd J1 t2 (.tup [.str "args", .str "expr*"]) = J2 at ht3 ht4 a2 b2 ⊢
    have a3 : Same J2 (upd J2 t3 (.tup [.str "later", .str "statement"])) := same_upd (Same.refl J2) ht3
    have b3 : (upd J2 t3 (.tup [.str "later", .str "statement"])) t3 = some (.tup [.str "later", .str "statement"]) := upd_same
    generalize upd J2 t3 (.tup [.str "later", .str "statement"]) = J3 at ht4 a3 b3 ⊢
    have a4 : Same J3 (upd J3 t4 (.tup [.ref t1, .ref t2, .ref t3])) := same_upd (Same.refl J3) ht4
    have b4 : (upd J3 t4 (.tup [.ref t1, .ref t2, .ref t3])) t4 = some (.tup [.ref t1, .ref t2, .ref t3]) := upd_same
    generalize upd J3 t4 (.tup [.ref t1, .ref t2, .ref t3]) = J4 at a4 b4 ⊢
    have a14 : Same H1 J4 := ((a1.trans a2).trans a3).trans a4
    have sh1 : SeqAt.shaped (.tuple (psCall.map dpP)) = true := by decide +kernel
    have pp1' : Paired (fun (t : Addr) (q : Key × V) => J4 t = some (.tup [kV q.1, q.2])) ts1 (psCall.map mkP) := Paired.mapP pp1 fun t q e => a14 _ _ e
    refine ⟨.tuple (psCall.map dpP), .tuple (psCall.map dpP), .tup (SqT.of (a14 _ _ hp1)) (dpPairs pp1'), .tup (SqT.of b4) (.cons (.tup (SqT.of (a4 _ _ (a3 _ _ (a2 _ _ b1)))) (.cons (.str _) (.cons (.str _) .nil))) (.cons (.tup (SqT.of (a4 _ _ (a3 _ _ b2))) (.cons (.str _) (.cons (.str _) .nil))) (.cons (.tup (SqT.of (a4 _ _ b3)) (.cons (.str _) (.cons (.str _) .nil))) .nil))), sh1, sh1, _, rfl, ?_⟩
    rw [SeqAt.eqv_refl _ (lay_of sh1)]
    refine iteF ?_
    intro x2 dx2 nx2 ndx2 _
    refine form_0 (K := K) (CI := CI) (CF := CF) (n := .str "A") (s := .str "e") (by decide +kernel) (by decide +kernel) (by decide +kernel) (fun H2 s2 ⟨dx2, p2, fs2, hx2, _, _, l2, st2⟩ => ⟨rfl, ?_⟩) nx2 ndx2
    obtain ⟨ts2, hp2, pp2⟩ := st2
    refine ⟨x2, CF, dx2, fs2, _, rfl, hx2, R.C.cl, R.C.nS, l2, Nat.zero_le _, fun e0 he0 => ?_⟩
    have c1 : Same H2 (upd H2 e0 (.tup [])) := same_upd (Same.refl H2) he0
    have ets : ts2 = [] := by cases pp2; rfl
    rw [ets] at hp2
    refine ⟨.tuple [], .tuple [], .tup (SqT.of (c1 _ _ hp2)) .nil, .tup (SqT.of upd_same) .nil, by decide, by decide, _, rfl, ?_⟩
    refine iteF ?_
    have S3 : Same H (upd H2 e0 (.tup [])) := ((s1.trans a14).trans s2).trans c1
    have T3 : Tabs T (upd H2 e0 (.tup [])) := tabs.ext S3
    generalize upd H2 e0 (.tup []) = H3 at S3 T3 ⊢
    refine ⟨T3, fun H4 e4 T4 => fault_kw (K := K) (CI := CI) (CF := CF) (n := .str "1") (s := .str "text") (ks := ["a"]) (zs := [.int 5]) (by decide +kernel) (by decide +kernel) (by decide +kernel) (by decide +kernel) (by decide) rfl fun H5 q1 s5 n5 h5 => ?_⟩
    rw [show dueT (.str "1") (.str "text") (kwD ["a"] [.int 5]) = (["wrong", "name"] : List Str).map V.str by decide +kernel] at h5
    have X5 : ExtN H H5 := ((ExtN.of S3).trans e4).trans (ExtN.of s5)
    refine ⟨T4.ext s5, fun H6 e6 T6 => fault_kw (K := K) (CI := CI) (CF := CF) (n := .str "A") (s := .str "text") (ks := ["a"]) (zs := [.int 5]) (by decide +kernel) (by decide +kernel) (by decide +kernel) (by decide +kernel) (by decide) rfl fun H7 q2 s7 n7 h7 => ⟨by show 2 ≤ sizeLine; decide, fun l hl => ?_⟩⟩
    rw [show dueT (.str "A") (.str "text") (kwD ["a"] [.int 5]) = (["wrong", "sort"] : List Str).map V.str by decide +kernel] at h7
    have X7 : ExtN H H7 := (X5.trans e6).trans (ExtN.of s7)
    have h5' := s7 _ _ (e6 _ _ h5 fun _ => nofun)
    have s8 : Same H7 (upd H7 l (.lst [.ref q1, .ref q2])) := same_upd (Same.refl H7) hl
    have M8 : Told (upd H7 l (.lst [.ref q1, .ref q2])) l [q1, q2] [["wrong", "name"], ["wrong", "sort"]] := ⟨upd_same, .cons (s8 _ _ h5') (.cons (s8 _ _ h7) .nil)⟩
    have X8 : ExtN H (upd H7 l (.lst [.ref q1, .ref q2])) := X7.trans (ExtN.of s8)
    have T8 : Tabs T (upd H7 l (.lst [.ref q1, .ref q2])) := (T6.ext s7).ext s8
    generalize upd H7 l (.lst [.ref q1, .ref q2]) = H8 at M8 X8 T8 ⊢
    refine ⟨_, rfl, .inl ⟨rfl, _, SqL.of M8.at_⟩, T8, fun Ha ea Ta => fault_kw (K := K) (CI := CI) (CF := CF) (n := .str "A") (s := .str "e") (ks := ["a", "b", "c"]) (zs := [.str "e", .str "text*", .int 5]) (by decide +kernel) (by decide +kernel) (by decide +kernel) (by decide +kernel) (by decide) rfl fun Hb q3 sb _ hb => ?_⟩
    rw [show dueT (.str "A") (.str "e") (kwD ["a", "b", "c"] [.str "e", .str "text*", .int 5]) = (["wrong", "b"] : List Str).map V.str by decide +kernel] at hb
    have Mb := M8.ext (ea.trans (ExtN.of sb))
    refine ⟨l, _, _, rfl, rfl, Mb.at_, (by show 2 < sizeLine; decide), ?_⟩
    have M9 : Told (upd Hb l (.lst (([q1, q2] : List Addr).map V.ref ++ [V.ref q3]))) l [q1, q2, q3] [["wrong", "name"], ["wrong", "sort"], ["wrong", "b"]] := Mb.add hb
    have X9 := ext_upd (u := .lst (([q1, q2] : List Addr).map V.ref ++ [V.ref q3])) X7 hl ((X8.trans ea).trans (ExtN.of sb))
    have T9 := tabs_lst (u := .lst (([q1, q2] : List Addr).map V.ref ++ [V.ref q3])) (Ta.ext sb) Mb.at_
    generalize upd Hb l (.lst (([q1, q2] : List Addr).map V.ref ++ [V.ref q3])) = H9 at M9 X9 T9 ⊢
    refine ⟨_, rfl, .inl ⟨rfl, _, SqL.of M9.at_⟩, T9, fun Ha ea Ta => fault_kw (K := K) (CI := CI) (CF := CF) (n := .str "A") (s := .str "e") (ks := ["a", "b", "c", "d", "f", "g"]) (zs := [.str "e", .str "e", .str "e", .str "e", .str "e", .str "e"]) (by decide +kernel) (by decide +kernel) (by decide +kernel) (by decide +kernel) (by decide) rfl fun Hb q4 sb _ hb => ?_⟩
    rw [show dueT (.str "A") (.str "e") (kwD ["a", "b", "c", "d", "f", "g"] [.str "e", .str "e", .str "e", .str "e", .str "e", .str "e"]) = (["wrong", "size"] : List Str).map V.str by decide +kernel] at hb
    have Mb := M9.ext (ea.trans (ExtN.of sb))
    refine ⟨l, _, _, rfl, rfl, Mb.at_, (by show 3 < sizeLine; decide), ?_⟩
    have M10 : Told (upd Hb l (.lst (([q1, q2, q3] : List Addr).map V.ref ++ [V.ref q4]))) l [q1, q2, q3, q4] [["wrong", "name"], ["wrong", "sort"], ["wrong", "b"], ["wrong", "size"]] := Mb.add hb
    have X10 := ext_upd (u := .lst (([q1, q2, q3] : List Addr).map V.ref ++ [V.ref q4])) X7 hl ((X9.trans ea).trans (ExtN.of sb))
    have T10 := tabs_lst (u := .lst (([q1, q2, q3] : List Addr).map V.ref ++ [V.ref q4])) (Ta.ext sb) Mb.at_
    generalize upd Hb l (.lst (([q1, q2, q3] : List Addr).map V.ref ++ [V.ref q4])) = H10 at M10 X10 T10 ⊢
    refine ⟨_, rfl, .inl ⟨rfl, _, SqL.of M10.at_⟩, T10, fun Ha ea Ta => fault_kw (K := K) (CI := CI) (CF := CF) (n := .str "A") (s := .str "e") (ks := ["a", "b", "c", "d", "f", "g"]) (zs := [.str "e", .str "e", .str "e", .str "e", .str "e", .str "e*e"]) (by decide +kernel) (by decide +kernel) (by decide +kernel) (by decide +kernel) (by decide) rfl fun Hb q5 sb _ hb => ?_⟩
    rw [show dueT (.str "A") (.str "e") (kwD ["a", "b", "c", "d", "f", "g"] [.str "e", .str "e", .str "e", .str "e", .str "e", .str "e*e"]) = (["wrong", "g"] : List Str).map V.str by decide +kernel] at hb
    have Mb := M10.ext (ea.trans (ExtN.of sb))
    refine ⟨l, _, _, rfl, rfl, Mb.at_, (by show 4 < sizeLine; decide), ?_⟩
    have M11 : Told (upd Hb l (.lst (([q1, q2, q3, q4] : List Addr).map V.ref ++ [V.ref q5]))) l [q1, q2, q3, q4, q5] [["wrong", "name"], ["wrong", "sort"], ["wrong", "b"], ["wrong", "size"], ["wrong", "g"]] := Mb.add hb
    have X11 := ext_upd (u := .lst (([q1, q2, q3, q4] : List Addr).map V.ref ++ [V.ref q5])) X7 hl ((X10.trans ea).trans (ExtN.of sb))
    have T11 := tabs_lst (u := .lst (([q1, q2, q3, q4] : List Addr).map V.ref ++ [V.ref q5])) (Ta.ext sb) Mb.at_
    generalize upd Hb l (.lst (([q1, q2, q3, q4] : List Addr).map V.ref ++ [V.ref q5])) = H11 at M11 X11 T11 ⊢
    refine ⟨_, rfl, .inl ⟨rfl, _, SqL.of M11.at_⟩, T11, fun Ha ea Ta => fault_kw (K := K) (CI := CI) (CF := CF) (n := .str "raw_x") (s := .str "Text") (ks := ["text", "item", "rows"]) (zs := [.str "text", .str "texts", .str "text2*"]) (by decide +kernel) (by decide +kernel) (by decide +kernel) (by decide +kernel) (by decide) rfl fun Hb q6 sb _ hb => ?_⟩
    rw [show dueT (.str "raw_x") (.str "Text") (kwD ["text", "item", "rows"] [.str "text", .str "texts", .str "text2*"]) = ([] : List Str).map V.str by decide +kernel] at hb
    have Mb := M11.ext (ea.trans (ExtN.of sb))
    refine ⟨l, _, _, rfl, rfl, Mb.at_, (by show 5 < sizeLine; decide), ?_⟩
    have M12 : Told (upd Hb l (.lst (([q1, q2, q3, q4, q5] : List Addr).map V.ref ++ [V.ref q6]))) l [q1, q2, q3, q4, q5, q6] [["wrong", "name"], ["wrong", "sort"], ["wrong", "b"], ["wrong", "size"], ["wrong", "g"], []] := Mb.add hb
    have X12 := ext_upd (u := .lst (([q1, q2, q3, q4, q5] : List Addr).map V.ref ++ [V.ref q6])) X7 hl ((X11.trans ea).trans (ExtN.of sb))
    have T12 := tabs_lst (u := .lst (([q1, q2, q3, q4, q5] : List Addr).map V.ref ++ [V.ref q6])) (Ta.ext sb) Mb.at_
    generalize upd Hb l (.lst (([q1, q2, q3, q4, q5] : List Addr).map V.ref ++ [V.ref q6])) = H12 at M12 X12 T12 ⊢
    clear M8 X8 T8 M9 X9 T9 M10 X10 T10 M11 X11 T11
    refine ⟨by show 2 ≤ sizeLine; decide, fun u0 hu0 => ⟨by show 2 ≤ sizeLine; decide, fun u1 hu1 => ⟨by show 2 ≤ sizeLine; decide, fun u2 hu2 => ⟨by show 2 ≤ sizeLine; decide, fun u3 hu3 => ⟨by show 2 ≤ sizeLine; decide, fun u4 hu4 => ⟨by show 0 ≤ sizeLine; decide, fun u5 hu5 => ⟨by show 6 ≤ sizeLine; decide, fun m hm => ?_⟩⟩⟩⟩⟩⟩⟩
    have w0 : Same H12 (upd H12 u0 (.tup [.str "wrong", .str "name"])) := same_upd (Same.refl H12) hu0
    have v0 : (upd H12 u0 (.tup [.str "wrong", .str "name"])) u0 = some (.tup [.str "wrong", .str "name"]) := upd_same
    generalize upd H12 u0 (.tup [.str "wrong", .str "name"]) = U0 at hu1 hu2 hu3 hu4 hu5 hm w0 v0 ⊢
    have w1 : Same U0 (upd U0 u1 (.tup [.str "wrong", .str "sort"])) := same_upd (Same.refl U0) hu1
    have v1 : (upd U0 u1 (.tup [.str "wrong", .str "sort"])) u1 = some (.tup [.str "wrong", .str "sort"]) := upd_same
    generalize upd U0 u1 (.tup [.str "wrong", .str "sort"]) = U1 at hu2 hu3 hu4 hu5 hm w1 v1 ⊢
    have w2 : Same U1 (upd U1 u2 (.tup [.str "wrong", .str "b"])) := same_upd (Same.refl U1) hu2
    have v2 : (upd U1 u2 (.tup [.str "wrong", .str "b"])) u2 = some (.tup [.str "wrong", .str "b"]) := upd_same
    generalize upd U1 u2 (.tup [.str "wrong", .str "b"]) = U2 at hu3 hu4 hu5 hm w2 v2 ⊢
    have w3 : Same U2 (upd U2 u3 (.tup [.str "wrong", .str "size"])) := same_upd (Same.refl U2) hu3
    have v3 : (upd U2 u3 (.tup [.str "wrong", .str "size"])) u3 = some (.tup [.str "wrong", .str "size"]) := upd_same
    generalize upd U2 u3 (.tup [.str "wrong", .str "size"]) = U3 at hu4 hu5 hm w3 v3 ⊢
    have w4 : Same U3 (upd U3 u4 (.tup [.str "wrong", .str "g"])) := same_upd (Same.refl U3) hu4
    have v4 : (upd U3 u4 (.tup [.str "wrong", .str "g"])) u4 = some (.tup [.str "wrong", .str "g"]) := upd_same
    generalize upd U3 u4 (.tup [.str "wrong", .str "g"]) = U4 at hu5 hm w4 v4 ⊢
    have w5 : Same U4 (upd U4 u5 (.tup [])) := same_upd (Same.refl U4) hu5
    have v5 : (upd U4 u5 (.tup [])) u5 = some (.tup []) := upd_same
    generalize upd U4 u5 (.tup []) = U5 at  hm w5 v5 ⊢
    have w6 : Same U5 (upd U5 m (.lst [.ref u0, .ref u1, .ref u2, .ref u3, .ref u4, .ref u5])) := same_upd (Same.refl U5) hm
    have v6 : (upd U5 m (.lst [.ref u0, .ref u1, .ref u2, .ref u3, .ref u4, .ref u5])) m = some (.lst ([u0, u1, u2, u3, u4, u5].map V.ref)) := upd_same
    generalize upd U5 m (.lst [.ref u0, .ref u1, .ref u2, .ref u3, .ref u4, .ref u5]) = U6 at w6 v6 ⊢
    have y5 := w6
    have y4 := w5.trans y5
    have y3 := w4.trans y4
    have y2 := w3.trans y3
    have y1 := w2.trans y2
    have y0 := w1.trans y1
    have y := w0.trans y0
    have MU : Told U6 m [u0, u1, u2, u3, u4, u5] dueH := ⟨v6, .cons (y0 _ _ v0) (.cons (y1 _ _ v1) (.cons (y2 _ _ v2) (.cons (y3 _ _ v3) (.cons (y4 _ _ v4) (.cons (y5 _ _ v5) .nil)))))⟩
    have MT : Told U6 l [q1, q2, q3, q4, q5, q6] dueH := M12.ext (ExtN.of y)
    have shH : SeqAt.shaped (.list (dueH.map dpT)) = true := by decide +kernel
    refine ⟨_, rfl, _, rfl, .list (dueH.map dpT), .list (dueH.map dpT), .lst (SqL.of MT.at_) (dpTold MT.all), .lst (SqL.of MU.at_) (dpTold MU.all), shH, shH, _, rfl, ?_⟩
    rw [SeqAt.eqv_refl _ (lay_of shH)]
    refine iteT ?_
    exact ⟨CF, mc, .int 5, _, rfl, cr, cv, rfl, k _ (X12.trans (ExtN.of y)) (T12.ext y)⟩
end
end K1

namespace K1
open PySem L2
open LamX (ExtN Tabs TabS TabB)
/-! ### a text written several times -/
def timesS (z : Str) (n : Nat) : Str := ⟨(List.replicate n z.cps).foldl (· ++ ·) #[]⟩
def rMulS : R2 := fun x y H Q => ∃ (z : Str) (n : Nat), x = .str z ∧ y = .int (n : Int) ∧ 2 ≤ n ∧ n ≤ 1000 ∧ 1 ≤ z.length ∧ z.length ≤ 100 ∧ (timesS z n).length ≤ 100000 ∧ Q (.str (timesS z n)) H
theorem op_mul_str {X : Cx} : OpR X (binaryOp .Mult) rMulS := by
  intro pins s σ H x y v u Q I rx ry h
  obtain ⟨z, n, rfl, rfl, n1, n2, z1, z2, hl, q⟩ := h
  obtain ⟨t, rfl⟩ := rx
  obtain ⟨t', rfl⟩ := ry
  have e1 : ¬ ((n : Int) < 1) := by omega
  have e2 : ¬ ((((n : Int) == 1) || (z.length == 0)) = true) := by
    rw [Bool.or_eq_true, beq_iff_eq, beq_iff_eq]
    omega
  refine PySem.P.mul_str ?_ (fun _ _ => ?_) (fun _ _ => ?_) ?_
  · rw [decide_eq_false (by omega), decide_eq_false (by omega)]
    rfl
  · have h3 : (1000 : Int) ≤ (2 ^ 63 - 1) / (n : Int) := (Int.le_ediv_iff_mul_le (by omega)).mpr (by omega)
    omega
  · have h4 : z.length * n ≤ 100 * 1000 := Nat.mul_le_mul z2 n2
    have e : ((n : Int)).toNat = n := by omega
    rw [e]
    have h5 : 100000 ≤ sizeLine := by decide
    exact decide_eq_false (by omega)
  · rw [if_neg e1, if_neg e2]
    have e : ((n : Int)).toNat = n := by omega
    rw [e]
    refine ⟨?_, ⟨.str (timesS z n), H, I.tok _, ⟨_, rfl⟩, q⟩⟩
    exact Nat.le_trans hl (by decide)
/-! ### what stands while the law draws and asks -/
def FD (m lg : Addr) (H H' : Hp) : Prop := ∀ b o, b ≠ m → b ≠ lg → H b = some o → (∀ ps, o ≠ .tbl ps) → H' b = some o
theorem FD.refl {m lg : Addr} (H : Hp) : FD m lg H H := fun _ _ _ _ e _ => e
theorem FD.trans {m lg : Addr} {H H1 H2 : Hp} (a : FD m lg H H1) (b : FD m lg H1 H2) : FD m lg H H2 := fun c o h1 h2 e n => b c o h1 h2 (a c o h1 h2 e n) n
theorem FD.ext {m lg : Addr} {H H' : Hp} (e : ExtN H H') : FD m lg H H' := fun b o _ _ q n => e b o q n
theorem FD.same {m lg : Addr} {H H' : Hp} (e : Same H H') : FD m lg H H' := fun b o _ _ q _ => e b o q
theorem FD.draw {m lg : Addr} {H H' : Hp} (e : ∀ b o, b ≠ m → b ≠ lg → H b = some o → H' b = some o) : FD m lg H H' := fun b o h1 h2 q _ => e b o h1 h2 q
theorem MA.ext {m lc lg : Addr} {n : Int} {H H' : Hp} (M : MA m lc lg n H) (e : ExtN H H') : MA m lc lg n H' := by
  obtain ⟨hm, ne, ⟨cs, hc, c1, c2⟩, ⟨gs, hg, g1⟩, n0⟩ := M
  exact ⟨e _ _ hm fun _ => nofun, ne, ⟨cs, e _ _ hc fun _ => nofun, c1, c2⟩, ⟨gs, e _ _ hg fun _ => nofun, g1⟩, n0⟩
theorem MA.same {m lc lg : Addr} {n : Int} {H H' : Hp} (M : MA m lc lg n H) (e : Same H H') : MA m lc lg n H' := M.ext (ExtN.of e)
theorem tabs_draw {T : List (Addr × Str)} {m lc lg : Addr} {n : Int} {H H' : Hp} (t : Tabs T H) (M : MA m lc lg n H) (e : ∀ b o, b ≠ m → b ≠ lg → H b = some o → H' b = some o) : Tabs T H' := fun p hp => by
  obtain ⟨hm, _, _, ⟨gs, hg, _⟩, _⟩ := M
  obtain ⟨ps, a, b, c⟩ := t p hp
  refine ⟨ps, e _ _ (ne_of a hm (by intro q; cases q)) (ne_of a hg (by intro q; cases q)) a, b, fun pos cv hcv => ?_⟩
  obtain ⟨c0, e1, e2⟩ := c pos cv hcv
  refine ⟨c0, e1, e _ _ (ne_of e2 hm ?_) (ne_of e2 hg ?_) e2⟩
  · unfold LamX.CodeO
    intro q
    cases q
  · unfold LamX.CodeO
    intro q
    cases q
/-- a value that is not touched by drawing -/
structure OkV (K : PySem.W.Frag) (m lg : Addr) (H : Hp) (v : V) : Prop where
  b : ValB K H v
  m : v ≠ .ref m
  g : v ≠ .ref lg
theorem OkV.fd {K : PySem.W.Frag} {m lg : Addr} {H H' : Hp} {v : V} (h : OkV K m lg H v) (e : FD m lg H H') : OkV K m lg H' v := by
  refine ⟨?_, h.m, h.g⟩
  rcases h.b with q | ⟨h1, h2, t, h3, h4⟩
  · exact .inl q
  · have go : ∀ a o, v = .ref a → H a = some o → H' a = some o := fun a o q q2 => by
      obtain ⟨o', q3, q4⟩ := h2 a q
      rw [q2] at q3
      cases q3
      exact e a o (fun z => h.m (by rw [q, z])) (fun z => h.g (by rw [q, z])) q2 q4
    refine .inr ⟨h1, fun a q => ?_, t, TyX.keep h3 go, h4⟩
    obtain ⟨o, q2, q4⟩ := h2 a q
    exact ⟨o, go a o q q2, q4⟩
theorem okV_str {K : PySem.W.Frag} {m lg : Addr} {H : Hp} {z : Str} (h : keyB z = true) : OkV K m lg H (.str z) := by
  unfold keyB at h
  rw [Bool.and_eq_true] at h
  exact ⟨valB_str (of_decide_eq_true h.1) h.2, nofun, nofun⟩
theorem okV_of {K : PySem.W.Frag} {m lg : Addr} {H : Hp} {v : V} (h : ValB K H v) (n : ∀ a, v ≠ .ref a) : OkV K m lg H v := ⟨h, n m, n lg⟩
/-- a list of values that stands -/
structure LsV (K : PySem.W.Frag) (m lg : Addr) (H : Hp) (l : Addr) (xs : List V) : Prop where
  at_ : H l = some (.lst xs)
  nm : l ≠ m
  ng : l ≠ lg
  ok : ∀ x ∈ xs, OkV K m lg H x
theorem LsV.fd {K : PySem.W.Frag} {m lg : Addr} {H H' : Hp} {l : Addr} {xs : List V} (h : LsV K m lg H l xs) (e : FD m lg H H') : LsV K m lg H' l xs := ⟨e _ _ h.nm h.ng h.at_ fun _ => nofun, h.nm, h.ng, fun x hx => (h.ok x hx).fd e⟩
/-! ### the rows that are drawn -/
/-- the j-th key ends with the digit of j -/
def KeyJ (j : Nat) (k : Key) : Prop := ∃ z : Str, k = .inr z ∧ z.length ≤ 1000 ∧ PyData.strOk z = true ∧ z.cps.toList.getLast? = some (48 + j)
structure RowV (K : PySem.W.Frag) (m lg : Addr) (H : Hp) (a : Addr) (rs : List Addr) (kvs : List (Key × V)) : Prop where
  at_ : H a = some (.lst (rs.map V.ref))
  rows : Paired (fun (r : Addr) (q : Key × V) => H r = some (.lst [kV q.1, q.2]) ∧ r ≠ m ∧ r ≠ lg) rs kvs
  val : ∀ p ∈ kvs, OkV K m lg H p.2
  key : ∀ j p, kvs[j]? = some p → KeyJ j p.1
theorem RowV.fd {K : PySem.W.Frag} {m lg a : Addr} {H H' : Hp} {rs : List Addr} {kvs : List (Key × V)} (h : RowV K m lg H a rs kvs) (am : a ≠ m) (ag : a ≠ lg) (e : FD m lg H H') : RowV K m lg H' a rs kvs :=
  ⟨e _ _ am ag h.at_ fun _ => nofun, Paired.mapP h.rows fun r q z => ⟨e _ _ z.2.1 z.2.2 z.1 fun _ => nofun, z.2⟩, fun p hp => (h.val p hp).fd e, h.key⟩
theorem RowV.row {K : PySem.W.Frag} {m lg a : Addr} {H : Hp} {rs : List Addr} {kvs : List (Key × V)} (h : RowV K m lg H a rs kvs) : RowAt K H a kvs := ⟨rs, SqL.of h.at_, Paired.mapP h.rows fun _ _ z => z.1⟩
theorem RowV.kv {K : PySem.W.Frag} {m lg a : Addr} {H : Hp} {rs : List Addr} {kvs : List (Key × V)} (h : RowV K m lg H a rs kvs) (hl : kvs.length ≤ 1000) : KvB K H kvs := by
  refine ⟨fun p hp => ?_, fun p hp => (h.val p hp).b, hl, ?_⟩
  · obtain ⟨j, hj, e⟩ := List.getElem_of_mem hp
    obtain ⟨z, e1, e2, e3, _⟩ := h.key j p (by rw [← e]; exact List.getElem?_eq_getElem hj)
    exact ⟨z, e1, e2, e3⟩
  · refine List.pairwise_iff_getElem.mpr fun i j hi hj hij e => ?_
    rw [List.length_map] at hi hj
    obtain ⟨z1, a1, _, _, b1⟩ := h.key i kvs[i] (List.getElem?_eq_getElem hi)
    obtain ⟨z2, a2, _, _, b2⟩ := h.key j kvs[j] (List.getElem?_eq_getElem hj)
    rw [List.getElem_map, List.getElem_map, a1, a2] at e
    have e' : z1 = z2 := Sum.inr.inj e
    rw [e', b2] at b1
    have := Option.some.inj b1
    omega
theorem RowV.add {K : PySem.W.Frag} {m lg a r : Addr} {H : Hp} {rs : List Addr} {kvs : List (Key × V)} {k : Key} {v : V} (h : RowV K m lg H a rs kvs) (am : a ≠ m) (ag : a ≠ lg) (hr : H r = some (.lst [kV k, v])) (rm : r ≠ m) (rg : r ≠ lg) (ra : r ≠ a) (hra : ∀ r' ∈ rs, r' ≠ a) (hva : v ≠ .ref a) (hvs : ∀ p ∈ kvs, p.2 ≠ .ref a) (hv : OkV K m lg H v) (hk : KeyJ kvs.length k) :
    RowV K m lg (upd H a (.lst (rs.map V.ref ++ [.ref r]))) a (rs ++ [r]) (kvs ++ [(k, v)]) := by
  have kp : ∀ {w : V}, OkV K m lg H w → w ≠ .ref a → OkV K m lg (upd H a (.lst (rs.map V.ref ++ [.ref r]))) w := fun {w} q n => by
    refine ⟨?_, q.m, q.g⟩
    rcases q.b with z | ⟨h1, h2, t, h3, h4⟩
    · exact .inl z
    · have go : ∀ b o, w = .ref b → H b = some o → (upd H a (.lst (rs.map V.ref ++ [.ref r]))) b = some o := fun b o e e2 => by
        rw [upd_ne (fun z => n (by rw [e, z]))]
        exact e2
      refine .inr ⟨h1, fun b e => ?_, t, TyX.keep h3 go, h4⟩
      obtain ⟨o, e2, e3⟩ := h2 b e
      exact ⟨o, go b o e e2, e3⟩
  refine ⟨by rw [upd_same, List.map_append]; rfl, ?_, fun p hp => ?_, fun j p hp => ?_⟩
  · refine Paired.snoc ?_ ⟨by rw [upd_ne ra]; exact hr, rm, rg⟩
    have : ∀ {l1 : List Addr} {l2 : List (Key × V)}, Paired (fun (r : Addr) (q : Key × V) => H r = some (.lst [kV q.1, q.2]) ∧ r ≠ m ∧ r ≠ lg) l1 l2 → (∀ r' ∈ l1, r' ≠ a) →
        Paired (fun (r' : Addr) (q : Key × V) => (upd H a (.lst (rs.map V.ref ++ [.ref r]))) r' = some (.lst [kV q.1, q.2]) ∧ r' ≠ m ∧ r' ≠ lg) l1 l2 := fun {l1 l2} p => by
      induction p with
      | nil => intro _; exact .nil
      | cons z t ih =>
        intro hn
        exact .cons ⟨by rw [upd_ne (hn _ (List.mem_cons_self ..))]; exact z.1, z.2⟩ (ih fun r' hr' => hn r' (List.mem_cons_of_mem _ hr'))
    exact this h.rows hra
  · rcases List.mem_append.mp hp with z | z
    · exact kp (h.val p z) (hvs p z)
    · rw [List.mem_singleton.mp z]
      exact kp hv hva
  · rcases Nat.lt_or_ge j kvs.length with q | q
    · rw [List.getElem?_append_left q] at hp
      exact h.key j p hp
    · rw [List.getElem?_append_right q] at hp
      have e : j - kvs.length = 0 := by
        have := (List.getElem?_eq_some_iff.mp hp).1
        simpa using this
      rw [e] at hp
      have e2 : (k, v) = p := Option.some.inj hp
      rw [← e2]
      have e3 : j = kvs.length := by omega
      rw [e3]
      exact hk
theorem key_digit {z : Str} {j : Nat} (hj : j < 8) (hl : z.length ≤ 900) (o : PyData.strOk z = true) : KeyJ j (.inr (z ++ Str.ofString (toString ((0 : Int) + (j : Int))))) := by
  have e : (Str.ofString (toString ((0 : Int) + (j : Int)))).cps.toList = [48 + j] := by
    have : ∀ j : Fin 8, (Str.ofString (toString ((0 : Int) + ((j : Nat) : Int)))).cps.toList = [48 + (j : Nat)] := by decide +kernel
    exact this ⟨j, hj⟩
  have e2 : (z ++ Str.ofString (toString ((0 : Int) + (j : Int)))).cps.toList = z.cps.toList ++ [48 + j] := by
    rw [← e]
    exact TL.tl_append z _
  refine ⟨_, rfl, ?_, ?_, ?_⟩
  · rw [len_toList, e2, List.length_append, ← len_toList]
    show z.length + 1 ≤ 1000
    omega
  · rw [ok_iff, e2]
    intro c hc
    rcases List.mem_append.mp hc with q | q
    · exact ok_iff.mp o c q
    · rw [List.mem_singleton.mp q]
      omega
  · rw [e2]
    simp
end K1

namespace K1
open PySem L2
open LamX (ExtN Tabs TabS TabB)
theorem fst_kwD : ∀ {ks : List Str} {zs : List V}, zs.length = ks.length → (kwD ks zs).map Prod.fst = ks.map (fun k => (.inr k : Key))
  | [], _, _ => rfl
  | k :: ks, z :: zs, h => by
    have h' : zs.length = ks.length := Nat.succ.inj h
    show (.inr k : Key) :: (kwD ks zs).map Prod.fst = _
    rw [fst_kwD h']
    rfl
theorem kvB_kw {K : PySem.W.Frag} {H : Hp} {ks : List Str} {zs : List V} (hk : ks.all keyB = true) (nd : ks.Nodup) (hl : zs.length = ks.length) (h2 : ks.length ≤ 1000) (hz : ∀ z ∈ zs, ValB K H z) : KvB K H (kwD ks zs) := by
  refine ⟨fun p hp => ?_, fun p hp => ?_, ?_, ?_⟩
  · obtain ⟨k, z, a, b, rfl⟩ := mem_kwD hp
    have q := List.all_eq_true.mp hk k a
    unfold keyB at q
    rw [Bool.and_eq_true] at q
    exact ⟨k, rfl, of_decide_eq_true q.1, q.2⟩
  · obtain ⟨k, z, a, b, rfl⟩ := mem_kwD hp
    exact hz z b
  · unfold kwD
    rw [List.length_map, List.length_zip]
    omega
  · rw [fst_kwD hl]
    exact List.Pairwise.map _ (fun a b ne q => ne (Sum.inr.inj q)) nd
def NL : List Str := ["_law_script", "_law_m", "_law_words", "_law_odds", "_law_odd", "_law_takes_so", "_law_turn", "_law_row", "_law_n", "_law_slot_so", "_law_some", "_law_takes", "_law_word", "_law_take"]
theorem scLaw : FnScope NL ["_law_script"] (defScope sLaw) := ⟨rfl, rfl, rfl, by decide +kernel, rfl, by decide +kernel, by decide +kernel⟩
def spLaw (K : PySem.W.Frag) (T : List (Addr × Str)) : Sp := fun vs H Q _ => ∃ (a : Addr) (ns : List Int), vs = [.ref a] ∧ SqL K H a (ns.map V.int) ∧ ns.length ≤ 63 ∧ Tabs T H ∧ ∀ H', Q (.bl true) H'
/-- a def of the law that the law calls -/
structure Cal (K : PySem.W.Frag) (mg : Str → Option Value) (x : Str) (f : Addr) (fd : FuncData) (ps : List Str) : Prop where
  g : mg x = some (.ref f)
  k : PySem.W.keepIn K (.ref f) = true
  b : Binds K fd ps []
def a20 : Str := timesS "a" 20
def a21 : Str := timesS "a" 21
def a20s : Str := a20 ++ "*"
def wordsS : List Str := ["A", a20, a21, "", "1a", "_a", "a b", "a-b", "raw_x", "text", "z_9", "A\n", "*"]
def takesS : List Str := ["text", "e", "e*", "Other_1", "Other_1*", a20, a20s, "text"]
def moreS : List Str := ["text*", "e**", "*e"]
def shortB (z : Str) : Bool := decide (z.length ≤ 100) && PyData.strOk z
theorem words_short : wordsS.all shortB = true := by decide +kernel
theorem takes_short : takesS.all shortB = true := by decide +kernel
theorem more_short : moreS.all shortB = true := by decide +kernel
theorem shortB.key {z : Str} (h : shortB z = true) : keyB z = true := by
  unfold shortB at h
  unfold keyB
  rw [Bool.and_eq_true] at h ⊢
  exact ⟨decide_eq_true (Nat.le_trans (of_decide_eq_true h.1) (by decide)), h.2⟩
theorem strs_ok {K : PySem.W.Frag} {m lg : Addr} {H : Hp} {l : List Str} (h : l.all shortB = true) : ∀ x ∈ l.map V.str, OkV K m lg H x := fun x hx => by
  obtain ⟨z, hz, rfl⟩ := List.mem_map.mp hx
  exact okV_str (shortB.key (List.all_eq_true.mp h z hz))
theorem fresh_ne {m lc lg r : Addr} {n : Int} {H : Hp} (M : MA m lc lg n H) (h : H r = none) : r ≠ m ∧ r ≠ lg := by
  obtain ⟨gs, hg, _⟩ := M.hg
  exact ⟨(ne_of_none M.hm h).symm, (ne_of_none hg h).symm⟩
def oddsL (t l d e q1 q2 : Addr) : List V := [.non, .bl true, .bl false, .int 5, .ref t, .ref l, .ref d, .ref e, .int (10 ^ (30 : Int).toNat), .ref q1, .ref q2]
theorem ife {b : Bool} {t u : TE} {σ : L2.St} {H : Hp} {Q : VK} (R : V → Hp → Prop) (ht : ∀ Q' : VK, (∀ v H', R v H' → Q' v H') → t σ H Q') (hu : ∀ Q' : VK, (∀ v H', R v H' → Q' v H') → u σ H Q') (hQ : ∀ v H', R v H' → Q v H') : if b = true then t σ H Q else u σ H Q := by
  cases b
  · exact iteF (hu Q hQ)
  · exact iteT (ht Q hQ)
theorem str_at {l : List Str} {d : Int} (h0 : 0 ≤ d) (h1 : d < (l.length : Int)) : ∃ z, z ∈ l ∧ atI (l.map V.str) d = some (.str z) := by
  obtain ⟨k, rfl⟩ := Int.eq_ofNat_of_zero_le h0
  have hk : k < l.length := by omega
  exact ⟨l[k], List.getElem_mem hk, atI_nat (j := k) (by rw [List.getElem?_map, List.getElem?_eq_getElem hk]; rfl)⟩
theorem val_at {l : List V} {d : Int} (h0 : 0 ≤ d) (h1 : d < (l.length : Int)) : ∃ z, z ∈ l ∧ atI l d = some z := by
  obtain ⟨k, rfl⟩ := Int.eq_ofNat_of_zero_le h0
  have hk : k < l.length := by omega
  exact ⟨l[k], List.getElem_mem hk, atI_nat (j := k) (List.getElem?_eq_getElem hk)⟩
theorem digit_log {j : Nat} (h : j < 8) : ((0 : Int) + (j : Int)).natAbs.log2 < 1920 := by
  have z : ∀ j : Fin 8, ((0 : Int) + ((j : Nat) : Int)).natAbs.log2 < 1920 := by decide +kernel
  exact z ⟨j, h⟩
theorem digit_len {j : Nat} (h : j < 8) : (Str.ofString (toString ((0 : Int) + (j : Int)))).length = 1 := by
  have z : ∀ j : Fin 8, (Str.ofString (toString ((0 : Int) + ((j : Nat) : Int)))).length = 1 := by decide +kernel
  exact z ⟨j, h⟩
theorem shortB.le {z : Str} (h : shortB z = true) : z.length ≤ 100 ∧ PyData.strOk z = true := by
  unfold shortB at h
  rw [Bool.and_eq_true] at h
  exact ⟨of_decide_eq_true h.1, h.2⟩
/-- what holds while a row is drawn -/
structure Drawn2 (K : PySem.W.Frag) (T : List (Addr × Str)) (m lc lg R : Addr) (HS : Hp) (b : Int) (j : Nat) (rs : List Addr) (kvs : List (Key × V)) (H : Hp) : Prop where
  fd : FD m lg HS H
  ma : ∃ n, MA m lc lg n H ∧ n ≤ b
  tb : Tabs T H
  row : RowV K m lg H R rs kvs
  len : kvs.length = j
  rr : ∀ r ∈ rs, r ≠ R
  vr : ∀ p ∈ kvs, p.2 ≠ .ref R
theorem Drawn2.draw {K : PySem.W.Frag} {T : List (Addr × Str)} {m lc lg R : Addr} {HS : Hp} {b n : Int} {j : Nat} {rs : List Addr} {kvs : List (Key × V)} {H H' : Hp} (D : Drawn2 K T m lc lg R HS b j rs kvs H) (hR : R ≠ m ∧ R ≠ lg) (M : MA m lc lg n H) (hn : n ≤ b) (M' : MA m lc lg (n + 1) H') (e : ∀ x o, x ≠ m → x ≠ lg → H x = some o → H' x = some o) :
    Drawn2 K T m lc lg R HS (b + 1) j rs kvs H' := ⟨D.fd.trans (FD.draw e), ⟨_, M', by omega⟩, tabs_draw D.tb M e, D.row.fd hR.1 hR.2 (FD.draw e), D.len, D.rr, D.vr⟩
theorem Drawn2.same {K : PySem.W.Frag} {T : List (Addr × Str)} {m lc lg R : Addr} {HS : Hp} {b : Int} {j : Nat} {rs : List Addr} {kvs : List (Key × V)} {H H' : Hp} (D : Drawn2 K T m lc lg R HS b j rs kvs H) (hR : R ≠ m ∧ R ≠ lg) (e : Same H H') :
    Drawn2 K T m lc lg R HS b j rs kvs H' := ⟨D.fd.trans (FD.same e), let ⟨n, M, h⟩ := D.ma; ⟨n, M.same e, h⟩, D.tb.ext e, D.row.fd hR.1 hR.2 (FD.same e), D.len, D.rr, D.vr⟩
section
variable {P : Program} {w : World} {K : PySem.W.Frag} {mg : Str → Option Value} {base : Heap}
theorem ok_law {f fB fD2 fR fH fDr : Addr} {fd fdB fdD2 fdR fdH fdDr : FuncData} {T : List (Addr × Str)} (F : Fun K "law" "law" sLaw f fd)
    (CB : Cal K mg "_law_begun" fB fdB ["_law_script"]) (CD2 : Cal K mg "_law_doubled" fD2 fdD2 ["_law_kind_of"]) (CR : Cal K mg "_law_form_right" fR fdR ["_law_word", "_law_take", "_law_row"]) (CH : Cal K mg "_law_hand_right" fH fdH []) (CDr : Cal K mg "_law_draw" fDr fdDr ["_law_m", "_law_top"])
    (gR : mg "range" = none) (gS : mg "str" = none)
    (GB : FnOk P w K mg base CX0 2 fB fdB ["_law_script"] (spBegun K)) (GD2 : FnOk P w K mg base CX0 1 fD2 fdD2 ["_law_kind_of"] spDoubled) (GR : FnOk P w K mg base CX0 10 fR fdR ["_law_word", "_law_take", "_law_row"] (spRight K T))
    (GH : FnOk P w K mg base CX0 10 fH fdH [] (spHand T)) (GDr : FnOk P w K mg base CX0 2 fDr fdDr ["_law_m", "_law_top"] spDraw) :
    FnOk P w K mg base CX0 11 f fd ["_law_script"] (spLaw K T) := by
  refine F.ok scLaw (fun vs H Q E h => ?_) (fun cdv A outer s H vs Q E hr h => ?_)
  · obtain ⟨a, ns, rfl, _⟩ := h
    rfl
  · obtain ⟨a, ns, rfl, hS, hl, tabs, k⟩ := h
    have hr2 : Room 2 _ := hr.mono (by decide)
    have hr1 : Room 1 _ := hr.mono (by decide)
    refine ⟨_, pss_cons (ps_set (i := 1) scLaw.nd rfl (Or.inl rfl) (pe_call GB hr2 rfl CB.g CB.k CB.b .nil pass0 (pa_cons (pv 0) pa_nil)))
      (pss_cons (ps_set (i := 2) scLaw.nd rfl (Or.inl rfl) (pe_lst (pa_cons pe_str (pa_cons (pe_op op_mul_str pe_str pe_int) (pa_cons (pe_op op_mul_str pe_str pe_int) (pa_cons pe_str (pa_cons pe_str (pa_cons pe_str (pa_cons pe_str (pa_cons pe_str (pa_cons pe_str (pa_cons pe_str (pa_cons pe_str (pa_cons pe_str (pa_cons pe_str pa_nil)))))))))))))))
      (pss_cons (ps_set (i := 3) scLaw.nd rfl (Or.inl rfl) (pe_lst (pa_cons pe_non (pa_cons pe_bl (pa_cons pe_bl (pa_cons pe_int (pa_cons (pe_tup (pa_cons pe_str pa_nil)) (pa_cons (pe_lst (pa_cons pe_str pa_nil)) (pa_cons pe_dnewK (pa_cons (pe_tup pa_nil) (pa_cons (pe_op op_pow pe_int pe_int)
          (pa_cons (pe_call GD2 hr1 rfl CD2.g CD2.k CD2.b .nil pass0 (pa_cons pe_int pa_nil)) (pa_cons (pe_call GD2 hr1 rfl CD2.g CD2.k CD2.b .nil pass0 (pa_cons pe_int pa_nil)) pa_nil)))))))))))))
      (pss_cons (ps_for PassesOwn.never rfl (pi_list (pe_op op_cat (pv 2) (pv 3))) (pg_name (i := 4) scLaw.nd rfl (.inl rfl))
        (pss_cons (ps_if (PW.pt (pw_or (pt_not (pt_val (pe_call GR hr rfl CR.g CR.k CR.b .nil pass0 (pa_cons (pv 4) (pa_cons pe_str (pa_cons (pe_lst pa_nil) pa_nil))))))
            (pw_or1 (pt_not (pt_val (pe_call GR hr rfl CR.g CR.k CR.b .nil pass0 (pa_cons pe_str (pa_cons (pv 4) (pa_cons (pe_lst (pa_cons (pe_lst (pa_cons pe_str (pa_cons pe_str pa_nil))) pa_nil)) pa_nil))))))))) (pss_one (ps_ret pe_bl)) pss_nil)
        (pss_cons (ps_if (pt_not (pt_val (pe_call GR hr rfl CR.g CR.k CR.b .nil pass0 (pa_cons pe_str (pa_cons pe_str (pa_cons (pe_lst (pa_cons (pe_lst (pa_cons pe_str (pa_cons pe_str pa_nil))) (pa_cons (pe_lst (pa_cons pe_str (pa_cons (pv 4) pa_nil))) (pa_cons (pe_lst (pa_cons pe_str (pa_cons pe_non pa_nil))) pa_nil)))) pa_nil)))))) (pss_one (ps_ret pe_bl)) pss_nil)
        (pss_one (ps_if (pt_not (pt_val (pe_call GR hr rfl CR.g CR.k CR.b .nil pass0 (pa_cons (pv 4) (pa_cons (pv 4) (pa_cons (pe_lst (pa_cons (pe_lst (pa_cons pe_str (pa_cons (pv 4) pa_nil))) pa_nil)) pa_nil)))))) (pss_one (ps_ret pe_bl)) pss_nil)))))
      (pss_cons (ps_set (i := 5) scLaw.nd rfl (Or.inl rfl) (pe_lst (pa_cons pe_str (pa_cons pe_str (pa_cons pe_str (pa_cons pe_str (pa_cons pe_str (pa_cons (pe_op op_mul_str pe_str pe_int) (pa_cons (pe_op op_add_str (pe_op op_mul_str pe_str pe_int) pe_str) (pa_cons pe_str pa_nil))))))))))
      (pss_cons (ps_for PassesOwn.never rfl (pi_range1 rfl gR (pa_cons pe_int pa_nil)) (pg_name (i := 6) scLaw.nd rfl (.inl rfl))
        (pss_cons (ps_set (i := 7) scLaw.nd rfl (Or.inl rfl) (pe_lst pa_nil))
        (pss_cons (ps_for PassesOwn.never rfl (pi_range1 rfl gR (pa_cons (pe_call GDr hr2 rfl CDr.g CDr.k CDr.b .nil pass0 (pa_cons (pv 1) (pa_cons pe_int pa_nil))) pa_nil)) (pg_name (i := 8) scLaw.nd rfl (.inl rfl))
          (pss_cons (ps_set (i := 9) scLaw.nd rfl (Or.inl rfl) (pe_ifExp (pt_cmpR op_gt (pe_call GDr hr2 rfl CDr.g CDr.k CDr.b .nil pass0 (pa_cons (pv 1) (pa_cons pe_int pa_nil))) pe_int (nomark _))
              (pe_op op_add_str pe_str (pe_callTy call_str_int (by rfl) gS PyProof.Rows.boot_str (pa_cons (pv 8) pa_nil)))
              (pe_op op_add_str (pe_ix ix_list (pv 2) (pe_call GDr hr2 rfl CDr.g CDr.k CDr.b .nil pass0 (pa_cons (pv 1) (pa_cons pe_int pa_nil))) (fun _ _ => rfl)) (pe_callTy call_str_int (by rfl) gS PyProof.Rows.boot_str (pa_cons (pv 8) pa_nil)))))
          (pss_cons (ps_set (i := 10) scLaw.nd rfl (Or.inl rfl) (pe_op op_cat (pe_op op_cat (pv 2) (pv 3)) (pe_lst (pa_cons pe_str (pa_cons pe_str (pa_cons pe_str pa_nil))))))
          (pss_cons (ps_set (i := 11) scLaw.nd rfl (Or.inl rfl) (pe_ifExp (pt_cmpR op_gt (pe_call GDr hr2 rfl CDr.g CDr.k CDr.b .nil pass0 (pa_cons (pv 1) (pa_cons pe_int pa_nil))) pe_int (nomark _))
              (pe_ix ix_list (pv 5) (pe_call GDr hr2 rfl CDr.g CDr.k CDr.b .nil pass0 (pa_cons (pv 1) (pa_cons pe_int pa_nil))) (fun _ _ => rfl))
              (pe_ix ix_list (pv 10) (pe_call GDr hr2 rfl CDr.g CDr.k CDr.b .nil pass0 (pa_cons (pv 1) (pa_cons pe_int pa_nil))) (fun _ _ => rfl))))
          (pss_one (ps_expr (pe_bm PySem.F.plainAttrs_list PySem.F.slot_list_append PySem.F.type_list_append mt_append (pv 7) (pa_cons (pe_lst (pa_cons (pv 9) (pa_cons (pv 11) pa_nil))) pa_nil))))))))
        (pss_cons (ps_set (i := 12) scLaw.nd rfl (Or.inl rfl) (pe_ifExp (pt_cmpR op_eq (pe_call GDr hr2 rfl CDr.g CDr.k CDr.b .nil pass0 (pa_cons (pv 1) (pa_cons pe_int pa_nil))) pe_int (nomark _))
            (pe_ix ix_list (pv 2) (pe_call GDr hr2 rfl CDr.g CDr.k CDr.b .nil pass0 (pa_cons (pv 1) (pa_cons pe_int pa_nil))) (fun _ _ => rfl)) pe_str))
        (pss_cons (ps_set (i := 13) scLaw.nd rfl (Or.inl rfl) (pe_ifExp (pt_cmpR op_eq (pe_call GDr hr2 rfl CDr.g CDr.k CDr.b .nil pass0 (pa_cons (pv 1) (pa_cons pe_int pa_nil))) pe_int (nomark _))
            (pe_ix ix_list (pv 2) (pe_call GDr hr2 rfl CDr.g CDr.k CDr.b .nil pass0 (pa_cons (pv 1) (pa_cons pe_int pa_nil))) (fun _ _ => rfl)) pe_str))
        (pss_one (ps_if (pt_not (pt_val (pe_call GR hr rfl CR.g CR.k CR.b .nil pass0 (pa_cons (pv 12) (pa_cons (pv 13) (pa_cons (pv 7) pa_nil)))))) (pss_one (ps_ret pe_bl)) pss_nil)))))))
      (pss_one (ps_ret (pe_call0 GH hr rfl CH.g CH.k CH.b .nil pass0)))))))), ?_⟩
    refine ⟨_, rfl, a, ns, rfl, hS, hl, fun H1 m lc lg s1 nm nlg M1 => ?_⟩
    have T1 : Tabs T H1 := tabs.ext s1
    -- the words
    refine ⟨"a", 20, rfl, rfl, by decide, by decide, by decide +kernel, by decide +kernel, by decide +kernel, "a", 21, rfl, rfl, by decide, by decide, by decide +kernel, by decide +kernel, by decide +kernel, by show 13 ≤ sizeLine; decide, fun W hW => ?_⟩
    have s2 : Same H1 (upd H1 W (.lst [V.str "A", V.str (timesS "a" 20), V.str (timesS "a" 21), V.str "", V.str "1a", V.str "_a", V.str "a b", V.str "a-b", V.str "raw_x", V.str "text", V.str "z_9", V.str "A\n", V.str "*"])) := same_upd (Same.refl H1) hW
    have W2 : (upd H1 W (.lst [V.str "A", V.str (timesS "a" 20), V.str (timesS "a" 21), V.str "", V.str "1a", V.str "_a", V.str "a b", V.str "a-b", V.str "raw_x", V.str "text", V.str "z_9", V.str "A\n", V.str "*"])) W = some (.lst (wordsS.map V.str)) := by
      rw [upd_same]
      rfl
    generalize upd H1 W (.lst [V.str "A", V.str (timesS "a" 20), V.str (timesS "a" 21), V.str "", V.str "1a", V.str "_a", V.str "a b", V.str "a-b", V.str "raw_x", V.str "text", V.str "z_9", V.str "A\n", V.str "*"]) = H2 at s2 W2 ⊢
    obtain ⟨nWm, nWg⟩ := fresh_ne M1 hW
    have M2 := M1.same s2
    have T2 := T1.ext s2
    -- the odd values
    refine ⟨by show 1 ≤ sizeLine; decide, fun t ht => ⟨by show 1 ≤ sizeLine; decide, fun l hl2 d hd => ⟨Nat.zero_le _, fun e he => ⟨10, 30, rfl, rfl, ⟨by decide, by decide, by decide⟩, 0, by decide, rfl, fun H7 q1 xs1 s7 n7 h7 => ⟨1, by decide, rfl, fun H8 q2 xs2 s8 n8 h8 => ⟨by show 11 ≤ sizeLine; decide, fun O hO => ?_⟩⟩⟩⟩⟩⟩
    have s3 : Same H2 (upd H2 t (.tup [.str "A"])) := same_upd (Same.refl H2) ht
    have v3 : (upd H2 t (.tup [.str "A"])) t = some (.tup [.str "A"]) := upd_same
    generalize upd H2 t (.tup [.str "A"]) = H3 at hl2 hd he s7 n7 s3 v3
    have s4 : Same H3 (upd H3 l (.lst [.str "A"])) := same_upd (Same.refl H3) hl2
    have v4 : (upd H3 l (.lst [.str "A"])) l = some (.lst [.str "A"]) := upd_same
    generalize upd H3 l (.lst [.str "A"]) = H4 at hd he s7 n7 s4 v4
    have s5 : Same H4 (upd H4 d (.dK [])) := same_upd (Same.refl H4) hd
    have v5 : (upd H4 d (.dK [])) d = some (.dK []) := upd_same
    generalize upd H4 d (.dK []) = H5 at he s7 n7 s5 v5
    have s6 : Same H5 (upd H5 e (.tup [])) := same_upd (Same.refl H5) he
    have v6 : (upd H5 e (.tup [])) e = some (.tup []) := upd_same
    generalize upd H5 e (.tup []) = H6 at s7 n7 s6 v6
    rw [if_pos rfl] at h7
    rw [if_neg (by decide)] at h8
    have s9 : Same H8 (upd H8 O (.lst [V.non, V.bl true, V.bl false, V.int 5, V.ref t, V.ref l, V.ref d, V.ref e, V.int (10 ^ (30 : Int).toNat), V.ref q1, V.ref q2])) := same_upd (Same.refl H8) hO
    have v9 : (upd H8 O (.lst [V.non, V.bl true, V.bl false, V.int 5, V.ref t, V.ref l, V.ref d, V.ref e, V.int (10 ^ (30 : Int).toNat), V.ref q1, V.ref q2])) O = some (.lst (oddsL t l d e q1 q2)) := by
      rw [upd_same]
      rfl
    generalize upd H8 O (.lst [V.non, V.bl true, V.bl false, V.int 5, V.ref t, V.ref l, V.ref d, V.ref e, V.int (10 ^ (30 : Int).toNat), V.ref q1, V.ref q2]) = H9 at s9 v9 ⊢
    have M3 := M2.same s3
    have M4 := M3.same s4
    have M5 := M4.same s5
    have M6 := M5.same s6
    have M7 := M6.same s7
    have M8 := M7.same s8
    have M9 := M8.same s9
    have z8 := s8.trans s9
    have z7 := s7.trans z8
    have z6 := s6.trans z7
    have z5 := s5.trans z6
    have z4 := s4.trans z5
    have z3 := s3.trans z4
    have T9 : Tabs T H9 := T2.ext z3
    have LW9 : LsV K m lg H9 W (wordsS.map V.str) := ⟨z3 _ _ W2, nWm, nWg, strs_ok words_short⟩
    have LO9 : LsV K m lg H9 O (oddsL t l d e q1 q2) := by
      refine ⟨v9, (fresh_ne M8 hO).1, (fresh_ne M8 hO).2, ?_⟩
      have ok : ∀ {r : Addr}, ValB K H9 (.ref r) → r ≠ m ∧ r ≠ lg → OkV K m lg H9 (.ref r) := fun {r} h n => ⟨h, fun q => n.1 (by cases q; rfl), fun q => n.2 (by cases q; rfl)⟩
      have lit : ∀ {v : V}, ValB K H9 v → (∀ a, v ≠ .ref a) → OkV K m lg H9 v := fun {v} h n => okV_of h n
      intro x hx
      unfold oddsL at hx
      simp only [List.mem_cons, List.not_mem_nil, or_false] at hx
      rcases hx with rfl | rfl | rfl | rfl | rfl | rfl | rfl | rfl | rfl | rfl | rfl
      · exact lit valB_non nofun
      · exact lit valB_bl nofun
      · exact lit valB_bl nofun
      · exact lit valB_int nofun
      · exact ok (valB_tup (z4 _ _ v3)) (fresh_ne M2 ht)
      · exact ok (valB_lst (z5 _ _ v4)) (fresh_ne M3 hl2)
      · exact ok (valB_dK (z6 _ _ v5)) (fresh_ne M4 hd)
      · exact ok (valB_tup (z7 _ _ v6)) (fresh_ne M5 he)
      · exact lit valB_int nofun
      · exact ok (valB_tup (z8 _ _ h7)) (fresh_ne M6 n7)
      · exact ok (valB_lst (s9 _ _ h8)) (fresh_ne M7 n8)
    clear s2 W2 M1 M2 M3 M4 M5 M6 M7 M8 z8 z7 z6 z5 z4 z3 s3 s4 s5 s6 s7 s8 s9 v3 v4 v5 v6 v9 h7 h8
    have allO : ∀ x ∈ wordsS.map V.str ++ oddsL t l d e q1 q2, OkV K m lg H9 x := fun x hx => by
      rcases List.mem_append.mp hx with z | z
      · exact LW9.ok x z
      · exact LO9.ok x z
    -- each of them alone
    refine ⟨_, rfl, _, rfl, W, O, _, _, rfl, rfl, LW9.at_, LO9.at_, (by show 13 + 11 ≤ sizeLine; decide), fun C hC => ⟨C, rfl, ⟨_, SqL.of upd_same⟩, ?_⟩⟩
    have sC : Same H9 (upd H9 C (.lst (wordsS.map V.str ++ oddsL t l d e q1 q2))) := same_upd (Same.refl H9) hC
    have vC : (upd H9 C (.lst (wordsS.map V.str ++ oddsL t l d e q1 q2))) C = some (.lst (wordsS.map V.str ++ oddsL t l d e q1 q2)) := upd_same
    generalize upd H9 C (.lst (wordsS.map V.str ++ oddsL t l d e q1 q2)) = HC at sC vC ⊢
    have MC := M9.same sC
    have TC := T9.ext sC
    have hCn := fresh_ne M9 hC
    have lit : ∀ {z : Str} {H : Hp}, shortB z = true → ValB K H (.str z) := fun {z H} h => (okV_str (m := 0) (lg := 0) (shortB.key h)).b
    refine for_list (K := K) (a := C) (xs := wordsS.map V.str ++ oddsL t l d e q1 q2) (fun i σ H' => ∃ v4 : Option V, σ = [some (.ref a), some (.ref m), some (.ref W), some (.ref O), v4, none, none, none, none, none, none, none, none, none] ∧ ExtN HC H' ∧ Tabs T H')
      ⟨_, rfl, ExtN.refl HC, TC⟩ (fun i σ H' _ ⟨_, _, x', _⟩ => SqL.of (x' _ _ vC fun _ => nofun)) ?_ ?_
    · rintro i x σ H' hi ⟨v4, rfl, x', T'⟩
      have hx : ∀ H'', ExtN HC H'' → ValB K H'' x := fun H'' e => (((allO x (List.mem_of_getElem? hi)).b.same sC)).ext e
      -- alone as a name, as a sort
      refine ⟨_, rfl, Nat.zero_le _, fun l1 hl1 => ?_⟩
      have sa : Same H' (upd H' l1 (.lst [])) := same_upd (Same.refl H') hl1
      refine ⟨l1, x, .str "e", kwD [] [], rfl, (hx _ (x'.trans (ExtN.of sa))), lit (by decide +kernel), ⟨[], SqL.of upd_same, .nil⟩, kvB_kw rfl .nil rfl (Nat.zero_le _) (fun _ h => nomatch h), T'.ext sa, fun H2 e2 T2 => ⟨_, rfl, ?_⟩⟩
      refine iteF ?_
      have x2 : ExtN HC H2 := (x'.trans (ExtN.of sa)).trans e2
      refine ⟨_, rfl, (by show 2 ≤ sizeLine; decide), fun r1 hr1' => ⟨by show 1 ≤ sizeLine; decide, fun l2 hl2 => ?_⟩⟩
      have sb : Same H2 (upd H2 r1 (.lst [.str "a", .str "e"])) := same_upd (Same.refl H2) hr1'
      have vb : (upd H2 r1 (.lst [.str "a", .str "e"])) r1 = some (.lst [.str "a", .str "e"]) := upd_same
      generalize upd H2 r1 (.lst [.str "a", .str "e"]) = H3 at hl2 sb vb ⊢
      have sc : Same H3 (upd H3 l2 (.lst [.ref r1])) := same_upd (Same.refl H3) hl2
      refine ⟨l2, .str "A", x, kwD ["a"] [.str "e"], rfl, lit (by decide +kernel), hx _ ((x2.trans (ExtN.of sb)).trans (ExtN.of sc)), ⟨[r1], SqL.of upd_same, .cons (sc _ _ vb) .nil⟩, kvB_kw (by decide +kernel) (by decide +kernel) rfl (by decide) (fun z h => ?_), (T2.ext sb).ext sc, fun H4 e4 T4 => ⟨_, rfl, ?_⟩⟩
      · rw [List.mem_singleton.mp h]
        exact lit (by decide +kernel)
      refine iteF ?_
      have x4 : ExtN HC H4 := ((x2.trans (ExtN.of sb)).trans (ExtN.of sc)).trans e4
      refine ⟨(by show 2 ≤ sizeLine; decide), fun r3 h3 => ⟨_, rfl, by show 2 ≤ sizeLine; decide, fun r4 h4 => ⟨by show 2 ≤ sizeLine; decide, fun r5 h5 => ⟨by show 3 ≤ sizeLine; decide, fun l3 hl3 => ?_⟩⟩⟩⟩
      have s3 : Same H4 (upd H4 r3 (.lst [.str "a", .str "e"])) := same_upd (Same.refl H4) h3
      have v3 : (upd H4 r3 (.lst [.str "a", .str "e"])) r3 = some (.lst [.str "a", .str "e"]) := upd_same
      generalize upd H4 r3 (.lst [.str "a", .str "e"]) = H5 at h4 h5 hl3 s3 v3 ⊢
      have s4 : Same H5 (upd H5 r4 (.lst [.str "b", x])) := same_upd (Same.refl H5) h4
      have v4 : (upd H5 r4 (.lst [.str "b", x])) r4 = some (.lst [.str "b", x]) := upd_same
      generalize upd H5 r4 (.lst [.str "b", x]) = H6 at h5 hl3 s4 v4 ⊢
      have s5 : Same H6 (upd H6 r5 (.lst [.str "c", .non])) := same_upd (Same.refl H6) h5
      have v5 : (upd H6 r5 (.lst [.str "c", .non])) r5 = some (.lst [.str "c", .non]) := upd_same
      generalize upd H6 r5 (.lst [.str "c", .non]) = H7 at hl3 s5 v5 ⊢
      have s6 : Same H7 (upd H7 l3 (.lst [.ref r3, .ref r4, .ref r5])) := same_upd (Same.refl H7) hl3
      have v6 : (upd H7 l3 (.lst [.ref r3, .ref r4, .ref r5])) l3 = some (.lst [.ref r3, .ref r4, .ref r5]) := upd_same
      generalize upd H7 l3 (.lst [.ref r3, .ref r4, .ref r5]) = H8 at s6 v6 ⊢
      have s48 : Same H4 H8 := ((s3.trans s4).trans s5).trans s6
      have x8 : ExtN HC H8 := x4.trans (ExtN.of s48)
      refine ⟨l3, .str "A", .str "e", kwD ["a", "b", "c"] [.str "e", x, .non], rfl, lit (by decide +kernel), lit (by decide +kernel), ⟨[r3, r4, r5], SqL.of v6, .cons (s6 _ _ (s5 _ _ (s4 _ _ v3))) (.cons (s6 _ _ (s5 _ _ v4)) (.cons (s6 _ _ v5) .nil))⟩, kvB_kw (by decide +kernel) (by decide +kernel) rfl (by decide) (fun z h => ?_), T4.ext s48, fun H9 e9 T9 => ⟨_, rfl, ?_⟩⟩
      · simp only [List.mem_cons, List.not_mem_nil, or_false] at h
        rcases h with rfl | rfl | rfl
        · exact lit (by decide +kernel)
        · exact hx _ x8
        · exact valB_non
      refine iteF ?_
      have x9 : ExtN HC H9 := x8.trans e9
      refine ⟨_, rfl, _, rfl, _, rfl, by show 2 ≤ sizeLine; decide, fun r6 h6 => ⟨by show 1 ≤ sizeLine; decide, fun l4 hl4 => ?_⟩⟩
      have s7 : Same H9 (upd H9 r6 (.lst [.str "a", x])) := same_upd (Same.refl H9) h6
      have v7 : (upd H9 r6 (.lst [.str "a", x])) r6 = some (.lst [.str "a", x]) := upd_same
      generalize upd H9 r6 (.lst [.str "a", x]) = H10 at hl4 s7 v7 ⊢
      have s8 : Same H10 (upd H10 l4 (.lst [.ref r6])) := same_upd (Same.refl H10) hl4
      have v8 : (upd H10 l4 (.lst [.ref r6])) l4 = some (.lst [.ref r6]) := upd_same
      generalize upd H10 l4 (.lst [.ref r6]) = H11 at s8 v8 ⊢
      have x11 : ExtN HC H11 := x9.trans (ExtN.of (s7.trans s8))
      refine ⟨l4, x, x, kwD ["a"] [x], rfl, hx _ x11, hx _ x11, ⟨[r6], SqL.of v8, .cons (s8 _ _ v7) .nil⟩, kvB_kw (by decide +kernel) (by decide +kernel) rfl (by decide) (fun z h => ?_), (T9.ext s7).ext s8, fun H12 e12 T12 => ⟨_, rfl, ?_⟩⟩
      · rw [List.mem_singleton.mp h]
        exact hx _ x11
      refine iteF ?_
      exact ⟨_, rfl, x11.trans e12, T12⟩
    · rintro σ HL ⟨v4, rfl, xL, TL⟩
      have ML : MA m lc lg 0 HL := MC.ext xL
      have LWL := (LW9.fd (FD.same sC)).fd (FD.ext xL)
      have LOL := (LO9.fd (FD.same sC)).fd (FD.ext xL)
      clear allO
      -- what is taken
      refine ⟨"a", 20, rfl, rfl, by decide, by decide, by decide +kernel, by decide +kernel, by decide +kernel, "a", 20, rfl, rfl, by decide, by decide, by decide +kernel, by decide +kernel, by decide +kernel, _, _, rfl, rfl, by decide +kernel, by show 8 ≤ sizeLine; decide, fun S hS => ?_⟩
      have sS : Same HL (upd HL S (.lst [V.str "text", V.str "e", V.str "e*", V.str "Other_1", V.str "Other_1*", V.str (timesS "a" 20), V.str (timesS "a" 20 ++ "*"), V.str "text"])) := same_upd (Same.refl HL) hS
      have vS : (upd HL S (.lst [V.str "text", V.str "e", V.str "e*", V.str "Other_1", V.str "Other_1*", V.str (timesS "a" 20), V.str (timesS "a" 20 ++ "*"), V.str "text"])) S = some (.lst (takesS.map V.str)) := by
        rw [upd_same]
        rfl
      generalize upd HL S (.lst [V.str "text", V.str "e", V.str "e*", V.str "Other_1", V.str "Other_1*", V.str (timesS "a" 20), V.str (timesS "a" 20 ++ "*"), V.str "text"]) = HS at sS vS ⊢
      have MS := ML.same sS
      have TS := TL.ext sS
      have LW := LWL.fd (FD.same sS)
      have LO := LOL.fd (FD.same sS)
      have LS : LsV K m lg HS S (takesS.map V.str) := ⟨vS, (fresh_ne ML hS).1, (fresh_ne ML hS).2, strs_ok takes_short⟩
      clear LW9 LO9 LWL LOL M9 MC ML T9 TC TL sC vC xL sS vS
      refine ⟨40, rfl, by decide, by decide, for_range (n := 40) (fun i σ H' => ∃ (v6 v7 v8 v9 v10 v11 v12 v13 : Option V) (n : Int), σ = [some (.ref a), some (.ref m), some (.ref W), some (.ref O), v4, some (.ref S), v6, v7, v8, v9, v10, v11, v12, v13] ∧ FD m lg HS H' ∧ MA m lc lg n H' ∧ n ≤ 40 * i ∧ Tabs T H')
        ⟨_, _, _, _, _, _, _, _, 0, rfl, FD.refl HS, MS, by decide, TS⟩ ?_ ?_⟩
      · rintro i σ H1 hi ⟨v6, v7, v8, v9, v10, v11, v12, v13, n, rfl, F1, M1, hn, T1⟩
        refine ⟨Nat.zero_le _, fun R hR => ?_⟩
        have hRn := fresh_ne M1 hR
        have nRc : lc ≠ R := by
          obtain ⟨cs, hc, _⟩ := M1.hc
          exact ne_of_none hc hR
        have sR : Same H1 (upd H1 R (.lst [])) := same_upd (Same.refl H1) hR
        have vR : (upd H1 R (.lst [])) R = some (.lst []) := upd_same
        generalize upd H1 R (.lst []) = H2 at sR vR ⊢
        have M2 := M1.same sR
        have T2 := T1.ext sR
        have D2 : Drawn2 K T m lc lg R HS (40 * (i : Int)) 0 [] [] H2 := ⟨F1.trans (FD.same sR), ⟨n, M2, hn⟩, T2, ⟨vR, .nil, (fun _ h => nomatch h), (fun j p h => nomatch h)⟩, rfl, (fun _ h => nomatch h), (fun _ h => nomatch h)⟩
        have neR : ∀ {x : V}, OkV K m lg HS x → x ≠ .ref R := fun {x} h => (h.fd F1).b.val.ne hR
        have hi40 : (40 * (i : Int)) ≤ 1600 := by omega
        -- how many slots
        refine ⟨_, rfl, m, lc, lg, n, 8, rfl, M2, by omega, by decide, by decide, fun H3 dd d0 d1 M3 e3 => ?_⟩
        have D3 := D2.draw hRn M2 hn M3 e3
        clear D2
        refine ⟨dd, rfl, by omega, by omega, for_range (lo := 0) (n := dd.toNat) (fun j σ H' => ∃ (v8 v9 v10 v11 : Option V) (rs : List Addr) (kvs : List (Key × V)), σ = [some (.ref a), some (.ref m), some (.ref W), some (.ref O), v4, some (.ref S), some (.int (0 + (i : Int))), some (.ref R), v8, v9, v10, v11, v12, v13] ∧ Drawn2 K T m lc lg R HS (40 * (i : Int) + 1 + 4 * (j : Int)) j rs kvs H')
          ⟨_, _, _, _, [], [], rfl, { D3 with ma := let ⟨n, M, h⟩ := D3.ma; ⟨n, M, by omega⟩ }⟩ ?_ ?_⟩
        · rintro j σ H4 hj ⟨v8, v9, v10, v11, rs, kvs, rfl, D4⟩
          have hj8 : j < 8 := by omega
          obtain ⟨n4, M4, b4⟩ := D4.ma
          -- the slot's name
          refine ⟨_, rfl, m, lc, lg, n4, 8, rfl, M4, by omega, by decide, by decide, fun H5 d5 d50 d51 M5 e5 => ⟨_, _, rfl, rfl, _, rfl, ?_⟩⟩
          have D5 := D4.draw hRn M4 b4 M5 e5
          refine ife (fun v H' => ∃ key, v = .str key ∧ KeyJ j (.inr key) ∧ Drawn2 K T m lc lg R HS (40 * (i : Int) + 1 + 4 * (j : Int) + 2) j rs kvs H') (fun Q' kk => ?_) (fun Q' kk => ?_) ?_
          · refine ⟨_, rfl, (0 + (j : Int)), rfl, ?_, _, _, rfl, rfl, ?_, kk _ _ ⟨_, rfl, key_digit hj8 (by decide +kernel) (by decide +kernel), ?_⟩⟩
            · exact digit_log hj8
            · rw [digit_len hj8]
              decide
            · obtain ⟨n, M, h⟩ := D5.ma
              exact { D5 with ma := ⟨n, M, by omega⟩ }
          · obtain ⟨n5, M5', b5⟩ := D5.ma
            refine ⟨_, rfl, _, rfl, m, lc, lg, n5, 13, rfl, M5', by omega, by decide, by decide, fun H6 d6 d60 d61 M6 e6 => ?_⟩
            have D6 := D5.draw hRn M5' b5 M6 e6
            obtain ⟨z, hz, ez⟩ := str_at (l := wordsS) d60 (by show d6 < 13; exact d61)
            have hz1 := List.all_eq_true.mp words_short z hz
            refine ⟨W, _, d6, _, rfl, rfl, SqL.of (LW.fd D6.fd).at_, ez, _, rfl, (0 + (j : Int)), rfl, ?_, _, _, rfl, rfl, ?_, kk _ _ ⟨_, rfl, key_digit hj8 ?_ ?_, ?_⟩⟩
            · exact digit_log hj8
            · rw [digit_len hj8]
              exact Nat.le_trans (Nat.add_le_add_right (shortB.le hz1).1 1) (by decide)
            · exact Nat.le_trans (shortB.le hz1).1 (by decide)
            · exact (shortB.le hz1).2
            · obtain ⟨n, M, h⟩ := D6.ma
              exact { D6 with ma := ⟨n, M, by omega⟩ }
          · rintro v H6 ⟨key, rfl, hk, D6⟩
            -- what may be taken instead
            refine ⟨_, rfl, _, rfl, W, O, _, _, rfl, rfl, (LW.fd D6.fd).at_, (LO.fd D6.fd).at_, (by show 13 + 11 ≤ sizeLine; decide), fun C1 hC1 => ⟨by show 3 ≤ sizeLine; decide, fun L3 hL3 => ⟨C1, L3, wordsS.map V.str ++ oddsL t l d e q1 q2, _, rfl, rfl, ?_, upd_same, (by show 24 + 3 ≤ sizeLine; decide), fun SM hSM => ?_⟩⟩⟩
            · rw [upd_ne (ne_of_none upd_same hL3)]
              exact upd_same
            have sC1 : Same H6 (upd H6 C1 (.lst (wordsS.map V.str ++ oddsL t l d e q1 q2))) := same_upd (Same.refl H6) hC1
            generalize upd H6 C1 (.lst (wordsS.map V.str ++ oddsL t l d e q1 q2)) = H7 at hL3 hSM sC1 ⊢
            have sL3 : Same H7 (upd H7 L3 (.lst [.str "text*", .str "e**", .str "*e"])) := same_upd (Same.refl H7) hL3
            generalize upd H7 L3 (.lst [.str "text*", .str "e**", .str "*e"]) = H8 at hSM sL3 ⊢
            have D8 := (D6.same hRn sC1).same hRn sL3
            have sSM : Same H8 (upd H8 SM (.lst (wordsS.map V.str ++ oddsL t l d e q1 q2 ++ [.str "text*", .str "e**", .str "*e"]))) := same_upd (Same.refl H8) hSM
            have vSM : (upd H8 SM (.lst (wordsS.map V.str ++ oddsL t l d e q1 q2 ++ [.str "text*", .str "e**", .str "*e"]))) SM = some (.lst (wordsS.map V.str ++ oddsL t l d e q1 q2 ++ moreS.map V.str)) := upd_same
            generalize upd H8 SM (.lst (wordsS.map V.str ++ oddsL t l d e q1 q2 ++ [.str "text*", .str "e**", .str "*e"])) = H9 at sSM vSM ⊢
            have D9 := D8.same hRn sSM
            obtain ⟨n8, M8, b8⟩ := D8.ma
            have nSM := fresh_ne M8 hSM
            have okS : ∀ x ∈ wordsS.map V.str ++ oddsL t l d e q1 q2 ++ moreS.map V.str, OkV K m lg HS x := fun x hx => by
              rcases List.mem_append.mp hx with z | z
              · rcases List.mem_append.mp z with z | z
                · exact LW.ok x z
                · exact LO.ok x z
              · exact strs_ok more_short x z
            clear D8 M8 b8 sC1 sL3 sSM
            obtain ⟨n9, M9, b9⟩ := D9.ma
            -- what is taken
            refine ⟨_, rfl, m, lc, lg, n9, 9, rfl, M9, by omega, by decide, by decide, fun H10 d10 d100 d101 M10 e10 => ⟨_, _, rfl, rfl, _, rfl, ?_⟩⟩
            have D10 := D9.draw hRn M9 b9 M10 e10
            have vSM10 : H10 SM = some (.lst (wordsS.map V.str ++ oddsL t l d e q1 q2 ++ moreS.map V.str)) := e10 _ _ nSM.1 nSM.2 vSM
            obtain ⟨n10, M10', b10⟩ := D10.ma
            refine ife (fun v H' => OkV K m lg HS v ∧ Drawn2 K T m lc lg R HS (40 * (i : Int) + 1 + 4 * ((j : Int) + 1)) j rs kvs H') (fun Q' kk => ?_) (fun Q' kk => ?_) ?_
            · refine ⟨_, rfl, _, rfl, m, lc, lg, n10, 8, rfl, M10', by omega, by decide, by decide, fun H11 d11 d110 d111 M11 e11 => ?_⟩
              have D11 := D10.draw hRn M10' b10 M11 e11
              obtain ⟨z, hz, ez⟩ := str_at (l := takesS) d110 (by show d11 < 8; exact d111)
              refine ⟨S, _, d11, _, rfl, rfl, SqL.of (LS.fd D11.fd).at_, ez, kk _ _ ⟨LS.ok _ (List.mem_map.mpr ⟨z, hz, rfl⟩), ?_⟩⟩
              obtain ⟨n, M, h⟩ := D11.ma
              exact { D11 with ma := ⟨n, M, by omega⟩ }
            · refine ⟨_, rfl, _, rfl, m, lc, lg, n10, 27, rfl, M10', by omega, by decide, by decide, fun H11 d11 d110 d111 M11 e11 => ?_⟩
              have D11 := D10.draw hRn M10' b10 M11 e11
              obtain ⟨z, hz, ez⟩ := val_at (l := wordsS.map V.str ++ oddsL t l d e q1 q2 ++ moreS.map V.str) d110 (by show d11 < 27; exact d111)
              refine ⟨SM, _, d11, _, rfl, rfl, SqL.of (e11 _ _ nSM.1 nSM.2 vSM10), ez, kk _ _ ⟨okS z hz, ?_⟩⟩
              obtain ⟨n, M, h⟩ := D11.ma
              exact { D11 with ma := ⟨n, M, by omega⟩ }
            · rintro v H11 ⟨okv, D11⟩
              -- into the row
              refine ⟨_, rfl, .inl ⟨rfl, _, SqL.of D11.row.at_⟩, _, rfl, _, rfl, by show 2 ≤ sizeLine; decide, fun r hr' => ?_⟩
              have sr : Same H11 (upd H11 r (.lst [.str key, v])) := same_upd (Same.refl H11) hr'
              have vr : (upd H11 r (.lst [.str key, v])) r = some (.lst [.str key, v]) := upd_same
              generalize upd H11 r (.lst [.str key, v]) = H12 at sr vr ⊢
              have D12 := D11.same hRn sr
              obtain ⟨n11, M11, b11⟩ := D11.ma
              have nr := fresh_ne M11 hr'
              have rR : r ≠ R := (ne_of_none D11.row.at_ hr').symm
              have hrl : rs.length = kvs.length := D12.row.rows.length
              refine ⟨R, _, _, rfl, rfl, D12.row.at_, ?_, ?_⟩
              · rw [List.length_map, hrl, D12.len]
                exact Nat.lt_trans hj8 (by decide)
              · refine ⟨_, _, _, _, rs ++ [r], kvs ++ [(.inr key, v)], rfl, ?_⟩
                have okv12 : OkV K m lg H12 v := okv.fd D12.fd
                have vR' : v ≠ .ref R := neR okv
                refine ⟨?_, ?_, tabs_lst D12.tb D12.row.at_, D12.row.add hRn.1 hRn.2 vr nr.1 nr.2 rR D12.rr vR' D12.vr okv12 (by rw [D12.len]; exact hk), ?_, fun x hx => ?_, fun p hp => ?_⟩
                · intro b o nb1 nb2 eb nt
                  have eb2 := D12.fd b o nb1 nb2 eb nt
                  have e1 := F1 b o nb1 nb2 eb nt
                  rw [upd_ne (ne_of_none e1 hR)]
                  exact eb2
                · obtain ⟨n12, M12, b12⟩ := D12.ma
                  obtain ⟨hm, ne, ⟨cs, hc, c1, c2⟩, ⟨gs, hg, g1⟩, n0⟩ := M12
                  refine ⟨n12, ⟨by rw [upd_ne hRn.1.symm]; exact hm, ne, ⟨cs, ?_, c1, c2⟩, ⟨gs, by rw [upd_ne hRn.2.symm]; exact hg, g1⟩, n0⟩, by omega⟩
                  rw [upd_ne nRc]
                  exact hc
                · rw [List.length_append, D12.len]
                  rfl
                · rcases List.mem_append.mp hx with z | z
                  · exact D12.rr x z
                  · rw [List.mem_singleton.mp z]
                    exact rR
                · rcases List.mem_append.mp hp with z | z
                  · exact D12.vr p z
                  · rw [List.mem_singleton.mp z]
                    exact vR'
        · rintro σ H4 ⟨v8, v9, v10, v11, rs, kvs, rfl, D4⟩
          obtain ⟨n4, M4, b4⟩ := D4.ma
          have hdd : 4 * ((dd.toNat : Nat) : Int) ≤ 28 := by omega
          -- the name
          refine ⟨_, rfl, m, lc, lg, n4, 6, rfl, M4, by omega, by decide, by decide, fun H5 d5 d50 d51 M5 e5 => ⟨rfl, _, rfl, ?_⟩⟩
          have D5 := D4.draw hRn M4 b4 M5 e5
          obtain ⟨n5, M5', b5⟩ := D5.ma
          refine ife (fun v H' => OkV K m lg HS v ∧ Drawn2 K T m lc lg R HS (40 * (i : Int) + 1 + 4 * ((dd.toNat : Nat) : Int) + 2) dd.toNat rs kvs H') (fun Q' kk => ?_) (fun Q' kk => ?_) ?_
          · refine ⟨_, rfl, _, rfl, m, lc, lg, n5, 13, rfl, M5', by omega, by decide, by decide, fun H6 d6 d60 d61 M6 e6 => ?_⟩
            have D6 := D5.draw hRn M5' b5 M6 e6
            obtain ⟨z, hz, ez⟩ := str_at (l := wordsS) d60 (by show d6 < 13; exact d61)
            refine ⟨W, _, d6, _, rfl, rfl, SqL.of (LW.fd D6.fd).at_, ez, kk _ _ ⟨LW.ok _ (List.mem_map.mpr ⟨z, hz, rfl⟩), ?_⟩⟩
            obtain ⟨n, M, h⟩ := D6.ma
            exact { D6 with ma := ⟨n, M, by omega⟩ }
          · refine kk _ _ ⟨okV_str (by decide +kernel), ?_⟩
            obtain ⟨n, M, h⟩ := D5.ma
            exact { D5 with ma := ⟨n, M, by omega⟩ }
          rintro x1 H7 ⟨ok1, D7⟩
          obtain ⟨n7, M7, b7⟩ := D7.ma
          -- the sort
          refine ⟨_, rfl, m, lc, lg, n7, 6, rfl, M7, by omega, by decide, by decide, fun H8 d8 d80 d81 M8 e8 => ⟨rfl, _, rfl, ?_⟩⟩
          have D8 := D7.draw hRn M7 b7 M8 e8
          obtain ⟨n8, M8', b8⟩ := D8.ma
          refine ife (fun v H' => OkV K m lg HS v ∧ Drawn2 K T m lc lg R HS (40 * (i : Int) + 1 + 4 * ((dd.toNat : Nat) : Int) + 4) dd.toNat rs kvs H') (fun Q' kk => ?_) (fun Q' kk => ?_) ?_
          · refine ⟨_, rfl, _, rfl, m, lc, lg, n8, 13, rfl, M8', by omega, by decide, by decide, fun H9 d9 d90 d91 M9 e9 => ?_⟩
            have D9 := D8.draw hRn M8' b8 M9 e9
            obtain ⟨z, hz, ez⟩ := str_at (l := wordsS) d90 (by show d9 < 13; exact d91)
            refine ⟨W, _, d9, _, rfl, rfl, SqL.of (LW.fd D9.fd).at_, ez, kk _ _ ⟨LW.ok _ (List.mem_map.mpr ⟨z, hz, rfl⟩), ?_⟩⟩
            obtain ⟨n, M, h⟩ := D9.ma
            exact { D9 with ma := ⟨n, M, by omega⟩ }
          · refine kk _ _ ⟨okV_str (by decide +kernel), ?_⟩
            obtain ⟨n, M, h⟩ := D8.ma
            exact { D8 with ma := ⟨n, M, by omega⟩ }
          rintro x2 H9 ⟨ok2, D9⟩
          obtain ⟨n9, M9, b9⟩ := D9.ma
          -- made, or refused
          refine ⟨_, rfl, _, rfl, _, rfl, R, x1, x2, kvs, rfl, (ok1.fd D9.fd).b, (ok2.fd D9.fd).b, D9.row.row, D9.row.kv (by rw [D9.len]; omega), D9.tb, fun H10 e10 T10 => ⟨_, rfl, ?_⟩⟩
          refine iteF ?_
          exact ⟨_, _, _, _, _, _, _, _, n9, rfl, D9.fd.trans (FD.ext e10), M9.ext e10, by omega, T10⟩
      · rintro σ HF ⟨v6, v7, v8, v9, v10, v11, v12, v13, n, rfl, FF, MF, hn, TF⟩
        exact ⟨rfl, TF, fun H' e' T' => k H'⟩
end
end K1

namespace K1
open PySem L2
open LamX (ExtN Tabs TabS TabB LawAtS)
theorem mk_kO {K : PySem.W.Frag} {kV doc pm cdv ct : Value} {an : Option Addr} : KBinds K (PySem.W.fnOf "of" "Form.of" (defArgs sFormOf) (defBody sFormOf) (defScope sFormOf) .none kV doc pm an cdv ct) ["cls", "name", "sort", "slots"] ["slots", "sort", "name"] gK gV := by
  refine ⟨fun s us ws _ hl => ?_, gK_rel⟩
  match us, ws, hl with
  | [a], [x, y, z], _ => exact .of_eq rfl
  | [], _, h => exact nomatch (show (0 : Nat) = 4 from h)
  | _ :: _ :: _, _, h => exact nomatch (show (0 : Nat) = 4 from h)
  | [_], [], h => exact nomatch (show (0 : Nat) = 4 from h)
  | [_], [_], h => exact nomatch (show (0 : Nat) = 4 from h)
  | [_], [_, _], h => exact nomatch (show (0 : Nat) = 4 from h)
  | [_], _ :: _ :: _ :: _ :: _, h => exact nomatch (show (0 : Nat) = 4 from h)
theorem mk_kw {kV doc pm cdv ct : Value} {an : Option Addr} : KwF (PySem.W.fnOf "__init__" "Form.__init__" (defArgs sFormInit) (defBody sFormInit) (defScope sFormInit) .none kV doc pm an cdv ct) :=
  ⟨fun us ws h1 h2 => match us, h1, ws, h2 with | [_, _, _], _, [_, _, _], _ => rfl, fun us ws h1 h2 => match us, h1, ws, h2 with | [_, _, _], _, [_], _ => rfl, fun us ws h1 h2 => match us, h1, ws, h2 with | [_, _, _], _, [_, _, _], _ => rfl,
    fun us ws h1 h2 => match us, h1, ws, h2 with | [_, _, _], _, [_, _, _, _, _, _], _ => rfl, fun us ws h1 h2 => match us, h1, ws, h2 with | [_, _, _], _, [_, _, _], _ => rfl⟩
theorem all_mk {l : PySem.W.OpenLaw} {w : World} {K : PySem.W.Frag} {h : Heap} {mg : Str → Option Value} {fa : Addr} {P : Program}
    {fN : Addr} {ocN kVN dcN pmN ctN cdN : Value} {odN anN : Option Addr} {slN : Array (Option Value)}
    {fS : Addr} {ocS kVS dcS pmS ctS cdS : Value} {odS anS : Option Addr} {slS : Array (Option Value)}
    {fT : Addr} {ocT kVT dcT pmT ctT cdT : Value} {odT anT : Option Addr} {slT : Array (Option Value)}
    {fX : Addr} {ocX kVX dcX pmX ctX cdX : Value} {odX anX : Option Addr} {slX : Array (Option Value)}
    {fC : Addr} {ocC kVC dcC pmC ctC cdC : Value} {odC anC : Option Addr} {slC : Array (Option Value)}
    {fM : Addr} {ocM kVM dcM pmM ctM cdM : Value} {odM anM : Option Addr} {slM : Array (Option Value)}
    {fFo : Addr} {ocFo kVFo dcFo pmFo ctFo cdFo : Value} {odFo anFo : Option Addr} {slFo : Array (Option Value)}
    {fDr : Addr} {ocDr kVDr dcDr pmDr ctDr cdDr : Value} {odDr anDr : Option Addr} {slDr : Array (Option Value)}
    {fB : Addr} {ocB kVB dcB pmB ctB cdB : Value} {odB anB : Option Addr} {slB : Array (Option Value)}
    {fA : Addr} {ocA kVA dcA pmA ctA cdA : Value} {odA anA : Option Addr} {slA : Array (Option Value)}
    {fLn : Addr} {ocLn kVLn dcLn pmLn ctLn cdLn : Value} {odLn anLn : Option Addr} {slLn : Array (Option Value)}
    {fLt : Addr} {ocLt kVLt dcLt pmLt ctLt cdLt : Value} {odLt anLt : Option Addr} {slLt : Array (Option Value)}
    {fD2 : Addr} {ocD2 kVD2 dcD2 pmD2 ctD2 cdD2 : Value} {odD2 anD2 : Option Addr} {slD2 : Array (Option Value)}
    {fDu : Addr} {ocDu kVDu dcDu pmDu ctDu cdDu : Value} {odDu anDu : Option Addr} {slDu : Array (Option Value)}
    {fR : Addr} {ocR kVR dcR pmR ctR : Value} {odR anR : Option Addr} {slR : Array (Option Value)}
    {fH : Addr} {ocH kVH dcH pmH ctH : Value} {odH anH : Option Addr} {slH : Array (Option Value)}
    {fL : Addr} {ocL kVL dcL pmL ctL cdL : Value} {odL anL : Option Addr} {slL : Array (Option Value)}
    {CF CI CS fI fO pO fE cda cc cR cH pR pH NN : Addr} {mc ocI kVI dcI pmI cdI ctI ocO kVO dcO pmO cdO ctO ocE kVE dcE pmE ctE ccl cl : Value} {odI anI odO anO odE anE cdd cld : Option Addr} {slI slO slE ccs csl : Array (Option Value)} {cvs : Array Value} {orest : List Value} {file : Str} {tf t5 tMx tLt tSg tTx tRw : Tok}
    {nm q : Str} {bs bm : List Value} {sn : List Str} {sub : List Value} {ab : Bool} {col : Option Bool} {dd : Option Addr} {m0 m1 m2 m3 m5 : Option Value} 
    (eP : l.prog = P) (X : K.In h) (G : h.Ns mainGlobals mg) (hR2 : h.get? pR = some (PySem.W.tabObj #[])) (hH2 : h.get? pH = some (PySem.W.tabObj #[])) (hfa : mg "law" = some (.ref fa))
    (aN : PySem.W.nsIn K mainGlobals "is_name" = some (some (.ref fN)))
    (lN : K.lookup fN = some ⟨ocN, odN, .func (PySem.W.fnOf "is_name" "is_name" (defArgs sName) (defBody sName) (defScope sName) .none kVN dcN pmN anN cdN ctN), slN⟩)
    (cNd : PySem.W.codeIn K cdN "is_name" = true)
    (kN : PySem.W.keepIn K (.ref fN) = true)
    (aS : PySem.W.nsIn K mainGlobals "is_sort" = some (some (.ref fS)))
    (lS : K.lookup fS = some ⟨ocS, odS, .func (PySem.W.fnOf "is_sort" "is_sort" (defArgs sSort) (defBody sSort) (defScope sSort) .none kVS dcS pmS anS cdS ctS), slS⟩)
    (cSd : PySem.W.codeIn K cdS "is_sort" = true)
    (kS : PySem.W.keepIn K (.ref fS) = true)
    (aT : PySem.W.nsIn K mainGlobals "is_taken" = some (some (.ref fT)))
    (lT : K.lookup fT = some ⟨ocT, odT, .func (PySem.W.fnOf "is_taken" "is_taken" (defArgs sTaken) (defBody sTaken) (defScope sTaken) .none kVT dcT pmT anT cdT ctT), slT⟩)
    (cTd : PySem.W.codeIn K cdT "is_taken" = true)
    (kT : PySem.W.keepIn K (.ref fT) = true)
    (aX : PySem.W.nsIn K mainGlobals "sort_taken" = some (some (.ref fX)))
    (lX : K.lookup fX = some ⟨ocX, odX, .func (PySem.W.fnOf "sort_taken" "sort_taken" (defArgs sSortTaken) (defBody sSortTaken) (defScope sSortTaken) .none kVX dcX pmX anX cdX ctX), slX⟩)
    (cXd : PySem.W.codeIn K cdX "sort_taken" = true)
    (kX : PySem.W.keepIn K (.ref fX) = true)
    (aC : PySem.W.nsIn K mainGlobals "_checked_slots" = some (some (.ref fC)))
    (lC : K.lookup fC = some ⟨ocC, odC, .func (PySem.W.fnOf "_checked_slots" "_checked_slots" (defArgs sChecked) (defBody sChecked) (defScope sChecked) .none kVC dcC pmC anC cdC ctC), slC⟩)
    (cCd : PySem.W.codeIn K cdC "_checked_slots" = true)
    (kC : PySem.W.keepIn K (.ref fC) = true)
    (aM : PySem.W.nsIn K mainGlobals "_law_mixed" = some (some (.ref fM)))
    (lM : K.lookup fM = some ⟨ocM, odM, .func (PySem.W.fnOf "_law_mixed" "_law_mixed" (defArgs sMixed) (defBody sMixed) (defScope sMixed) .none kVM dcM pmM anM cdM ctM), slM⟩)
    (cMd : PySem.W.codeIn K cdM "_law_mixed" = true)
    (kM : PySem.W.keepIn K (.ref fM) = true)
    (aFo : PySem.W.nsIn K mainGlobals "_law_folded" = some (some (.ref fFo)))
    (lFo : K.lookup fFo = some ⟨ocFo, odFo, .func (PySem.W.fnOf "_law_folded" "_law_folded" (defArgs sFolded) (defBody sFolded) (defScope sFolded) .none kVFo dcFo pmFo anFo cdFo ctFo), slFo⟩)
    (cFod : PySem.W.codeIn K cdFo "_law_folded" = true)
    (kFo : PySem.W.keepIn K (.ref fFo) = true)
    (aDr : PySem.W.nsIn K mainGlobals "_law_draw" = some (some (.ref fDr)))
    (lDr : K.lookup fDr = some ⟨ocDr, odDr, .func (PySem.W.fnOf "_law_draw" "_law_draw" (defArgs sDraw) (defBody sDraw) (defScope sDraw) .none kVDr dcDr pmDr anDr cdDr ctDr), slDr⟩)
    (cDrd : PySem.W.codeIn K cdDr "_law_draw" = true)
    (kDr : PySem.W.keepIn K (.ref fDr) = true)
    (aB : PySem.W.nsIn K mainGlobals "_law_begun" = some (some (.ref fB)))
    (lB : K.lookup fB = some ⟨ocB, odB, .func (PySem.W.fnOf "_law_begun" "_law_begun" (defArgs sBegun) (defBody sBegun) (defScope sBegun) .none kVB dcB pmB anB cdB ctB), slB⟩)
    (cBd : PySem.W.codeIn K cdB "_law_begun" = true)
    (kB : PySem.W.keepIn K (.ref fB) = true)
    (aA : PySem.W.nsIn K mainGlobals "_law_fault" = some (some (.ref fA)))
    (lA : K.lookup fA = some ⟨ocA, odA, .func (PySem.W.fnOf "_law_fault" "_law_fault" (defArgs sFault) (defBody sFault) (defScope sFault) .none kVA dcA pmA anA cdA ctA), slA⟩)
    (cAd : PySem.W.codeIn K cdA "_law_fault" = true)
    (kA : PySem.W.keepIn K (.ref fA) = true)
    (aLn : PySem.W.nsIn K mainGlobals "_law_is_name" = some (some (.ref fLn)))
    (lLn : K.lookup fLn = some ⟨ocLn, odLn, .func (PySem.W.fnOf "_law_is_name" "_law_is_name" (defArgs sLName) (defBody sLName) (defScope sLName) .none kVLn dcLn pmLn anLn cdLn ctLn), slLn⟩)
    (cLnd : PySem.W.codeIn K cdLn "_law_is_name" = true)
    (kLn : PySem.W.keepIn K (.ref fLn) = true)
    (aLt : PySem.W.nsIn K mainGlobals "_law_is_taken" = some (some (.ref fLt)))
    (lLt : K.lookup fLt = some ⟨ocLt, odLt, .func (PySem.W.fnOf "_law_is_taken" "_law_is_taken" (defArgs sLTaken) (defBody sLTaken) (defScope sLTaken) .none kVLt dcLt pmLt anLt cdLt ctLt), slLt⟩)
    (cLtd : PySem.W.codeIn K cdLt "_law_is_taken" = true)
    (kLt : PySem.W.keepIn K (.ref fLt) = true)
    (aD2 : PySem.W.nsIn K mainGlobals "_law_doubled" = some (some (.ref fD2)))
    (lD2 : K.lookup fD2 = some ⟨ocD2, odD2, .func (PySem.W.fnOf "_law_doubled" "_law_doubled" (defArgs sDoubled) (defBody sDoubled) (defScope sDoubled) .none kVD2 dcD2 pmD2 anD2 cdD2 ctD2), slD2⟩)
    (cD2d : PySem.W.codeIn K cdD2 "_law_doubled" = true)
    (kD2 : PySem.W.keepIn K (.ref fD2) = true)
    (aDu : PySem.W.nsIn K mainGlobals "_law_due" = some (some (.ref fDu)))
    (lDu : K.lookup fDu = some ⟨ocDu, odDu, .func (PySem.W.fnOf "_law_due" "_law_due" (defArgs sDue) (defBody sDue) (defScope sDue) .none kVDu dcDu pmDu anDu cdDu ctDu), slDu⟩)
    (cDud : PySem.W.codeIn K cdDu "_law_due" = true)
    (kDu : PySem.W.keepIn K (.ref fDu) = true)
    (aR : PySem.W.nsIn K mainGlobals "_law_form_right" = some (some (.ref fR)))
    (lR : K.lookup fR = some ⟨ocR, odR, .func (PySem.W.fnOf "_law_form_right" "_law_form_right" (defArgs sRight) (defBody sRight) (defScope sRight) .none kVR dcR pmR anR (.ref cR) ctR), slR⟩)
    (cRd : PySem.W.codeIn K (.ref cR) "_law_form_right" = true)
    (kR : PySem.W.keepIn K (.ref fR) = true)
    (aH : PySem.W.nsIn K mainGlobals "_law_hand_right" = some (some (.ref fH)))
    (lH : K.lookup fH = some ⟨ocH, odH, .func (PySem.W.fnOf "_law_hand_right" "_law_hand_right" (defArgs sHand) (defBody sHand) (defScope sHand) .none kVH dcH pmH anH (.ref cH) ctH), slH⟩)
    (cHd : PySem.W.codeIn K (.ref cH) "_law_hand_right" = true)
    (kH : PySem.W.keepIn K (.ref fH) = true)
    (aL : PySem.W.nsIn K mainGlobals "law" = some (some (.ref fL)))
    (lL : K.lookup fL = some ⟨ocL, odL, .func (PySem.W.fnOf "law" "law" (defArgs sLaw) (defBody sLaw) (defScope sLaw) .none kVL dcL pmL anL cdL ctL), slL⟩)
    (cLd : PySem.W.codeIn K cdL "law" = true)
    (kL : PySem.W.keepIn K (.ref fL) = true)
    (aCF : PySem.W.nsIn K mainGlobals "Form" = some (some (.ref CF)))
    (iF : PySem.W.findIn K (.ref CF) "__init__" = some (some (.ref fI)))
    (lI : K.lookup fI = some ⟨ocI, odI, .func (PySem.W.fnOf "__init__" "Form.__init__" (defArgs sFormInit) (defBody sFormInit) (defScope sFormInit) .none kVI dcI pmI anI cdI ctI), slI⟩)
    (cId : PySem.W.codeIn K cdI "Form.__init__" = true)
    (kI : PySem.W.keepIn K (.ref fI) = true)
    (rd : PySem.W.readsIn K CF mc = true)
    (rga : PySem.W.specialIn K (.ref CF) "__getattribute__" = some (some (.builtin "type.__getattribute__")))
    (oat : PySem.W.findCls K (.ref CF) mc "of" = some (.get (.builtin "classmethod.__get__") (.ref pO) .none (.ref CF)))
    (orc : PySem.W.recIn K pO "classmethod" = some (.ref fO :: orest))
    (ofi : PySem.W.fnIn K fO = true)
    (lO : K.lookup fO = some ⟨ocO, odO, .func (PySem.W.fnOf "of" "Form.of" (defArgs sFormOf) (defBody sFormOf) (defScope sFormOf) .none kVO dcO pmO anO cdO ctO), slO⟩)
    (cOd : PySem.W.codeIn K cdO "Form.of" = true)
    (kO : PySem.W.keepIn K (.ref fO) = true)
    (mxv : PySem.W.findCls K (.ref CF) mc "MAX_SLOTS" = some (.val (.int 5 t5)))
    (fpg : PySem.W.plainGet K CF Str.empty = true)
    (fhd : PySem.W.hasDictIn K CF = true)
    (fpo : PySem.W.plainOver K CF = true)
    (fsa : PySem.W.findIn K (.ref CF) "__setattr__" = some (some (.builtin "object.__setattr__")))
    (nN : PySem.W.findIn K (.ref CF) "name" = some none)
    (nK : PySem.W.findIn K (.ref CF) "kin" = some none)
    (nS : PySem.W.findIn K (.ref CF) "slots" = some none)
    (fmk : PySem.W.makesIn K CF = true)
    (ffn : PySem.W.isFn K (.ref fI) = true)
    (fkp : PySem.W.keepIn K (.ref CF) = true)
    (fmo : PySem.W.mroIn K CF (.type "object") = some true)
    (feq : PySem.W.findIn K (.ref CF) "__eq__" = some (some (.builtin "object.__eq__")))
    (fne : PySem.W.findIn K (.ref CF) "__ne__" = some (some (.builtin "object.__ne__")))
    (aCI : PySem.W.nsIn K mainGlobals "InvalidForm" = some (some (.ref CI)))
    (aCS : PySem.W.nsIn K mainGlobals "RuleengineError" = some (some (.ref CS)))
    (xL : K.lookup CI = some (excClassObj nm q CI NN bs bm true sn sub ab col dd m0 m1 m2 m3 m5 "ValueError.__new__"))
    (rv : HandSPX.refsVE bm = true)
    (esa : PySem.W.findIn K (.ref CI) "__setattr__" = some (some (.builtin "object.__setattr__")))
    (eex : PySem.W.subIn K (.ref CI) (.type "BaseException") = some true)
    (ety : PySem.W.typeIn K (.ref CI) = some (.type "type"))
    (ekp : PySem.W.keepIn K (.ref CI) = true)
    (efi : PySem.W.findIn K (.ref CI) "__init__" = some (some (.ref fE)))
    (eti : PySem.W.typeIn K (.ref fE) = some (.type "function"))
    (lE : K.lookup fE = some ⟨ocE, odE, .func (PySem.W.ksFn "__init__" "InvalidForm.__init__" (defArgs sErrInit) (defBody sErrInit) (defScope sErrInit) .none kVE dcE pmE anE (.ref cda) ctE cc), slE⟩)
    (ecd : PySem.W.codeIn K (.ref cda) "InvalidForm.__init__" = true)
    (xc : K.lookup cda = some ⟨ccl, cdd, .fields cvs, ccs⟩)
    (v2 : cvs[2]? = some (.str file tf))
    (pf : ((P.main.file : Str) == file) = true)
    (xcc : K.lookup cc = some ⟨cl, cld, .cell (some (.ref CI)), csl⟩)
    (emr : PySem.W.mroIn K CI (.ref CI) = some true)
    (eal : PySem.W.alongIn K "__init__" bm = some (some (.builtin "ValueError.__init__")))
    (sup : PySem.W.nsIn K mainGlobals "super" = some none)
    (opq : PySem.W.nsIn K cStatics "thirdparty.any" = some none)
    (eve : PySem.W.subIn K (.ref CI) (.type "ValueError") = some true)
    (eei : PySem.W.excInitIn K CI [.type "ValueError", .type "Exception", .type "BaseException", .type "object"] "ValueError.__new__" = true)
    (enf : PySem.W.findIn K (.ref CI) "part" = some none)
    (etop : (P.main.scope.names.lookup ("super" : Str)).isSome = false)
    (ega : PySem.W.findIn K (.ref CI) "__getattribute__" = some (some (.builtin "BaseException.__getattribute__")))
    (egg : PySem.W.findIn K (.ref CI) "__getattr__" = some none)
    (ehd : PySem.W.hasDictIn K CI = true)
    (eca : PySem.W.findIn K (.ref CI) "__class__" = some (some (.builtin "object.__class__")))
    (ecg : PySem.W.specialIn K (.builtin "object.__class__") "__get__" = some (some (.builtin "getset_descriptor.__get__")))
    (etk : PySem.W.takesIn K (.builtin "object.__class__") = some true)
    (emo : PySem.W.mroIn K CI (.type "object") = some true)
    (exm : PySem.W.exmOne K (.ref CI) (.ref CS) = some true)
    (zI : PySem.W.nsIn K mainGlobals "isinstance" = some none)
    (zS : PySem.W.nsIn K mainGlobals "str" = some none)
    (zL : PySem.W.nsIn K mainGlobals "len" = some none)
    (zA : PySem.W.nsIn K mainGlobals "all" = some none)
    (zT : PySem.W.nsIn K mainGlobals "tuple" = some none)
    (zR : PySem.W.nsIn K mainGlobals "range" = some none)
    (zE : PySem.W.nsIn K mainGlobals "enumerate" = some none)
    (yMx : PySem.W.nsIn K mainGlobals "MAX_NAME" = some (some (.int 20 tMx)))
    (yLt : PySem.W.nsIn K mainGlobals "LETTERS" = some (some (.str LET tLt)))
    (ySg : PySem.W.nsIn K mainGlobals "NAME_SIGNS" = some (some (.str SIG tSg)))
    (yTx : PySem.W.nsIn K mainGlobals "TEXT" = some (some (.str "text" tTx)))
    (yRw : PySem.W.nsIn K mainGlobals "ROW_SIGN" = some (some (.str "*" tRw)))
    (tR : PySem.W.codeHdIn K cR pR = true)
    (tH : PySem.W.codeHdIn K cH pH = true)
    (nTR : K.lookup pR = none)
    (nTH : K.lookup pH = none)
    (npp : pR ≠ pH) :
    LawAtS l w K CX0 11 63 "_law_script" mg fa h := by
  have e := hfa.symm.trans (PySem.W.mg_of X G aL)
  cases e
  subst eP
  have FN := fun_mk (st := sName) lN cNd kN
  have bN := FN.binds (ps := ["value"]) fun _ _ _ _ _ _ us hl => match us, hl with | [_], _ => rfl
  have gN := PySem.W.mg_of X G aN
  have FS := fun_mk (st := sSort) lS cSd kS
  have bS := FS.binds (ps := ["value"]) fun _ _ _ _ _ _ us hl => match us, hl with | [_], _ => rfl
  have gS := PySem.W.mg_of X G aS
  have FT := fun_mk (st := sTaken) lT cTd kT
  have bT := FT.binds (ps := ["value"]) fun _ _ _ _ _ _ us hl => match us, hl with | [_], _ => rfl
  have gT := PySem.W.mg_of X G aT
  have FX := fun_mk (st := sSortTaken) lX cXd kX
  have bX := FX.binds (ps := ["takes"]) fun _ _ _ _ _ _ us hl => match us, hl with | [_], _ => rfl
  have gX := PySem.W.mg_of X G aX
  have FC := fun_mk (st := sChecked) lC cCd kC
  have bC := FC.binds (ps := ["slots"]) fun _ _ _ _ _ _ us hl => match us, hl with | [_], _ => rfl
  have gC := PySem.W.mg_of X G aC
  have FM := fun_mk (st := sMixed) lM cMd kM
  have bM := FM.binds (ps := ["_law_cell", "_law_n"]) fun _ _ _ _ _ _ us hl => match us, hl with | [_, _], _ => rfl
  have gM := PySem.W.mg_of X G aM
  have FFo := fun_mk (st := sFolded) lFo cFod kFo
  have bFo := FFo.binds (ps := ["_law_script"]) fun _ _ _ _ _ _ us hl => match us, hl with | [_], _ => rfl
  have gFo := PySem.W.mg_of X G aFo
  have FDr := fun_mk (st := sDraw) lDr cDrd kDr
  have bDr := FDr.binds (ps := ["_law_m", "_law_top"]) fun _ _ _ _ _ _ us hl => match us, hl with | [_, _], _ => rfl
  have gDr := PySem.W.mg_of X G aDr
  have FB := fun_mk (st := sBegun) lB cBd kB
  have bB := FB.binds (ps := ["_law_script"]) fun _ _ _ _ _ _ us hl => match us, hl with | [_], _ => rfl
  have gB := PySem.W.mg_of X G aB
  have FA := fun_mk (st := sFault) lA cAd kA
  have bA := FA.binds (ps := ["_law_call"]) fun _ _ _ _ _ _ us hl => match us, hl with | [_], _ => rfl
  have gA := PySem.W.mg_of X G aA
  have FLn := fun_mk (st := sLName) lLn cLnd kLn
  have bLn := FLn.binds (ps := ["_law_thing"]) fun _ _ _ _ _ _ us hl => match us, hl with | [_], _ => rfl
  have gLn := PySem.W.mg_of X G aLn
  have FLt := fun_mk (st := sLTaken) lLt cLtd kLt
  have bLt := FLt.binds (ps := ["_law_thing"]) fun _ _ _ _ _ _ us hl => match us, hl with | [_], _ => rfl
  have gLt := PySem.W.mg_of X G aLt
  have FD2 := fun_mk (st := sDoubled) lD2 cD2d kD2
  have bD2 := FD2.binds (ps := ["_law_kind_of"]) fun _ _ _ _ _ _ us hl => match us, hl with | [_], _ => rfl
  have gD2 := PySem.W.mg_of X G aD2
  have FDu := fun_mk (st := sDue) lDu cDud kDu
  have bDu := FDu.binds (ps := ["_law_word", "_law_take", "_law_row"]) fun _ _ _ _ _ _ us hl => match us, hl with | [_, _, _], _ => rfl
  have gDu := PySem.W.mg_of X G aDu
  have FR : FunC K "_law_form_right" "_law_form_right" sRight fR _ cR := ⟨⟨_, _, _, _, _, _, _, _, rfl, lR, cRd⟩, kR⟩
  have FR0 := fun_mk (st := sRight) lR cRd kR
  have bR := FR0.binds (ps := ["_law_word", "_law_take", "_law_row"]) fun _ _ _ _ _ _ us hl => match us, hl with | [_, _, _], _ => rfl
  have gR := PySem.W.mg_of X G aR
  have FH : FunC K "_law_hand_right" "_law_hand_right" sHand fH _ cH := ⟨⟨_, _, _, _, _, _, _, _, rfl, lH, cHd⟩, kH⟩
  have FH0 := fun_mk (st := sHand) lH cHd kH
  have bH := FH0.binds (ps := []) fun _ _ _ _ _ _ us hl => match us, hl with | [], _ => rfl
  have gH := PySem.W.mg_of X G aH
  have FL := fun_mk (st := sLaw) lL cLd kL
  have bL := FL.binds (ps := ["_law_script"]) fun _ _ _ _ _ _ us hl => match us, hl with | [_], _ => rfl
  have gL := PySem.W.mg_of X G aL
  have none_of : ∀ {x : Str}, PySem.W.nsIn K mainGlobals x = some none → mg x = none := fun {x} z => PySem.W.mg_none_of X G z
  have TN : TxtN mg := ⟨none_of zI, none_of zS, none_of zL, none_of zA, ⟨_, PySem.W.mg_of X G yMx⟩, ⟨_, PySem.W.mg_of X G yLt⟩, ⟨_, PySem.W.mg_of X G ySg⟩, ⟨_, PySem.W.mg_of X G yTx⟩, ⟨_, PySem.W.mg_of X G yRw⟩⟩
  have hcl : PySem.W.clsIn K CI = some { name := nm, bases := bs, mro := .ref CI :: bm, ns := NN, qualname := q, hasDict := true, slotNames := sn, subclasses := sub, abstract := ab, collection := col, hasDel := false } := by
    unfold PySem.W.clsIn
    rw [xL]
  have EC : ErrC l.prog K mg CI fE cda cc "part" "InvalidForm.__init__" sErrInit :=
    { ox := ⟨⟨nm, q, NN, bs, bm, sn, sub, ab, col, dd, m0, m1, m2, m3, m5, xL, rv⟩, esa, eex, ety, ekp⟩, fi := efi, ti := eti, fn := ⟨_, _, _, _, _, _, _, _, lE⟩, cd := ecd, cod := ⟨_, _, _, _, _, _, xc, v2, pf⟩, cel := ⟨_, _, _, xcc⟩, mr := emr,
      al := fun cd hc => by
        rw [hcl] at hc
        cases hc
        have e0 : (Value.ref CI :: bm).dropWhile (fun x => x != Value.ref CI) = Value.ref CI :: bm := by
          rw [List.dropWhile_cons, if_neg (by simp)]
        show PySem.W.alongIn K "__init__" (((Value.ref CI :: bm).dropWhile (fun x => x != Value.ref CI)).drop 1) = _
        rw [e0]
        exact eal
      sup := sup, opq := opq, ve := eve, ei := eei, nf := enf, top := etop }
  have ER : ErrF l.prog K mg CI := ⟨⟨_, _, _, EC⟩, PySem.W.mg_of X G aCI⟩
  have CRd : ClX.CRead K CF mc := ⟨rd, rga⟩
  have FI : Fun K "__init__" "Form.__init__" sFormInit fI _ := fun_mk (st := sFormInit) lI cId kI
  have FO : Fun K "of" "Form.of" sFormOf fO _ := fun_mk (st := sFormOf) lO cOd kO
  have bO := FO.binds (ps := ["cls", "name", "sort", "slots"]) fun _ _ _ _ _ _ us hl => match us, hl with | [_, _, _, _], _ => rfl
  have TF := TxtF.mk (P := l.prog) (K := K) (mg := mg) (CI := CI) (CF := CF) TN ER gN kN bN gT kT bT (none_of zT) (PySem.W.mg_of X G aCF) ⟨mc, t5, CRd, ⟨mxv, ⟨_, rfl⟩⟩⟩
  have TC := TxtC.mk TF gS kS bS gC kC bC ⟨fpg, fhd, fpo, fsa⟩ nN nK nS ⟨fmk, iF, ffn, fkp⟩
  have EL : ExcL K CI := ⟨by rw [hcl]; rfl, ega, egg, eex, ehd, eca, ecg, etk, emo⟩
  have TA : TxtA K mg CI CS fA _ := ⟨FA, bA, gA, PySem.W.mg_of X G aCS, PySem.W.mg_of X G aCI, none_of zI, EL, enf, exm, by unfold PySem.W.kitOne; rw [if_pos (by simp)]⟩
  have TR := TxtR.mk TC TA FI FO bO mk_kO ⟨mc, CRd, oat, ⟨_, orc⟩, ofi⟩ ⟨fmo, feq, fne⟩ (none_of zT)
  have hR1 := PySem.W.codeHd_of_K X tR
  have hH1 := PySem.W.codeHd_of_K X tH
  refine ⟨PySem.W.fnOf "law" "law" (defArgs sLaw) (defBody sLaw) (defScope sLaw) .none kVL dcL pmL anL cdL ctL, [(cR, pR), (cH, pH)], spLaw K [(pR, qR), (pH, qH)], fun p hp => ?_, fun p hp => ?_, fun p hp => ?_, fun s v => .of_eq rfl, fun H a ns hl _ hT hS => ⟨a, ns, rfl, hS, hl, fun p hp => ?_, fun H' => rfl⟩, fun base X0 G0 hTB => ?_⟩
  · rcases List.mem_cons.mp hp with z | z
    · rw [z]; exact hR2
    · rw [List.mem_singleton.mp z]; exact hH2
  · rcases List.mem_cons.mp hp with z | z
    · rw [z]; exact nTR
    · rw [List.mem_singleton.mp z]; exact nTH
  · rcases List.mem_cons.mp hp with z | z
    · rw [z]; exact hR1
    · rw [List.mem_singleton.mp z]; exact hH1
  · rcases List.mem_cons.mp hp with z | z
    · rw [z]; exact TabS.nil (hT (cR, pR) (List.mem_cons_self ..))
    · rw [List.mem_singleton.mp z]; exact TabS.nil (hT (cH, pH) (List.mem_cons_of_mem _ (List.mem_cons_self ..)))
  · have TBR := hTB (cR, pR) (List.mem_cons_self ..)
    have TBH := hTB (cH, pH) (List.mem_cons_of_mem _ (List.mem_cons_self ..))
    have GN := ok_name (P := l.prog) (w := w) (base := base) FN TN
    have GS := ok_sort (P := l.prog) (w := w) (base := base) FS TN FN bN gN
    have GT := ok_taken (P := l.prog) (w := w) (base := base) FT TN FN bN gN FS bS gS FX bX gX
    have GC := ok_checked (P := l.prog) (w := w) (base := base) FC TF GN GT
    have GO := ok_of (P := l.prog) (w := w) (base := base) FO FI TC GN GS GC
    have GDu := ok_due (P := l.prog) (w := w) (base := base) FDu TN FLn bLn gLn FLt bLt gLt
    have GDr := ok_draw (P := l.prog) (w := w) (base := base) FDr FM bM gM (none_of zL)
    have GB := ok_begun (P := l.prog) (w := w) (base := base) FB FFo bFo gFo (none_of zR) (none_of zE)
    have GD2 := ok_doubled (P := l.prog) (w := w) (base := base) FD2 (none_of zR)
    have GR := ok_right (P := l.prog) (w := w) (base := base) (T := [(pR, qR), (pH, qH)]) FR TR TBR (List.mem_cons_self ..) (fun p hp e => by
      rcases List.mem_cons.mp hp with z | z
      · rw [z]
      · rw [List.mem_singleton.mp z] at e
        exact absurd e.symm npp) GO GDu gDu kDu bDu
    have GH := ok_hand (P := l.prog) (w := w) (base := base) (T := [(pR, qR), (pH, qH)]) FH TR mk_kw TBH (List.mem_cons_of_mem _ (List.mem_cons_self ..)) (fun p hp e => by
      rcases List.mem_cons.mp hp with z | z
      · rw [z] at e
        exact absurd e npp
      · rw [List.mem_singleton.mp z]) GN GS GC
    exact ok_law FL ⟨gB, kB, bB⟩ ⟨gD2, kD2, bD2⟩ ⟨gR, kR, bR⟩ ⟨gH, kH, bH⟩ ⟨gDr, kDr, bDr⟩ (none_of zR) (none_of zS) GB GD2 GR GH GDr
end K1

open PySem PySem.W PyProof.Rows
set_option maxRecDepth 100000 in
set_option maxHeartbeats 0 in
theorem PySem.Challenge.cw_ruleengine_k01_forms_checked_holds : PySem.Challenge.rw_ruleengine_k01_forms_checked.Holds := by
  w_on; o_law; k_head; (case hw => w_witness2)
  k_fill
  refine LamX.walk_ofTs (l := PySem.Challenge.rw_ruleengine_k01_forms_checked) (n := 63) (k := 11) (x := "_law_script") (CX := fun _ => L2.CX0) rfl (by decide) rfl ⟨rfl, by decide, by decide⟩ (fun w h Y => PySem.W.km_in_of Y) ?F (fun _ _ _ _ _ z => z)
  case F =>
    intro w mg fa h Y KX G hmg
    have t1 : h.get? 171 = some (tabObj #[]) := PySem.W.km_tabs_of Y 171 (by decide)
    have t2 : h.get? 176 = some (tabObj #[]) := PySem.W.km_tabs_of Y 176 (by decide)
    refine' K1.all_mk (P := PySem.Challenge.pw_ruleengine_k01_forms_checked) (pR := 171) (pH := 176) (mc := .type "type") rfl KX G t1 t2 hmg ?aN ?lN ?cNd ?kN ?aS ?lS ?cSd ?kS ?aT ?lT ?cTd ?kT ?aX ?lX ?cXd ?kX ?aC ?lC ?cCd ?kC ?aM ?lM ?cMd ?kM ?aFo ?lFo ?cFod ?kFo ?aDr ?lDr ?cDrd ?kDr ?aB ?lB ?cBd ?kB ?aA ?lA ?cAd ?kA ?aLn ?lLn ?cLnd ?kLn ?aLt ?lLt ?cLtd ?kLt ?aD2 ?lD2 ?cD2d ?kD2 ?aDu ?lDu ?cDud ?kDu ?aR ?lR ?cRd ?kR ?aH ?lH ?cHd ?kH ?aL ?lL ?cLd ?kL ?aCF ?iF ?lI ?cId ?kI ?rd ?rga ?oat ?orc ?ofi ?lO ?cOd ?kO ?mxv ?fpg ?fhd ?fpo ?fsa ?nN ?nK ?nS ?fmk ?ffn ?fkp ?fmo ?feq ?fne ?aCI ?aCS ?xL ?rv ?esa ?eex ?ety ?ekp ?efi ?eti ?lE ?ecd ?xc ?v2 ?pf ?xcc ?emr ?eal ?sup ?opq ?eve ?eei ?enf ?etop ?ega ?egg ?ehd ?eca ?ecg ?etk ?emo ?exm ?zI ?zS ?zL ?zA ?zT ?zR ?zE ?yMx ?yLt ?ySg ?yTx ?yRw ?tR ?tH ?nTR ?nTH ?npp
    (case aN => k_is)
    (case lN => k_is)
    (case cNd => k_is)
    (case kN => k_is)
    (case aS => k_is)
    (case lS => k_is)
    (case cSd => k_is)
    (case kS => k_is)
    (case aT => k_is)
    (case lT => k_is)
    (case cTd => k_is)
    (case kT => k_is)
    (case aX => k_is)
    (case lX => k_is)
    (case cXd => k_is)
    (case kX => k_is)
    (case aC => k_is)
    (case lC => k_is)
    (case cCd => k_is)
    (case kC => k_is)
    (case aM => k_is)
    (case lM => k_is)
    (case cMd => k_is)
    (case kM => k_is)
    (case aFo => k_is)
    (case lFo => k_is)
    (case cFod => k_is)
    (case kFo => k_is)
    (case aDr => k_is)
    (case lDr => k_is)
    (case cDrd => k_is)
    (case kDr => k_is)
    (case aB => k_is)
    (case lB => k_is)
    (case cBd => k_is)
    (case kB => k_is)
    (case aA => k_is)
    (case lA => k_is)
    (case cAd => k_is)
    (case kA => k_is)
    (case aLn => k_is)
    (case lLn => k_is)
    (case cLnd => k_is)
    (case kLn => k_is)
    (case aLt => k_is)
    (case lLt => k_is)
    (case cLtd => k_is)
    (case kLt => k_is)
    (case aD2 => k_is)
    (case lD2 => k_is)
    (case cD2d => k_is)
    (case kD2 => k_is)
    (case aDu => k_is)
    (case lDu => k_is)
    (case cDud => k_is)
    (case kDu => k_is)
    (case aR => k_is)
    (case lR => k_is)
    (case cRd => k_is)
    (case kR => k_is)
    (case aH => k_is)
    (case lH => k_is)
    (case cHd => k_is)
    (case kH => k_is)
    (case aL => k_is)
    (case lL => k_is)
    (case cLd => k_is)
    (case kL => k_is)
    (case aCF => k_is)
    (case iF => k_is)
    (case lI => k_is)
    (case cId => k_is)
    (case kI => k_is)
    (case rd => k_is)
    (case rga => k_is)
    (case oat => k_is)
    (case orc => k_is)
    (case ofi => k_is)
    (case lO => k_is)
    (case cOd => k_is)
    (case kO => k_is)
    (case mxv => k_is)
    (case fpg => k_is)
    (case fhd => k_is)
    (case fpo => k_is)
    (case fsa => k_is)
    (case nN => k_is)
    (case nK => k_is)
    (case nS => k_is)
    (case fmk => k_is)
    (case ffn => k_is)
    (case fkp => k_is)
    (case fmo => k_is)
    (case feq => k_is)
    (case fne => k_is)
    (case aCI => k_is)
    (case aCS => k_is)
    (case xL => k_is)
    (case rv => decide +kernel)
    (case esa => k_is)
    (case eex => k_is)
    (case ety => k_is)
    (case ekp => k_is)
    (case efi => k_is)
    (case eti => k_is)
    (case lE => k_is)
    (case ecd => k_is)
    (case xc => k_is)
    (case v2 => rfl)
    (case pf => decide +kernel)
    (case xcc => k_is)
    (case emr => k_is)
    (case eal => first | kernel_rfl | rfl)
    (case sup => k_is)
    (case opq => k_is)
    (case eve => k_is)
    (case eei => first | kernel_rfl | rfl)
    (case enf => k_is)
    (case etop => decide +kernel)
    (case ega => k_is)
    (case egg => k_is)
    (case ehd => k_is)
    (case eca => k_is)
    (case ecg => k_is)
    (case etk => k_is)
    (case emo => k_is)
    (case exm => first | kernel_rfl | rfl)
    (case zI => k_is)
    (case zS => k_is)
    (case zL => k_is)
    (case zA => k_is)
    (case zT => k_is)
    (case zR => k_is)
    (case zE => k_is)
    (case yMx => k_is)
    (case yLt => k_is)
    (case ySg => k_is)
    (case yTx => k_is)
    (case yRw => k_is)
    (case tR => first | kernel_rfl | rfl)
    (case tH => first | kernel_rfl | rfl)
    (case nTR => rfl)
    (case nTH => rfl)
    (case npp => decide +kernel)
